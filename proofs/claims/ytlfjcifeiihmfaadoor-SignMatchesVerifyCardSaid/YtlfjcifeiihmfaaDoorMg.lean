/-
  Walks: the bytes of a number.
-/
import Derived.Test.YtlfjcifeiihmfaaDoorFd
import Derived.Laws.MakeOwn
namespace Go.Proofs.YtlfjcifeiihmfaaDoor
open Go.RowKit

theorem run_make0 (n : Nat) (h : n ≤ 65536) (w : World) : (Instr.makeSlice 22 (.int .i64 0) (.int .i64 (n : Int))).run Tryd.prog w = .ok (.slice (some ⟨w.heap.size, 0, none⟩) 0 n) (w.alloc (.cells (madeCells #[.int .u8 0] n) 5)) := by
  obtain ⟨i0, hi, hz0, hz1, hz2⟩ := info_parts Tryd.info5
  have hr := run_make (P := Tryd.prog) w 22 5 i0 (.int .u8 0) Tryd.underlying22 hi hz0 .i64 .i64 0 n (by omega) (by omega) (by rw [hz2]; omega) (by omega)
  simpa [hz1, Value.cells] using hr

/-- Byte i of eight, the most significant first. -/
def nbyte (n : Int) (i : Nat) : Int := n / 2 ^ (56 - 8 * i) % 256
/-- The eight bytes of a number. -/
def nb (n : Int) : List Int := (List.range 8).map (nbyte n)
theorem nbyte_range (n : Int) (i : Nat) : 0 ≤ nbyte n i ∧ nbyte n i ≤ 255 := by unfold nbyte; omega
theorem nb_length (n : Int) : (nb n).length = 8 := by simp [nb]
theorem nb_range (n : Int) : ∀ u ∈ nb n, 0 ≤ u ∧ u ≤ 255 := by
  intro u hu
  obtain ⟨i, _, rfl⟩ := List.mem_map.1 hu
  exact nbyte_range n i

theorem pds_nil (w : World) : PdS w (.slice none 0 0) [] w := ⟨⟨rfl, Or.inl ⟨rfl, rfl⟩⟩, Below.refl _ _⟩

set_option maxHeartbeats 1000000 in
theorem bytesOf_any (n : Int) (w : World) (n0 : 0 ≤ n) (n1 : n < 18446744073709551616) :
    Calls Tryd.prog 33 #[.int .u64 n] w fun e w' => ∃ u, e = .returned u ∧ PdS w u (nb n) w' := by
  have hmk : (Instr.makeSlice 22 (.int .i64 0) (.int .i64 8)).run Tryd.prog w = _ := run_make0 8 (by decide) w
  have hP0 : PdS w (.slice (some ⟨w.heap.size, 0, none⟩) 0 8) ([] : List Int) (w.alloc (.cells (madeCells #[.int .u8 0] 8) 5)) := ⟨World.ownsRow_made w _ 8 (Nat.le_refl _) (by unfold maxLen; omega) (by rw [size_madeCells, Nat.mul_one]), ball (Below.refl _ _) _⟩
  have HP0 := Lib.hid hP0; clear hP0
  go_enter Tryd.func33, Tryd.ntmps33
  go_wp2
  go_loopw [3, 6] (fun x i wr => ∃ j : Nat, j ≤ 8 ∧ i = .int .i64 (j) ∧ Hid (PdS w x ((List.range j).map (nbyte n)) wr)) (fun _ i _ => 8 - (intOf i).toNat)
  case atStart => exact ⟨0, by omega, rfl, HP0⟩
  case round =>
    obtain ⟨j, hj, rfl, H⟩ := hrel
    obtain ⟨ya, yc, rfl⟩ := H.out.len
    by_cases hlt8 : j < 8
    · obtain ⟨v', w', hr, hP⟩ := append_one w wr _ _ (nbyte n j) (nbyte_range _ _) H.out (by simp; omega)
      rw [← List.map_singleton, ← List.map_append, ← List.range_succ] at hP
      generalize ((List.range j).map (nbyte n)).length = m at hr H ⊢
      unfold nbyte at hr
      have R := Lib.hid hr; have HP := Lib.hid hP; clear hr hP
      have e1 : (8 : Int) * (7 - (j : Int)) = ((56 - 8 * j : Nat) : Int) := by omega
      go_wp2_with (at_builtin; refine wp_app rfl rfl rfl (.tmp 9) (.tmp 16) rfl rfl rfl R.out ?_)
      go_roundw
      case rel => exact ⟨j + 1, by omega, by go_num, HP⟩
      case measure => simp [intOf]; omega
    · have hj' : j = 8 := by omega
      subst hj'
      go_wp2
      go_ret
      exact ⟨_, rfl, H.out⟩



set_option maxHeartbeats 1000000 in
theorem rbytes_any (n : Int) (w : World) (n0 : 0 ≤ n) (n1 : n < 18446744073709551616) :
    Calls Tryd.prog 36 #[.int .u64 n] w fun e w' => ∃ u, e = .returned u ∧ PdS w u (nb n) w' := by
  have hn0 : PdS w (.slice none 0 0) ((List.range 0).map (nbyte n)) w := pds_nil w
  have nilP := Lib.hid hn0; clear hn0
  go_enter Tryd.func36, Tryd.ntmps36
  go_wp2
  go_loopw [3, 4] (fun x i wr => ∃ j : Nat, j ≤ 8 ∧ i = .int .i64 (56 - 8 * (j : Int)) ∧ Hid (PdS w x ((List.range j).map (nbyte n)) wr)) (fun _ i _ => (intOf i + 8).toNat)
  case atStart => exact ⟨0, by omega, rfl, nilP⟩
  case round =>
    obtain ⟨j, hj, rfl, H⟩ := hrel
    obtain ⟨ya, yc, rfl⟩ := H.out.len
    by_cases hlt8 : j < 8
    · obtain ⟨v', w', hr, hP⟩ := append_one w wr _ _ (nbyte n j) (nbyte_range _ _) H.out (by simp; omega)
      rw [← List.map_singleton, ← List.map_append, ← List.range_succ] at hP
      generalize ((List.range j).map (nbyte n)).length = m at hr H ⊢
      unfold nbyte at hr
      have R := Lib.hid hr; have HP := Lib.hid hP; clear hr hP
      have e1 : (56 : Int) - 8 * (j : Int) = ((56 - 8 * j : Nat) : Int) := by omega
      go_wp2_with (at_builtin; refine wp_app rfl rfl rfl (.tmp 9) (.tmp 14) rfl rfl rfl R.out ?_)
      go_roundw
      case rel => exact ⟨j + 1, by omega, by go_num, HP⟩
      case measure => simp [intOf]; omega
    · have hj' : j = 8 := by omega
      subst hj'
      go_wp2
      go_ret
      exact ⟨_, rfl, H.out⟩



set_option maxHeartbeats 1000000 in
theorem packed_any (n : Int) (w : World) (n0 : 0 ≤ n) (n1 : n < 18446744073709551616) :
    Calls Tryd.prog 26 #[.int .u64 n] w fun e w' => ∃ u, e = .returned u ∧ PdS w u (nb n) w' := by
  have hn0 : PdS w (.slice none 0 0) ((List.range 0).map (nbyte n)) w := pds_nil w
  have nilP := Lib.hid hn0; clear hn0
  go_enter Tryd.func26, Tryd.ntmps26
  go_wp2
  go_loopw [3, 4] (fun x i wr => ∃ j : Nat, j ≤ 8 ∧ i = .int .i64 (j) ∧ Hid (PdS w x ((List.range j).map (nbyte n)) wr)) (fun _ i _ => 8 - (intOf i).toNat)
  case atStart => exact ⟨0, by omega, rfl, nilP⟩
  case round =>
    obtain ⟨j, hj, rfl, H⟩ := hrel
    obtain ⟨ya, yc, rfl⟩ := H.out.len
    by_cases hlt8 : j < 8
    · obtain ⟨v', w', hr, hP⟩ := append_one w wr _ _ (nbyte n j) (nbyte_range _ _) H.out (by simp; omega)
      rw [← List.map_singleton, ← List.map_append, ← List.range_succ] at hP
      generalize ((List.range j).map (nbyte n)).length = m at hr H ⊢
      unfold nbyte at hr
      have R := Lib.hid hr; have HP := Lib.hid hP; clear hr hP
      have e1 : (56 : Int) - 8 * (j : Int) = ((56 - 8 * j : Nat) : Int) := by omega
      go_wp2_with (at_builtin; refine wp_app rfl rfl rfl (.tmp 9) (.tmp 16) rfl rfl rfl R.out ?_)
      go_roundw
      case rel => exact ⟨j + 1, by omega, by go_num, HP⟩
      case measure => simp [intOf]; omega
    · have hj' : j = 8 := by omega
      subst hj'
      go_wp2
      go_ret
      exact ⟨_, rfl, H.out⟩

end Go.Proofs.YtlfjcifeiihmfaaDoor
