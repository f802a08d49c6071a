/-
  Walks of the library: Grow from nothing, Concat; the program's join.
-/
import Derived.Test.YthmpeeipbclhkaaDoorJa
import Derived.Lib.AppendZeros
namespace Go.Proofs.YthmpeeipbclhkaaDoor
open Go.RowKit

set_option maxHeartbeats 400000 in
theorem grow_any (n : Nat) (w : World) (h : n ≤ 140737488355328) :
    Calls Tryd.prog 55 #[.slice none 0 0, .int .i64 (n : Int)] w fun e w' => ∃ v, e = .returned v ∧ Below w.heap.size w w' ∧ w'.ownsRow w.heap.size 5 1 v 0 [] := by
  by_cases h0 : n = 0
  · subst h0
    go_enter Tryd.func55, Tryd.ntmps55
    go_wp2
    go_ret
    exact ⟨_, rfl, Below.refl _ _, World.ownsRow_nil _ _ _ _⟩
  · obtain ⟨i0, hi, hz0, hz1, hz2⟩ := info_parts Tryd.info5
    have hr := Lib.run_append_nil_zeros (P := Tryd.prog) w 48 3 48 5 i0 (.int .u8 0) .i64 .i64 Tryd.underlying48 Tryd.underlying3 hi hz0 n (by omega) (by omega) (by omega) (by rw [hz2]; omega)
    have hge := grownCap_ge w n 0 5
    have hle := grownCap_le_maxLen w n 0 5 (by unfold maxLen; omega)
    generalize grownCap w n 0 5 = c at *
    go_enter Tryd.func55, Tryd.ntmps55
    go_wp2_with (at_builtin; refine Lib.wpList_append_run _ rfl _ _ _ _ rfl _ _ rfl rfl _ _ hr ?_)
    go_ret
    refine ⟨_, rfl, (ball (Below.refl _ _) _).drew, ownsDrew (World.ownsRow_made w _ c (Nat.le_refl _) hle ?_)⟩
    simp only [Array.size_append, size_zeroCells]
    simp
    omega

/-- v holds the parts ps. -/
def Parts (w : World) (v : Value) (ps : List (List Int)) : Prop :=
  ∃ g cap, v = .slice (some ⟨g, 0, none⟩) ps.length cap ∧ ps.length ≤ cap ∧ ps.length ≤ 1000 ∧ g < w.heap.size ∧ ∀ (j : Nat) (p : List Int), ps[j]? = some p → ∃ u, w.cell? ⟨g, j, none⟩ = some u ∧ Bs (fun k => k < w.heap.size) w u p

def total (ps : List (List Int)) : Nat := ps.flatten.length
theorem flatten_take (ps : List (List Int)) (k : Nat) (h : k < ps.length) : (ps.take (k + 1)).flatten = (ps.take k).flatten ++ ps[k] := by
  rw [List.take_succ_eq_append_getElem h, List.flatten_append]
  simp only [List.flatten_cons, List.flatten_nil, List.append_nil]
theorem total_take (ps : List (List Int)) (k : Nat) (h : k < ps.length) : total (ps.take (k + 1)) = total (ps.take k) + ps[k].length := by
  unfold total
  rw [flatten_take ps k h, List.length_append]
theorem total_le (ps : List (List Int)) (k : Nat) : total (ps.take k) ≤ total ps := by
  have := congrArg List.length (List.flatten_append (L₁ := ps.take k) (L₂ := ps.drop k))
  rw [List.take_append_drop, List.length_append] at this
  unfold total
  omega

theorem Bs.up2 {w w' : World} {u : Value} {b : List Int} (h : Bs (fun k => k < w.heap.size) w u b) (hw : ∀ k, k < w.heap.size → w'.heap[k]? = w.heap[k]?) (hs : w.heap.size ≤ w'.heap.size) : Bs (fun k => k < w'.heap.size) w' u b :=
  Bs.kept h hw (fun _ hk => Nat.lt_of_lt_of_le hk hs)

set_option maxHeartbeats 1000000 in
theorem concat_any (ps : List (List Int)) (v : Value) (w : World) (hp : Parts w v ps) (ht : total ps ≤ 140737488355328) :
    Calls Tryd.prog 41 #[v] w fun e w' => ∃ u, e = .returned u ∧ Below w.heap.size w w' ∧ w'.ownsRow w.heap.size 5 1 u ps.flatten.length (byteVals ps.flatten) := by
  obtain ⟨g, cap, rfl, hcap, hn, hg, hcell⟩ := hp
  have HC := Lib.hid hcell; clear hcell
  go_enter Tryd.func41, Tryd.ntmps41
  go_wp2
  go_loop [3, 11] (fun t i => ∃ k : Nat, k ≤ ps.length ∧ i = .int .i64 k ∧ t = .int .i64 (total (ps.take k))) (fun _ i => ps.length - (intOf i).toNat)
  case atStart => exact ⟨0, by omega, rfl, rfl⟩
  case round =>
    obtain ⟨k, hk, rfl, rfl⟩ := hrel
    by_cases hlt : k < ps.length
    · obtain ⟨u, hu, hb⟩ := HC.out k ps[k] (List.getElem?_eq_getElem hlt)
      obtain ⟨hbl, _, a, c, rfl, hc1, _⟩ := hb
      have e1 := total_take ps k hlt
      have e2 := total_le ps (k + 1)
      have hrel : Value.int .i64 ((total (ps.take k) : Int) + (ps[k].length : Int)) = .int .i64 (total (ps.take (k + 1)) : Int) := by rw [e1]; simp
      have Hrel := Lib.hid hrel; clear hrel
      generalize ps[k].length = m at *
      generalize total (ps.take k) = t0 at *
      generalize ht1 : total (ps.take (k + 1)) = t1 at *
      have e4 : ¬ ((t0 : Int) + (m : Int) < 0) := by omega
      have e5 : (t0 : Int) + (m : Int) ≤ 140737488355328 := by omega
      go_wp2
      go_round
      case rel => exact ⟨k + 1, by omega, by go_num, by rw [ht1]; exact Hrel.out⟩
      case measure => simp [intOf]; omega
    · have hk' : k = ps.length := by omega
      subst hk'
      rw [List.take_length]
      have hcall := fun w' => grow_any (total ps) w' ht
      have Hg := Lib.hid hcall; clear hcall
      go_wp2_with (go_at_call 55; refine (Hg.out _).mono ?_; rintro e w1 ⟨v1, rfl, hb1, hown1⟩; have Hb1 := Lib.hid hb1; clear hb1; have Ho1 := Lib.hid hown1; clear hown1)
      go_loopw [6, 27] (fun u i wr => ∃ k : Nat, k ≤ ps.length ∧ i = .int .i64 k ∧ Hid (Apd w.heap.size w1 v1 wr u (ps.take k).flatten)) (fun _ i _ => ps.length - (intOf i).toNat)
      case atStart => exact ⟨0, by omega, rfl, Apd.start (by simpa [byteVals] using Ho1.out)⟩
      case round =>
        obtain ⟨k, hk, rfl, HA⟩ := hrel
        have hwr : ∀ j, j < w.heap.size → wr.heap[j]? = w.heap[j]? := by
          intro j hj
          have hown := Ho1.out
          refine (HA.out.grown.block j (Nat.lt_of_lt_of_le hj Hb1.out.size) ?_).trans (Hb1.out.block j hj)
          intro e
          have := hown.lt j e.symm
          omega
        have hsz : w.heap.size ≤ wr.heap.size := Nat.le_trans Hb1.out.size HA.out.grown.size
        have Hwr := Lib.hid hwr; clear hwr
        by_cases hlt : k < ps.length
        · obtain ⟨u, hu, hb⟩ := HC.out k ps[k] (List.getElem?_eq_getElem hlt)
          have hu2 : wr.cell? ⟨g, k, none⟩ = some u := (World.cell?_of_block (w := w) (a := ⟨g, k, none⟩) (Hwr.out g hg)).trans hu
          have hb2 := hb.up2 Hwr.out hsz
          have hln : (ps.take k).flatten.length + ps[k].length ≤ 140737488355328 := by
            have e1 := total_take ps k hlt
            have e2 := total_le ps (k + 1)
            unfold total at e1 e2 ht
            omega
          obtain ⟨u', w2, hr, hA2⟩ := append_run _ w.heap.size wr _ u _ ps[k] 48 HA.out.own hb2 hln hsz
          have HR := Lib.hid hr; have HA2 := Lib.hid (HA.out.trans hA2)
          rw [← flatten_take ps k hlt] at HA2
          clear hb hb2 hr hA2 hu HA
          go_wp2_with (at_builtin; refine wp_app rfl rfl rfl (.tmp 31) (.tmp 32) rfl rfl rfl HR.out ?_)
          go_roundw
          case rel => exact ⟨k + 1, by omega, by go_num, HA2⟩
          case measure => simp [intOf]; omega
        · have hk' : k = ps.length := by omega
          subst hk'
          rw [List.take_length] at HA
          go_wp2
          go_ret
          exact ⟨_, rfl, ⟨HA.out.grown.os.trans Hb1.out.os, HA.out.grown.tape.trans Hb1.out.tape, HA.out.grown.output.trans Hb1.out.output, hsz, Hwr.out⟩, HA.out.own⟩

set_option maxHeartbeats 400000 in
theorem join_any (ps : List (List Int)) (v : Value) (w : World) (hp : Parts w v ps) (ht : total ps ≤ 140737488355328) :
    Calls Tryd.prog 49 #[v] w fun e w' => ∃ u, e = .returned u ∧ Below w.heap.size w w' ∧ w'.ownsRow w.heap.size 5 1 u ps.flatten.length (byteVals ps.flatten) := by
  have h := concat_any ps v w hp ht
  have H := Lib.hid h; clear h hp
  go_enter Tryd.func49, Tryd.ntmps49
  go_wp2_with (go_at_call 41; refine H.out.mono ?_; rintro e w1 ⟨u, rfl, hb, ho⟩; have Hb := Lib.hid hb; clear hb; have Ho := Lib.hid ho; clear ho)
  go_ret
  exact ⟨_, rfl, Hb.out, Ho.out⟩

end Go.Proofs.YthmpeeipbclhkaaDoor
