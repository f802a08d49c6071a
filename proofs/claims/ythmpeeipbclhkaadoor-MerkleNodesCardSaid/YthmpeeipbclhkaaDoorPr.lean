/-
  Walk: the reference's Pair (two digests joined, byte by byte).
-/
import Derived.Test.YthmpeeipbclhkaaDoorFd
import Derived.Test.YthmpeeipbclhkaaDoorGa
namespace Go.Proofs.YthmpeeipbclhkaaDoor
set_option linter.unusedSimpArgs false
set_option linter.unusedVariables false
open Go.RowKit

theorem PdS.bs {w : World} {v : Value} {l : List Int} {wr : World} (h : PdS w v l wr) (hl : l.length ≤ 140737488355328) (hr : ∀ u ∈ l, 0 ≤ u ∧ u ≤ 255) : Bs (fun k => w.heap.size ≤ k ∧ k < wr.heap.size) wr v l :=
  (Bs.ofOwn h.1 hl hr).kept (fun _ _ => rfl) (fun k hk => ⟨hk.1, hk.2.1⟩)

set_option maxRecDepth 100000 in
set_option maxHeartbeats 2000000 in
theorem pair_any (a b : List Int) (w : World) (ha : Dg a) (hb : Dg b) :
    Calls Tryd.prog 33 #[.agg (byteVals a).toArray, .agg (byteVals b).toArray] w fun e w' => ∃ u, e = .returned u ∧ Below w.heap.size w w' ∧ Bs (fun k => k < w'.heap.size) w' u (a ++ b) := by
  have hal := ha.1; have hbl := hb.1
  have hrA : RowB ((w.alloc (.cells (byteVals a).toArray 26)).alloc (.cells (byteVals b).toArray 26)) w.heap.size 26 a := (RowB.new w 26 a).kept (heap_alloc_old _ _ (by simp))
  have hrB : RowB ((w.alloc (.cells (byteVals a).toArray 26)).alloc (.cells (byteVals b).toArray 26)) (w.heap.size + 1) 26 b := RowB.new' _ (by simp) rfl
  have hbW : Below w.heap.size w ((w.alloc (.cells (byteVals a).toArray 26)).alloc (.cells (byteVals b).toArray 26)) := (ball (Below.refl _ _) _).alloc (by simp) _
  have hsW : ((w.alloc (.cells (byteVals a).toArray 26)).alloc (.cells (byteVals b).toArray 26)).heap.size = w.heap.size + 1 + 1 := by simp
  have HA := Lib.hid hrA; have HB := Lib.hid hrB; have HW := Lib.hid hbW; have HDA := Lib.hid ha; have HDB := Lib.hid hb
  clear hrA hrB hbW ha hb
  go_enter Tryd.func33, Tryd.ntmps33
  go_wp2_with fail
  generalize ((w.alloc (.cells (byteVals a).toArray 26)).alloc (.cells (byteVals b).toArray 26)) = W at *
  have hP0 : Hid (PdS W (.slice (some ⟨W.heap.size, 0, none⟩) 0 0) ([] : List Int) (W.alloc (.cells #[] 5))) := Lib.hid ⟨World.ownsRow_made W #[] 0 (Nat.le_refl _) (by unfold maxLen; omega) (by simp), ball (Below.refl _ _) _⟩
  go_loopw [5, 6] (fun x i wr => ∃ k : Nat, k ≤ 32 ∧ i = .int .i64 k ∧ Hid (PdS W x (a.take k) wr)) (fun _ i _ => 32 - (intOf i).toNat)
  case atStart => exact ⟨0, by omega, rfl, by rw [← hsW]; exact hP0⟩
  case round =>
    obtain ⟨k, hk, rfl, H⟩ := hrel
    obtain ⟨xa, xc, rfl⟩ := H.out.len
    by_cases hlt : k < 32
    · have hx : a[k]? = some (a[k]'(by omega)) := List.getElem?_eq_getElem (by omega)
      have hr := HDA.out.2 _ (List.getElem_mem (l := a) (n := k) (by omega))
      generalize (a[k]'(by omega)) = x at hx hr
      have hc : wr.cell? ⟨w.heap.size, k, none⟩ = some (.int .u8 x) := (World.cell?_of_block (w := W) (H.out.2.block _ (by show w.heap.size < _; omega))).trans (HA.out.cell hx)
      obtain ⟨v', w', hr2, hP⟩ := append_one W wr _ _ x hr H.out (by rw [List.length_take]; omega)
      have htk : a.take k ++ [x] = a.take (k + 1) := by rw [List.take_add_one, hx]; rfl
      rw [htk] at hP
      have hlt2 : (k : Int) < 32 := by omega
      generalize (a.take k).length = m at hr2 H ⊢
      have R := Lib.hid hr2; have HP := Lib.hid hP
      clear hr2 hP hx htk hr
      go_wp2_with (at_builtin; refine wp_app rfl rfl rfl (.tmp 13) (.tmp 17) rfl rfl rfl R.out ?_)
      go_roundw
      case rel => exact ⟨k + 1, by omega, by go_num, HP⟩
      case measure => simp [intOf]; omega
    · have hk2 : k = 32 := by omega
      subst hk2
      have hT : a.take 32 = a := List.take_of_length_le (by omega)
      rw [hT] at H
      rw [hT]
      clear hlt hP0
      go_wp2
      rw [show ((32 : Nat) : Int) = 32 from rfl]
      go_loopw [5, 7] (fun x i wr => ∃ k : Nat, k ≤ 32 ∧ i = .int .i64 k ∧ Hid (PdS W x (a ++ b.take k) wr)) (fun _ i _ => 32 - (intOf i).toNat)
      case atStart => exact ⟨0, by omega, rfl, by rw [List.take_zero, List.append_nil]; exact H⟩
      case round =>
        clear H
        obtain ⟨k, hk, rfl, H⟩ := hrel
        obtain ⟨ya, yc, rfl⟩ := H.out.len
        by_cases hlt : k < 32
        · have hx : b[k]? = some (b[k]'(by omega)) := List.getElem?_eq_getElem (by omega)
          have hr := HDB.out.2 _ (List.getElem_mem (l := b) (n := k) (by omega))
          generalize (b[k]'(by omega)) = x at hx hr
          have hc : wr.cell? ⟨w.heap.size + 1, k, none⟩ = some (.int .u8 x) := (World.cell?_of_block (w := W) (H.out.2.block _ (by show w.heap.size + 1 < _; omega))).trans (HB.out.cell hx)
          obtain ⟨v', w', hr2, hP⟩ := append_one W wr _ _ x hr H.out (by rw [List.length_append, List.length_take]; omega)
          have htk : a ++ b.take k ++ [x] = a ++ b.take (k + 1) := by rw [List.take_add_one, hx, List.append_assoc]; rfl
          rw [htk] at hP
          have hlt2 : (k : Int) < 32 := by omega
          generalize (a ++ b.take k).length = m at hr2 H ⊢
          have R := Lib.hid hr2; have HP := Lib.hid hP
          clear hr2 hP hx htk hr
          go_wp2_with (at_builtin; refine wp_app rfl rfl rfl (.tmp 23) (.tmp 27) rfl rfl rfl R.out ?_)
          go_roundw
          case rel => exact ⟨k + 1, by omega, by go_num, HP⟩
          case measure => simp [intOf]; omega
        · have hk2 : k = 32 := by omega
          subst hk2
          have hT : b.take 32 = b := List.take_of_length_le (by omega)
          rw [hT] at H
          rw [hT]
          go_wp2
          go_ret
          exact ⟨_, rfl, HW.out.trans (H.out.2.mono (by omega)), (H.out.bs (by rw [List.length_append]; omega) (by
            intro u hu
            rcases List.mem_append.1 hu with h | h
            · exact HDA.out.2 u h
            · exact HDB.out.2 u h)).kept (fun _ _ => rfl) (fun k hk => hk.2)⟩
end Go.Proofs.YthmpeeipbclhkaaDoor
