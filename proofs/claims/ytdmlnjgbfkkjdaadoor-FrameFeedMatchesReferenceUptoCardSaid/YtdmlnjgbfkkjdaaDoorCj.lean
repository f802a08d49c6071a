/-
  Walks of the reference: next.
-/
import Derived.Test.YtdmlnjgbfkkjdaaDoorCf
import Derived.Test.YtdmlnjgbfkkjdaaDoorCg
import Derived.Test.YtdmlnjgbfkkjdaaDoorCi
namespace Go.Proofs.YtdmlnjgbfkkjdaaDoor
open Go.RowKit
set_option linter.unusedVariables false
set_option linter.unusedSimpArgs false

/-- What next answers. -/
def NextOf (base : Nat) (w : World) (vr : Value) (s' : St) (e : Ending) (w' : World) : Prop :=
  ∃ vr', e = .returned (.agg #[vr', .bool s'.inn, .bool s'.esc, .bool s'.bad]) ∧ (Apd base w vr w' vr' s'.rest ∨ (s'.rest = [] ∧ vr' = .slice none 0 0 ∧ Below w.heap.size w w'))
theorem Apd.same {base : Nat} {w w' : World} {vr : Value} {l : List Int} (h : w.ownsRow base 5 1 vr l.length (byteVals l)) (hb : Below w.heap.size w w') : Apd base w vr w' vr l :=
  ⟨own_kept h fun g hg => hb.block g (own_lt h hg).2, ⟨hb.os, hb.tape, hb.output, hb.size, fun k hk _ => hb.block k hk⟩, Or.inl rfl⟩
theorem nx_box {base : Nat} {w W wa : World} {v v2 : Value} {l r : List Int} {B : Nat} {o : Obj} (h : w.ownsRow base 5 1 v l.length (byteVals l)) (ha : Apd base W v wa v2 r) (hb : W.heap[B]? = some o) (hB : w.heap.size ≤ B) : wa.heap[B]? = some o :=
  (ha.grown.block B (blt hb) (fun e => by have := (own_lt h e.symm).2; omega)).trans hb
theorem Apd.box {base : Nat} {w wa w' : World} {v v2 : Value} {r : List Int} (h : Apd base w v wa v2 r) (hb : Below w.heap.size wa w') (hk : ∀ g, v2.ownBlock = some g → w'.heap[g]? = wa.heap[g]?) : Apd base w v w' v2 r :=
  ⟨own_kept h.own hk, ⟨hb.os.trans h.grown.os, hb.tape.trans h.grown.tape, hb.output.trans h.grown.output, Nat.le_trans h.grown.size hb.size, fun k hk hne => (hb.block k hk).trans (h.grown.block k hk hne)⟩, h.blk⟩
theorem own_new {base : Nat} {w W wa : World} {v v2 : Value} {l r : List Int} (ho : w.ownsRow base 5 1 v l.length (byteVals l)) (ha : Apd base W v wa v2 r) {g : Nat} (hg : v2.ownBlock = some g) : g < w.heap.size ∨ W.heap.size ≤ g := by
  rcases ha.blk with e | ⟨g', e, h⟩
  · rw [e] at hg; exact Or.inl (own_lt ho hg).2
  · rw [e] at hg; cases hg; exact Or.inr h
theorem b2 (w : World) (o o' : Obj) : Below w.heap.size w ((w.alloc o).alloc o') := ball (ball (Below.refl _ _) _) _

set_option maxRecDepth 100000 in
set_option maxHeartbeats 4000000 in
theorem next_any (s : St) (c : Int) (a : Option Addr) (n cp base : Nat) (w : World) (hc0 : 0 ≤ c ∧ c ≤ 255) (hc : c ≠ 126) (hn : n = s.rest.length) (hnl : n ≤ 140737488355328) (hbase : base ≤ w.heap.size)
    (hown : w.ownsRow base 5 1 (.slice a n cp) s.rest.length (byteVals s.rest)) :
    Calls Tryd.prog 28 #[.agg #[.slice a n cp, .bool s.inn, .bool s.esc, .bool s.bad], .int .u8 c] w (NextOf base w (.slice a n cp) (fs s c)) := by
  have HO := Lib.hid hown
  have HN := Lib.hid hn
  have HC := Lib.hid hc
  clear hown hn hc
  by_cases hst : s.inn = false ∨ s.bad = true
  · have hfs : fs s c = s := by unfold fs; rw [if_neg HC.out, if_pos hst]
    rw [hfs]
    clear hfs
    obtain ⟨r, i, x, y⟩ := s
    simp only at hst HO HN ⊢
    by_cases h1 : i = false
    · subst h1
      clear hst
      go_enter Tryd.func28, Tryd.ntmps28
      go_wp2
      refine bodyPost_ret (v := .agg #[.slice a n cp, .bool false, .bool x, .bool y]) (by simp [results, Tryd.results28, go_sem]) rfl ?_
      exact ⟨_, rfl, Or.inl (Apd.same HO.out (b2 w _ _))⟩
    · obtain rfl : i = true := by simpa using h1
      obtain rfl : y = true := by simpa using hst
      clear hst h1
      go_enter Tryd.func28, Tryd.ntmps28
      go_wp2
      refine bodyPost_ret (v := .agg #[.slice a n cp, .bool true, .bool x, .bool true]) (by simp [results, Tryd.results28, go_sem]) rfl ?_
      exact ⟨_, rfl, Or.inl (Apd.same HO.out (b2 w _ _))⟩
  · simp only [not_or, Bool.not_eq_false, Bool.not_eq_true] at hst
    obtain ⟨r, i, x, y⟩ := s
    simp only at hst HO HN
    obtain ⟨rfl, rfl⟩ := hst
    by_cases hce : c = 125 ∧ x = false
    · obtain ⟨rfl, rfl⟩ := hce
      have hfs : fs ⟨r, true, false, false⟩ 125 = ⟨r, true, true, false⟩ := by simp [fs]
      rw [hfs]
      clear hfs
      go_enter Tryd.func28, Tryd.ntmps28
      go_wp2
      refine bodyPost_ret (v := .agg #[.slice a n cp, .bool true, .bool true, .bool false]) (by simp [results, Tryd.results28, go_sem]) rfl ?_
      exact ⟨_, rfl, Or.inl (Apd.same HO.out (b2 w _ _))⟩
    · by_cases hN8 : 8196 ≤ n
      · have hfs : fs ⟨r, true, x, false⟩ c = ⟨[], true, false, true⟩ := by
          unfold fs
          rw [if_neg HC.out, if_neg (by simp), if_neg hce, if_pos (by rw [← HN.out]; exact hN8)]
        rw [hfs]
        have hN8' : (8196 : Int) ≤ (n : Int) := by omega
        clear hfs hN8
        cases x
        · have h5 : (c == 125) = false := by simpa using hce
          clear hce
          go_enter Tryd.func28, Tryd.ntmps28
          go_wp2
          refine bodyPost_ret (v := .agg #[.slice none 0 0, .bool true, .bool false, .bool true]) (by simp [results, Tryd.results28, go_sem]) rfl ?_
          exact ⟨_, rfl, Or.inr ⟨rfl, rfl, b2 w _ _⟩⟩
        · clear hce
          by_cases hc5 : c = 125
          · subst hc5
            go_enter Tryd.func28, Tryd.ntmps28
            go_wp2
            refine bodyPost_ret (v := .agg #[.slice none 0 0, .bool true, .bool false, .bool true]) (by simp [results, Tryd.results28, go_sem]) rfl ?_
            exact ⟨_, rfl, Or.inr ⟨rfl, rfl, b2 w _ _⟩⟩
          · have h5 : (c == 125) = false := by simpa using hc5
            clear hc5
            go_enter Tryd.func28, Tryd.ntmps28
            go_wp2
            refine bodyPost_ret (v := .agg #[.slice none 0 0, .bool true, .bool false, .bool true]) (by simp [results, Tryd.results28, go_sem]) rfl ?_
            exact ⟨_, rfl, Or.inr ⟨rfl, rfl, b2 w _ _⟩⟩
      · have hfs : fs ⟨r, true, x, false⟩ c = ⟨r ++ [if x then x32 c else c], true, false, false⟩ := by
          unfold fs
          rw [if_neg HC.out, if_neg (by simp), if_neg hce, if_neg (by rw [← HN.out]; exact hN8)]
        rw [hfs]
        have hN8' : ¬ (8196 : Int) ≤ (n : Int) := by omega
        have hN9 : n < 8196 := by omega
        clear hfs hN8
        cases x
        · have h5 : (c == 125) = false := by simpa using hce
          clear hce
          have HNS := Lib.hid (show r.length < 8196 by have := HN.out; omega)
          have HB0 := Lib.hid (b2 w (.cells #[.slice a n cp, .bool true, .bool false, .bool false] 31) (.cells #[.slice none 0 0, .bool false, .bool false, .bool false] 31))
          obtain ⟨W, hW⟩ : ∃ W, W = (w.alloc (.cells #[.slice a n cp, .bool true, .bool false, .bool false] 31)).alloc (.cells #[.slice none 0 0, .bool false, .bool false, .bool false] 31) := ⟨_, rfl⟩
          have h1 : W.heap[w.heap.size]? = some (.cells #[.slice a n cp, .bool true, .bool false, .bool false] 31 (0, 0)) := by rw [hW]; exact bold (bnew _ _)
          have h2 : W.heap[w.heap.size + 1]? = some (.cells #[.slice none 0 0, .bool false, .bool false, .bool false] 31 (0, 0)) := by
            rw [hW]
            have := bnew (w.alloc (.cells #[.slice a n cp, .bool true, .bool false, .bool false] 31)) (.cells #[.slice none 0 0, .bool false, .bool false, .bool false] 31)
            simpa using this
          rw [← hW] at HB0
          have HAS := Lib.hid (Apd.same HO.out HB0.out)
          have HA0 := Lib.hid (Apd.start HAS.out.own)
          have HWS := Lib.hid (show W.heap.size = w.heap.size + 2 by rw [hW]; simp)
          have HW := Lib.hid hW
          have HR1 := Lib.hid h1; have HR2 := Lib.hid h2
          clear hW h1 h2
          go_enter Tryd.func28, Tryd.ntmps28
          go_upto_region 13 with (fail)
          rw [← HW.out]
          have hx1 := HR1.out; have hx2 := HR2.out
          have c10 : W.cell? ⟨w.heap.size, 0, none⟩ = some (.slice a n cp) := by rw [cell_of_row W _ 0 _ 31 (0, 0) hx1]; rfl
          clear hx1 hx2
          go_wp2_with (first | (at_builtin; refine wp_put rfl rfl (.tmp 35) (.tmp 37) rfl _ _ _ [c] _ _ _ HA0.out rfl rfl rfl rfl (by have := HNS.out; simp; omega) (Nat.le_trans hbase HB0.out.size) ?_; intro v2 wa hA2; obtain ⟨a2, c2, hv2⟩ := own_shape hA2.own; have hv3 : v2 = .slice a2 (r.length + 1) c2 := (by rw [hv2, List.length_append]; rfl); clear hv2; subst hv3; have HAP := Lib.hid hA2; have hy1 := nx_box HO.out hA2 HR1.out (Nat.le_refl _); have hy2 := nx_box HO.out hA2 HR2.out (by omega); clear c10; have d0 : wa.cell? ⟨w.heap.size, 0, none⟩ = some (.slice a n cp) := (by rw [cell_of_row wa _ 0 _ 31 (0, 0) hy1]; rfl); have d1 : wa.cell? ⟨w.heap.size, 1, none⟩ = some (.bool true) := (by rw [cell_of_row wa _ 1 _ 31 (0, 0) hy1]; rfl); have d2 : wa.cell? ⟨w.heap.size, 2, none⟩ = some (.bool false) := (by rw [cell_of_row wa _ 2 _ 31 (0, 0) hy1]; rfl); have d3 : wa.cell? ⟨w.heap.size, 3, none⟩ = some (.bool false) := (by rw [cell_of_row wa _ 3 _ 31 (0, 0) hy1]; rfl); have dz : ∀ j, wa.frozen? ⟨w.heap.size, j, none⟩ = false := (fun j => by simp [World.frozen?, hy1]); have HY3 := Lib.hid (show (wa.setCell ⟨w.heap.size, 0, none⟩ (.slice a2 (r.length + 1) c2)).heap[w.heap.size + 1]? = _ from (heap_setCell_other _ _ _ _ (by simp)).trans hy2); clear hA2 hy1 hy2) | (refine wpList_store_row rfl 31 (.tmp 4) (.tmp 40) rfl (w.heap.size + 1) #[.slice a2 (r.length + 1) c2, .bool true, .bool false, .bool false] rfl rfl 31 _ HY3.out size31 rfl all31' ?_))
          refine bodyPost_ret (results_cell_row rfl _ _ (w.heap.size + 1) 31 _ (0, 0) _ rfl (setRow_heap _ _ _ _ _ _ HY3.out) Tryd.underlying31 rfl size31) rfl ?_
          refine ⟨_, rfl, Or.inl ((HAS.out.trans HAP.out).box (bsetRow ((Below.refl _ _).setCell (by simp) _) (by omega) _) fun g hg => ?_)⟩
          have h1 := own_new HO.out HAP.out hg
          have h2 := HWS.out
          exact (setRow_other _ _ _ _ (by omega)).trans (heap_setCell_other _ _ _ _ (by simp; omega))
        · clear hce
          by_cases hc5 : c = 125
          · subst hc5
            have HNS := Lib.hid (show r.length < 8196 by have := HN.out; omega)
            have HB0 := Lib.hid (b2 w (.cells #[.slice a n cp, .bool true, .bool false, .bool false] 31) (.cells #[.slice none 0 0, .bool false, .bool false, .bool false] 31))
            obtain ⟨W, hW⟩ : ∃ W, W = (w.alloc (.cells #[.slice a n cp, .bool true, .bool false, .bool false] 31)).alloc (.cells #[.slice none 0 0, .bool false, .bool false, .bool false] 31) := ⟨_, rfl⟩
            have h1 : W.heap[w.heap.size]? = some (.cells #[.slice a n cp, .bool true, .bool false, .bool false] 31 (0, 0)) := by rw [hW]; exact bold (bnew _ _)
            have h2 : W.heap[w.heap.size + 1]? = some (.cells #[.slice none 0 0, .bool false, .bool false, .bool false] 31 (0, 0)) := by
              rw [hW]
              have := bnew (w.alloc (.cells #[.slice a n cp, .bool true, .bool false, .bool false] 31)) (.cells #[.slice none 0 0, .bool false, .bool false, .bool false] 31)
              simpa using this
            rw [← hW] at HB0
            have HAS := Lib.hid (Apd.same HO.out HB0.out)
            have HA0 := Lib.hid (Apd.start HAS.out.own)
            have HWS := Lib.hid (show W.heap.size = w.heap.size + 2 by rw [hW]; simp)
            have HW := Lib.hid hW
            have HR1 := Lib.hid h1; have HR2 := Lib.hid h2
            clear hW h1 h2
            go_enter Tryd.func28, Tryd.ntmps28
            go_upto_region 13 with (fail)
            rw [← HW.out]
            have hx1 := HR1.out; have hx2 := HR2.out
            have c10 : W.cell? ⟨w.heap.size, 0, none⟩ = some (.slice a n cp) := by rw [cell_of_row W _ 0 _ 31 (0, 0) hx1]; rfl
            clear hx1 hx2
            go_wp2_with (first | (at_builtin; refine wp_put rfl rfl (.tmp 35) (.tmp 37) rfl _ _ _ [x32 125] _ _ _ HA0.out rfl rfl rfl rfl (by have := HNS.out; simp; omega) (Nat.le_trans hbase HB0.out.size) ?_; intro v2 wa hA2; obtain ⟨a2, c2, hv2⟩ := own_shape hA2.own; have hv3 : v2 = .slice a2 (r.length + 1) c2 := (by rw [hv2, List.length_append]; rfl); clear hv2; subst hv3; have HAP := Lib.hid hA2; have hy1 := nx_box HO.out hA2 HR1.out (Nat.le_refl _); have hy2 := nx_box HO.out hA2 HR2.out (by omega); clear c10; have d0 : wa.cell? ⟨w.heap.size, 0, none⟩ = some (.slice a n cp) := (by rw [cell_of_row wa _ 0 _ 31 (0, 0) hy1]; rfl); have d1 : wa.cell? ⟨w.heap.size, 1, none⟩ = some (.bool true) := (by rw [cell_of_row wa _ 1 _ 31 (0, 0) hy1]; rfl); have d2 : wa.cell? ⟨w.heap.size, 2, none⟩ = some (.bool false) := (by rw [cell_of_row wa _ 2 _ 31 (0, 0) hy1]; rfl); have d3 : wa.cell? ⟨w.heap.size, 3, none⟩ = some (.bool false) := (by rw [cell_of_row wa _ 3 _ 31 (0, 0) hy1]; rfl); have dz : ∀ j, wa.frozen? ⟨w.heap.size, j, none⟩ = false := (fun j => by simp [World.frozen?, hy1]); have HY3 := Lib.hid (show (wa.setCell ⟨w.heap.size, 0, none⟩ (.slice a2 (r.length + 1) c2)).heap[w.heap.size + 1]? = _ from (heap_setCell_other _ _ _ _ (by simp)).trans hy2); clear hA2 hy1 hy2) | (refine wpList_store_row rfl 31 (.tmp 4) (.tmp 40) rfl (w.heap.size + 1) #[.slice a2 (r.length + 1) c2, .bool true, .bool false, .bool false] rfl rfl 31 _ HY3.out size31 rfl all31' ?_))
            refine bodyPost_ret (results_cell_row rfl _ _ (w.heap.size + 1) 31 _ (0, 0) _ rfl (setRow_heap _ _ _ _ _ _ HY3.out) Tryd.underlying31 rfl size31) rfl ?_
            refine ⟨_, rfl, Or.inl ((HAS.out.trans HAP.out).box (bsetRow ((Below.refl _ _).setCell (by simp) _) (by omega) _) fun g hg => ?_)⟩
            have h1 := own_new HO.out HAP.out hg
            have h2 := HWS.out
            exact (setRow_other _ _ _ _ (by omega)).trans (heap_setCell_other _ _ _ _ (by simp; omega))
          · have h5 : (c == 125) = false := by simpa using hc5
            clear hc5
            have HNS := Lib.hid (show r.length < 8196 by have := HN.out; omega)
            have HB0 := Lib.hid (b2 w (.cells #[.slice a n cp, .bool true, .bool false, .bool false] 31) (.cells #[.slice none 0 0, .bool false, .bool false, .bool false] 31))
            obtain ⟨W, hW⟩ : ∃ W, W = (w.alloc (.cells #[.slice a n cp, .bool true, .bool false, .bool false] 31)).alloc (.cells #[.slice none 0 0, .bool false, .bool false, .bool false] 31) := ⟨_, rfl⟩
            have h1 : W.heap[w.heap.size]? = some (.cells #[.slice a n cp, .bool true, .bool false, .bool false] 31 (0, 0)) := by rw [hW]; exact bold (bnew _ _)
            have h2 : W.heap[w.heap.size + 1]? = some (.cells #[.slice none 0 0, .bool false, .bool false, .bool false] 31 (0, 0)) := by
              rw [hW]
              have := bnew (w.alloc (.cells #[.slice a n cp, .bool true, .bool false, .bool false] 31)) (.cells #[.slice none 0 0, .bool false, .bool false, .bool false] 31)
              simpa using this
            rw [← hW] at HB0
            have HAS := Lib.hid (Apd.same HO.out HB0.out)
            have HA0 := Lib.hid (Apd.start HAS.out.own)
            have HWS := Lib.hid (show W.heap.size = w.heap.size + 2 by rw [hW]; simp)
            have HW := Lib.hid hW
            have HR1 := Lib.hid h1; have HR2 := Lib.hid h2
            clear hW h1 h2
            go_enter Tryd.func28, Tryd.ntmps28
            go_upto_region 13 with (fail)
            rw [← HW.out]
            have hx1 := HR1.out; have hx2 := HR2.out
            have c10 : W.cell? ⟨w.heap.size, 0, none⟩ = some (.slice a n cp) := by rw [cell_of_row W _ 0 _ 31 (0, 0) hx1]; rfl
            clear hx1 hx2
            go_wp2_with (first | (at_builtin; refine wp_put rfl rfl (.tmp 35) (.tmp 37) rfl _ _ _ [x32 c] _ _ _ HA0.out rfl rfl rfl rfl (by have := HNS.out; simp; omega) (Nat.le_trans hbase HB0.out.size) ?_; intro v2 wa hA2; obtain ⟨a2, c2, hv2⟩ := own_shape hA2.own; have hv3 : v2 = .slice a2 (r.length + 1) c2 := (by rw [hv2, List.length_append]; rfl); clear hv2; subst hv3; have HAP := Lib.hid hA2; have hy1 := nx_box HO.out hA2 HR1.out (Nat.le_refl _); have hy2 := nx_box HO.out hA2 HR2.out (by omega); clear c10; have d0 : wa.cell? ⟨w.heap.size, 0, none⟩ = some (.slice a n cp) := (by rw [cell_of_row wa _ 0 _ 31 (0, 0) hy1]; rfl); have d1 : wa.cell? ⟨w.heap.size, 1, none⟩ = some (.bool true) := (by rw [cell_of_row wa _ 1 _ 31 (0, 0) hy1]; rfl); have d2 : wa.cell? ⟨w.heap.size, 2, none⟩ = some (.bool false) := (by rw [cell_of_row wa _ 2 _ 31 (0, 0) hy1]; rfl); have d3 : wa.cell? ⟨w.heap.size, 3, none⟩ = some (.bool false) := (by rw [cell_of_row wa _ 3 _ 31 (0, 0) hy1]; rfl); have dz : ∀ j, wa.frozen? ⟨w.heap.size, j, none⟩ = false := (fun j => by simp [World.frozen?, hy1]); have HY3 := Lib.hid (show (wa.setCell ⟨w.heap.size, 0, none⟩ (.slice a2 (r.length + 1) c2)).heap[w.heap.size + 1]? = _ from (heap_setCell_other _ _ _ _ (by simp)).trans hy2); clear hA2 hy1 hy2) | (refine wpList_store_row rfl 31 (.tmp 4) (.tmp 40) rfl (w.heap.size + 1) #[.slice a2 (r.length + 1) c2, .bool true, .bool false, .bool false] rfl rfl 31 _ HY3.out size31 rfl all31' ?_))
            refine bodyPost_ret (results_cell_row rfl _ _ (w.heap.size + 1) 31 _ (0, 0) _ rfl (setRow_heap _ _ _ _ _ _ HY3.out) Tryd.underlying31 rfl size31) rfl ?_
            refine ⟨_, rfl, Or.inl ((HAS.out.trans HAP.out).box (bsetRow ((Below.refl _ _).setCell (by simp) _) (by omega) _) fun g hg => ?_)⟩
            have h1 := own_new HO.out HAP.out hg
            have h2 := HWS.out
            exact (setRow_other _ _ _ _ (by omega)).trans (heap_setCell_other _ _ _ _ (by simp; omega))
end Go.Proofs.YtdmlnjgbfkkjdaaDoor
