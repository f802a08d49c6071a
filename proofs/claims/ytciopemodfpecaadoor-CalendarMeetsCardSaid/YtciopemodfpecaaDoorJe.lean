/-
  The statement 'Rows.CalendarMeetsCardSaid': for all arguments the law returns true; the arguments read as they did. Condition: the table of the months' lengths lies as the program's text lays it.
-/
import Derived.Test.YtciopemodfpecaaDoorSn
import Derived.Test.YtciopemodfpecaaDoorKw
import Derived.Test.YtciopemodfpecaaDoorJc
import Derived.Test.YtciopemodfpecaaDoorJd
import Derived.ChangeMaps5
namespace Go.Proofs.YtciopemodfpecaaDoor.calendarMeets
open Go.ChangeShapes Go.WideShapes Go.ChangeAt Go.RowKit
set_option linter.unusedVariables false
set_option linter.unusedSimpArgs false

set_option maxRecDepth 100000 in
set_option maxHeartbeats 16000000 in
theorem walk (cs : Array Value) (op : List (Int × Int)) (hol : List Int) (cs' : Array Value) (op' : List (Int × Int)) (hol' : List Int) (f t : Int) (w : World) (hk : MOk w) (hc : Cal (fun k => k < w.heap.size) w cs op hol) (hc' : Cal (fun k => k < w.heap.size) w cs' op' hol') (hf : I64 f) (ht : I64 t) :
    Calls Tryd.prog 10 #[.agg cs, .agg cs', .int .i64 f, .int .i64 t] w fun e w' => e = .returned (.bool true) ∧ Below w.heap.size w w' := by
  have HK := Lib.hid (((Kw.nil hk).alsoC (Below.refl _ _) hc).alsoC (Below.refl _ _) hc')
  have HS := Lib.hid hc.size; have HL := Lib.hid hc.len; have HS' := Lib.hid hc'.size; have HL' := Lib.hid hc'.len
  have hbx : ((w.alloc (.cells cs 27)).alloc (.cells cs' 27)).heap[w.heap.size]? = some (.cells cs 27 (0, 0)) := (heap_alloc_old _ _ (by rw [World.size_alloc]; omega)).trans (heap_alloc_new w _)
  have hby : ((w.alloc (.cells cs 27)).alloc (.cells cs' 27)).heap[w.heap.size + 1]? = some (.cells cs' 27 (0, 0)) := by
    have := heap_alloc_new (w.alloc (.cells cs 27)) (.cells cs' 27)
    rw [World.size_alloc] at this
    exact this
  have HF := Lib.hid hf; have HT := Lib.hid ht
  obtain ⟨V, hV⟩ : ∃ V, V = fewB hol f t := ⟨_, rfl⟩
  obtain ⟨V', hV'⟩ : ∃ V, V = fewB hol' f t := ⟨_, rfl⟩
  obtain ⟨R, hR⟩ : ∃ R, R = chkC op hol := ⟨_, rfl⟩
  obtain ⟨R', hR'⟩ : ∃ R, R = chkC op' hol' := ⟨_, rfl⟩
  have HV := Lib.hid hV; have HV' := Lib.hid hV'; have HR := Lib.hid hR; have HR' := Lib.hid hR'
  have l_b : w.heap.size < ((w.alloc (.cells cs 27)).alloc (.cells cs' 27)).heap.size := by rw [World.size_alloc, World.size_alloc]; omega
  have l_c : w.heap.size + 1 < ((w.alloc (.cells cs 27)).alloc (.cells cs' 27)).heap.size := by rw [World.size_alloc, World.size_alloc]; omega
  clear hk hc hc' hf ht hV hV' hR hR'
  go_enter Tryd.func10, Tryd.ntmps10
  replace HK := Lib.hid ((HK.out.laid (.cells cs 27)).laid (.cells cs' 27))
  have HCC := Lib.hid (sane_true ((w.alloc (.cells cs 27)).alloc (.cells cs' 27)) HK.out.mok)
  go_wp2_with fail
  refine HCC.out.mono ?_
  rintro e w1 ⟨rfl, hb⟩
  replace hbx := (hb.block (w.heap.size) l_b).trans hbx
  replace hby := (hb.block (w.heap.size + 1) l_c).trans hby
  replace l_b := Nat.lt_of_lt_of_le l_b hb.size
  replace l_c := Nat.lt_of_lt_of_le l_c hb.size
  replace HK := Lib.hid (HK.out.call hb)
  clear hb HCC
  have HCC := Lib.hid (few_any cs op hol f t w1 (HK.out.getC cs op hol (by with_reducible (repeat (first | exact List.mem_cons_self | refine List.mem_cons_of_mem _ ?_)))) HF.out HT.out V HV.out)
  go_wp2_with (first | (refine wpList_load_row rfl 27 (.tmp 4) rfl w.heap.size rfl 27 cs (0, 0) _ hbx Tryd.underlying27 rfl (size27 HS.out) ?_) | (refine wpList_load_row rfl 27 (.tmp 5) rfl (w.heap.size + 1) rfl 27 cs' (0, 0) _ hby Tryd.underlying27 rfl (size27 HS'.out) ?_) | (refine wpList_load_row_g (by rfl) 27 (.tmp 4) rfl w.heap.size rfl 27 cs (0, 0) _ hbx Tryd.underlying27 rfl (size27 HS.out) ?_) | (refine wpList_load_row_g (by rfl) 27 (.tmp 5) rfl (w.heap.size + 1) rfl 27 cs' (0, 0) _ hby Tryd.underlying27 rfl (size27 HS'.out) ?_))
  refine HCC.out.mono ?_
  rintro e w2 ⟨rfl, hb⟩
  replace hbx := (hb.block (w.heap.size) l_b).trans hbx
  replace hby := (hb.block (w.heap.size + 1) l_c).trans hby
  replace l_b := Nat.lt_of_lt_of_le l_b hb.size
  replace l_c := Nat.lt_of_lt_of_le l_c hb.size
  replace HK := Lib.hid (HK.out.call hb)
  clear hb HCC
  by_cases cV : V = false
  · subst cV
    go_wp2_with (first | (refine wpList_load_row rfl 27 (.tmp 4) rfl w.heap.size rfl 27 cs (0, 0) _ hbx Tryd.underlying27 rfl (size27 HS.out) ?_) | (refine wpList_load_row rfl 27 (.tmp 5) rfl (w.heap.size + 1) rfl 27 cs' (0, 0) _ hby Tryd.underlying27 rfl (size27 HS'.out) ?_) | (refine wpList_load_row_g (by rfl) 27 (.tmp 4) rfl w.heap.size rfl 27 cs (0, 0) _ hbx Tryd.underlying27 rfl (size27 HS.out) ?_) | (refine wpList_load_row_g (by rfl) 27 (.tmp 5) rfl (w.heap.size + 1) rfl 27 cs' (0, 0) _ hby Tryd.underlying27 rfl (size27 HS'.out) ?_))
    go_ret
    exact ⟨rfl, HK.out.below⟩
  obtain rfl : V = true := by simpa using cV
  clear cV
  have HCC := Lib.hid (few_any cs' op' hol' f t w2 (HK.out.getC cs' op' hol' (by with_reducible (repeat (first | exact List.mem_cons_self | refine List.mem_cons_of_mem _ ?_)))) HF.out HT.out V' HV'.out)
  go_wp2_with (first | (refine wpList_load_row rfl 27 (.tmp 4) rfl w.heap.size rfl 27 cs (0, 0) _ hbx Tryd.underlying27 rfl (size27 HS.out) ?_) | (refine wpList_load_row rfl 27 (.tmp 5) rfl (w.heap.size + 1) rfl 27 cs' (0, 0) _ hby Tryd.underlying27 rfl (size27 HS'.out) ?_) | (refine wpList_load_row_g (by rfl) 27 (.tmp 4) rfl w.heap.size rfl 27 cs (0, 0) _ hbx Tryd.underlying27 rfl (size27 HS.out) ?_) | (refine wpList_load_row_g (by rfl) 27 (.tmp 5) rfl (w.heap.size + 1) rfl 27 cs' (0, 0) _ hby Tryd.underlying27 rfl (size27 HS'.out) ?_))
  refine HCC.out.mono ?_
  rintro e w3 ⟨rfl, hb⟩
  replace hbx := (hb.block (w.heap.size) l_b).trans hbx
  replace hby := (hb.block (w.heap.size + 1) l_c).trans hby
  replace l_b := Nat.lt_of_lt_of_le l_b hb.size
  replace l_c := Nat.lt_of_lt_of_le l_c hb.size
  replace HK := Lib.hid (HK.out.call hb)
  clear hb HCC
  by_cases cV : V' = false
  · subst cV
    go_wp2_with (first | (refine wpList_load_row rfl 27 (.tmp 4) rfl w.heap.size rfl 27 cs (0, 0) _ hbx Tryd.underlying27 rfl (size27 HS.out) ?_) | (refine wpList_load_row rfl 27 (.tmp 5) rfl (w.heap.size + 1) rfl 27 cs' (0, 0) _ hby Tryd.underlying27 rfl (size27 HS'.out) ?_) | (refine wpList_load_row_g (by rfl) 27 (.tmp 4) rfl w.heap.size rfl 27 cs (0, 0) _ hbx Tryd.underlying27 rfl (size27 HS.out) ?_) | (refine wpList_load_row_g (by rfl) 27 (.tmp 5) rfl (w.heap.size + 1) rfl 27 cs' (0, 0) _ hby Tryd.underlying27 rfl (size27 HS'.out) ?_))
    go_ret
    exact ⟨rfl, HK.out.below⟩
  obtain rfl : V' = true := by simpa using cV
  clear cV
  have HCC := Lib.hid (ccheck_any cs op hol w3 (HK.out.getC cs op hol (by with_reducible (repeat (first | exact List.mem_cons_self | refine List.mem_cons_of_mem _ ?_)))) R HR.out)
  go_wp2_with (first | (refine wpList_load_row rfl 27 (.tmp 4) rfl w.heap.size rfl 27 cs (0, 0) _ hbx Tryd.underlying27 rfl (size27 HS.out) ?_) | (refine wpList_load_row rfl 27 (.tmp 5) rfl (w.heap.size + 1) rfl 27 cs' (0, 0) _ hby Tryd.underlying27 rfl (size27 HS'.out) ?_) | (refine wpList_load_row_g (by rfl) 27 (.tmp 4) rfl w.heap.size rfl 27 cs (0, 0) _ hbx Tryd.underlying27 rfl (size27 HS.out) ?_) | (refine wpList_load_row_g (by rfl) 27 (.tmp 5) rfl (w.heap.size + 1) rfl 27 cs' (0, 0) _ hby Tryd.underlying27 rfl (size27 HS'.out) ?_))
  refine HCC.out.mono ?_
  rintro e w4 ⟨rfl, hb⟩
  replace hbx := (hb.block (w.heap.size) l_b).trans hbx
  replace hby := (hb.block (w.heap.size + 1) l_c).trans hby
  replace l_b := Nat.lt_of_lt_of_le l_b hb.size
  replace l_c := Nat.lt_of_lt_of_le l_c hb.size
  replace HK := Lib.hid (HK.out.call hb)
  clear hb HCC
  by_cases cR : R = 0
  rotate_left
  · have cR1 : (R != 0) = true := by simp [cR]
    have cR2 : (R == 0) = false := by simp [cR]
    clear cR
    go_wp2_with (first | (refine wpList_load_row rfl 27 (.tmp 4) rfl w.heap.size rfl 27 cs (0, 0) _ hbx Tryd.underlying27 rfl (size27 HS.out) ?_) | (refine wpList_load_row rfl 27 (.tmp 5) rfl (w.heap.size + 1) rfl 27 cs' (0, 0) _ hby Tryd.underlying27 rfl (size27 HS'.out) ?_) | (refine wpList_load_row_g (by rfl) 27 (.tmp 4) rfl w.heap.size rfl 27 cs (0, 0) _ hbx Tryd.underlying27 rfl (size27 HS.out) ?_) | (refine wpList_load_row_g (by rfl) 27 (.tmp 5) rfl (w.heap.size + 1) rfl 27 cs' (0, 0) _ hby Tryd.underlying27 rfl (size27 HS'.out) ?_))
    go_ret
    exact ⟨rfl, HK.out.below⟩
  subst cR
  have HCC := Lib.hid (ccheck_any cs' op' hol' w4 (HK.out.getC cs' op' hol' (by with_reducible (repeat (first | exact List.mem_cons_self | refine List.mem_cons_of_mem _ ?_)))) R' HR'.out)
  go_wp2_with (first | (refine wpList_load_row rfl 27 (.tmp 4) rfl w.heap.size rfl 27 cs (0, 0) _ hbx Tryd.underlying27 rfl (size27 HS.out) ?_) | (refine wpList_load_row rfl 27 (.tmp 5) rfl (w.heap.size + 1) rfl 27 cs' (0, 0) _ hby Tryd.underlying27 rfl (size27 HS'.out) ?_) | (refine wpList_load_row_g (by rfl) 27 (.tmp 4) rfl w.heap.size rfl 27 cs (0, 0) _ hbx Tryd.underlying27 rfl (size27 HS.out) ?_) | (refine wpList_load_row_g (by rfl) 27 (.tmp 5) rfl (w.heap.size + 1) rfl 27 cs' (0, 0) _ hby Tryd.underlying27 rfl (size27 HS'.out) ?_))
  refine HCC.out.mono ?_
  rintro e w5 ⟨rfl, hb⟩
  replace hbx := (hb.block (w.heap.size) l_b).trans hbx
  replace hby := (hb.block (w.heap.size + 1) l_c).trans hby
  replace l_b := Nat.lt_of_lt_of_le l_b hb.size
  replace l_c := Nat.lt_of_lt_of_le l_c hb.size
  replace HK := Lib.hid (HK.out.call hb)
  clear hb HCC
  by_cases cR : R' = 0
  rotate_left
  · have cR1 : (R' != 0) = true := by simp [cR]
    have cR2 : (R' == 0) = false := by simp [cR]
    clear cR
    go_wp2_with (first | (refine wpList_load_row rfl 27 (.tmp 4) rfl w.heap.size rfl 27 cs (0, 0) _ hbx Tryd.underlying27 rfl (size27 HS.out) ?_) | (refine wpList_load_row rfl 27 (.tmp 5) rfl (w.heap.size + 1) rfl 27 cs' (0, 0) _ hby Tryd.underlying27 rfl (size27 HS'.out) ?_) | (refine wpList_load_row_g (by rfl) 27 (.tmp 4) rfl w.heap.size rfl 27 cs (0, 0) _ hbx Tryd.underlying27 rfl (size27 HS.out) ?_) | (refine wpList_load_row_g (by rfl) 27 (.tmp 5) rfl (w.heap.size + 1) rfl 27 cs' (0, 0) _ hby Tryd.underlying27 rfl (size27 HS'.out) ?_))
    go_ret
    exact ⟨rfl, HK.out.below⟩
  subst cR
  obtain ⟨E, hE⟩ : ∃ E, E = eR op hol f t := ⟨_, rfl⟩
  obtain ⟨E', hE'⟩ : ∃ E, E = eR op' hol' f t := ⟨_, rfl⟩
  obtain ⟨L, hL⟩ : ∃ L, L = oV op hol f t := ⟨_, rfl⟩
  obtain ⟨L', hL'⟩ : ∃ L, L = oV op' hol' f t := ⟨_, rfl⟩
  have HE := Lib.hid hE; have HE' := Lib.hid hE'; have HLL := Lib.hid hL; have HLL' := Lib.hid hL'
  clear hE hE' hL hL'
  have HCC := Lib.hid (open_any cs op hol f t w5 (HK.out.getC cs op hol (by with_reducible (repeat (first | exact List.mem_cons_self | refine List.mem_cons_of_mem _ ?_)))) HF.out HT.out E L HE.out HLL.out)
  go_wp2_with (first | (refine wpList_load_row rfl 27 (.tmp 4) rfl w.heap.size rfl 27 cs (0, 0) _ hbx Tryd.underlying27 rfl (size27 HS.out) ?_) | (refine wpList_load_row rfl 27 (.tmp 5) rfl (w.heap.size + 1) rfl 27 cs' (0, 0) _ hby Tryd.underlying27 rfl (size27 HS'.out) ?_) | (refine wpList_load_row_g (by rfl) 27 (.tmp 4) rfl w.heap.size rfl 27 cs (0, 0) _ hbx Tryd.underlying27 rfl (size27 HS.out) ?_) | (refine wpList_load_row_g (by rfl) 27 (.tmp 5) rfl (w.heap.size + 1) rfl 27 cs' (0, 0) _ hby Tryd.underlying27 rfl (size27 HS'.out) ?_))
  refine HCC.out.mono ?_
  rintro e w6 ⟨v1, rfl, hb, hs⟩
  replace hbx := (hb.block (w.heap.size) l_b).trans hbx
  replace hby := (hb.block (w.heap.size + 1) l_c).trans hby
  replace l_b := Nat.lt_of_lt_of_le l_b hb.size
  replace l_c := Nat.lt_of_lt_of_le l_c hb.size
  replace HK := Lib.hid (HK.out.also hb hs)
  clear hb hs HCC
  have HCC := Lib.hid (open_any cs' op' hol' f t w6 (HK.out.getC cs' op' hol' (by with_reducible (repeat (first | exact List.mem_cons_self | refine List.mem_cons_of_mem _ ?_)))) HF.out HT.out E' L' HE'.out HLL'.out)
  go_wp2_with (first | (refine wpList_load_row rfl 27 (.tmp 4) rfl w.heap.size rfl 27 cs (0, 0) _ hbx Tryd.underlying27 rfl (size27 HS.out) ?_) | (refine wpList_load_row rfl 27 (.tmp 5) rfl (w.heap.size + 1) rfl 27 cs' (0, 0) _ hby Tryd.underlying27 rfl (size27 HS'.out) ?_) | (refine wpList_load_row_g (by rfl) 27 (.tmp 4) rfl w.heap.size rfl 27 cs (0, 0) _ hbx Tryd.underlying27 rfl (size27 HS.out) ?_) | (refine wpList_load_row_g (by rfl) 27 (.tmp 5) rfl (w.heap.size + 1) rfl 27 cs' (0, 0) _ hby Tryd.underlying27 rfl (size27 HS'.out) ?_))
  refine HCC.out.mono ?_
  rintro e w7 ⟨v2, rfl, hb, hs⟩
  replace hbx := (hb.block (w.heap.size) l_b).trans hbx
  replace hby := (hb.block (w.heap.size + 1) l_c).trans hby
  replace l_b := Nat.lt_of_lt_of_le l_b hb.size
  replace l_c := Nat.lt_of_lt_of_le l_c hb.size
  replace HK := Lib.hid (HK.out.also hb hs)
  clear hb hs HCC
  have HCC := Lib.hid (both37 cs cs' op op' hol hol' w7 (HK.out.getC cs op hol (by with_reducible (repeat (first | exact List.mem_cons_self | refine List.mem_cons_of_mem _ ?_)))) (HK.out.getC cs' op' hol' (by with_reducible (repeat (first | exact List.mem_cons_self | refine List.mem_cons_of_mem _ ?_)))) ((chkC_zero _ _).1 HR.out.symm).2 ((chkC_zero _ _).1 HR'.out.symm).2 (few_holB HV.out) (few_holB HV'.out))
  go_wp2_with (first | (refine wpList_load_row rfl 27 (.tmp 4) rfl w.heap.size rfl 27 cs (0, 0) _ hbx Tryd.underlying27 rfl (size27 HS.out) ?_) | (refine wpList_load_row rfl 27 (.tmp 5) rfl (w.heap.size + 1) rfl 27 cs' (0, 0) _ hby Tryd.underlying27 rfl (size27 HS'.out) ?_) | (refine wpList_load_row_g (by rfl) 27 (.tmp 4) rfl w.heap.size rfl 27 cs (0, 0) _ hbx Tryd.underlying27 rfl (size27 HS.out) ?_) | (refine wpList_load_row_g (by rfl) 27 (.tmp 5) rfl (w.heap.size + 1) rfl 27 cs' (0, 0) _ hby Tryd.underlying27 rfl (size27 HS'.out) ?_))
  refine HCC.out.mono ?_
  rintro e w8 ⟨csx, opx, rfl, hb, hcal, hx⟩
  replace hbx := (hb.block (w.heap.size) l_b).trans hbx
  replace hby := (hb.block (w.heap.size + 1) l_c).trans hby
  replace l_b := Nat.lt_of_lt_of_le l_b hb.size
  replace l_c := Nat.lt_of_lt_of_le l_c hb.size
  replace HK := Lib.hid (HK.out.alsoC hb hcal)
  have hmp := meets_plain (f := f) (t := t) HL.out HL'.out hcal.len HR.out.symm HR'.out.symm HV.out hx
  obtain ⟨E3, hE3⟩ : ∃ E, E = eR opx (mH hol hol') f t := ⟨_, rfl⟩
  obtain ⟨L3, hL3⟩ : ∃ L, L = oV opx (mH hol hol') f t := ⟨_, rfl⟩
  rw [← HE.out, ← HE'.out, ← hE3, ← HLL.out, ← HLL'.out, ← hL3] at hmp
  obtain ⟨m1, m2, m3, m4, m5⟩ := hmp
  have M3 := Lib.hid m3; have M4 := Lib.hid m4; have M5 := Lib.hid m5
  have HE3 := Lib.hid hE3; have HLL3 := Lib.hid hL3
  obtain rfl := m1
  obtain rfl := m2
  have ee : (E3 == E3) = true := by simp
  clear hb HCC hcal hx m3 m4 m5 hE3 hL3
  have HCC := Lib.hid (open_any csx opx (mH hol hol') f t w8 (HK.out.getC csx opx (mH hol hol') (by with_reducible (repeat (first | exact List.mem_cons_self | refine List.mem_cons_of_mem _ ?_)))) HF.out HT.out _ L3 HE3.out HLL3.out)
  go_wp2_with fail
  refine HCC.out.mono ?_
  rintro e w9 ⟨v3, rfl, hb, hs⟩
  replace hbx := (hb.block (w.heap.size) l_b).trans hbx
  replace hby := (hb.block (w.heap.size + 1) l_c).trans hby
  replace l_b := Nat.lt_of_lt_of_le l_b hb.size
  replace l_c := Nat.lt_of_lt_of_le l_c hb.size
  replace HK := Lib.hid (HK.out.also hb hs)
  clear hb hs HCC
  have HCC := Lib.hid (intersect_s (HK.out.get (v1) (L) (by with_reducible (repeat (first | exact List.mem_cons_self | refine List.mem_cons_of_mem _ ?_)))) (HK.out.get (v2) (L') (by with_reducible (repeat (first | exact List.mem_cons_self | refine List.mem_cons_of_mem _ ?_)))) ⟨Nat.le_trans M4.out (by omega), Nat.le_trans M5.out (by omega)⟩)
  go_wp2_with fail
  refine HCC.out.mono ?_
  rintro e w10 ⟨v4, rfl, hb, hs⟩
  replace hbx := (hb.block (w.heap.size) l_b).trans hbx
  replace hby := (hb.block (w.heap.size + 1) l_c).trans hby
  replace l_b := Nat.lt_of_lt_of_le l_b hb.size
  replace l_c := Nat.lt_of_lt_of_le l_c hb.size
  replace HK := Lib.hid (HK.out.also hb hs)
  clear hb hs HCC
  have HCC := Lib.hid (lists_s (HK.out.get (v4) ((intL L L')) (by with_reducible (repeat (first | exact List.mem_cons_self | refine List.mem_cons_of_mem _ ?_)))) (HK.out.get (v3) (L3) (by with_reducible (repeat (first | exact List.mem_cons_self | refine List.mem_cons_of_mem _ ?_)))) true (decide_eq_true M3.out).symm)
  go_wp2_with fail
  refine HCC.out.mono ?_
  rintro e w11 ⟨rfl, hb⟩
  replace hbx := (hb.block (w.heap.size) l_b).trans hbx
  replace hby := (hb.block (w.heap.size + 1) l_c).trans hby
  replace l_b := Nat.lt_of_lt_of_le l_b hb.size
  replace l_c := Nat.lt_of_lt_of_le l_c hb.size
  replace HK := Lib.hid (HK.out.call hb)
  clear hb HCC
  go_wp2
  go_ret
  exact ⟨rfl, HK.out.below⟩

/-- The door's own heap meets the condition. -/
theorem door_met (os : Os) (args : Array Value) : laidMetH Tryd.prog Rows.calendarMeetsRow.laid ((World.doorLaid Tryd.prog 400 os).forCall (fun _ _ => 0) ⟨#[], args, []⟩).memory :=
  laidMetH_of_parts3 (fuel := 8) (laidMet_of_run' 8 (by kernel_rfl) (by kernel_rfl)) (by kernel_rfl) (by kernel_rfl)

set_option maxRecDepth 100000 in
theorem lifted (os : Os) (started : os.Started) (H : Type) (enc : TypeId × Value → H) :
    ReturnsInHanded {} Tryd.checked os 10 .any (fun w args => (Rows.calendarMeetsSpec.pre enc Tryd.prog Tryd.f10 [] false w args ∧ laidMetH Tryd.prog Rows.calendarMeetsRow.laid w) ∧ sizedMet enc Tryd.prog Tryd.f10 (OpenSpec.ofChange Rows.calendarMeetsSpec) false w args)
      (Rows.calendarMeetsSpec.post enc Tryd.prog Tryd.f10 false true false false) := by
  refine returnsInHanded_of_change_and (C := Tryd.checked) (X := fun w _ => laidMetH Tryd.prog Rows.calendarMeetsRow.laid w) (fun _ _ _ hh h => h.of_heap hh) own started (by kernel_rfl) Tryd.func10
    (ChangeSpec.witness_shaped (enc := enc) (C := Tryd.checked) (os := os) (X := fun w _ => laidMetH Tryd.prog Rows.calendarMeetsRow.laid w) false (World.doorLaid Tryd.prog 400 os) #[.agg #[.int .i64 0, .int .i64 0, .int .i64 0, .int .i64 0, .int .i64 0, .int .i64 0, .int .i64 0, .int .i64 0, .int .i64 0, .int .i64 0, .int .i64 0, .int .i64 0, .int .i64 0, .int .i64 0, .slice none 0 0], .agg #[.int .i64 0, .int .i64 0, .int .i64 0, .int .i64 0, .int .i64 0, .int .i64 0, .int .i64 0, .int .i64 0, .int .i64 0, .int .i64 0, .int .i64 0, .int .i64 0, .int .i64 0, .int .i64 0, .slice none 0 0], .int .i64 0, .int .i64 0] 8 rfl (World.shaped_of_RefB (by kernel_rfl) (by kernel_rfl)) (by kernel_rfl) (by kernel_rfl) (by kernel_rfl) (door_met os _)) ?_
  intro W base args ds gs before hval0 hW _ hsz0 hL _
  have hsz : (DataW.weightsEach Tryd.prog (Tryd.f10.params.toList ++ Rows.calendarMeetsSpec.plain.varTypes Tryd.prog) (ds ++ gs)).all (· ≤ reachBytes) = true := hsz0
  have hval : ∀ (j : Nat) t v, Tryd.f10.params[j]? = some t → args[j]? = some v → Value.okWide Tryd.prog W .any base t v := hval0
  clear hsz0 hval0
  have hW' := hW
  obtain ⟨p, q, hA0, hV, rfl, hfz, hnd⟩ := hW
  have hA : DataW.TrodAll enc Tryd.prog W 0 (fun _ => true) true Tryd.f10.params.toList args.toList ds p := hA0
  rw [Tryd.params10] at hA hval hsz
  obtain ⟨v0, vs0, d0, ds0, p0, q0, hargs, rfl, rfl, h0, r0⟩ := trodAll_cons hA
  obtain ⟨v1, vs1, d1, ds1, p1, q1, rfl, rfl, rfl, h1, r1⟩ := trodAll_cons r0
  obtain ⟨v2, vs2, d2, ds2, p2, q2, rfl, rfl, rfl, h2, r2⟩ := trodAll_cons r1
  obtain ⟨v3, vs3, d3, ds3, p3, q3, rfl, rfl, rfl, h3, r3⟩ := trodAll_cons r2
  obtain ⟨rfl, rfl, rfl⟩ := trodAll_nil r3
  obtain rfl : args = #[v0, v1, v2, v3] := by cases args; simp_all
  obtain ⟨rfl, rfl⟩ := trodVars_none hV
  have hw0 : ∀ n ∈ d0.weights Tryd.prog 27, n ≤ reachBytes := by
    intro n hn
    have := List.all_eq_true.1 hsz n (DataW.weights_mem_each (t := 27) (d := d0) (j := 0) rfl rfl n hn)
    simpa using this
  obtain ⟨cs0, op0, hol0, rfl, hc0⟩ := openCal (hval 0 27 v0 rfl rfl) h0 hw0
  have hw1 : ∀ n ∈ d1.weights Tryd.prog 27, n ≤ reachBytes := by
    intro n hn
    have := List.all_eq_true.1 hsz n (DataW.weights_mem_each (t := 27) (d := d1) (j := 1) rfl rfl n hn)
    simpa using this
  obtain ⟨cs1, op1, hol1, rfl, hc1⟩ := openCal (hval 1 27 v1 rfl rfl) h1 hw1
  obtain ⟨a2, rfl, rfl, rfl, wf2⟩ := open_int Tryd.underlying3 (hval 2 3 v2 rfl rfl) h2
  have ru2 := i64_wf wf2
  obtain ⟨a3, rfl, rfl, rfl, wf3⟩ := open_int Tryd.underlying3 (hval 3 3 v3 rfl rfl) h3
  have ru3 := i64_wf wf3
  clear hA0
  refine (walk cs0 op0 hol0 cs1 op1 hol1 a2 a3 W (mok_of_laid hL) hc0 hc1 ru2 ru3).mono fun e W' ⟨he, hbw⟩ => ?_
  subst he
  refine ⟨_, rfl, post_law laidOut ?_ rfl rfl hW' rfl rfl rfl hbw⟩
  intro t ht
  rw [Tryd.params10] at ht
  have hm : t ∈ [3, 27] := by
    simp at ht
    rcases ht with rfl|rfl|rfl|rfl <;> simp
  have hall : ([3, 27].all fun u => Tryd.prog.readableRec u && decide (u < Tryd.prog.types.size)) = true := by kernel_rfl
  have := List.all_eq_true.1 hall t hm
  simpa using this

theorem over : Rows.calendarMeetsRow.holds Tryd.pinned (OpenSpec.ofChange Rows.calendarMeetsSpec) :=
  OpenClaim.holds_of_wide 10 Tryd.f10 rfl rfl rfl rfl rfl rfl rfl ⟨rfl, rfl, rfl, rfl, rfl⟩ rfl rfl rfl rfl rfl (by kernel_rfl) Tryd.func10 (by kernel_rfl)
    (of_decide_eq_true (by kernel_rfl)) (by unfold Func.isWrapper; first | (rw [if_pos (by decide +kernel)]; kernel_rfl) | (rw [if_neg (by decide +kernel)]; exact ⟨rfl, rfl⟩))
    (fun os started H enc _ => lifted os started H enc)

/-- THE STATEMENT. -/
theorem proved : Rows.CalendarMeetsCardSaid :=
  Claim7.holds_tied_plain_at .later [] [.data] true (true, "364b556707f00daf4033d8d2c5686098de318f6eb3e3f6625036c7b768a91a03") false
    over (fun _ h => by cases h) (by kernel_rfl) (fun _ h => by cases h) calendarMeets_row_tie rfl ⟨rfl, rfl⟩ (by kernel_rfl) rfl
    (fun f fn hf hfn => by
      obtain rfl : f = 10 := Option.some.inj ((show Tryd.prog.funcNamed "wagonpool/wagonpoollaw06.CalendarMeets" = some 10 by kernel_rfl).symm.trans hf) |>.symm
      obtain rfl : fn = Tryd.f10 := (Option.some.inj (Tryd.func10.symm.trans hfn)).symm
      exact ⟨by kernel_rfl, fun j t ht => by
        rw [Tryd.params10] at ht
        have hm : t ∈ [3, 27] := by
          have := Array.mem_of_getElem? ht
          simp at this
          rcases this with rfl|rfl|rfl|rfl <;> simp
        have hall : ([3, 27].all fun u => !Tryd.prog.wantsStandIn u) = true := by kernel_rfl
        exact (show Tryd.prog.wantsStandIn t = false by simpa using List.all_eq_true.1 hall t hm)⟩)
    (by kernel_rfl)
#print axioms proved
end Go.Proofs.YtciopemodfpecaaDoor.calendarMeets
