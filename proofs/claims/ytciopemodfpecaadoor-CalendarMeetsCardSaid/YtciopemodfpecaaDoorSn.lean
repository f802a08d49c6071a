/-
  Walks: the chapter's examples hold.
-/
import Derived.Test.YtciopemodfpecaaDoorKw
namespace Go.Proofs.YtciopemodfpecaaDoor
open Go.RowKit
set_option linter.unusedVariables false
set_option linter.unusedSimpArgs false

theorem v_day1 : DayU 2000 3 1 60 0 := .inl ⟨by unfold vd mlen; decide, by decide, rfl⟩
theorem v_day2 : DayU 2001 2 29 0 1 := .inr ⟨by unfold vd mlen; decide, rfl, rfl⟩
theorem v_date : DU 365 2000 12 31 0 := .inl ⟨by omega, by omega, rfl, 0, 11, by decide, by decide, by omega, by omega, by decide, by decide⟩
theorem v_ok (f t : Int) (h0 : 0 ≤ f) (h1 : f ≤ t) (h2 : t ≤ 1073741824) : okR (opk 5) [] f t = true := by
  unfold okR
  rw [show opB (opk 5) = true by decide, show holB (-1) [] = true from rfl, decide_eq_true h0, decide_eq_true h1, decide_eq_true h2]; rfl
theorem v_work : wV (opk 5) [] 0 10080 = 2400 := by
  unfold wV
  rw [if_pos (v_ok 0 10080 (by omega) (by omega) (by omega))]
  decide +kernel
theorem v_workE : eR (opk 5) [] 0 10080 = 0 := by unfold eR; rw [if_pos (v_ok 0 10080 (by omega) (by omega) (by omega))]
theorem v_op : opOk (opk 5) := ((okR_iff rfl).1 (v_ok 0 0 (by omega) (by omega) (by omega))).1
theorem v_adv1 : adv (wlist (opk 5) [] 0 1073741824) 480 = some 3840 := search_hit v_op (by omega) (by omega) (by omega) (by omega) 3 (by decide +kernel)
theorem v_adv2 : adv (wlist (opk 5) [] 0 1073741824) 481 = some 4801 := search_hit v_op (by omega) (by omega) (by omega) (by omega) 4 (by decide +kernel)
theorem v_aft1 : aV (opk 5) [] 0 480 = 3840 ∧ aE (opk 5) [] 0 480 = 0 := by
  obtain ⟨e1, e2⟩ := aft_pos (n := 480) (v_ok 0 1073741824 (by omega) (by omega) (by omega)) (by omega)
  rw [e1, e2, v_adv1]; exact ⟨rfl, rfl⟩
theorem v_aft2 : aV (opk 5) [] 0 481 = 4801 ∧ aE (opk 5) [] 0 481 = 0 := by
  obtain ⟨e1, e2⟩ := aft_pos (n := 481) (v_ok 0 1073741824 (by omega) (by omega) (by omega)) (by omega)
  rw [e1, e2, v_adv2]; exact ⟨rfl, rfl⟩
theorem v_span : SU 1 44640 86400 0 := .inl ⟨by omega, by omega, rfl, by decide, by decide⟩
theorem v_month : MU 44640 1 0 := .inl ⟨by omega, by omega, rfl, 1, rfl, by decide, by decide⟩

theorem fields40 : (Tryd.prog.fieldsOf 40).toList = [{ name := "Year", type := 3, offset := 0, embedded := false, tag := "", pkgPath := "", byteOffset := 0 }, { name := "Month", type := 3, offset := 1, embedded := false, tag := "", pkgPath := "", byteOffset := 8 }, { name := "Day", type := 3, offset := 2, embedded := false, tag := "", pkgPath := "", byteOffset := 16 }] := by kernel_rfl
theorem stood40 : Tryd.prog.stoodInHeld 40 = false := by kernel_rfl
theorem guard40 : Tryd.prog.eqGuardType Tryd.prog.depth 40 = false := by kernel_rfl
theorem struct40 : Tryd.prog.underlying 40 = some (.struct (Tryd.prog.fieldsOf 40)) := by kernel_rfl
theorem eqDt (x1 y1 z1 x2 y2 z2 : Int) (w : World) : (Op.equalIn 10000 40 (.agg #[.int .i64 x1, .int .i64 y1, .int .i64 z1]) (.agg #[.int .i64 x2, .int .i64 y2, .int .i64 z2])).run Tryd.prog w = .ok (decide (x1 = x2 ∧ y1 = y2 ∧ z1 = z2)) w := by
  rw [show (10000 : Nat) = 9999 + 1 from rfl, run_equalIn_struct w 9999 40 _ _ struct40 stood40, fields40]
  have a3 := Tryd.isAgg3
  unfold Op.eqFields
  go_simp
  by_cases h1 : x1 = x2 <;> by_cases h2 : y1 = y2 <;> by_cases h3 : z1 = z2 <;> simp [h1, h2, h3]

set_option maxRecDepth 100000 in
set_option maxHeartbeats 16000000 in
theorem sane_true (w : World) (hk : MOk w) : Calls Tryd.prog 11 #[] w fun e w' => e = .returned (.bool true) ∧ Below w.heap.size w w' := by
  have i64 : ∀ n : Int, -10000000000 ≤ n → n ≤ 10000000000 → I64 n := fun n h1 h2 => by unfold I64; omega
  have HI := Lib.hid i64
  have HK := Lib.hid (Kw.nil hk)
  have ofc : ∃ OC, OC = ofk 5 := ⟨_, rfl⟩
  obtain ⟨OC, hOC⟩ := ofc
  have hoff := fun w => office_any w
  rw [← hOC] at hoff
  have hcal : ∀ w : World, Cal (fun k => k < w.heap.size) w OC (opk 5) [] := fun w => by rw [hOC]; exact ofk_cal _ _
  have HOFF := Lib.hid hoff; have HCAL := Lib.hid hcal
  have e40 := eqDt 2000 12 31 2000 12 31
  rw [decide_eq_true (by omega)] at e40
  have e23 := eqSp 44640 86400 44640 86400
  rw [decide_eq_true (by omega)] at e23
  have gd40 := guard40
  have gd23 := Tryd.guard36
  clear hoff hcal hOC hk i64
  go_enter Tryd.func11, Tryd.ntmps11
  have HCC := Lib.hid (day_any 2000 3 1 60 0 (HI.out _ (by omega) (by omega)) (HI.out _ (by omega) (by omega)) (HI.out _ (by omega) (by omega)) v_day1 w HK.out.mok)
  go_wp2_with fail
  refine HCC.out.mono ?_
  rintro e w1 ⟨rfl, hb⟩
  replace HK := Lib.hid (HK.out.call hb)
  clear hb HCC
  have HCC := Lib.hid (day_any 2001 2 29 0 1 (HI.out _ (by omega) (by omega)) (HI.out _ (by omega) (by omega)) (HI.out _ (by omega) (by omega)) v_day2 w1 HK.out.mok)
  go_wp2_with fail
  refine HCC.out.mono ?_
  rintro e w2 ⟨rfl, hb⟩
  replace HK := Lib.hid (HK.out.call hb)
  clear hb HCC
  have HCC := Lib.hid (dateOf_any 365 2000 12 31 0 (HI.out _ (by omega) (by omega)) v_date w2 HK.out.mok)
  go_wp2_with fail
  refine HCC.out.mono ?_
  rintro e w3 ⟨rfl, hb⟩
  replace HK := Lib.hid (HK.out.call hb)
  clear hb HCC
  replace HK := Lib.hid (HK.out.laid (.cells #[.int .i64 2000, .int .i64 12, .int .i64 31] 40))
  obtain ⟨da, db, dc⟩ := cell_new3 w3 (.int .i64 2000) (.int .i64 12) (.int .i64 31) 40 _ rfl
  have l_da : w3.heap.size < (w3.alloc (.cells #[.int .i64 2000, .int .i64 12, .int .i64 31] 40)).heap.size := by rw [World.size_alloc]; omega
  have HCC := Lib.hid (HOFF.out (w3.alloc (.cells #[.int .i64 2000, .int .i64 12, .int .i64 31] 40)))
  go_wp2_with fail
  refine HCC.out.mono ?_
  rintro e w4 ⟨rfl, hb⟩
  replace da := (hb.cell (p := ⟨w3.heap.size, 0, none⟩) l_da).trans da
  replace db := (hb.cell (p := ⟨w3.heap.size, 1, none⟩) l_da).trans db
  replace dc := (hb.cell (p := ⟨w3.heap.size, 2, none⟩) l_da).trans dc
  replace l_da := Nat.lt_of_lt_of_le l_da hb.size
  replace HK := Lib.hid (HK.out.call hb)
  clear hb HCC
  have HCC := Lib.hid (working_any OC (opk 5) [] 0 10080 w4 (HCAL.out _) (HI.out _ (by omega) (by omega)) (HI.out _ (by omega) (by omega)) 0 2400 v_workE.symm v_work.symm)
  go_wp2_with fail
  refine HCC.out.mono ?_
  rintro e w5 ⟨rfl, hb⟩
  replace da := (hb.cell (p := ⟨w3.heap.size, 0, none⟩) l_da).trans da
  replace db := (hb.cell (p := ⟨w3.heap.size, 1, none⟩) l_da).trans db
  replace dc := (hb.cell (p := ⟨w3.heap.size, 2, none⟩) l_da).trans dc
  replace l_da := Nat.lt_of_lt_of_le l_da hb.size
  replace HK := Lib.hid (HK.out.call hb)
  clear hb HCC
  have HCC := Lib.hid (HOFF.out w5)
  go_wp2_with fail
  refine HCC.out.mono ?_
  rintro e w6 ⟨rfl, hb⟩
  replace da := (hb.cell (p := ⟨w3.heap.size, 0, none⟩) l_da).trans da
  replace db := (hb.cell (p := ⟨w3.heap.size, 1, none⟩) l_da).trans db
  replace dc := (hb.cell (p := ⟨w3.heap.size, 2, none⟩) l_da).trans dc
  replace l_da := Nat.lt_of_lt_of_le l_da hb.size
  replace HK := Lib.hid (HK.out.call hb)
  clear hb HCC
  have HCC := Lib.hid (after_any OC (opk 5) [] 0 480 w6 (HCAL.out _) (HI.out _ (by omega) (by omega)) (HI.out _ (by omega) (by omega)) 3840 0 v_aft1.1.symm v_aft1.2.symm)
  go_wp2_with fail
  refine HCC.out.mono ?_
  rintro e w7 ⟨rfl, hb⟩
  replace da := (hb.cell (p := ⟨w3.heap.size, 0, none⟩) l_da).trans da
  replace db := (hb.cell (p := ⟨w3.heap.size, 1, none⟩) l_da).trans db
  replace dc := (hb.cell (p := ⟨w3.heap.size, 2, none⟩) l_da).trans dc
  replace l_da := Nat.lt_of_lt_of_le l_da hb.size
  replace HK := Lib.hid (HK.out.call hb)
  clear hb HCC
  have HCC := Lib.hid (HOFF.out w7)
  go_wp2_with fail
  refine HCC.out.mono ?_
  rintro e w8 ⟨rfl, hb⟩
  replace da := (hb.cell (p := ⟨w3.heap.size, 0, none⟩) l_da).trans da
  replace db := (hb.cell (p := ⟨w3.heap.size, 1, none⟩) l_da).trans db
  replace dc := (hb.cell (p := ⟨w3.heap.size, 2, none⟩) l_da).trans dc
  replace l_da := Nat.lt_of_lt_of_le l_da hb.size
  replace HK := Lib.hid (HK.out.call hb)
  clear hb HCC
  have HCC := Lib.hid (after_any OC (opk 5) [] 0 481 w8 (HCAL.out _) (HI.out _ (by omega) (by omega)) (HI.out _ (by omega) (by omega)) 4801 0 v_aft2.1.symm v_aft2.2.symm)
  go_wp2_with fail
  refine HCC.out.mono ?_
  rintro e w9 ⟨rfl, hb⟩
  replace da := (hb.cell (p := ⟨w3.heap.size, 0, none⟩) l_da).trans da
  replace db := (hb.cell (p := ⟨w3.heap.size, 1, none⟩) l_da).trans db
  replace dc := (hb.cell (p := ⟨w3.heap.size, 2, none⟩) l_da).trans dc
  replace l_da := Nat.lt_of_lt_of_le l_da hb.size
  replace HK := Lib.hid (HK.out.call hb)
  clear hb HCC
  have HCC := Lib.hid (monthSpan_any 1 44640 86400 0 (HI.out _ (by omega) (by omega)) v_span w9 HK.out.mok)
  go_wp2_with fail
  refine HCC.out.mono ?_
  rintro e w10 ⟨rfl, hb⟩
  replace da := (hb.cell (p := ⟨w3.heap.size, 0, none⟩) l_da).trans da
  replace db := (hb.cell (p := ⟨w3.heap.size, 1, none⟩) l_da).trans db
  replace dc := (hb.cell (p := ⟨w3.heap.size, 2, none⟩) l_da).trans dc
  replace l_da := Nat.lt_of_lt_of_le l_da hb.size
  replace HK := Lib.hid (HK.out.call hb)
  clear hb HCC
  replace da := cellA (.cells #[.int .i64 44640, .int .i64 86400] 23) da
  replace db := cellA (.cells #[.int .i64 44640, .int .i64 86400] 23) db
  replace dc := cellA (.cells #[.int .i64 44640, .int .i64 86400] 23) dc
  replace l_da := ltA (.cells #[.int .i64 44640, .int .i64 86400] 23) l_da
  replace HK := Lib.hid (HK.out.laid (.cells #[.int .i64 44640, .int .i64 86400] 23))
  obtain ⟨sa, sb⟩ := cell_new2 w10 (.int .i64 44640) (.int .i64 86400) 23 _ rfl
  have l_sa : w10.heap.size < (w10.alloc (.cells #[.int .i64 44640, .int .i64 86400] 23)).heap.size := by rw [World.size_alloc]; omega
  have HCC := Lib.hid (month_any 44640 1 0 (HI.out _ (by omega) (by omega)) v_month (w10.alloc (.cells #[.int .i64 44640, .int .i64 86400] 23)) HK.out.mok)
  go_wp2_with fail
  refine HCC.out.mono ?_
  rintro e w11 ⟨rfl, hb⟩
  replace da := (hb.cell (p := ⟨w3.heap.size, 0, none⟩) l_da).trans da
  replace db := (hb.cell (p := ⟨w3.heap.size, 1, none⟩) l_da).trans db
  replace dc := (hb.cell (p := ⟨w3.heap.size, 2, none⟩) l_da).trans dc
  replace sa := (hb.cell (p := ⟨w10.heap.size, 0, none⟩) l_sa).trans sa
  replace sb := (hb.cell (p := ⟨w10.heap.size, 1, none⟩) l_sa).trans sb
  replace l_da := Nat.lt_of_lt_of_le l_da hb.size
  replace l_sa := Nat.lt_of_lt_of_le l_sa hb.size
  replace HK := Lib.hid (HK.out.call hb)
  clear hb HCC
  have HCC := Lib.hid (weekday_any 0 (HI.out _ (by omega) (by omega)) 5 (by decide) w11)
  go_wp2_with fail
  refine HCC.out.mono ?_
  rintro e _ ⟨rfl, rfl⟩
  clear HCC
  have HCC := Lib.hid (weekday_any 2 (HI.out _ (by omega) (by omega)) 0 (by decide) w11)
  go_wp2_with fail
  refine HCC.out.mono ?_
  rintro e _ ⟨rfl, rfl⟩
  clear HCC
  have HCC := Lib.hid (weekday_any (-1) (HI.out _ (by omega) (by omega)) (-1) (by decide) w11)
  go_wp2_with fail
  refine HCC.out.mono ?_
  rintro e _ ⟨rfl, rfl⟩
  clear HCC
  go_wp2
  go_ret
  exact ⟨rfl, HK.out.below⟩
end Go.Proofs.YtciopemodfpecaaDoor
