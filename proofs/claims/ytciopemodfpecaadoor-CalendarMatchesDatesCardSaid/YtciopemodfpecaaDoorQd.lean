/-
  The statement 'Rows.CalendarMatchesDatesCardSaid': for all arguments the law returns true; the arguments read as they did. Condition: the table of the months' lengths lies as the program's text lays it.
-/
import Derived.Test.YtciopemodfpecaaDoorSn
import Derived.Test.YtciopemodfpecaaDoorKw
import Derived.ChangeMaps5
namespace Go.Proofs.YtciopemodfpecaaDoor.calendarMatchesDates
open Go.ChangeShapes Go.WideShapes Go.ChangeAt Go.RowKit
set_option linter.unusedVariables false
set_option linter.unusedSimpArgs false

set_option maxRecDepth 100000 in
set_option maxHeartbeats 16000000 in
theorem walk (Y M D n m k : Int) (w : World) (hk : MOk w) (hY : I64 Y) (hM : I64 M) (hD : I64 D) (hn : I64 n) (hm : I64 m) (hkk : I64 k) :
    Calls Tryd.prog 4 #[.agg #[.int .i64 Y, .int .i64 M, .int .i64 D], .int .i64 n, .int .i64 m, .int .i64 k] w fun e w' => e = .returned (.bool true) ∧ Below w.heap.size w w' := by
  obtain ⟨R, E1, hday⟩ := dayU_exists Y M D
  obtain ⟨Y2, M2, D2, E2, hdu⟩ := du_exists n
  obtain ⟨K, E3, hmu⟩ := mu_exists m
  obtain ⟨F, T, E4, hsu⟩ := su_exists k
  obtain ⟨V, hV⟩ : ∃ V, V = wkd n := ⟨_, rfl⟩
  have HK := Lib.hid (Kw.nil hk)
  have H1 := Lib.hid hday; have H2 := Lib.hid hdu; have H3 := Lib.hid hmu; have H4 := Lib.hid hsu; have H5 := Lib.hid hV
  have B1 := Lib.hid hY; have B2 := Lib.hid hM; have B3 := Lib.hid hD; have B4 := Lib.hid hn; have B5 := Lib.hid hm; have B6 := Lib.hid hkk
  have e1 : (R == R) = true := by simp
  have e2 : (E1 == E1) = true := by simp
  have e3 : (E2 == E2) = true := by simp
  have e4 : (K == K) = true := by simp
  have e5 : (E3 == E3) = true := by simp
  have e6 : (E4 == E4) = true := by simp
  have e7 : (V == V) = true := by simp
  have e40 := eqDt Y2 M2 D2 Y2 M2 D2
  rw [decide_eq_true ⟨rfl, rfl, rfl⟩] at e40
  have e23 := eqSp F T F T
  rw [decide_eq_true ⟨rfl, rfl⟩] at e23
  have gd40 := guard40
  have gd23 := Tryd.guard36
  clear hk hday hdu hmu hsu hV hY hM hD hn hm hkk
  go_enter Tryd.func4, Tryd.ntmps4
  replace HK := Lib.hid (HK.out.laid (.cells #[.int .i64 Y, .int .i64 M, .int .i64 D] 40))
  obtain ⟨pa, pb, pc⟩ := cell_new3 w (.int .i64 Y) (.int .i64 M) (.int .i64 D) 40 _ rfl
  have l_pa : w.heap.size < (w.alloc (.cells #[.int .i64 Y, .int .i64 M, .int .i64 D] 40)).heap.size := by rw [World.size_alloc]; omega
  have HCC := Lib.hid (sane_true (w.alloc (.cells #[.int .i64 Y, .int .i64 M, .int .i64 D] 40)) HK.out.mok)
  go_wp2_with fail
  refine HCC.out.mono ?_
  rintro e w1 ⟨rfl, hb⟩
  replace pa := (hb.cell (p := ⟨w.heap.size, 0, none⟩) l_pa).trans pa
  replace pb := (hb.cell (p := ⟨w.heap.size, 1, none⟩) l_pa).trans pb
  replace pc := (hb.cell (p := ⟨w.heap.size, 2, none⟩) l_pa).trans pc
  replace l_pa := Nat.lt_of_lt_of_le l_pa hb.size
  replace HK := Lib.hid (HK.out.call hb)
  clear hb HCC
  have HCC := Lib.hid (day_any Y M D R E1 B1.out B2.out B3.out H1.out w1 HK.out.mok)
  go_wp2_with fail
  refine HCC.out.mono ?_
  rintro e w2 ⟨rfl, hb⟩
  replace pa := (hb.cell (p := ⟨w.heap.size, 0, none⟩) l_pa).trans pa
  replace pb := (hb.cell (p := ⟨w.heap.size, 1, none⟩) l_pa).trans pb
  replace pc := (hb.cell (p := ⟨w.heap.size, 2, none⟩) l_pa).trans pc
  replace l_pa := Nat.lt_of_lt_of_le l_pa hb.size
  replace HK := Lib.hid (HK.out.call hb)
  clear hb HCC
  have HCC := Lib.hid (rday_any Y M D R E1 B1.out B2.out B3.out H1.out w2)
  go_wp2_with fail
  refine HCC.out.mono ?_
  rintro e w3 ⟨rfl, hb⟩
  replace pa := (hb.cell (p := ⟨w.heap.size, 0, none⟩) l_pa).trans pa
  replace pb := (hb.cell (p := ⟨w.heap.size, 1, none⟩) l_pa).trans pb
  replace pc := (hb.cell (p := ⟨w.heap.size, 2, none⟩) l_pa).trans pc
  replace l_pa := Nat.lt_of_lt_of_le l_pa hb.size
  replace HK := Lib.hid (HK.out.call hb)
  clear hb HCC
  have HCC := Lib.hid (dateOf_any n Y2 M2 D2 E2 B4.out H2.out w3 HK.out.mok)
  go_wp2_with fail
  refine HCC.out.mono ?_
  rintro e w4 ⟨rfl, hb⟩
  replace pa := (hb.cell (p := ⟨w.heap.size, 0, none⟩) l_pa).trans pa
  replace pb := (hb.cell (p := ⟨w.heap.size, 1, none⟩) l_pa).trans pb
  replace pc := (hb.cell (p := ⟨w.heap.size, 2, none⟩) l_pa).trans pc
  replace l_pa := Nat.lt_of_lt_of_le l_pa hb.size
  replace HK := Lib.hid (HK.out.call hb)
  clear hb HCC
  replace pa := cellA (.cells #[.int .i64 Y2, .int .i64 M2, .int .i64 D2] 40) pa
  replace pb := cellA (.cells #[.int .i64 Y2, .int .i64 M2, .int .i64 D2] 40) pb
  replace pc := cellA (.cells #[.int .i64 Y2, .int .i64 M2, .int .i64 D2] 40) pc
  replace l_pa := ltA (.cells #[.int .i64 Y2, .int .i64 M2, .int .i64 D2] 40) l_pa
  replace HK := Lib.hid (HK.out.laid (.cells #[.int .i64 Y2, .int .i64 M2, .int .i64 D2] 40))
  obtain ⟨qa, qb, qc⟩ := cell_new3 w4 (.int .i64 Y2) (.int .i64 M2) (.int .i64 D2) 40 _ rfl
  have l_qa : w4.heap.size < (w4.alloc (.cells #[.int .i64 Y2, .int .i64 M2, .int .i64 D2] 40)).heap.size := by rw [World.size_alloc]; omega
  have HCC := Lib.hid (rdateOf_any n Y2 M2 D2 E2 B4.out H2.out (w4.alloc (.cells #[.int .i64 Y2, .int .i64 M2, .int .i64 D2] 40)))
  go_wp2_with fail
  refine HCC.out.mono ?_
  rintro e w5 ⟨rfl, hb⟩
  replace pa := (hb.cell (p := ⟨w.heap.size, 0, none⟩) l_pa).trans pa
  replace pb := (hb.cell (p := ⟨w.heap.size, 1, none⟩) l_pa).trans pb
  replace pc := (hb.cell (p := ⟨w.heap.size, 2, none⟩) l_pa).trans pc
  replace qa := (hb.cell (p := ⟨w4.heap.size, 0, none⟩) l_qa).trans qa
  replace qb := (hb.cell (p := ⟨w4.heap.size, 1, none⟩) l_qa).trans qb
  replace qc := (hb.cell (p := ⟨w4.heap.size, 2, none⟩) l_qa).trans qc
  replace l_pa := Nat.lt_of_lt_of_le l_pa hb.size
  replace l_qa := Nat.lt_of_lt_of_le l_qa hb.size
  replace HK := Lib.hid (HK.out.call hb)
  clear hb HCC
  replace pa := cellA (.cells #[.int .i64 Y2, .int .i64 M2, .int .i64 D2] 40) pa
  replace pb := cellA (.cells #[.int .i64 Y2, .int .i64 M2, .int .i64 D2] 40) pb
  replace pc := cellA (.cells #[.int .i64 Y2, .int .i64 M2, .int .i64 D2] 40) pc
  replace qa := cellA (.cells #[.int .i64 Y2, .int .i64 M2, .int .i64 D2] 40) qa
  replace qb := cellA (.cells #[.int .i64 Y2, .int .i64 M2, .int .i64 D2] 40) qb
  replace qc := cellA (.cells #[.int .i64 Y2, .int .i64 M2, .int .i64 D2] 40) qc
  replace l_pa := ltA (.cells #[.int .i64 Y2, .int .i64 M2, .int .i64 D2] 40) l_pa
  replace l_qa := ltA (.cells #[.int .i64 Y2, .int .i64 M2, .int .i64 D2] 40) l_qa
  replace HK := Lib.hid (HK.out.laid (.cells #[.int .i64 Y2, .int .i64 M2, .int .i64 D2] 40))
  obtain ⟨ra, rb, rc⟩ := cell_new3 w5 (.int .i64 Y2) (.int .i64 M2) (.int .i64 D2) 40 _ rfl
  have l_ra : w5.heap.size < (w5.alloc (.cells #[.int .i64 Y2, .int .i64 M2, .int .i64 D2] 40)).heap.size := by rw [World.size_alloc]; omega
  have HCC := Lib.hid (month_any m K E3 B5.out H3.out (w5.alloc (.cells #[.int .i64 Y2, .int .i64 M2, .int .i64 D2] 40)) HK.out.mok)
  go_wp2_with fail
  refine HCC.out.mono ?_
  rintro e w6 ⟨rfl, hb⟩
  replace pa := (hb.cell (p := ⟨w.heap.size, 0, none⟩) l_pa).trans pa
  replace pb := (hb.cell (p := ⟨w.heap.size, 1, none⟩) l_pa).trans pb
  replace pc := (hb.cell (p := ⟨w.heap.size, 2, none⟩) l_pa).trans pc
  replace qa := (hb.cell (p := ⟨w4.heap.size, 0, none⟩) l_qa).trans qa
  replace qb := (hb.cell (p := ⟨w4.heap.size, 1, none⟩) l_qa).trans qb
  replace qc := (hb.cell (p := ⟨w4.heap.size, 2, none⟩) l_qa).trans qc
  replace ra := (hb.cell (p := ⟨w5.heap.size, 0, none⟩) l_ra).trans ra
  replace rb := (hb.cell (p := ⟨w5.heap.size, 1, none⟩) l_ra).trans rb
  replace rc := (hb.cell (p := ⟨w5.heap.size, 2, none⟩) l_ra).trans rc
  replace l_pa := Nat.lt_of_lt_of_le l_pa hb.size
  replace l_qa := Nat.lt_of_lt_of_le l_qa hb.size
  replace l_ra := Nat.lt_of_lt_of_le l_ra hb.size
  replace HK := Lib.hid (HK.out.call hb)
  clear hb HCC
  have HCC := Lib.hid (rmonth_any m K E3 B5.out H3.out w6)
  go_wp2_with fail
  refine HCC.out.mono ?_
  rintro e w7 ⟨rfl, hb⟩
  replace pa := (hb.cell (p := ⟨w.heap.size, 0, none⟩) l_pa).trans pa
  replace pb := (hb.cell (p := ⟨w.heap.size, 1, none⟩) l_pa).trans pb
  replace pc := (hb.cell (p := ⟨w.heap.size, 2, none⟩) l_pa).trans pc
  replace qa := (hb.cell (p := ⟨w4.heap.size, 0, none⟩) l_qa).trans qa
  replace qb := (hb.cell (p := ⟨w4.heap.size, 1, none⟩) l_qa).trans qb
  replace qc := (hb.cell (p := ⟨w4.heap.size, 2, none⟩) l_qa).trans qc
  replace ra := (hb.cell (p := ⟨w5.heap.size, 0, none⟩) l_ra).trans ra
  replace rb := (hb.cell (p := ⟨w5.heap.size, 1, none⟩) l_ra).trans rb
  replace rc := (hb.cell (p := ⟨w5.heap.size, 2, none⟩) l_ra).trans rc
  replace l_pa := Nat.lt_of_lt_of_le l_pa hb.size
  replace l_qa := Nat.lt_of_lt_of_le l_qa hb.size
  replace l_ra := Nat.lt_of_lt_of_le l_ra hb.size
  replace HK := Lib.hid (HK.out.call hb)
  clear hb HCC
  have HCC := Lib.hid (monthSpan_any k F T E4 B6.out H4.out w7 HK.out.mok)
  go_wp2_with fail
  refine HCC.out.mono ?_
  rintro e w8 ⟨rfl, hb⟩
  replace pa := (hb.cell (p := ⟨w.heap.size, 0, none⟩) l_pa).trans pa
  replace pb := (hb.cell (p := ⟨w.heap.size, 1, none⟩) l_pa).trans pb
  replace pc := (hb.cell (p := ⟨w.heap.size, 2, none⟩) l_pa).trans pc
  replace qa := (hb.cell (p := ⟨w4.heap.size, 0, none⟩) l_qa).trans qa
  replace qb := (hb.cell (p := ⟨w4.heap.size, 1, none⟩) l_qa).trans qb
  replace qc := (hb.cell (p := ⟨w4.heap.size, 2, none⟩) l_qa).trans qc
  replace ra := (hb.cell (p := ⟨w5.heap.size, 0, none⟩) l_ra).trans ra
  replace rb := (hb.cell (p := ⟨w5.heap.size, 1, none⟩) l_ra).trans rb
  replace rc := (hb.cell (p := ⟨w5.heap.size, 2, none⟩) l_ra).trans rc
  replace l_pa := Nat.lt_of_lt_of_le l_pa hb.size
  replace l_qa := Nat.lt_of_lt_of_le l_qa hb.size
  replace l_ra := Nat.lt_of_lt_of_le l_ra hb.size
  replace HK := Lib.hid (HK.out.call hb)
  clear hb HCC
  replace pa := cellA (.cells #[.int .i64 F, .int .i64 T] 23) pa
  replace pb := cellA (.cells #[.int .i64 F, .int .i64 T] 23) pb
  replace pc := cellA (.cells #[.int .i64 F, .int .i64 T] 23) pc
  replace qa := cellA (.cells #[.int .i64 F, .int .i64 T] 23) qa
  replace qb := cellA (.cells #[.int .i64 F, .int .i64 T] 23) qb
  replace qc := cellA (.cells #[.int .i64 F, .int .i64 T] 23) qc
  replace ra := cellA (.cells #[.int .i64 F, .int .i64 T] 23) ra
  replace rb := cellA (.cells #[.int .i64 F, .int .i64 T] 23) rb
  replace rc := cellA (.cells #[.int .i64 F, .int .i64 T] 23) rc
  replace l_pa := ltA (.cells #[.int .i64 F, .int .i64 T] 23) l_pa
  replace l_qa := ltA (.cells #[.int .i64 F, .int .i64 T] 23) l_qa
  replace l_ra := ltA (.cells #[.int .i64 F, .int .i64 T] 23) l_ra
  replace HK := Lib.hid (HK.out.laid (.cells #[.int .i64 F, .int .i64 T] 23))
  obtain ⟨ta, tb⟩ := cell_new2 w8 (.int .i64 F) (.int .i64 T) 23 _ rfl
  have l_ta : w8.heap.size < (w8.alloc (.cells #[.int .i64 F, .int .i64 T] 23)).heap.size := by rw [World.size_alloc]; omega
  have HCC := Lib.hid (rmonthSpan_any k F T E4 B6.out H4.out (w8.alloc (.cells #[.int .i64 F, .int .i64 T] 23)))
  go_wp2_with fail
  refine HCC.out.mono ?_
  rintro e w9 ⟨rfl, hb⟩
  replace pa := (hb.cell (p := ⟨w.heap.size, 0, none⟩) l_pa).trans pa
  replace pb := (hb.cell (p := ⟨w.heap.size, 1, none⟩) l_pa).trans pb
  replace pc := (hb.cell (p := ⟨w.heap.size, 2, none⟩) l_pa).trans pc
  replace qa := (hb.cell (p := ⟨w4.heap.size, 0, none⟩) l_qa).trans qa
  replace qb := (hb.cell (p := ⟨w4.heap.size, 1, none⟩) l_qa).trans qb
  replace qc := (hb.cell (p := ⟨w4.heap.size, 2, none⟩) l_qa).trans qc
  replace ra := (hb.cell (p := ⟨w5.heap.size, 0, none⟩) l_ra).trans ra
  replace rb := (hb.cell (p := ⟨w5.heap.size, 1, none⟩) l_ra).trans rb
  replace rc := (hb.cell (p := ⟨w5.heap.size, 2, none⟩) l_ra).trans rc
  replace ta := (hb.cell (p := ⟨w8.heap.size, 0, none⟩) l_ta).trans ta
  replace tb := (hb.cell (p := ⟨w8.heap.size, 1, none⟩) l_ta).trans tb
  replace l_pa := Nat.lt_of_lt_of_le l_pa hb.size
  replace l_qa := Nat.lt_of_lt_of_le l_qa hb.size
  replace l_ra := Nat.lt_of_lt_of_le l_ra hb.size
  replace l_ta := Nat.lt_of_lt_of_le l_ta hb.size
  replace HK := Lib.hid (HK.out.call hb)
  clear hb HCC
  replace pa := cellA (.cells #[.int .i64 F, .int .i64 T] 23) pa
  replace pb := cellA (.cells #[.int .i64 F, .int .i64 T] 23) pb
  replace pc := cellA (.cells #[.int .i64 F, .int .i64 T] 23) pc
  replace qa := cellA (.cells #[.int .i64 F, .int .i64 T] 23) qa
  replace qb := cellA (.cells #[.int .i64 F, .int .i64 T] 23) qb
  replace qc := cellA (.cells #[.int .i64 F, .int .i64 T] 23) qc
  replace ra := cellA (.cells #[.int .i64 F, .int .i64 T] 23) ra
  replace rb := cellA (.cells #[.int .i64 F, .int .i64 T] 23) rb
  replace rc := cellA (.cells #[.int .i64 F, .int .i64 T] 23) rc
  replace ta := cellA (.cells #[.int .i64 F, .int .i64 T] 23) ta
  replace tb := cellA (.cells #[.int .i64 F, .int .i64 T] 23) tb
  replace l_pa := ltA (.cells #[.int .i64 F, .int .i64 T] 23) l_pa
  replace l_qa := ltA (.cells #[.int .i64 F, .int .i64 T] 23) l_qa
  replace l_ra := ltA (.cells #[.int .i64 F, .int .i64 T] 23) l_ra
  replace l_ta := ltA (.cells #[.int .i64 F, .int .i64 T] 23) l_ta
  replace HK := Lib.hid (HK.out.laid (.cells #[.int .i64 F, .int .i64 T] 23))
  obtain ⟨ua, ub⟩ := cell_new2 w9 (.int .i64 F) (.int .i64 T) 23 _ rfl
  have l_ua : w9.heap.size < (w9.alloc (.cells #[.int .i64 F, .int .i64 T] 23)).heap.size := by rw [World.size_alloc]; omega
  have HCC := Lib.hid (weekday_any n B4.out V H5.out (w9.alloc (.cells #[.int .i64 F, .int .i64 T] 23)))
  go_wp2_with fail
  refine HCC.out.mono ?_
  rintro e _ ⟨rfl, rfl⟩
  clear HCC
  have HCC := Lib.hid (rweekday_any n B4.out V H5.out (w9.alloc (.cells #[.int .i64 F, .int .i64 T] 23)))
  go_wp2_with fail
  refine HCC.out.mono ?_
  rintro e _ ⟨rfl, rfl⟩
  clear HCC
  go_wp2
  go_ret
  exact ⟨rfl, HK.out.below⟩

/-- The door's own heap meets the condition. -/
theorem door_met (os : Os) (args : Array Value) : laidMetH Tryd.prog Rows.calendarMatchesDatesRow.laid ((World.doorLaid Tryd.prog 400 os).forCall (fun _ _ => 0) ⟨#[], args, []⟩).memory :=
  laidMetH_of_parts3 (fuel := 8) (laidMet_of_run' 8 (by kernel_rfl) (by kernel_rfl)) (by kernel_rfl) (by kernel_rfl)

set_option maxRecDepth 100000 in
theorem lifted (os : Os) (started : os.Started) (H : Type) (enc : TypeId × Value → H) :
    ReturnsInHanded {} Tryd.checked os 4 .any (fun w args => (Rows.calendarMatchesDatesSpec.pre enc Tryd.prog Tryd.f4 [] false w args ∧ laidMetH Tryd.prog Rows.calendarMatchesDatesRow.laid w) ∧ sizedMet enc Tryd.prog Tryd.f4 (OpenSpec.ofChange Rows.calendarMatchesDatesSpec) false w args)
      (Rows.calendarMatchesDatesSpec.post enc Tryd.prog Tryd.f4 false true false false) := by
  refine returnsInHanded_of_change_and (C := Tryd.checked) (X := fun w _ => laidMetH Tryd.prog Rows.calendarMatchesDatesRow.laid w) (fun _ _ _ hh h => h.of_heap hh) own started (by kernel_rfl) Tryd.func4
    (ChangeSpec.witness_shaped (enc := enc) (C := Tryd.checked) (os := os) (X := fun w _ => laidMetH Tryd.prog Rows.calendarMatchesDatesRow.laid w) false (World.doorLaid Tryd.prog 400 os) #[.agg #[.int .i64 0, .int .i64 0, .int .i64 0], .int .i64 0, .int .i64 0, .int .i64 0] 8 rfl (World.shaped_of_RefB (by kernel_rfl) (by kernel_rfl)) (by kernel_rfl) (by kernel_rfl) (by kernel_rfl) (door_met os _)) ?_
  intro W base args ds gs before hval0 hW _ hsz0 hL _
  have hsz : (DataW.weightsEach Tryd.prog (Tryd.f4.params.toList ++ Rows.calendarMatchesDatesSpec.plain.varTypes Tryd.prog) (ds ++ gs)).all (· ≤ reachBytes) = true := hsz0
  have hval : ∀ (j : Nat) t v, Tryd.f4.params[j]? = some t → args[j]? = some v → Value.okWide Tryd.prog W .any base t v := hval0
  clear hsz0 hval0
  have hW' := hW
  obtain ⟨p, q, hA0, hV, rfl, hfz, hnd⟩ := hW
  have hA : DataW.TrodAll enc Tryd.prog W 0 (fun _ => true) true Tryd.f4.params.toList args.toList ds p := hA0
  rw [Tryd.params4] at hA hval hsz
  obtain ⟨v0, vs0, d0, ds0, p0, q0, hargs, rfl, rfl, h0, r0⟩ := trodAll_cons hA
  obtain ⟨v1, vs1, d1, ds1, p1, q1, rfl, rfl, rfl, h1, r1⟩ := trodAll_cons r0
  obtain ⟨v2, vs2, d2, ds2, p2, q2, rfl, rfl, rfl, h2, r2⟩ := trodAll_cons r1
  obtain ⟨v3, vs3, d3, ds3, p3, q3, rfl, rfl, rfl, h3, r3⟩ := trodAll_cons r2
  obtain ⟨rfl, rfl, rfl⟩ := trodAll_nil r3
  obtain rfl : args = #[v0, v1, v2, v3] := by cases args; simp_all
  obtain ⟨rfl, rfl⟩ := trodVars_none hV
  obtain ⟨Y0, M0, D0, rfl, rY0, rM0, rD0⟩ := openDt (hval 0 40 v0 rfl rfl) h0
  obtain ⟨a1, rfl, rfl, rfl, wf1⟩ := open_int Tryd.underlying3 (hval 1 3 v1 rfl rfl) h1
  have ru1 := i64_wf wf1
  obtain ⟨a2, rfl, rfl, rfl, wf2⟩ := open_int Tryd.underlying3 (hval 2 3 v2 rfl rfl) h2
  have ru2 := i64_wf wf2
  obtain ⟨a3, rfl, rfl, rfl, wf3⟩ := open_int Tryd.underlying3 (hval 3 3 v3 rfl rfl) h3
  have ru3 := i64_wf wf3
  clear hA0
  refine (walk Y0 M0 D0 a1 a2 a3 W (mok_of_laid hL) rY0 rM0 rD0 ru1 ru2 ru3).mono fun e W' ⟨he, hbw⟩ => ?_
  subst he
  refine ⟨_, rfl, post_law laidOut ?_ rfl rfl hW' rfl rfl rfl hbw⟩
  intro t ht
  rw [Tryd.params4] at ht
  have hm : t ∈ [3, 40] := by
    simp at ht
    rcases ht with rfl|rfl|rfl|rfl <;> simp
  have hall : ([3, 40].all fun u => Tryd.prog.readableRec u && decide (u < Tryd.prog.types.size)) = true := by kernel_rfl
  have := List.all_eq_true.1 hall t hm
  simpa using this

theorem over : Rows.calendarMatchesDatesRow.holds Tryd.pinned (OpenSpec.ofChange Rows.calendarMatchesDatesSpec) :=
  OpenClaim.holds_of_wide 4 Tryd.f4 rfl rfl rfl rfl rfl rfl rfl ⟨rfl, rfl, rfl, rfl, rfl⟩ rfl rfl rfl rfl rfl (by kernel_rfl) Tryd.func4 (by kernel_rfl)
    (of_decide_eq_true (by kernel_rfl)) (by unfold Func.isWrapper; first | (rw [if_pos (by decide +kernel)]; kernel_rfl) | (rw [if_neg (by decide +kernel)]; exact ⟨rfl, rfl⟩))
    (fun os started H enc _ => lifted os started H enc)

/-- THE STATEMENT. -/
theorem proved : Rows.CalendarMatchesDatesCardSaid :=
  Claim7.holds_tied_plain_at .later [] [.data] true (true, "364b556707f00daf4033d8d2c5686098de318f6eb3e3f6625036c7b768a91a03") false
    over (fun _ h => by cases h) (by kernel_rfl) (fun _ h => by cases h) calendarMatchesDates_row_tie rfl ⟨rfl, rfl⟩ (by kernel_rfl) rfl
    (fun f fn hf hfn => by
      obtain rfl : f = 4 := Option.some.inj ((show Tryd.prog.funcNamed "wagonpool/wagonpoollaw06.CalendarMatchesDates" = some 4 by kernel_rfl).symm.trans hf) |>.symm
      obtain rfl : fn = Tryd.f4 := (Option.some.inj (Tryd.func4.symm.trans hfn)).symm
      exact ⟨by kernel_rfl, fun j t ht => by
        rw [Tryd.params4] at ht
        have hm : t ∈ [3, 40] := by
          have := Array.mem_of_getElem? ht
          simp at this
          rcases this with rfl|rfl|rfl|rfl <;> simp
        have hall : ([3, 40].all fun u => !Tryd.prog.wantsStandIn u) = true := by kernel_rfl
        exact (show Tryd.prog.wantsStandIn t = false by simpa using List.all_eq_true.1 hall t hm)⟩)
    (by kernel_rfl)
#print axioms proved
end Go.Proofs.YtciopemodfpecaaDoor.calendarMatchesDates
