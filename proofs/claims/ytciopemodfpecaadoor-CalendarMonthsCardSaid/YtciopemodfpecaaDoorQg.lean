/-
  The statement 'Rows.CalendarMonthsCardSaid': for all arguments the law returns true; the arguments read as they did. Condition: the table of the months' lengths lies as the program's text lays it.
-/
import Derived.Test.YtciopemodfpecaaDoorSn
import Derived.Test.YtciopemodfpecaaDoorKw
import Derived.Test.YtciopemodfpecaaDoorQh
import Derived.ChangeMaps5
namespace Go.Proofs.YtciopemodfpecaaDoor.calendarMonths
open Go.ChangeShapes Go.WideShapes Go.ChangeAt Go.RowKit
set_option linter.unusedVariables false
set_option linter.unusedSimpArgs false

set_option maxRecDepth 100000 in
set_option maxHeartbeats 16000000 in
theorem walk (k a : Int) (w : World) (hk : MOk w) (hk64 : I64 k) (ha : I64 a) :
    Calls Tryd.prog 6 #[.int .i64 k, .int .i64 a] w fun e w' => e = .returned (.bool true) ∧ Below w.heap.size w w' := by
  have HK := Lib.hid (Kw.nil hk)
  obtain ⟨F, T, E, hsu⟩ := su_exists k
  have HS := Lib.hid hsu; have BK := Lib.hid hk64
  have BL := Lib.hid (show I64 1073741824 by unfold I64; omega)
  clear hk hsu hk64
  go_enter Tryd.func6, Tryd.ntmps6
  have HCC := Lib.hid (sane_true w HK.out.mok)
  go_wp2_with fail
  refine HCC.out.mono ?_
  rintro e w1 ⟨rfl, hb⟩
  replace HK := Lib.hid (HK.out.call hb)
  clear hb HCC
  have HCC := Lib.hid (month_any 1073741824 24498 0 BL.out mu_last w1 HK.out.mok)
  go_wp2_with fail
  refine HCC.out.mono ?_
  rintro e w2 ⟨rfl, hb⟩
  replace HK := Lib.hid (HK.out.call hb)
  clear hb HCC
  have HCC := Lib.hid (monthSpan_any k F T E BK.out HS.out w2 HK.out.mok)
  go_wp2_with fail
  refine HCC.out.mono ?_
  rintro e w3 ⟨rfl, hb⟩
  replace HK := Lib.hid (HK.out.call hb)
  clear hb HCC
  replace HK := Lib.hid (HK.out.laid (.cells #[.int .i64 F, .int .i64 T] 23))
  obtain ⟨fa, fb⟩ := cell_new2 w3 (.int .i64 F) (.int .i64 T) 23 _ rfl
  have l_fa : w3.heap.size < (w3.alloc (.cells #[.int .i64 F, .int .i64 T] 23)).heap.size := by rw [World.size_alloc]; omega
  by_cases c1 : k < 0
  · have d1 : decide (k < 0) = true := decide_eq_true c1
    obtain rfl : E = 1 := by rcases HS.out with h | h <;> omega
    go_wp2
    go_ret
    exact ⟨rfl, HK.out.below⟩
  have d1 : decide (k < 0) = false := decide_eq_false (c1)
  by_cases c2 : 24498 < k
  · have d2 : decide (24498 < k) = true := decide_eq_true c2
    obtain rfl : E = 1 := by rcases HS.out with h | h <;> omega
    go_wp2
    go_ret
    exact ⟨rfl, HK.out.below⟩
  have d2 : decide (24498 < k) = false := decide_eq_false (c2)
  obtain ⟨hE, f1, f2, f3, hlast⟩ := su_facts (by omega) (by omega) HS.out
  subst hE
  have d3 : decide (F < 0) = false := decide_eq_false (by omega)
  have d4 : decide (T ≤ F) = false := decide_eq_false (by omega)
  have d5 : decide (1073741824 < T) = false := decide_eq_false (by omega)
  by_cases c3 : k = 24498
  · subst c3
    obtain rfl := hlast rfl
    clear HS BK
    go_wp2
    go_ret
    exact ⟨rfl, HK.out.below⟩
  clear hlast
  have b3 : (k == 24498) = false := by rw [beq_eq_false_iff_ne]; omega
  have b3n : (k != 24498) = true := by unfold bne; rw [b3]; rfl
  obtain ⟨F2, T2, E2, hsu2⟩ := su_exists (k + 1)
  obtain ⟨hE2, hF2, Q, hQ, q1, q2, hrange⟩ := su_next (by omega) (by omega) HS.out hsu2
  subst hE2 hF2
  have HS2 := Lib.hid hsu2
  have B2 := Lib.hid (show I64 (k + 1) by unfold I64; omega)
  obtain ⟨A, hA⟩ : ∃ A, A = IntKind.u64.wrap a := ⟨_, rfl⟩
  have hA0 : 0 ≤ A ∧ A < 18446744073709551616 := by rw [hA, IntKind.wrap_u64]; omega
  obtain ⟨R, hR⟩ : ∃ R, R = A % (1440 * Q) := ⟨_, rfl⟩
  have hR0 : 0 ≤ R ∧ R < 1440 * Q := by rw [hR]; exact ⟨Int.emod_nonneg _ (by omega), Int.emod_lt_of_pos _ (by omega)⟩
  have HMU := Lib.hid (hrange (F + R) (by omega) (by omega))
  have B4 := Lib.hid (show I64 (F + R) by unfold I64; omega)
  have s0 : A.tmod (1440 * Q) = R := by rw [hR]; exact Int.tmod_eq_emod_of_nonneg hA0.1
  have s1 : IntKind.u64.wrap a = A := hA.symm
  have s2 : IntKind.i64.wrap (T - F) = 1440 * Q := by rw [IntKind.wrap_i64]; omega
  have s3 : IntKind.u64.wrap (1440 * Q) = 1440 * Q := by rw [IntKind.wrap_u64]; omega
  have s4 : IntKind.i64.wrap R = R := by rw [IntKind.wrap_i64]; omega
  have s5 : IntKind.i64.wrap (F + R) = F + R := by rw [IntKind.wrap_i64]; omega
  have s6 : IntKind.u64.wrap R = R := by rw [IntKind.wrap_u64]; omega
  have s7 : (1440 * Q == 0) = false := by rw [beq_eq_false_iff_ne]; omega
  have s8 : ¬ 1440 * Q = 0 := by omega
  have s9 : (1440 * Q).tdiv 1440 = Q := by rw [Int.tdiv_eq_ediv_of_nonneg (by omega)]; omega
  have s10 : IntKind.i64.wrap Q = Q := by rw [IntKind.wrap_i64]; omega
  have s11 : IntKind.i64.wrap (1440 * Q) = 1440 * Q := by rw [IntKind.wrap_i64]; omega
  have s12 : IntKind.i64.wrap (k + 1) = k + 1 := by rw [IntKind.wrap_i64]; omega
  have d6 : decide (28 ≤ Q) = true := decide_eq_true q1
  have d7 : decide (Q ≤ 31) = true := decide_eq_true q2
  have s13 : decide (0 < k) = true ∨ (decide (0 < k) = false ∧ (F == 0) = true) := su_pos (by omega) HS.out
  have HR := Lib.hid hR; have HA := Lib.hid hA; have HQ := Lib.hid hQ; have H13 := Lib.hid s13
  clear hR hA hQ hsu2 hrange s13
  have r0 : (T == T) = true := by simp
  have r0n : (T != T) = false := by unfold bne; rw [r0]; rfl
  have r1 : (k == k) = true := by simp
  have r1n : (k != k) = false := by unfold bne; rw [r1]; rfl
  have r2 : (1440 * Q == 1440 * Q) = true := by simp
  have r2n : (1440 * Q != 1440 * Q) = false := by unfold bne; rw [r2]; rfl
  have HCC := Lib.hid (monthSpan_any (k + 1) T T2 0 B2.out HS2.out (w3.alloc (.cells #[.int .i64 F, .int .i64 T] 23)) HK.out.mok)
  go_wp2_with fail
  refine HCC.out.mono ?_
  rintro e w4 ⟨rfl, hb⟩
  replace fa := (hb.cell (p := ⟨w3.heap.size, 0, none⟩) l_fa).trans fa
  replace fb := (hb.cell (p := ⟨w3.heap.size, 1, none⟩) l_fa).trans fb
  replace l_fa := Nat.lt_of_lt_of_le l_fa hb.size
  replace HK := Lib.hid (HK.out.call hb)
  clear hb HCC
  replace fa := cellA (.cells #[.int .i64 T, .int .i64 T2] 23) fa
  replace fb := cellA (.cells #[.int .i64 T, .int .i64 T2] 23) fb
  replace l_fa := ltA (.cells #[.int .i64 T, .int .i64 T2] 23) l_fa
  replace HK := Lib.hid (HK.out.laid (.cells #[.int .i64 T, .int .i64 T2] 23))
  obtain ⟨ga, gb⟩ := cell_new2 w4 (.int .i64 T) (.int .i64 T2) 23 _ rfl
  have l_ga : w4.heap.size < (w4.alloc (.cells #[.int .i64 T, .int .i64 T2] 23)).heap.size := by rw [World.size_alloc]; omega
  go_wp2_with fail
  go_quiet (fail)
  obtain ⟨wq, hwq⟩ : ∃ wq, wq = (w4.alloc (.cells #[.int .i64 T, .int .i64 T2] 23)).drewN nq := ⟨_, rfl⟩
  rw [← hwq]
  replace HK := Lib.hid (HK.out.call (bdrewN (Below.refl _ _) nq))
  rw [← hwq] at HK
  replace fa : wq.cell? ⟨w3.heap.size, 0, none⟩ = some (.int .i64 F) := by rw [hwq]; exact fa
  replace fb : wq.cell? ⟨w3.heap.size, 1, none⟩ = some (.int .i64 T) := by rw [hwq]; exact fb
  replace ga : wq.cell? ⟨w4.heap.size, 0, none⟩ = some (.int .i64 T) := by rw [hwq]; exact ga
  replace gb : wq.cell? ⟨w4.heap.size, 1, none⟩ = some (.int .i64 T2) := by rw [hwq]; exact gb
  replace l_fa : w3.heap.size < wq.heap.size := by rw [hwq]; exact l_fa
  replace l_ga : w4.heap.size < wq.heap.size := by rw [hwq]; exact l_ga
  clear hwq
  have HCC := Lib.hid (month_any (F + R) k 0 B4.out HMU.out wq HK.out.mok)
  go_wp2_with fail
  refine HCC.out.mono ?_
  rintro e w5 ⟨rfl, hb⟩
  replace fa := (hb.cell (p := ⟨w3.heap.size, 0, none⟩) l_fa).trans fa
  replace fb := (hb.cell (p := ⟨w3.heap.size, 1, none⟩) l_fa).trans fb
  replace ga := (hb.cell (p := ⟨w4.heap.size, 0, none⟩) l_ga).trans ga
  replace gb := (hb.cell (p := ⟨w4.heap.size, 1, none⟩) l_ga).trans gb
  replace l_fa := Nat.lt_of_lt_of_le l_fa hb.size
  replace l_ga := Nat.lt_of_lt_of_le l_ga hb.size
  replace HK := Lib.hid (HK.out.call hb)
  clear hb HCC
  rcases H13.out with h | ⟨h, h'⟩
  · clear H13
    go_wp2
    go_ret
    exact ⟨rfl, HK.out.below⟩
  · clear H13
    go_wp2
    go_ret
    exact ⟨rfl, HK.out.below⟩

/-- The door's own heap meets the condition. -/
theorem door_met (os : Os) (args : Array Value) : laidMetH Tryd.prog Rows.calendarMonthsRow.laid ((World.doorLaid Tryd.prog 400 os).forCall (fun _ _ => 0) ⟨#[], args, []⟩).memory :=
  laidMetH_of_parts3 (fuel := 8) (laidMet_of_run' 8 (by kernel_rfl) (by kernel_rfl)) (by kernel_rfl) (by kernel_rfl)

set_option maxRecDepth 100000 in
theorem lifted (os : Os) (started : os.Started) (H : Type) (enc : TypeId × Value → H) :
    ReturnsInHanded {} Tryd.checked os 6 .any (fun w args => (Rows.calendarMonthsSpec.pre enc Tryd.prog Tryd.f6 [] false w args ∧ laidMetH Tryd.prog Rows.calendarMonthsRow.laid w) ∧ sizedMet enc Tryd.prog Tryd.f6 (OpenSpec.ofChange Rows.calendarMonthsSpec) false w args)
      (Rows.calendarMonthsSpec.post enc Tryd.prog Tryd.f6 false true false false) := by
  refine returnsInHanded_of_change_and (C := Tryd.checked) (X := fun w _ => laidMetH Tryd.prog Rows.calendarMonthsRow.laid w) (fun _ _ _ hh h => h.of_heap hh) own started (by kernel_rfl) Tryd.func6
    (ChangeSpec.witness_shaped (enc := enc) (C := Tryd.checked) (os := os) (X := fun w _ => laidMetH Tryd.prog Rows.calendarMonthsRow.laid w) false (World.doorLaid Tryd.prog 400 os) #[.int .i64 0, .int .i64 0] 8 rfl (World.shaped_of_RefB (by kernel_rfl) (by kernel_rfl)) (by kernel_rfl) (by kernel_rfl) (by kernel_rfl) (door_met os _)) ?_
  intro W base args ds gs before hval0 hW _ hsz0 hL _
  have hsz : (DataW.weightsEach Tryd.prog (Tryd.f6.params.toList ++ Rows.calendarMonthsSpec.plain.varTypes Tryd.prog) (ds ++ gs)).all (· ≤ reachBytes) = true := hsz0
  have hval : ∀ (j : Nat) t v, Tryd.f6.params[j]? = some t → args[j]? = some v → Value.okWide Tryd.prog W .any base t v := hval0
  clear hsz0 hval0
  have hW' := hW
  obtain ⟨p, q, hA0, hV, rfl, hfz, hnd⟩ := hW
  have hA : DataW.TrodAll enc Tryd.prog W 0 (fun _ => true) true Tryd.f6.params.toList args.toList ds p := hA0
  rw [Tryd.params6] at hA hval hsz
  obtain ⟨v0, vs0, d0, ds0, p0, q0, hargs, rfl, rfl, h0, r0⟩ := trodAll_cons hA
  obtain ⟨v1, vs1, d1, ds1, p1, q1, rfl, rfl, rfl, h1, r1⟩ := trodAll_cons r0
  obtain ⟨rfl, rfl, rfl⟩ := trodAll_nil r1
  obtain rfl : args = #[v0, v1] := by cases args; simp_all
  obtain ⟨rfl, rfl⟩ := trodVars_none hV
  obtain ⟨a0, rfl, rfl, rfl, wf0⟩ := open_int Tryd.underlying3 (hval 0 3 v0 rfl rfl) h0
  have ru0 := i64_wf wf0
  obtain ⟨a1, rfl, rfl, rfl, wf1⟩ := open_int Tryd.underlying3 (hval 1 3 v1 rfl rfl) h1
  have ru1 := i64_wf wf1
  clear hA0
  refine (walk a0 a1 W (mok_of_laid hL) ru0 ru1).mono fun e W' ⟨he, hbw⟩ => ?_
  subst he
  refine ⟨_, rfl, post_law laidOut ?_ rfl rfl hW' rfl rfl rfl hbw⟩
  intro t ht
  rw [Tryd.params6] at ht
  have hm : t ∈ [3] := by
    simp at ht
    rcases ht with rfl|rfl <;> simp
  have hall : ([3].all fun u => Tryd.prog.readableRec u && decide (u < Tryd.prog.types.size)) = true := by kernel_rfl
  have := List.all_eq_true.1 hall t hm
  simpa using this

theorem over : Rows.calendarMonthsRow.holds Tryd.pinned (OpenSpec.ofChange Rows.calendarMonthsSpec) :=
  OpenClaim.holds_of_wide 6 Tryd.f6 rfl rfl rfl rfl rfl rfl rfl ⟨rfl, rfl, rfl, rfl, rfl⟩ rfl rfl rfl rfl rfl (by kernel_rfl) Tryd.func6 (by kernel_rfl)
    (of_decide_eq_true (by kernel_rfl)) (by unfold Func.isWrapper; first | (rw [if_pos (by decide +kernel)]; kernel_rfl) | (rw [if_neg (by decide +kernel)]; exact ⟨rfl, rfl⟩))
    (fun os started H enc _ => lifted os started H enc)

/-- THE STATEMENT. -/
theorem proved : Rows.CalendarMonthsCardSaid :=
  Claim7.holds_tied_plain_at .later [] [.data] true (true, "364b556707f00daf4033d8d2c5686098de318f6eb3e3f6625036c7b768a91a03") false
    over (fun _ h => by cases h) (by kernel_rfl) (fun _ h => by cases h) calendarMonths_row_tie rfl ⟨rfl, rfl⟩ (by kernel_rfl) rfl
    (fun f fn hf hfn => by
      obtain rfl : f = 6 := Option.some.inj ((show Tryd.prog.funcNamed "wagonpool/wagonpoollaw06.CalendarMonths" = some 6 by kernel_rfl).symm.trans hf) |>.symm
      obtain rfl : fn = Tryd.f6 := (Option.some.inj (Tryd.func6.symm.trans hfn)).symm
      exact ⟨by kernel_rfl, fun j t ht => by
        rw [Tryd.params6] at ht
        have hm : t ∈ [3] := by
          have := Array.mem_of_getElem? ht
          simp at this
          rcases this with rfl|rfl <;> simp
        have hall : ([3].all fun u => !Tryd.prog.wantsStandIn u) = true := by kernel_rfl
        exact (show Tryd.prog.wantsStandIn t = false by simpa using List.all_eq_true.1 hall t hm)⟩)
    (by kernel_rfl)
#print axioms proved
end Go.Proofs.YtciopemodfpecaaDoor.calendarMonths
