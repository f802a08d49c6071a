/-
  The statement 'Rows.CalendarAddsCardSaid': for all arguments the law returns true; the arguments read as they did. Condition: the table of the months' lengths lies as the program's text lays it.
-/
import Derived.Test.YtciopemodfpecaaDoorSn
import Derived.Test.YtciopemodfpecaaDoorKw
import Derived.Test.YtciopemodfpecaaDoorQp
import Derived.ChangeMaps5
namespace Go.Proofs.YtciopemodfpecaaDoor.calendarAdds
open Go.ChangeShapes Go.WideShapes Go.ChangeAt Go.RowKit
set_option linter.unusedVariables false
set_option linter.unusedSimpArgs false

set_option maxRecDepth 100000 in
set_option maxHeartbeats 16000000 in
theorem walk (cs : Array Value) (op : List (Int × Int)) (hol : List Int) (f m t : Int) (w : World) (hk : MOk w) (hc : Cal (fun k => k < w.heap.size) w cs op hol) (hf : I64 f) (hm : I64 m) (ht : I64 t) :
    Calls Tryd.prog 8 #[.agg cs, .int .i64 f, .int .i64 m, .int .i64 t] w fun e w' => e = .returned (.bool true) ∧ Below w.heap.size w w' := by
  have HK := Lib.hid ((Kw.nil hk).alsoC (Below.refl _ _) hc)
  have HS := Lib.hid hc.size; have HL := Lib.hid hc.len
  have hbx := heap_alloc_new w (.cells cs 27)
  have HF := Lib.hid hf; have HM := Lib.hid hm; have HT := Lib.hid ht
  obtain ⟨V, hV⟩ : ∃ V, V = fewB hol f t := ⟨_, rfl⟩
  have HV := Lib.hid hV
  have l_b : w.heap.size < (w.alloc (.cells cs 27)).heap.size := by rw [World.size_alloc]; omega
  clear hk hc hf hm ht hV
  go_enter Tryd.func8, Tryd.ntmps8
  replace HK := Lib.hid (HK.out.laid (.cells cs 27))
  have HCC := Lib.hid (sane_true (w.alloc (.cells cs 27)) HK.out.mok)
  go_wp2_with fail
  refine HCC.out.mono ?_
  rintro e w1 ⟨rfl, hb⟩
  replace hbx := (hb.block (w.heap.size) l_b).trans hbx
  replace l_b := Nat.lt_of_lt_of_le l_b hb.size
  replace HK := Lib.hid (HK.out.call hb)
  clear hb HCC
  have HCC := Lib.hid (few_any cs op hol f t w1 (HK.out.getC cs op hol (by with_reducible (repeat (first | exact List.mem_cons_self | refine List.mem_cons_of_mem _ ?_)))) HF.out HT.out V HV.out)
  go_wp2_with (refine wpList_load_row rfl 27 (.tmp 4) rfl w.heap.size rfl 27 cs (0, 0) _ hbx Tryd.underlying27 rfl (size27 HS.out) ?_)
  refine HCC.out.mono ?_
  rintro e w2 ⟨rfl, hb⟩
  replace hbx := (hb.block (w.heap.size) l_b).trans hbx
  replace l_b := Nat.lt_of_lt_of_le l_b hb.size
  replace HK := Lib.hid (HK.out.call hb)
  clear hb HCC
  by_cases cV : V = false
  · subst cV
    go_wp2_with (refine wpList_load_row rfl 27 (.tmp 4) rfl w.heap.size rfl 27 cs (0, 0) _ hbx Tryd.underlying27 rfl (size27 HS.out) ?_)
    go_ret
    exact ⟨rfl, HK.out.below⟩
  obtain rfl : V = true := by simpa using cV
  by_cases c1 : m < f
  · have d1 : decide (m < f) = true := decide_eq_true c1
    go_wp2_with (refine wpList_load_row rfl 27 (.tmp 4) rfl w.heap.size rfl 27 cs (0, 0) _ hbx Tryd.underlying27 rfl (size27 HS.out) ?_)
    go_ret
    exact ⟨rfl, HK.out.below⟩
  have d1 : decide (m < f) = false := decide_eq_false (c1)
  by_cases c2 : t < m
  · have d2 : decide (t < m) = true := decide_eq_true c2
    go_wp2_with (refine wpList_load_row rfl 27 (.tmp 4) rfl w.heap.size rfl 27 cs (0, 0) _ hbx Tryd.underlying27 rfl (size27 HS.out) ?_)
    go_ret
    exact ⟨rfl, HK.out.below⟩
  have d2 : decide (t < m) = false := decide_eq_false (c2)
  have hfw := few_true (hol := hol) (f := f) (t := t) HV.out (by omega)
  obtain ⟨E1, hE1⟩ : ∃ E, E = eR op hol f m := ⟨_, rfl⟩
  obtain ⟨E2, hE2⟩ : ∃ E, E = eR op hol m t := ⟨_, rfl⟩
  obtain ⟨E3, hE3⟩ : ∃ E, E = eR op hol f t := ⟨_, rfl⟩
  obtain ⟨N1, hN1⟩ : ∃ N, N = wV op hol f m := ⟨_, rfl⟩
  obtain ⟨N2, hN2⟩ : ∃ N, N = wV op hol m t := ⟨_, rfl⟩
  obtain ⟨N3, hN3⟩ : ∃ N, N = wV op hol f t := ⟨_, rfl⟩
  obtain ⟨L1, hL1⟩ : ∃ L, L = oV op hol f m := ⟨_, rfl⟩
  obtain ⟨L2, hL2⟩ : ∃ L, L = oV op hol m t := ⟨_, rfl⟩
  obtain ⟨L3, hL3⟩ : ∃ L, L = oV op hol f t := ⟨_, rfl⟩
  have hcs := adds_cases (op := op) (hol := hol) (f := f) (m := m) (t := t) HL.out hfw (by omega : f ≤ m) (by omega : m ≤ t)
  rw [← hE1, ← hE2, ← hE3, ← hN1, ← hN2, ← hN3, ← hL1, ← hL2, ← hL3] at hcs
  have HCS := Lib.hid hcs
  have P1 := Lib.hid hE1; have P2 := Lib.hid hE2; have P3 := Lib.hid hE3
  have Q1 := Lib.hid hN1; have Q2 := Lib.hid hN2; have Q3 := Lib.hid hN3
  have R1 := Lib.hid hL1; have R2 := Lib.hid hL2; have R3 := Lib.hid hL3
  clear hE1 hE2 hE3 hN1 hN2 hN3 hL1 hL2 hL3 hcs hfw
  have HCC := Lib.hid (working_any cs op hol f m w2 (HK.out.getC cs op hol (by with_reducible (repeat (first | exact List.mem_cons_self | refine List.mem_cons_of_mem _ ?_)))) HF.out HM.out E1 N1 P1.out Q1.out)
  go_wp2_with (refine wpList_load_row rfl 27 (.tmp 4) rfl w.heap.size rfl 27 cs (0, 0) _ hbx Tryd.underlying27 rfl (size27 HS.out) ?_)
  refine HCC.out.mono ?_
  rintro e w3 ⟨rfl, hb⟩
  replace hbx := (hb.block (w.heap.size) l_b).trans hbx
  replace l_b := Nat.lt_of_lt_of_le l_b hb.size
  replace HK := Lib.hid (HK.out.call hb)
  clear hb HCC
  have HCC := Lib.hid (working_any cs op hol m t w3 (HK.out.getC cs op hol (by with_reducible (repeat (first | exact List.mem_cons_self | refine List.mem_cons_of_mem _ ?_)))) HM.out HT.out E2 N2 P2.out Q2.out)
  go_wp2_with (refine wpList_load_row rfl 27 (.tmp 4) rfl w.heap.size rfl 27 cs (0, 0) _ hbx Tryd.underlying27 rfl (size27 HS.out) ?_)
  refine HCC.out.mono ?_
  rintro e w4 ⟨rfl, hb⟩
  replace hbx := (hb.block (w.heap.size) l_b).trans hbx
  replace l_b := Nat.lt_of_lt_of_le l_b hb.size
  replace HK := Lib.hid (HK.out.call hb)
  clear hb HCC
  have HCC := Lib.hid (working_any cs op hol f t w4 (HK.out.getC cs op hol (by with_reducible (repeat (first | exact List.mem_cons_self | refine List.mem_cons_of_mem _ ?_)))) HF.out HT.out E3 N3 P3.out Q3.out)
  go_wp2_with (refine wpList_load_row rfl 27 (.tmp 4) rfl w.heap.size rfl 27 cs (0, 0) _ hbx Tryd.underlying27 rfl (size27 HS.out) ?_)
  refine HCC.out.mono ?_
  rintro e w5 ⟨rfl, hb⟩
  replace hbx := (hb.block (w.heap.size) l_b).trans hbx
  replace l_b := Nat.lt_of_lt_of_le l_b hb.size
  replace HK := Lib.hid (HK.out.call hb)
  clear hb HCC
  have HCC := Lib.hid (open_any cs op hol f m w5 (HK.out.getC cs op hol (by with_reducible (repeat (first | exact List.mem_cons_self | refine List.mem_cons_of_mem _ ?_)))) HF.out HM.out E1 L1 P1.out R1.out)
  go_wp2_with (refine wpList_load_row rfl 27 (.tmp 4) rfl w.heap.size rfl 27 cs (0, 0) _ hbx Tryd.underlying27 rfl (size27 HS.out) ?_)
  refine HCC.out.mono ?_
  rintro e w6 ⟨v1, rfl, hb, hs⟩
  replace hbx := (hb.block (w.heap.size) l_b).trans hbx
  replace l_b := Nat.lt_of_lt_of_le l_b hb.size
  replace HK := Lib.hid (HK.out.also hb hs)
  clear hb hs HCC
  have HCC := Lib.hid (open_any cs op hol m t w6 (HK.out.getC cs op hol (by with_reducible (repeat (first | exact List.mem_cons_self | refine List.mem_cons_of_mem _ ?_)))) HM.out HT.out E2 L2 P2.out R2.out)
  go_wp2_with (refine wpList_load_row rfl 27 (.tmp 4) rfl w.heap.size rfl 27 cs (0, 0) _ hbx Tryd.underlying27 rfl (size27 HS.out) ?_)
  refine HCC.out.mono ?_
  rintro e w7 ⟨v2, rfl, hb, hs⟩
  replace hbx := (hb.block (w.heap.size) l_b).trans hbx
  replace l_b := Nat.lt_of_lt_of_le l_b hb.size
  replace HK := Lib.hid (HK.out.also hb hs)
  clear hb hs HCC
  have HCC := Lib.hid (open_any cs op hol f t w7 (HK.out.getC cs op hol (by with_reducible (repeat (first | exact List.mem_cons_self | refine List.mem_cons_of_mem _ ?_)))) HF.out HT.out E3 L3 P3.out R3.out)
  go_wp2_with (refine wpList_load_row rfl 27 (.tmp 4) rfl w.heap.size rfl 27 cs (0, 0) _ hbx Tryd.underlying27 rfl (size27 HS.out) ?_)
  refine HCC.out.mono ?_
  rintro e w8 ⟨v3, rfl, hb, hs⟩
  replace hbx := (hb.block (w.heap.size) l_b).trans hbx
  replace l_b := Nat.lt_of_lt_of_le l_b hb.size
  replace HK := Lib.hid (HK.out.also hb hs)
  clear hb hs HCC
  rcases HCS.out with ⟨h3, n3, l3⟩ | ⟨h1, h2, h3, hs, ht3, hch, hu, hl1, hl2, hl3, b1, b2⟩
  · subst h3 n3
    obtain ⟨o, c, hv⟩ := (HK.out.get (v3) (L3) (by with_reducible (repeat (first | exact List.mem_cons_self | refine List.mem_cons_of_mem _ ?_)))).shape
    subst hv l3
    clear HCS
    go_wp2_with (refine wpList_load_row rfl 27 (.tmp 4) rfl w.heap.size rfl 27 cs (0, 0) _ hbx Tryd.underlying27 rfl (size27 HS.out) ?_)
    go_ret
    exact ⟨rfl, HK.out.below⟩
  · subst h1 h2 h3
    have T1 := Lib.hid ht3; have T2 := Lib.hid hch; have T3 := Lib.hid hu
    have T4 := Lib.hid hl1; have T5 := Lib.hid hl2; have T6 := Lib.hid hl3; have T7 := Lib.hid hs
    have qs : IntKind.i64.wrap (N1 + N2) = N3 := by rw [IntKind.wrap_i64, ← hs]; omega
    have e1 : (N3 == N3) = true := by simp
    clear HCS ht3 hch hu hl1 hl2 hl3 hs
    have HCC := Lib.hid (minutes_s (HK.out.get (v3) (L3) (by with_reducible (repeat (first | exact List.mem_cons_self | refine List.mem_cons_of_mem _ ?_)))) (Nat.le_trans T6.out (by omega)) N3 T1.out)
    go_wp2_with (refine wpList_load_row rfl 27 (.tmp 4) rfl w.heap.size rfl 27 cs (0, 0) _ hbx Tryd.underlying27 rfl (size27 HS.out) ?_)
    refine HCC.out.mono ?_
    rintro e w9 ⟨rfl, hb⟩
    replace hbx := (hb.block (w.heap.size) l_b).trans hbx
    replace l_b := Nat.lt_of_lt_of_le l_b hb.size
    replace HK := Lib.hid (HK.out.call hb)
    clear hb HCC
    have HCC := Lib.hid (schk_s (HK.out.get (v3) (L3) (by with_reducible (repeat (first | exact List.mem_cons_self | refine List.mem_cons_of_mem _ ?_)))) 0 T2.out)
    go_wp2_with fail
    refine HCC.out.mono ?_
    rintro e w10 ⟨rfl, hb⟩
    replace hbx := (hb.block (w.heap.size) l_b).trans hbx
    replace l_b := Nat.lt_of_lt_of_le l_b hb.size
    replace HK := Lib.hid (HK.out.call hb)
    clear hb HCC
    have HCC := Lib.hid (union_s (HK.out.get (v1) (L1) (by with_reducible (repeat (first | exact List.mem_cons_self | refine List.mem_cons_of_mem _ ?_)))) (HK.out.get (v2) (L2) (by with_reducible (repeat (first | exact List.mem_cons_self | refine List.mem_cons_of_mem _ ?_)))) (by have := T4.out; have := T5.out; omega))
    go_wp2_with fail
    refine HCC.out.mono ?_
    rintro e w11 ⟨v4, rfl, hb, hs⟩
    replace hbx := (hb.block (w.heap.size) l_b).trans hbx
    replace l_b := Nat.lt_of_lt_of_le l_b hb.size
    replace HK := Lib.hid (HK.out.also hb hs)
    clear hb hs HCC
    have HCC := Lib.hid (lists_s (HK.out.get (v4) ((uniL L1 L2)) (by with_reducible (repeat (first | exact List.mem_cons_self | refine List.mem_cons_of_mem _ ?_)))) (HK.out.get (v3) (L3) (by with_reducible (repeat (first | exact List.mem_cons_self | refine List.mem_cons_of_mem _ ?_)))) true T3.out)
    go_wp2_with fail
    refine HCC.out.mono ?_
    rintro e w12 ⟨rfl, hb⟩
    replace hbx := (hb.block (w.heap.size) l_b).trans hbx
    replace l_b := Nat.lt_of_lt_of_le l_b hb.size
    replace HK := Lib.hid (HK.out.call hb)
    clear hb HCC
    go_wp2_with (refine wpList_load_row rfl 27 (.tmp 4) rfl w.heap.size rfl 27 cs (0, 0) _ hbx Tryd.underlying27 rfl (size27 HS.out) ?_)
    go_ret
    exact ⟨rfl, HK.out.below⟩

/-- The door's own heap meets the condition. -/
theorem door_met (os : Os) (args : Array Value) : laidMetH Tryd.prog Rows.calendarAddsRow.laid ((World.doorLaid Tryd.prog 400 os).forCall (fun _ _ => 0) ⟨#[], args, []⟩).memory :=
  laidMetH_of_parts3 (fuel := 8) (laidMet_of_run' 8 (by kernel_rfl) (by kernel_rfl)) (by kernel_rfl) (by kernel_rfl)

set_option maxRecDepth 100000 in
theorem lifted (os : Os) (started : os.Started) (H : Type) (enc : TypeId × Value → H) :
    ReturnsInHanded {} Tryd.checked os 8 .any (fun w args => (Rows.calendarAddsSpec.pre enc Tryd.prog Tryd.f8 [] false w args ∧ laidMetH Tryd.prog Rows.calendarAddsRow.laid w) ∧ sizedMet enc Tryd.prog Tryd.f8 (OpenSpec.ofChange Rows.calendarAddsSpec) false w args)
      (Rows.calendarAddsSpec.post enc Tryd.prog Tryd.f8 false true false false) := by
  refine returnsInHanded_of_change_and (C := Tryd.checked) (X := fun w _ => laidMetH Tryd.prog Rows.calendarAddsRow.laid w) (fun _ _ _ hh h => h.of_heap hh) own started (by kernel_rfl) Tryd.func8
    (ChangeSpec.witness_shaped (enc := enc) (C := Tryd.checked) (os := os) (X := fun w _ => laidMetH Tryd.prog Rows.calendarAddsRow.laid w) false (World.doorLaid Tryd.prog 400 os) #[.agg #[.int .i64 0, .int .i64 0, .int .i64 0, .int .i64 0, .int .i64 0, .int .i64 0, .int .i64 0, .int .i64 0, .int .i64 0, .int .i64 0, .int .i64 0, .int .i64 0, .int .i64 0, .int .i64 0, .slice none 0 0], .int .i64 0, .int .i64 0, .int .i64 0] 8 rfl (World.shaped_of_RefB (by kernel_rfl) (by kernel_rfl)) (by kernel_rfl) (by kernel_rfl) (by kernel_rfl) (door_met os _)) ?_
  intro W base args ds gs before hval0 hW _ hsz0 hL _
  have hsz : (DataW.weightsEach Tryd.prog (Tryd.f8.params.toList ++ Rows.calendarAddsSpec.plain.varTypes Tryd.prog) (ds ++ gs)).all (· ≤ reachBytes) = true := hsz0
  have hval : ∀ (j : Nat) t v, Tryd.f8.params[j]? = some t → args[j]? = some v → Value.okWide Tryd.prog W .any base t v := hval0
  clear hsz0 hval0
  have hW' := hW
  obtain ⟨p, q, hA0, hV, rfl, hfz, hnd⟩ := hW
  have hA : DataW.TrodAll enc Tryd.prog W 0 (fun _ => true) true Tryd.f8.params.toList args.toList ds p := hA0
  rw [Tryd.params8] at hA hval hsz
  obtain ⟨v0, vs0, d0, ds0, p0, q0, hargs, rfl, rfl, h0, r0⟩ := trodAll_cons hA
  obtain ⟨v1, vs1, d1, ds1, p1, q1, rfl, rfl, rfl, h1, r1⟩ := trodAll_cons r0
  obtain ⟨v2, vs2, d2, ds2, p2, q2, rfl, rfl, rfl, h2, r2⟩ := trodAll_cons r1
  obtain ⟨v3, vs3, d3, ds3, p3, q3, rfl, rfl, rfl, h3, r3⟩ := trodAll_cons r2
  obtain ⟨rfl, rfl, rfl⟩ := trodAll_nil r3
  obtain rfl : args = #[v0, v1, v2, v3] := by cases args; simp_all
  obtain ⟨rfl, rfl⟩ := trodVars_none hV
  have hw0 : ∀ n ∈ d0.weights Tryd.prog 27, n ≤ reachBytes := by
    intro n hn
    have := List.all_eq_true.1 hsz n (DataW.weights_mem_each (t := 27) (d := d0) (j := 0) rfl rfl n hn)
    simpa using this
  obtain ⟨cs0, op0, hol0, rfl, hc0⟩ := openCal (hval 0 27 v0 rfl rfl) h0 hw0
  obtain ⟨a1, rfl, rfl, rfl, wf1⟩ := open_int Tryd.underlying3 (hval 1 3 v1 rfl rfl) h1
  have ru1 := i64_wf wf1
  obtain ⟨a2, rfl, rfl, rfl, wf2⟩ := open_int Tryd.underlying3 (hval 2 3 v2 rfl rfl) h2
  have ru2 := i64_wf wf2
  obtain ⟨a3, rfl, rfl, rfl, wf3⟩ := open_int Tryd.underlying3 (hval 3 3 v3 rfl rfl) h3
  have ru3 := i64_wf wf3
  clear hA0
  refine (walk cs0 op0 hol0 a1 a2 a3 W (mok_of_laid hL) hc0 ru1 ru2 ru3).mono fun e W' ⟨he, hbw⟩ => ?_
  subst he
  refine ⟨_, rfl, post_law laidOut ?_ rfl rfl hW' rfl rfl rfl hbw⟩
  intro t ht
  rw [Tryd.params8] at ht
  have hm : t ∈ [3, 27] := by
    simp at ht
    rcases ht with rfl|rfl|rfl|rfl <;> simp
  have hall : ([3, 27].all fun u => Tryd.prog.readableRec u && decide (u < Tryd.prog.types.size)) = true := by kernel_rfl
  have := List.all_eq_true.1 hall t hm
  simpa using this

theorem over : Rows.calendarAddsRow.holds Tryd.pinned (OpenSpec.ofChange Rows.calendarAddsSpec) :=
  OpenClaim.holds_of_wide 8 Tryd.f8 rfl rfl rfl rfl rfl rfl rfl ⟨rfl, rfl, rfl, rfl, rfl⟩ rfl rfl rfl rfl rfl (by kernel_rfl) Tryd.func8 (by kernel_rfl)
    (of_decide_eq_true (by kernel_rfl)) (by unfold Func.isWrapper; first | (rw [if_pos (by decide +kernel)]; kernel_rfl) | (rw [if_neg (by decide +kernel)]; exact ⟨rfl, rfl⟩))
    (fun os started H enc _ => lifted os started H enc)

/-- THE STATEMENT. -/
theorem proved : Rows.CalendarAddsCardSaid :=
  Claim7.holds_tied_plain_at .later [] [.data] true (true, "364b556707f00daf4033d8d2c5686098de318f6eb3e3f6625036c7b768a91a03") false
    over (fun _ h => by cases h) (by kernel_rfl) (fun _ h => by cases h) calendarAdds_row_tie rfl ⟨rfl, rfl⟩ (by kernel_rfl) rfl
    (fun f fn hf hfn => by
      obtain rfl : f = 8 := Option.some.inj ((show Tryd.prog.funcNamed "wagonpool/wagonpoollaw06.CalendarAdds" = some 8 by kernel_rfl).symm.trans hf) |>.symm
      obtain rfl : fn = Tryd.f8 := (Option.some.inj (Tryd.func8.symm.trans hfn)).symm
      exact ⟨by kernel_rfl, fun j t ht => by
        rw [Tryd.params8] at ht
        have hm : t ∈ [3, 27] := by
          have := Array.mem_of_getElem? ht
          simp at this
          rcases this with rfl|rfl|rfl|rfl <;> simp
        have hall : ([3, 27].all fun u => !Tryd.prog.wantsStandIn u) = true := by kernel_rfl
        exact (show Tryd.prog.wantsStandIn t = false by simpa using List.all_eq_true.1 hall t hm)⟩)
    (by kernel_rfl)
#print axioms proved
end Go.Proofs.YtciopemodfpecaaDoor.calendarAdds
