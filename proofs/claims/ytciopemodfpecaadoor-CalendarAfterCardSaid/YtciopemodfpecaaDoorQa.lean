/-
  The statement 'Rows.CalendarAfterCardSaid': for all arguments the law returns true; the arguments read as they did. Condition: the table of the months' lengths lies as the program's text lays it.
-/
import Derived.Test.YtciopemodfpecaaDoorSn
import Derived.Test.YtciopemodfpecaaDoorKw
import Derived.Test.YtciopemodfpecaaDoorQp
import Derived.ChangeMaps5
namespace Go.Proofs.YtciopemodfpecaaDoor.calendarAfter
open Go.ChangeShapes Go.WideShapes Go.ChangeAt Go.RowKit
set_option linter.unusedVariables false
set_option linter.unusedSimpArgs false

set_option maxRecDepth 100000 in
set_option maxHeartbeats 16000000 in
theorem walk (cs : Array Value) (op : List (Int × Int)) (hol : List Int) (f n : Int) (w : World) (hk : MOk w) (hc : Cal (fun k => k < w.heap.size) w cs op hol) (hf : I64 f) (hn : I64 n) :
    Calls Tryd.prog 7 #[.agg cs, .int .i64 f, .int .i64 n] w fun e w' => e = .returned (.bool true) ∧ Below w.heap.size w w' := by
  have HK := Lib.hid ((Kw.nil hk).alsoC (Below.refl _ _) hc)
  have HS := Lib.hid hc.size; have HL := Lib.hid hc.len
  have hbx := heap_alloc_new w (.cells cs 27)
  obtain ⟨_, _, a, cap, hc14, hhl⟩ := hc.box hbx
  obtain ⟨N, hN⟩ : ∃ N, N = hol.length := ⟨_, rfl⟩
  have hnn := hhl.1
  rw [← hN] at hc14 hnn
  obtain ⟨A, hA⟩ : ∃ A, A = aV op hol f n := ⟨_, rfl⟩
  obtain ⟨E, hE⟩ : ∃ E, E = aE op hol f n := ⟨_, rfl⟩
  have HF := Lib.hid hf; have HNN := Lib.hid hn; have H1 := Lib.hid hA; have H2 := Lib.hid hE; have H3 := Lib.hid hN
  have hcs := aft_cases op hol f n hc.len
  rw [← hA, ← hE] at hcs
  have HCS := Lib.hid hcs
  have l_b : w.heap.size < (w.alloc (.cells cs 27)).heap.size := by rw [World.size_alloc]; omega
  clear hk hc hhl hA hE hN hcs hf hn
  go_enter Tryd.func7, Tryd.ntmps7
  replace HK := Lib.hid (HK.out.laid (.cells cs 27))
  have HCC := Lib.hid (sane_true (w.alloc (.cells cs 27)) HK.out.mok)
  go_wp2_with fail
  refine HCC.out.mono ?_
  rintro e w1 ⟨rfl, hb⟩
  replace hbx := (hb.block (w.heap.size) l_b).trans hbx
  replace hc14 := (hb.cell (p := ⟨w.heap.size, 14, none⟩) l_b).trans hc14
  replace l_b := Nat.lt_of_lt_of_le l_b hb.size
  replace HK := Lib.hid (HK.out.call hb)
  clear hb HCC
  have HCC := Lib.hid (after_any cs op hol f n w1 (HK.out.getC cs op hol (by with_reducible (repeat (first | exact List.mem_cons_self | refine List.mem_cons_of_mem _ ?_)))) HF.out HNN.out A E H1.out H2.out)
  go_wp2_with (refine wpList_load_row rfl 27 (.tmp 3) rfl w.heap.size rfl 27 cs (0, 0) _ hbx Tryd.underlying27 rfl (size27 HS.out) ?_)
  refine HCC.out.mono ?_
  rintro e w2 ⟨rfl, hb⟩
  replace hbx := (hb.block (w.heap.size) l_b).trans hbx
  replace hc14 := (hb.cell (p := ⟨w.heap.size, 14, none⟩) l_b).trans hc14
  replace l_b := Nat.lt_of_lt_of_le l_b hb.size
  replace HK := Lib.hid (HK.out.call hb)
  clear hb HCC
  by_cases c0 : 300 < N
  · have c0' : (300 : Int) < (N : Int) := by omega
    have d0 : decide ((300 : Int) < (N : Int)) = true := decide_eq_true (by omega)
    clear HCS
    go_wp2_with (refine wpList_load_row rfl 27 (.tmp 3) rfl w.heap.size rfl 27 cs (0, 0) _ hbx Tryd.underlying27 rfl (size27 HS.out) ?_)
    go_ret
    exact ⟨rfl, HK.out.below⟩
  have c0' : ¬ (300 : Int) < (N : Int) := by omega
  have d0 : decide ((300 : Int) < (N : Int)) = false := decide_eq_false (c0')
  rcases HCS.out with he | ⟨he, hn0, hA, hok⟩ | ⟨he, hn0, hok, hadv⟩
  · have b0 : (E != 0) = true := by simp [he]
    have b1 : (E == 0) = false := by simp [he]
    clear HCS
    go_wp2_with (refine wpList_load_row rfl 27 (.tmp 3) rfl w.heap.size rfl 27 cs (0, 0) _ hbx Tryd.underlying27 rfl (size27 HS.out) ?_)
    go_ret
    exact ⟨rfl, HK.out.below⟩
  · subst he
    subst hn0
    have hA' := Lib.hid hA
    obtain rfl : A = f := hA
    have hcs0 := zero_cases HL.out hok
    obtain ⟨p1, p2, p3, p4, p5⟩ := hcs0
    have P1 := Lib.hid p1; have P2 := Lib.hid p2; have P3 := Lib.hid p3
    clear HCS hok p1 p2 p3 hA'
    have c1 : ¬ (20000 : Int) < 0 := by omega
    have c2 : ¬ (576000 : Int) < A - A := by omega
    have q0 : A - A = 0 := by omega
    have qw : IntKind.i64.wrap (A - A) = 0 := by rw [q0]; rfl
    have d3 : decide (A < 0) = false := decide_eq_false (by omega)
    have d4 : decide (A < A) = false := decide_eq_false (by omega)
    have d5 : decide ((1073741824 : Int) < A) = false := decide_eq_false (by omega)
    have d6 : decide (A < 0) = false := decide_eq_false (by omega)
    have e1 : (A != A) = false := by simp
    have e2 : (A == A) = true := by simp
    have HCC := Lib.hid (working_any cs op hol A A w2 (HK.out.getC cs op hol (by with_reducible (repeat (first | exact List.mem_cons_self | refine List.mem_cons_of_mem _ ?_)))) HF.out HF.out 0 0 P1.out P2.out)
    go_wp2_with (refine wpList_load_row rfl 27 (.tmp 3) rfl w.heap.size rfl 27 cs (0, 0) _ hbx Tryd.underlying27 rfl (size27 HS.out) ?_)
    refine HCC.out.mono ?_
    rintro e w3 ⟨rfl, hb⟩
    replace hbx := (hb.block (w.heap.size) l_b).trans hbx
    replace hc14 := (hb.cell (p := ⟨w.heap.size, 14, none⟩) l_b).trans hc14
    replace l_b := Nat.lt_of_lt_of_le l_b hb.size
    replace HK := Lib.hid (HK.out.call hb)
    clear hb HCC
    have HCC := Lib.hid (open_any cs op hol A A w3 (HK.out.getC cs op hol (by with_reducible (repeat (first | exact List.mem_cons_self | refine List.mem_cons_of_mem _ ?_)))) HF.out HF.out 0 [] P1.out P3.out)
    go_wp2_with (refine wpList_load_row rfl 27 (.tmp 3) rfl w.heap.size rfl 27 cs (0, 0) _ hbx Tryd.underlying27 rfl (size27 HS.out) ?_)
    refine HCC.out.mono ?_
    rintro e w4 ⟨v1, rfl, hb, hs⟩
    replace hbx := (hb.block (w.heap.size) l_b).trans hbx
    replace hc14 := (hb.cell (p := ⟨w.heap.size, 14, none⟩) l_b).trans hc14
    replace l_b := Nat.lt_of_lt_of_le l_b hb.size
    replace HK := Lib.hid (HK.out.also hb hs)
    clear hb hs HCC
    have HCC := Lib.hid (advance_s (HK.out.get (v1) ([]) (by with_reducible (repeat (first | exact List.mem_cons_self | refine List.mem_cons_of_mem _ ?_)))) (by simp) A 0 HF.out HNN.out A true (by simp [advM]) (by simp [advB]))
    go_wp2_with fail
    refine HCC.out.mono ?_
    rintro e w5 ⟨rfl, hb⟩
    replace hbx := (hb.block (w.heap.size) l_b).trans hbx
    replace hc14 := (hb.cell (p := ⟨w.heap.size, 14, none⟩) l_b).trans hc14
    replace l_b := Nat.lt_of_lt_of_le l_b hb.size
    replace HK := Lib.hid (HK.out.call hb)
    clear hb HCC
    go_wp2_with (refine wpList_load_row rfl 27 (.tmp 3) rfl w.heap.size rfl 27 cs (0, 0) _ hbx Tryd.underlying27 rfl (size27 HS.out) ?_)
    go_ret
    exact ⟨rfl, HK.out.below⟩
  · subst he
    by_cases c1 : 20000 < n
    · have d1 : decide ((20000 : Int) < n) = true := decide_eq_true c1
      clear HCS
      go_wp2_with (refine wpList_load_row rfl 27 (.tmp 3) rfl w.heap.size rfl 27 cs (0, 0) _ hbx Tryd.underlying27 rfl (size27 HS.out) ?_)
      go_ret
      exact ⟨rfl, HK.out.below⟩
    have d1 : decide ((20000 : Int) < n) = false := decide_eq_false (c1)
    obtain ⟨p0, p00, p1, p2, p3, p4, p5, p6, p7⟩ := pos_cases HL.out hok hn0 hadv
    have qw : IntKind.i64.wrap (A - f) = A - f := by rw [IntKind.wrap_i64]; omega
    by_cases c2 : 576000 < A - f
    · have d2 : decide ((576000 : Int) < A - f) = true := decide_eq_true c2
      clear HCS hadv p1 p2 p3 p4 p5 p6 hok
      go_wp2_with (refine wpList_load_row rfl 27 (.tmp 3) rfl w.heap.size rfl 27 cs (0, 0) _ hbx Tryd.underlying27 rfl (size27 HS.out) ?_)
      go_ret
      exact ⟨rfl, HK.out.below⟩
    have d2 : decide ((576000 : Int) < A - f) = false := decide_eq_false (c2)
    have hlen := oV_len op hol f A HL.out (by omega)
    have qv : IntKind.i64.wrap (A - 1) = A - 1 := by rw [IntKind.wrap_i64]; omega
    have qn : IntKind.i64.wrap (n - 1) = n - 1 := by rw [IntKind.wrap_i64]; omega
    have i1 : I64 A := by unfold I64; omega
    have i2 : I64 (A - 1) := by unfold I64; omega
    obtain ⟨L, hL⟩ : ∃ L, L = oV op hol f A := ⟨_, rfl⟩
    rw [← hL] at hlen p3 p4
    have P1 := Lib.hid p1; have P2 := Lib.hid p2; have PL := Lib.hid hL; have P3 := Lib.hid p3; have P4 := Lib.hid p4; have P5 := Lib.hid p5; have P6 := Lib.hid p6; have HLEN := Lib.hid hlen; have I1 := Lib.hid i1; have I2 := Lib.hid i2
    clear HCS hadv hok p1 p2 p3 p4 p5 p6 hL hlen i1 i2
    have d3 : decide (n < 0) = false := decide_eq_false (by omega)
    have d4 : decide (f < 0) = false := decide_eq_false (by omega)
    have d5 : decide (A < f) = false := decide_eq_false (by omega)
    have d6 : decide ((1073741824 : Int) < A) = false := decide_eq_false (by omega)
    have d7 : decide (f < A) = true := decide_eq_true (by omega)
    have e1 : (A != A) = false := by simp
    have e2 : (A == A) = true := by simp
    have e3 : (n != n) = false := by simp
    have e4 : (n == n) = true := by simp
    have e5 : (n == 0) = false := by simp; omega
    have e6 : (n - 1 == n - 1) = true := by simp
    have HCC := Lib.hid (working_any cs op hol f A w2 (HK.out.getC cs op hol (by with_reducible (repeat (first | exact List.mem_cons_self | refine List.mem_cons_of_mem _ ?_)))) HF.out I1.out 0 n P1.out P2.out)
    go_wp2_with (refine wpList_load_row rfl 27 (.tmp 3) rfl w.heap.size rfl 27 cs (0, 0) _ hbx Tryd.underlying27 rfl (size27 HS.out) ?_)
    refine HCC.out.mono ?_
    rintro e w3 ⟨rfl, hb⟩
    replace hbx := (hb.block (w.heap.size) l_b).trans hbx
    replace hc14 := (hb.cell (p := ⟨w.heap.size, 14, none⟩) l_b).trans hc14
    replace l_b := Nat.lt_of_lt_of_le l_b hb.size
    replace HK := Lib.hid (HK.out.call hb)
    clear hb HCC
    have HCC := Lib.hid (open_any cs op hol f A w3 (HK.out.getC cs op hol (by with_reducible (repeat (first | exact List.mem_cons_self | refine List.mem_cons_of_mem _ ?_)))) HF.out I1.out 0 L P1.out PL.out)
    go_wp2_with (refine wpList_load_row rfl 27 (.tmp 3) rfl w.heap.size rfl 27 cs (0, 0) _ hbx Tryd.underlying27 rfl (size27 HS.out) ?_)
    refine HCC.out.mono ?_
    rintro e w4 ⟨v1, rfl, hb, hs⟩
    replace hbx := (hb.block (w.heap.size) l_b).trans hbx
    replace hc14 := (hb.cell (p := ⟨w.heap.size, 14, none⟩) l_b).trans hc14
    replace l_b := Nat.lt_of_lt_of_le l_b hb.size
    replace HK := Lib.hid (HK.out.also hb hs)
    clear hb hs HCC
    have HCC := Lib.hid (advance_s (HK.out.get (v1) (L) (by with_reducible (repeat (first | exact List.mem_cons_self | refine List.mem_cons_of_mem _ ?_)))) (Nat.le_trans HLEN.out (by omega)) f n HF.out HNN.out A true P3.out P4.out)
    go_wp2_with fail
    refine HCC.out.mono ?_
    rintro e w5 ⟨rfl, hb⟩
    replace hbx := (hb.block (w.heap.size) l_b).trans hbx
    replace hc14 := (hb.cell (p := ⟨w.heap.size, 14, none⟩) l_b).trans hc14
    replace l_b := Nat.lt_of_lt_of_le l_b hb.size
    replace HK := Lib.hid (HK.out.call hb)
    clear hb HCC
    have HCC := Lib.hid (working_any cs op hol f (A - 1) w5 (HK.out.getC cs op hol (by with_reducible (repeat (first | exact List.mem_cons_self | refine List.mem_cons_of_mem _ ?_)))) HF.out I2.out 0 (n - 1) P5.out P6.out)
    go_wp2_with (refine wpList_load_row rfl 27 (.tmp 3) rfl w.heap.size rfl 27 cs (0, 0) _ hbx Tryd.underlying27 rfl (size27 HS.out) ?_)
    refine HCC.out.mono ?_
    rintro e w6 ⟨rfl, hb⟩
    replace hbx := (hb.block (w.heap.size) l_b).trans hbx
    replace hc14 := (hb.cell (p := ⟨w.heap.size, 14, none⟩) l_b).trans hc14
    replace l_b := Nat.lt_of_lt_of_le l_b hb.size
    replace HK := Lib.hid (HK.out.call hb)
    clear hb HCC
    go_wp2_with (refine wpList_load_row rfl 27 (.tmp 3) rfl w.heap.size rfl 27 cs (0, 0) _ hbx Tryd.underlying27 rfl (size27 HS.out) ?_)
    go_ret
    exact ⟨rfl, HK.out.below⟩

/-- The door's own heap meets the condition. -/
theorem door_met (os : Os) (args : Array Value) : laidMetH Tryd.prog Rows.calendarAfterRow.laid ((World.doorLaid Tryd.prog 400 os).forCall (fun _ _ => 0) ⟨#[], args, []⟩).memory :=
  laidMetH_of_parts3 (fuel := 8) (laidMet_of_run' 8 (by kernel_rfl) (by kernel_rfl)) (by kernel_rfl) (by kernel_rfl)

set_option maxRecDepth 100000 in
theorem lifted (os : Os) (started : os.Started) (H : Type) (enc : TypeId × Value → H) :
    ReturnsInHanded {} Tryd.checked os 7 .any (fun w args => (Rows.calendarAfterSpec.pre enc Tryd.prog Tryd.f7 [] false w args ∧ laidMetH Tryd.prog Rows.calendarAfterRow.laid w) ∧ sizedMet enc Tryd.prog Tryd.f7 (OpenSpec.ofChange Rows.calendarAfterSpec) false w args)
      (Rows.calendarAfterSpec.post enc Tryd.prog Tryd.f7 false true false false) := by
  refine returnsInHanded_of_change_and (C := Tryd.checked) (X := fun w _ => laidMetH Tryd.prog Rows.calendarAfterRow.laid w) (fun _ _ _ hh h => h.of_heap hh) own started (by kernel_rfl) Tryd.func7
    (ChangeSpec.witness_shaped (enc := enc) (C := Tryd.checked) (os := os) (X := fun w _ => laidMetH Tryd.prog Rows.calendarAfterRow.laid w) false (World.doorLaid Tryd.prog 400 os) #[.agg #[.int .i64 0, .int .i64 0, .int .i64 0, .int .i64 0, .int .i64 0, .int .i64 0, .int .i64 0, .int .i64 0, .int .i64 0, .int .i64 0, .int .i64 0, .int .i64 0, .int .i64 0, .int .i64 0, .slice none 0 0], .int .i64 0, .int .i64 0] 8 rfl (World.shaped_of_RefB (by kernel_rfl) (by kernel_rfl)) (by kernel_rfl) (by kernel_rfl) (by kernel_rfl) (door_met os _)) ?_
  intro W base args ds gs before hval0 hW _ hsz0 hL _
  have hsz : (DataW.weightsEach Tryd.prog (Tryd.f7.params.toList ++ Rows.calendarAfterSpec.plain.varTypes Tryd.prog) (ds ++ gs)).all (· ≤ reachBytes) = true := hsz0
  have hval : ∀ (j : Nat) t v, Tryd.f7.params[j]? = some t → args[j]? = some v → Value.okWide Tryd.prog W .any base t v := hval0
  clear hsz0 hval0
  have hW' := hW
  obtain ⟨p, q, hA0, hV, rfl, hfz, hnd⟩ := hW
  have hA : DataW.TrodAll enc Tryd.prog W 0 (fun _ => true) true Tryd.f7.params.toList args.toList ds p := hA0
  rw [Tryd.params7] at hA hval hsz
  obtain ⟨v0, vs0, d0, ds0, p0, q0, hargs, rfl, rfl, h0, r0⟩ := trodAll_cons hA
  obtain ⟨v1, vs1, d1, ds1, p1, q1, rfl, rfl, rfl, h1, r1⟩ := trodAll_cons r0
  obtain ⟨v2, vs2, d2, ds2, p2, q2, rfl, rfl, rfl, h2, r2⟩ := trodAll_cons r1
  obtain ⟨rfl, rfl, rfl⟩ := trodAll_nil r2
  obtain rfl : args = #[v0, v1, v2] := by cases args; simp_all
  obtain ⟨rfl, rfl⟩ := trodVars_none hV
  have hw0 : ∀ n ∈ d0.weights Tryd.prog 27, n ≤ reachBytes := by
    intro n hn
    have := List.all_eq_true.1 hsz n (DataW.weights_mem_each (t := 27) (d := d0) (j := 0) rfl rfl n hn)
    simpa using this
  obtain ⟨cs0, op0, hol0, rfl, hc0⟩ := openCal (hval 0 27 v0 rfl rfl) h0 hw0
  obtain ⟨a1, rfl, rfl, rfl, wf1⟩ := open_int Tryd.underlying3 (hval 1 3 v1 rfl rfl) h1
  have ru1 := i64_wf wf1
  obtain ⟨a2, rfl, rfl, rfl, wf2⟩ := open_int Tryd.underlying3 (hval 2 3 v2 rfl rfl) h2
  have ru2 := i64_wf wf2
  clear hA0
  refine (walk cs0 op0 hol0 a1 a2 W (mok_of_laid hL) hc0 ru1 ru2).mono fun e W' ⟨he, hbw⟩ => ?_
  subst he
  refine ⟨_, rfl, post_law laidOut ?_ rfl rfl hW' rfl rfl rfl hbw⟩
  intro t ht
  rw [Tryd.params7] at ht
  have hm : t ∈ [3, 27] := by
    simp at ht
    rcases ht with rfl|rfl|rfl <;> simp
  have hall : ([3, 27].all fun u => Tryd.prog.readableRec u && decide (u < Tryd.prog.types.size)) = true := by kernel_rfl
  have := List.all_eq_true.1 hall t hm
  simpa using this

theorem over : Rows.calendarAfterRow.holds Tryd.pinned (OpenSpec.ofChange Rows.calendarAfterSpec) :=
  OpenClaim.holds_of_wide 7 Tryd.f7 rfl rfl rfl rfl rfl rfl rfl ⟨rfl, rfl, rfl, rfl, rfl⟩ rfl rfl rfl rfl rfl (by kernel_rfl) Tryd.func7 (by kernel_rfl)
    (of_decide_eq_true (by kernel_rfl)) (by unfold Func.isWrapper; first | (rw [if_pos (by decide +kernel)]; kernel_rfl) | (rw [if_neg (by decide +kernel)]; exact ⟨rfl, rfl⟩))
    (fun os started H enc _ => lifted os started H enc)

/-- THE STATEMENT. -/
theorem proved : Rows.CalendarAfterCardSaid :=
  Claim7.holds_tied_plain_at .later [] [.data] true (true, "364b556707f00daf4033d8d2c5686098de318f6eb3e3f6625036c7b768a91a03") false
    over (fun _ h => by cases h) (by kernel_rfl) (fun _ h => by cases h) calendarAfter_row_tie rfl ⟨rfl, rfl⟩ (by kernel_rfl) rfl
    (fun f fn hf hfn => by
      obtain rfl : f = 7 := Option.some.inj ((show Tryd.prog.funcNamed "wagonpool/wagonpoollaw06.CalendarAfter" = some 7 by kernel_rfl).symm.trans hf) |>.symm
      obtain rfl : fn = Tryd.f7 := (Option.some.inj (Tryd.func7.symm.trans hfn)).symm
      exact ⟨by kernel_rfl, fun j t ht => by
        rw [Tryd.params7] at ht
        have hm : t ∈ [3, 27] := by
          have := Array.mem_of_getElem? ht
          simp at this
          rcases this with rfl|rfl|rfl <;> simp
        have hall : ([3, 27].all fun u => !Tryd.prog.wantsStandIn u) = true := by kernel_rfl
        exact (show Tryd.prog.wantsStandIn t = false by simpa using List.all_eq_true.1 hall t hm)⟩)
    (by kernel_rfl)
#print axioms proved
end Go.Proofs.YtciopemodfpecaaDoor.calendarAfter
