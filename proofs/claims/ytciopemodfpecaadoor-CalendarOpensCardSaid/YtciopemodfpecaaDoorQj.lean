/-
  The statement 'Rows.CalendarOpensCardSaid': for all arguments the law returns true; the arguments read as they did. Condition: the table of the months' lengths lies as the program's text lays it.
-/
import Derived.Test.YtciopemodfpecaaDoorSn
import Derived.Test.YtciopemodfpecaaDoorKw
import Derived.Test.YtciopemodfpecaaDoorQi
import Derived.ChangeMaps5
namespace Go.Proofs.YtciopemodfpecaaDoor.calendarOpens
open Go.ChangeShapes Go.WideShapes Go.ChangeAt Go.RowKit
set_option linter.unusedVariables false
set_option linter.unusedSimpArgs false

set_option maxRecDepth 100000 in
set_option maxHeartbeats 16000000 in
theorem walk (cs : Array Value) (op : List (Int × Int)) (hol : List Int) (f t m : Int) (w : World) (hk : MOk w) (hc : Cal (fun k => k < w.heap.size) w cs op hol) (hf : I64 f) (ht : I64 t) (hm : I64 m) :
    Calls Tryd.prog 9 #[.agg cs, .int .i64 f, .int .i64 t, .int .i64 m] w fun e w' => e = .returned (.bool true) ∧ Below w.heap.size w w' := by
  have HK := Lib.hid ((Kw.nil hk).alsoC (Below.refl _ _) hc)
  have HS := Lib.hid hc.size; have HL := Lib.hid hc.len
  have hbx := heap_alloc_new w (.cells cs 27)
  have HF := Lib.hid hf; have HT := Lib.hid ht; have HMM := Lib.hid hm
  obtain ⟨V, hV⟩ : ∃ V, V = fewB hol f t := ⟨_, rfl⟩
  obtain ⟨E, hE⟩ : ∃ E, E = eR op hol f t := ⟨_, rfl⟩
  obtain ⟨L, hL⟩ : ∃ L, L = oV op hol f t := ⟨_, rfl⟩
  have hcs := eR_cases op hol f t
  rw [← hE] at hcs
  have HCS := Lib.hid hcs; have HV := Lib.hid hV; have HE := Lib.hid hE; have HLL := Lib.hid hL
  have l_b : w.heap.size < (w.alloc (.cells cs 27)).heap.size := by rw [World.size_alloc]; omega
  clear hk hc hf ht hm hV hE hL hcs
  go_enter Tryd.func9, Tryd.ntmps9
  replace HK := Lib.hid (HK.out.laid (.cells cs 27))
  have HCC := Lib.hid (sane_true (w.alloc (.cells cs 27)) HK.out.mok)
  go_wp2_with fail
  refine HCC.out.mono ?_
  rintro e w1 ⟨rfl, hb⟩
  replace hbx := (hb.block (w.heap.size) l_b).trans hbx
  replace l_b := Nat.lt_of_lt_of_le l_b hb.size
  replace HK := Lib.hid (HK.out.call hb)
  clear hb HCC
  have HCC := Lib.hid (few_any cs op hol f t w1 (HK.out.getC cs op hol (by with_reducible (repeat (first | exact List.mem_cons_self | refine List.mem_cons_of_mem _ ?_)))) HF.out HT.out V HV.out)
  go_wp2_with (refine wpList_load_row rfl 27 (.tmp 4) rfl w.heap.size rfl 27 cs (0, 0) _ hbx Tryd.underlying27 rfl (size27 HS.out) ?_)
  refine HCC.out.mono ?_
  rintro e w2 ⟨rfl, hb⟩
  replace hbx := (hb.block (w.heap.size) l_b).trans hbx
  replace l_b := Nat.lt_of_lt_of_le l_b hb.size
  replace HK := Lib.hid (HK.out.call hb)
  clear hb HCC
  by_cases cV : V = false
  · subst cV
    go_wp2_with (refine wpList_load_row rfl 27 (.tmp 4) rfl w.heap.size rfl 27 cs (0, 0) _ hbx Tryd.underlying27 rfl (size27 HS.out) ?_)
    go_ret
    exact ⟨rfl, HK.out.below⟩
  obtain rfl : V = true := by simpa using cV
  clear cV
  have HCC := Lib.hid (open_any cs op hol f t w2 (HK.out.getC cs op hol (by with_reducible (repeat (first | exact List.mem_cons_self | refine List.mem_cons_of_mem _ ?_)))) HF.out HT.out E L HE.out HLL.out)
  go_wp2_with (refine wpList_load_row rfl 27 (.tmp 4) rfl w.heap.size rfl 27 cs (0, 0) _ hbx Tryd.underlying27 rfl (size27 HS.out) ?_)
  refine HCC.out.mono ?_
  rintro e w3 ⟨v1, rfl, hb, hs⟩
  replace hbx := (hb.block (w.heap.size) l_b).trans hbx
  replace l_b := Nat.lt_of_lt_of_le l_b hb.size
  replace HK := Lib.hid (HK.out.also hb hs)
  clear hb hs HCC
  rcases HCS.out with ⟨he, hok⟩ | ⟨he, hok⟩
  rotate_left
  · subst he
    have hl0 : L = [] := by rw [HLL.out]; unfold oV; rw [hok]; rfl
    subst hl0
    obtain ⟨o, c, hv⟩ := (HK.out.get (v1) ([]) (by with_reducible (repeat (first | exact List.mem_cons_self | refine List.mem_cons_of_mem _ ?_)))).shape
    subst hv
    clear HCS hok
    go_wp2_with (refine wpList_load_row rfl 27 (.tmp 4) rfl w.heap.size rfl 27 cs (0, 0) _ hbx Tryd.underlying27 rfl (size27 HS.out) ?_)
    go_ret
    exact ⟨rfl, HK.out.below⟩
  subst he
  clear HCS
  by_cases c1 : m < 0
  · have d1 : decide (m < 0) = true := decide_eq_true c1
    clear hok
    have HCC := Lib.hid (contains_s (HK.out.get (v1) (L) (by with_reducible (repeat (first | exact List.mem_cons_self | refine List.mem_cons_of_mem _ ?_)))) m false (inB_out (by omega)))
    go_wp2_with fail
    refine HCC.out.mono ?_
    rintro e w4 ⟨rfl, hb⟩
    replace hbx := (hb.block (w.heap.size) l_b).trans hbx
    replace l_b := Nat.lt_of_lt_of_le l_b hb.size
    replace HK := Lib.hid (HK.out.call hb)
    clear hb HCC
    go_wp2_with (refine wpList_load_row rfl 27 (.tmp 4) rfl w.heap.size rfl 27 cs (0, 0) _ hbx Tryd.underlying27 rfl (size27 HS.out) ?_)
    go_ret
    exact ⟨rfl, HK.out.below⟩
  have d1 : decide (m < 0) = false := decide_eq_false (c1)
  by_cases c2 : 1073741824 < m
  · have d2 : decide (1073741824 < m) = true := decide_eq_true c2
    clear hok
    have HCC := Lib.hid (contains_s (HK.out.get (v1) (L) (by with_reducible (repeat (first | exact List.mem_cons_self | refine List.mem_cons_of_mem _ ?_)))) m false (inB_out (by omega)))
    go_wp2_with fail
    refine HCC.out.mono ?_
    rintro e w4 ⟨rfl, hb⟩
    replace hbx := (hb.block (w.heap.size) l_b).trans hbx
    replace l_b := Nat.lt_of_lt_of_le l_b hb.size
    replace HK := Lib.hid (HK.out.call hb)
    clear hb HCC
    go_wp2_with (refine wpList_load_row rfl 27 (.tmp 4) rfl w.heap.size rfl 27 cs (0, 0) _ hbx Tryd.underlying27 rfl (size27 HS.out) ?_)
    go_ret
    exact ⟨rfl, HK.out.below⟩
  have d2 : decide (1073741824 < m) = false := decide_eq_false (c2)
  obtain ⟨d, hd⟩ : ∃ d, d = m / 1440 := ⟨_, rfl⟩
  obtain ⟨r, hr⟩ : ∃ r, r = m % 1440 := ⟨_, rfl⟩
  have hm0 : 0 ≤ m := by omega
  have hd0 : 0 ≤ d ∧ d ≤ 745654 := by omega
  obtain ⟨k, hk⟩ : ∃ k : Nat, wday d = (k : Int) := ⟨(wday d).toNat, by unfold wday; omega⟩
  have hk7 : k < 7 := by unfold wday at hk; omega
  obtain ⟨s, hs⟩ : ∃ s, op[k]? = some s := ⟨_, List.getElem?_eq_getElem (by rw [HL.out]; exact hk7)⟩
  obtain ⟨x, y⟩ := s
  obtain ⟨_, hcell, a, cap, hc14, hhl⟩ := (HK.out.getC cs op hol (by with_reducible (repeat (first | exact List.mem_cons_self | refine List.mem_cons_of_mem _ ?_)))).box hbx
  obtain ⟨e0, e1⟩ := hcell _ _ hs
  obtain ⟨N, hN⟩ : ∃ N, N = hol.length := ⟨_, rfl⟩
  have hnn := hhl.1
  rw [← hN] at hc14 hnn hhl
  have hpl := opens_plain HL.out hok hd hr hs hk
  rw [← HLL.out] at hpl
  have HWD := Lib.hid (show (k : Int) = wkd d by unfold wkd; rw [if_pos hd0, ← hk]; rfl)
  have BD := Lib.hid (show I64 d by unfold I64; omega)
  have t1 : m.tmod 1440 = r := by rw [hr]; exact Int.tmod_eq_emod_of_nonneg hm0
  have t2 : m.tdiv 1440 = d := by rw [hd]; exact Int.tdiv_eq_ediv_of_nonneg hm0
  have t3 : m / 1440 = d := hd.symm
  have t4 : m % 1440 = r := hr.symm
  have t5 : IntKind.i64.wrap d = d := by rw [IntKind.wrap_i64]; omega
  have t6 : (0 : Int) ≤ (k : Int) := by omega
  have t7 : (k : Int) < 7 := by omega
  have t8 : ¬ (k : Int) < 0 := by omega
  have t9 : ¬ (6 : Int) < (k : Int) := by omega
  have t8d : decide ((k : Int) < 0) = false := decide_eq_false t8
  have t9d : decide ((6 : Int) < (k : Int)) = false := decide_eq_false t9
  have HPL := Lib.hid hpl; have HH := Lib.hid hhl; have H3 := Lib.hid hN
  clear hd hr hk hs hcell hN hhl hpl hok
  have HCC := Lib.hid (weekday_any d BD.out (k : Int) HWD.out w3)
  go_wp2_with fail
  refine HCC.out.mono ?_
  rintro e _ ⟨rfl, rfl⟩
  clear HCC
  obtain ⟨b0, hb0⟩ : ∃ b0 : Bool, b0 = true ↔ (f ≤ m ∧ m < t ∧ x ≤ r ∧ r < y) := ⟨decide (f ≤ m ∧ m < t ∧ x ≤ r ∧ r < y), decide_eq_true_iff⟩
  have HBI := Lib.hid hb0
  have HBF : Hid (¬ (f ≤ m ∧ m < t ∧ x ≤ r ∧ r < y) → false = b0) := Lib.hid (fun h => by cases hb : b0; rfl; exact absurd (hb0.1 hb) h)
  have HBT : Hid ((f ≤ m ∧ m < t ∧ x ≤ r ∧ r < y) → true = b0) := Lib.hid (fun h => (hb0.2 h).symm)
  clear hb0
  go_upto_region 12 with (fail)
  go_cut [13] from 66 to 93 (fun c wx => c = .bool b0 ∧ w3 = wx)
  case first =>
    by_cases c3 : f ≤ m
    rotate_left
    · have c3d : decide (f ≤ m) = false := decide_eq_false c3
      have c3e : decide (m ≥ f) = false := decide_eq_false (by omega)
      go_wp2
      go_meet
      exact ⟨congrArg Value.bool (HBF.out (fun h => by omega)), rfl⟩
    have c3d : decide (f ≤ m) = true := decide_eq_true c3
    have c3e : decide (m ≥ f) = true := decide_eq_true (by omega)
    by_cases c4 : m < t
    rotate_left
    · have c4d : decide (m < t) = false := decide_eq_false c4
      go_wp2
      go_meet
      exact ⟨congrArg Value.bool (HBF.out (fun h => by omega)), rfl⟩
    have c4d : decide (m < t) = true := decide_eq_true c4
    by_cases c5 : x ≤ r
    rotate_left
    · have c5d : decide (x ≤ r) = false := decide_eq_false c5
      go_wp2
      go_meet
      exact ⟨congrArg Value.bool (HBF.out (fun h => by omega)), rfl⟩
    have c5d : decide (x ≤ r) = true := decide_eq_true c5
    by_cases c6 : r < y
    rotate_left
    · have c6d : decide (r < y) = false := decide_eq_false c6
      go_wp2
      go_meet
      exact ⟨congrArg Value.bool (HBF.out (fun h => by omega)), rfl⟩
    have c6d : decide (r < y) = true := decide_eq_true c6
    go_wp2
    go_meet
    exact ⟨congrArg Value.bool (HBT.out (by omega)), rfl⟩
  case rest =>
    obtain ⟨rfl, rfl⟩ := hcut
    go_wp2
    go_loopw [13, 14] (fun s t wz => ∃ (j : Nat) (B : Bool), j ≤ N ∧ s = .bool B ∧ t = .int .i64 (j : Int) ∧ Hid (B = true ↔ b0 = true ∧ ¬ d ∈ hol.take j) ∧ w3 = wz) (fun _ t _ => N - (intOf t).toNat)
    case atStart => exact ⟨0, b0, Nat.zero_le _, rfl, rfl, Lib.hid (by simp), rfl⟩
    case round =>
      obtain ⟨j, B, hk, rfl, rfl, HB, rfl⟩ := hrel
      by_cases hlt : j < N
      · have hlt2 : (j : Int) < (N : Int) := by omega
        obtain ⟨g, off, z, rfl, hg, hx, hxi, c0, hcap⟩ := HH.out.pick j (by have := H3.out; omega)
        have htk := fun e => take_next (d := e) hx
        have HTK := Lib.hid htk
        have hkw : IntKind.i64.wrap ((j : Int) + 1) = (j : Int) + 1 := by rw [IntKind.wrap_i64]; omega
        clear htk hx
        cases B with
        | false =>
          go_wp2
          go_roundw
          case rel => exact ⟨j + 1, false, by omega, rfl, by go_num, Lib.hid (by
            have hb := HB.out; rw [HTK.out d]
            exact ⟨fun h => (by cases h), fun h => hb.2 ⟨h.1, fun h2 => h.2 (.inl h2)⟩⟩), trivial⟩
          case measure => simp [intOf]; omega
        | true =>
          by_cases hz : z = d
          · have z1 : (z == d) = true := by rw [beq_iff_eq]; exact hz
            have z2 : (z != d) = false := by unfold bne; rw [z1]; rfl
            have HZ := Lib.hid hz
            clear hz
            go_wp2
            go_roundw
            case rel => exact ⟨j + 1, false, by omega, rfl, by go_num, Lib.hid (by
              rw [HTK.out d]
              exact ⟨fun h => (by cases h), fun h => absurd (.inr HZ.out.symm) h.2⟩), trivial⟩
            case measure => simp [intOf]; omega
          · have z1 : (z == d) = false := by rw [beq_eq_false_iff_ne]; exact hz
            have z2 : (z != d) = true := by unfold bne; rw [z1]; rfl
            have HZ := Lib.hid hz
            clear hz
            go_wp2
            go_roundw
            case rel => exact ⟨j + 1, true, by omega, rfl, by go_num, Lib.hid (by
              have hb := HB.out; rw [HTK.out d]
              exact ⟨fun h => ⟨(hb.1 rfl).1, fun h2 => h2.elim (hb.1 rfl).2 (fun h3 => HZ.out h3.symm)⟩, fun h => rfl⟩), trivial⟩
            case measure => simp [intOf]; omega
      · obtain rfl : j = N := by omega
        have hfin : B = inB L m := HPL.out B (by
          have hb := HB.out
          rw [H3.out, List.take_length] at hb
          exact ⟨fun h => ⟨HBI.out.1 (hb.1 h).1, (hb.1 h).2⟩, fun h => hb.2 ⟨HBI.out.2 h.1, h.2⟩⟩)
        have HFIN := Lib.hid hfin
        have eB : (B == B) = true := by cases B <;> rfl
        clear hfin HB HPL
        have HCC := Lib.hid (contains_s (HK.out.get (v1) (L) (by with_reducible (repeat (first | exact List.mem_cons_self | refine List.mem_cons_of_mem _ ?_)))) m B HFIN.out)
        go_wp2_with fail
        refine HCC.out.mono ?_
        rintro e w4 ⟨rfl, hb⟩
        replace hbx := (hb.block (w.heap.size) l_b).trans hbx
        replace e0 := (hb.cell (p := ⟨w.heap.size, k * 2, none⟩) l_b).trans e0
        replace e1 := (hb.cell (p := ⟨w.heap.size, k * 2 + 1, none⟩) l_b).trans e1
        replace hc14 := (hb.cell (p := ⟨w.heap.size, 14, none⟩) l_b).trans hc14
        replace l_b := Nat.lt_of_lt_of_le l_b hb.size
        replace HK := Lib.hid (HK.out.call hb)
        clear hb HCC
        go_wp2
        go_ret
        exact ⟨rfl, HK.out.below⟩

/-- The door's own heap meets the condition. -/
theorem door_met (os : Os) (args : Array Value) : laidMetH Tryd.prog Rows.calendarOpensRow.laid ((World.doorLaid Tryd.prog 400 os).forCall (fun _ _ => 0) ⟨#[], args, []⟩).memory :=
  laidMetH_of_parts3 (fuel := 8) (laidMet_of_run' 8 (by kernel_rfl) (by kernel_rfl)) (by kernel_rfl) (by kernel_rfl)

set_option maxRecDepth 100000 in
theorem lifted (os : Os) (started : os.Started) (H : Type) (enc : TypeId × Value → H) :
    ReturnsInHanded {} Tryd.checked os 9 .any (fun w args => (Rows.calendarOpensSpec.pre enc Tryd.prog Tryd.f9 [] false w args ∧ laidMetH Tryd.prog Rows.calendarOpensRow.laid w) ∧ sizedMet enc Tryd.prog Tryd.f9 (OpenSpec.ofChange Rows.calendarOpensSpec) false w args)
      (Rows.calendarOpensSpec.post enc Tryd.prog Tryd.f9 false true false false) := by
  refine returnsInHanded_of_change_and (C := Tryd.checked) (X := fun w _ => laidMetH Tryd.prog Rows.calendarOpensRow.laid w) (fun _ _ _ hh h => h.of_heap hh) own started (by kernel_rfl) Tryd.func9
    (ChangeSpec.witness_shaped (enc := enc) (C := Tryd.checked) (os := os) (X := fun w _ => laidMetH Tryd.prog Rows.calendarOpensRow.laid w) false (World.doorLaid Tryd.prog 400 os) #[.agg #[.int .i64 0, .int .i64 0, .int .i64 0, .int .i64 0, .int .i64 0, .int .i64 0, .int .i64 0, .int .i64 0, .int .i64 0, .int .i64 0, .int .i64 0, .int .i64 0, .int .i64 0, .int .i64 0, .slice none 0 0], .int .i64 0, .int .i64 0, .int .i64 0] 8 rfl (World.shaped_of_RefB (by kernel_rfl) (by kernel_rfl)) (by kernel_rfl) (by kernel_rfl) (by kernel_rfl) (door_met os _)) ?_
  intro W base args ds gs before hval0 hW _ hsz0 hL _
  have hsz : (DataW.weightsEach Tryd.prog (Tryd.f9.params.toList ++ Rows.calendarOpensSpec.plain.varTypes Tryd.prog) (ds ++ gs)).all (· ≤ reachBytes) = true := hsz0
  have hval : ∀ (j : Nat) t v, Tryd.f9.params[j]? = some t → args[j]? = some v → Value.okWide Tryd.prog W .any base t v := hval0
  clear hsz0 hval0
  have hW' := hW
  obtain ⟨p, q, hA0, hV, rfl, hfz, hnd⟩ := hW
  have hA : DataW.TrodAll enc Tryd.prog W 0 (fun _ => true) true Tryd.f9.params.toList args.toList ds p := hA0
  rw [Tryd.params9] at hA hval hsz
  obtain ⟨v0, vs0, d0, ds0, p0, q0, hargs, rfl, rfl, h0, r0⟩ := trodAll_cons hA
  obtain ⟨v1, vs1, d1, ds1, p1, q1, rfl, rfl, rfl, h1, r1⟩ := trodAll_cons r0
  obtain ⟨v2, vs2, d2, ds2, p2, q2, rfl, rfl, rfl, h2, r2⟩ := trodAll_cons r1
  obtain ⟨v3, vs3, d3, ds3, p3, q3, rfl, rfl, rfl, h3, r3⟩ := trodAll_cons r2
  obtain ⟨rfl, rfl, rfl⟩ := trodAll_nil r3
  obtain rfl : args = #[v0, v1, v2, v3] := by cases args; simp_all
  obtain ⟨rfl, rfl⟩ := trodVars_none hV
  have hw0 : ∀ n ∈ d0.weights Tryd.prog 27, n ≤ reachBytes := by
    intro n hn
    have := List.all_eq_true.1 hsz n (DataW.weights_mem_each (t := 27) (d := d0) (j := 0) rfl rfl n hn)
    simpa using this
  obtain ⟨cs0, op0, hol0, rfl, hc0⟩ := openCal (hval 0 27 v0 rfl rfl) h0 hw0
  obtain ⟨a1, rfl, rfl, rfl, wf1⟩ := open_int Tryd.underlying3 (hval 1 3 v1 rfl rfl) h1
  have ru1 := i64_wf wf1
  obtain ⟨a2, rfl, rfl, rfl, wf2⟩ := open_int Tryd.underlying3 (hval 2 3 v2 rfl rfl) h2
  have ru2 := i64_wf wf2
  obtain ⟨a3, rfl, rfl, rfl, wf3⟩ := open_int Tryd.underlying3 (hval 3 3 v3 rfl rfl) h3
  have ru3 := i64_wf wf3
  clear hA0
  refine (walk cs0 op0 hol0 a1 a2 a3 W (mok_of_laid hL) hc0 ru1 ru2 ru3).mono fun e W' ⟨he, hbw⟩ => ?_
  subst he
  refine ⟨_, rfl, post_law laidOut ?_ rfl rfl hW' rfl rfl rfl hbw⟩
  intro t ht
  rw [Tryd.params9] at ht
  have hm : t ∈ [3, 27] := by
    simp at ht
    rcases ht with rfl|rfl|rfl|rfl <;> simp
  have hall : ([3, 27].all fun u => Tryd.prog.readableRec u && decide (u < Tryd.prog.types.size)) = true := by kernel_rfl
  have := List.all_eq_true.1 hall t hm
  simpa using this

theorem over : Rows.calendarOpensRow.holds Tryd.pinned (OpenSpec.ofChange Rows.calendarOpensSpec) :=
  OpenClaim.holds_of_wide 9 Tryd.f9 rfl rfl rfl rfl rfl rfl rfl ⟨rfl, rfl, rfl, rfl, rfl⟩ rfl rfl rfl rfl rfl (by kernel_rfl) Tryd.func9 (by kernel_rfl)
    (of_decide_eq_true (by kernel_rfl)) (by unfold Func.isWrapper; first | (rw [if_pos (by decide +kernel)]; kernel_rfl) | (rw [if_neg (by decide +kernel)]; exact ⟨rfl, rfl⟩))
    (fun os started H enc _ => lifted os started H enc)

/-- THE STATEMENT. -/
theorem proved : Rows.CalendarOpensCardSaid :=
  Claim7.holds_tied_plain_at .later [] [.data] true (true, "364b556707f00daf4033d8d2c5686098de318f6eb3e3f6625036c7b768a91a03") false
    over (fun _ h => by cases h) (by kernel_rfl) (fun _ h => by cases h) calendarOpens_row_tie rfl ⟨rfl, rfl⟩ (by kernel_rfl) rfl
    (fun f fn hf hfn => by
      obtain rfl : f = 9 := Option.some.inj ((show Tryd.prog.funcNamed "wagonpool/wagonpoollaw06.CalendarOpens" = some 9 by kernel_rfl).symm.trans hf) |>.symm
      obtain rfl : fn = Tryd.f9 := (Option.some.inj (Tryd.func9.symm.trans hfn)).symm
      exact ⟨by kernel_rfl, fun j t ht => by
        rw [Tryd.params9] at ht
        have hm : t ∈ [3, 27] := by
          have := Array.mem_of_getElem? ht
          simp at this
          rcases this with rfl|rfl|rfl|rfl <;> simp
        have hall : ([3, 27].all fun u => !Tryd.prog.wantsStandIn u) = true := by kernel_rfl
        exact (show Tryd.prog.wantsStandIn t = false by simpa using List.all_eq_true.1 hall t hm)⟩)
    (by kernel_rfl)
#print axioms proved
end Go.Proofs.YtciopemodfpecaaDoor.calendarOpens
