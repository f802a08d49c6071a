/-
  The statement 'Rows.SpansAdvanceCountsSaid': for all arguments the law returns true; the arguments read as they did.
-/
import Derived.Test.YtboojinokljelaaSn
import Derived.Test.YtboojinokljelaaOw
namespace Go.Proofs.Ytboojinokljelaa.spansAdvanceCounts
open Go.ChangeShapes Go.WideShapes Go.ChangeAt Go.RowKit
set_option linter.unusedVariables false
set_option linter.unusedSimpArgs false

theorem mem_cut (l : List (Int × Int)) (f m k : Int) : mem l k ∧ mem [(f, m)] k ↔ (mem l k ∧ f ≤ k) ∧ k < m := by
  constructor
  · rintro ⟨h, _, _, h2⟩
    rw [cov_cons, cov_nil] at h2
    simp only [or_false] at h2
    exact ⟨⟨h, h2.1⟩, h2.2⟩
  · rintro ⟨⟨h, h1⟩, h2⟩
    refine ⟨h, h.1, h.2.1, ?_⟩
    rw [cov_cons]
    exact .inl ⟨h1, h2⟩

set_option maxRecDepth 100000 in
set_option maxHeartbeats 4000000 in
theorem walk (l0 : List (Int × Int)) (a1 : Int) (a2 : Int) (u0 : Value) (w : World) (h0 : Sl (fun k => k < w.heap.size) w u0 l0) (h1 : I64 a1) (h2 : I64 a2) :
    Calls Try.prog 9 #[u0, .int .i64 a1, .int .i64 a2] w fun e w' => e = .returned (.bool true) ∧ Below w.heap.size w w' := by
  have HK : Hid (Kn w [(u0, l0)] w) := Lib.hid ⟨Below.refl _ _, by
    intro y hy
    simp only [List.mem_cons, List.not_mem_nil, or_false] at hy
    subst hy
    · exact h0⟩
  clear h0
  by_cases c0 : l0.length ≤ 40
  · have d0 : decide (l0.length ≤ 40) = true := decide_eq_true c0
    have H1 := Lib.hid h1; have H2 := Lib.hid h2
    by_cases s0 : a2 < 0
    · have m0 : (0 : Int) = advM (ahead l0 a1) a1 a2 := by unfold advM; rw [if_pos s0]
      have o0 : false = advB (ahead l0 a1) a2 := by unfold advB; rw [if_pos s0]
      have y1 : decide (a2 < 0) = true := decide_eq_true s0
      have M0 := Lib.hid m0; have O0 := Lib.hid o0
      clear m0 o0 h1 h2
      go_enter Try.func9, Try.ntmps9
      have Hc := Lib.hid (sane_true w)
      go_wp2_with fail
      refine Hc.out.mono ?_
      rintro e w1 ⟨rfl, hb⟩
      replace HK := Lib.hid (HK.out.call hb)
      clear hb
      clear Hc
      have Hc := Lib.hid (few_s (HK.out.get (u0) (l0) (by with_reducible (repeat (first | exact List.mem_cons_self | refine List.mem_cons_of_mem _ ?_)))))
      go_wp2_with fail
      refine Hc.out.mono ?_
      rintro e _ ⟨rfl, rfl⟩
      clear Hc
      have Hc := Lib.hid (advance_s (HK.out.get (u0) (l0) (by with_reducible (repeat (first | exact List.mem_cons_self | refine List.mem_cons_of_mem _ ?_)))) (by omega) a1 a2 H1.out H2.out 0 false M0.out O0.out)
      go_wp2_with fail
      refine Hc.out.mono ?_
      rintro e w2 ⟨rfl, hb⟩
      replace HK := Lib.hid (HK.out.call hb)
      clear hb
      clear Hc
      go_wp2
      go_ret
      exact ⟨rfl, HK.out.below⟩
    · by_cases s1 : a2 = 0
      · subst s1
        have m0 : a1 = advM (ahead l0 a1) a1 0 := by unfold advM; rw [if_neg s0, if_pos rfl]
        have o0 : true = advB (ahead l0 a1) 0 := by unfold advB; rw [if_neg s0, if_pos rfl]
        have y2 : (a1 == a1) = true := by simp
        have M0 := Lib.hid m0; have O0 := Lib.hid o0
        clear m0 o0 h1 h2
        go_enter Try.func9, Try.ntmps9
        have Hc := Lib.hid (sane_true w)
        go_wp2_with fail
        refine Hc.out.mono ?_
        rintro e w1 ⟨rfl, hb⟩
        replace HK := Lib.hid (HK.out.call hb)
        clear hb
        clear Hc
        have Hc := Lib.hid (few_s (HK.out.get (u0) (l0) (by with_reducible (repeat (first | exact List.mem_cons_self | refine List.mem_cons_of_mem _ ?_)))))
        go_wp2_with fail
        refine Hc.out.mono ?_
        rintro e _ ⟨rfl, rfl⟩
        clear Hc
        have Hc := Lib.hid (advance_s (HK.out.get (u0) (l0) (by with_reducible (repeat (first | exact List.mem_cons_self | refine List.mem_cons_of_mem _ ?_)))) (by omega) a1 0 H1.out H2.out a1 true M0.out O0.out)
        go_wp2_with fail
        refine Hc.out.mono ?_
        rintro e w2 ⟨rfl, hb⟩
        replace HK := Lib.hid (HK.out.call hb)
        clear hb
        clear Hc
        go_wp2
        go_ret
        exact ⟨rfl, HK.out.below⟩
      · have hpos : 0 < a2 := by omega
        cases hadv : adv (ahead l0 a1) a2 with
        | none =>
          have m0 : (0 : Int) = advM (ahead l0 a1) a1 a2 := by unfold advM; rw [if_neg s0, if_neg s1, hadv]; rfl
          have o0 : false = advB (ahead l0 a1) a2 := by unfold advB; rw [if_neg s0, if_neg s1, hadv]; rfl
          have hlt := adv_none _ _ _ (ahead_nr l0 a1) hpos hadv
          have hin : intL l0 [(a1, 1073741824)] = ahead l0 a1 := rfl
          have tl := int_length l0 [(a1, 1073741824)]
          rw [hin, List.length_singleton] at tl
          obtain ⟨T, hT⟩ : ∃ T, T = tot (norm (ahead l0 a1)) := ⟨_, rfl⟩
          rw [norm_self (ahead_nr l0 a1)] at hT
          rw [← hT] at hlt
          rw [← norm_self (ahead_nr l0 a1)] at hT
          have y1 : decide (a2 < 0) = false := decide_eq_false s0
          have y3 : decide (T < a2) = true := decide_eq_true hlt
          have M0 := Lib.hid m0; have O0 := Lib.hid o0; have HIN := Lib.hid hin; have HT := Lib.hid hT
          clear m0 o0 h1 h2 hin hT hadv
          go_enter Try.func9, Try.ntmps9
          have Hc := Lib.hid (sane_true w)
          go_wp2_with fail
          refine Hc.out.mono ?_
          rintro e w1 ⟨rfl, hb⟩
          replace HK := Lib.hid (HK.out.call hb)
          clear hb
          clear Hc
          have Hc := Lib.hid (few_s (HK.out.get (u0) (l0) (by with_reducible (repeat (first | exact List.mem_cons_self | refine List.mem_cons_of_mem _ ?_)))))
          go_wp2_with fail
          refine Hc.out.mono ?_
          rintro e _ ⟨rfl, rfl⟩
          clear Hc
          have Hc := Lib.hid (advance_s (HK.out.get (u0) (l0) (by with_reducible (repeat (first | exact List.mem_cons_self | refine List.mem_cons_of_mem _ ?_)))) (by omega) a1 a2 H1.out H2.out 0 false M0.out O0.out)
          go_wp2_with fail
          refine Hc.out.mono ?_
          rintro e w2 ⟨rfl, hb⟩
          replace HK := Lib.hid (HK.out.call hb)
          clear hb
          clear Hc
          have Hc := Lib.hid (span_s a1 1073741824 H1.out (by unfold I64; omega) w2)
          go_wp2_with fail
          refine Hc.out.mono ?_
          rintro e w3 ⟨v1, rfl, hb, hs⟩
          replace HK := Lib.hid (HK.out.also hb hs)
          clear hb hs Hc
          have Hc := Lib.hid (intersect_s (HK.out.get (u0) (l0) (by with_reducible (repeat (first | exact List.mem_cons_self | refine List.mem_cons_of_mem _ ?_)))) (HK.out.get (v1) ([(a1, 1073741824)]) (by with_reducible (repeat (first | exact List.mem_cons_self | refine List.mem_cons_of_mem _ ?_)))) (by simp; omega))
          go_wp2_with fail
          refine Hc.out.mono ?_
          rintro e w4 ⟨v2, rfl, hb, hs⟩
          rw [HIN.out] at hs
          replace HK := Lib.hid (HK.out.also hb hs)
          clear hb hs Hc
          have Hc := Lib.hid (minutes_s (HK.out.get (v2) (ahead l0 a1) (by with_reducible (repeat (first | exact List.mem_cons_self | refine List.mem_cons_of_mem _ ?_)))) (by omega) T HT.out)
          go_wp2_with fail
          refine Hc.out.mono ?_
          rintro e w5 ⟨rfl, hb⟩
          replace HK := Lib.hid (HK.out.call hb)
          clear hb
          clear Hc
          go_wp2
          go_ret
          exact ⟨rfl, HK.out.below⟩
        | some m =>
          have m0 : m = advM (ahead l0 a1) a1 a2 := by unfold advM; rw [if_neg s0, if_neg s1, hadv]; rfl
          have o0 : true = advB (ahead l0 a1) a2 := by unfold advB; rw [if_neg s0, if_neg s1, hadv]; rfl
          obtain ⟨z1, z2, z3, l', z4, z5, z6⟩ := adv_some _ _ _ _ (ahead_nr l0 a1) hpos hadv
          rw [ahead_cov] at z3
          have hin : intL l0 [(a1, m)] = l' := nr_uniq _ _ _ _ (int_nr _ _) z4 (fun k => by rw [int_cov, z5, ahead_cov]; exact mem_cut l0 a1 m k)
          have tl := int_length l0 [(a1, m)]
          rw [hin, List.length_singleton] at tl
          have hT : a2 = tot (norm l') := by rw [norm_self z4]; exact z6.symm
          have y1 : decide (a1 < m) = true := decide_eq_true (by omega)
          have y2 : (a2 == a2) = true := by simp
          have y3 : decide (a2 ≤ 0) = false := decide_eq_false (by omega)
          have hc : true = inB l0 (m - 1) := (inB_true z3.1).symm
          have b1 : 0 ≤ m := by omega
          have hmi : I64 m := by unfold I64; omega
          have HMI := Lib.hid hmi; have HC := Lib.hid hc
          have M0 := Lib.hid m0; have O0 := Lib.hid o0; have HIN := Lib.hid hin; have HT := Lib.hid hT
          clear m0 o0 h1 h2 hin hT hadv hc hmi z3 z4 z5 z6 z1
          go_enter Try.func9, Try.ntmps9
          have Hc := Lib.hid (sane_true w)
          go_wp2_with fail
          refine Hc.out.mono ?_
          rintro e w1 ⟨rfl, hb⟩
          replace HK := Lib.hid (HK.out.call hb)
          clear hb
          clear Hc
          have Hc := Lib.hid (few_s (HK.out.get (u0) (l0) (by with_reducible (repeat (first | exact List.mem_cons_self | refine List.mem_cons_of_mem _ ?_)))))
          go_wp2_with fail
          refine Hc.out.mono ?_
          rintro e _ ⟨rfl, rfl⟩
          clear Hc
          have Hc := Lib.hid (advance_s (HK.out.get (u0) (l0) (by with_reducible (repeat (first | exact List.mem_cons_self | refine List.mem_cons_of_mem _ ?_)))) (by omega) a1 a2 H1.out H2.out m true M0.out O0.out)
          go_wp2_with fail
          refine Hc.out.mono ?_
          rintro e w2 ⟨rfl, hb⟩
          replace HK := Lib.hid (HK.out.call hb)
          clear hb
          clear Hc
          have Hc := Lib.hid (span_s a1 m H1.out HMI.out w2)
          go_wp2_with fail
          refine Hc.out.mono ?_
          rintro e w3 ⟨v1, rfl, hb, hs⟩
          replace HK := Lib.hid (HK.out.also hb hs)
          clear hb hs Hc
          have Hc := Lib.hid (intersect_s (HK.out.get (u0) (l0) (by with_reducible (repeat (first | exact List.mem_cons_self | refine List.mem_cons_of_mem _ ?_)))) (HK.out.get (v1) ([(a1, m)]) (by with_reducible (repeat (first | exact List.mem_cons_self | refine List.mem_cons_of_mem _ ?_)))) (by simp; omega))
          go_wp2_with fail
          refine Hc.out.mono ?_
          rintro e w4 ⟨v2, rfl, hb, hs⟩
          rw [HIN.out] at hs
          replace HK := Lib.hid (HK.out.also hb hs)
          clear hb hs Hc
          have Hc := Lib.hid (minutes_s (HK.out.get (v2) (l') (by with_reducible (repeat (first | exact List.mem_cons_self | refine List.mem_cons_of_mem _ ?_)))) (by omega) a2 HT.out)
          go_wp2_with fail
          refine Hc.out.mono ?_
          rintro e w5 ⟨rfl, hb⟩
          replace HK := Lib.hid (HK.out.call hb)
          clear hb
          clear Hc
          have Hc := Lib.hid (contains_s (HK.out.get (u0) (l0) (by with_reducible (repeat (first | exact List.mem_cons_self | refine List.mem_cons_of_mem _ ?_)))) (m - 1) true HC.out)
          go_wp2_with fail
          refine Hc.out.mono ?_
          rintro e w6 ⟨rfl, hb⟩
          replace HK := Lib.hid (HK.out.call hb)
          clear hb
          clear Hc
          go_wp2
          go_ret
          exact ⟨rfl, HK.out.below⟩
  · have d0 : decide (l0.length ≤ 40) = false := decide_eq_false c0
    go_enter Try.func9, Try.ntmps9
    have Hc := Lib.hid (sane_true w)
    go_wp2_with fail
    refine Hc.out.mono ?_
    rintro e w1 ⟨rfl, hb⟩
    replace HK := Lib.hid (HK.out.call hb)
    clear hb
    clear Hc
    have Hc := Lib.hid (few_s (HK.out.get (u0) (l0) (by with_reducible (repeat (first | exact List.mem_cons_self | refine List.mem_cons_of_mem _ ?_)))))
    go_wp2_with fail
    refine Hc.out.mono ?_
    rintro e _ ⟨rfl, rfl⟩
    clear Hc
    go_wp2
    go_ret
    exact ⟨rfl, HK.out.below⟩

set_option maxRecDepth 100000 in
theorem lifted (os : Os) (started : os.Started) (H : Type) (enc : TypeId × Value → H) :
    ReturnsInHanded {} Try.checked os 9 .any (Rows.spansAdvanceCountsSpec.pre6 enc Try.prog Try.f9 Rows.spansAdvanceCountsRow.domain false) (Rows.spansAdvanceCountsSpec.post enc Try.prog Try.f9 false true false false) := by
  refine returnsInHanded_of_change_sized (C := Try.checked) own started (by kernel_rfl) Try.func9
    (ChangeSpec.witness6 (enc := enc) (C := Try.checked) false ⟨#[], #[.slice none 0 0, .int .i64 0, .int .i64 0], []⟩ 8 (by kernel_rfl) (by kernel_rfl) (by kernel_rfl) (by kernel_rfl)) ?_
  intro W base args ds gs before hval0 hW _ hsz0 _
  have hsz : (DataW.weightsEach Try.prog (Try.f9.params.toList ++ Rows.spansAdvanceCountsSpec.plain.varTypes Try.prog) (ds ++ gs)).all (· ≤ reachBytes) = true := hsz0
  have hval : ∀ (j : Nat) t v, Try.f9.params[j]? = some t → args[j]? = some v → Value.okWide Try.prog W .any base t v := hval0
  clear hsz0 hval0
  have hW' := hW
  obtain ⟨p, q, hA0, hV, rfl, _, _⟩ := hW
  have hA : DataW.TrodAll enc Try.prog W 0 (fun _ => true) true Try.f9.params.toList args.toList ds p := hA0
  rw [Try.params9] at hA hval hsz
  obtain ⟨v0, vs0, d0, ds0, p0, q0, hargs, rfl, rfl, h0, r0⟩ := trodAll_cons hA
  obtain ⟨v1, vs1, d1, ds1, p1, q1, rfl, rfl, rfl, h1, r1⟩ := trodAll_cons r0
  obtain ⟨v2, vs2, d2, ds2, p2, q2, rfl, rfl, rfl, h2, r2⟩ := trodAll_cons r1
  obtain ⟨rfl, rfl, rfl⟩ := trodAll_nil r2
  obtain rfl : args = #[v0, v1, v2] := by cases args; simp_all
  obtain ⟨rfl, rfl⟩ := trodVars_none hV
  have hw0 : ∀ n ∈ d0.weights Try.prog 22, n ≤ reachBytes := by
    intro n hn
    have := List.all_eq_true.1 hsz n (DataW.weights_mem_each (t := 22) (d := d0) (j := 0) rfl rfl n hn)
    simpa using this
  obtain ⟨fuel0, hf0⟩ := h0
  obtain ⟨l0, hl0⟩ := openS (v := v0) (by first | exact hf0 | (obtain ⟨o, m, c, rfl⟩ := okWide_slice Try.underlying22 (hval 0 22 v0 rfl rfl); exact hf0)) hw0
  obtain ⟨a1, rfl, rfl, rfl, wf1⟩ := open_int Try.underlying3 (hval 1 3 v1 rfl rfl) h1
  obtain ⟨a2, rfl, rfl, rfl, wf2⟩ := open_int Try.underlying3 (hval 2 3 v2 rfl rfl) h2
  clear hA0
  refine (walk l0 a1 a2 v0 W hl0 (i64_wf wf1) (i64_wf wf2)).mono fun e W' ⟨he, hb⟩ => ?_
  subst he
  refine ⟨_, rfl, post_law laidOut ?_ rfl rfl hW' rfl rfl rfl hb⟩
  intro t ht
  rw [Try.params9] at ht
  have hm : t ∈ [3, 22] := (by decide : ∀ t ∈ (#[22, 3, 3] : Array TypeId).toList, t ∈ [3, 22]) t ht
  have hall : ([3, 22].all fun u => Try.prog.readableRec u && decide (u < Try.prog.types.size)) = true := by kernel_rfl
  have := List.all_eq_true.1 hall t hm
  simpa using this

theorem over : Rows.spansAdvanceCountsRow.holds Try.pinned (OpenSpec.ofChange Rows.spansAdvanceCountsSpec) :=
  OpenClaim.holds_of_wide 9 Try.f9 rfl rfl rfl rfl rfl rfl rfl ⟨rfl, rfl, rfl, rfl, rfl⟩ rfl rfl rfl rfl rfl (by kernel_rfl) Try.func9 (by kernel_rfl)
    (of_decide_eq_true (by kernel_rfl)) (by unfold Func.isWrapper; first | (rw [if_pos (by decide +kernel)]; kernel_rfl) | (rw [if_neg (by decide +kernel)]; exact ⟨rfl, rfl⟩))
    (fun os started H enc _ => lifted os started H enc)

/-- THE STATEMENT. -/
theorem proved : Rows.SpansAdvanceCountsSaid :=
  over
#print axioms proved
end Go.Proofs.Ytboojinokljelaa.spansAdvanceCounts
