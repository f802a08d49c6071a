/-
  The statement 'Rows.SpansMatchReferenceSaid': for all arguments the law returns true; the arguments read as they did.
-/
import Derived.Test.YtboojinokljelaaSn
import Derived.Test.YtboojinokljelaaOw
namespace Go.Proofs.Ytboojinokljelaa.spansMatchReference
open Go.ChangeShapes Go.WideShapes Go.ChangeAt Go.RowKit
set_option linter.unusedVariables false
set_option linter.unusedSimpArgs false

set_option maxRecDepth 100000 in
set_option maxHeartbeats 4000000 in
theorem walk (l0 : List (Int × Int)) (l1 : List (Int × Int)) (u0 : Value) (u1 : Value) (w : World) (h0 : Sl (fun k => k < w.heap.size) w u0 l0) (h1 : Sl (fun k => k < w.heap.size) w u1 l1) :
    Calls Try.prog 3 #[u0, u1] w fun e w' => e = .returned (.bool true) ∧ Below w.heap.size w w' := by
  have HK : Hid (Kn w [(u0, l0), (u1, l1)] w) := Lib.hid ⟨Below.refl _ _, by
    intro y hy
    simp only [List.mem_cons, List.not_mem_nil, or_false] at hy
    rcases hy with rfl | rfl
    · exact h0
    · exact h1⟩
  clear h0 h1
  by_cases c0 : l0.length ≤ 40
  · have d0 : decide (l0.length ≤ 40) = true := decide_eq_true c0
    by_cases c1 : l1.length ≤ 40
    · have d1 : decide (l1.length ≤ 40) = true := decide_eq_true c1
      obtain ⟨R, hR⟩ : ∃ R, R = chk (-1) l0 := ⟨_, rfl⟩
      obtain ⟨T, hT⟩ : ∃ T, T = tot (norm l0) := ⟨_, rfl⟩
      have e1 : (R == R) = true := by simp
      have e2 : (T == T) = true := by simp
      have HR := Lib.hid hR; have HT := Lib.hid hT
      clear hR hT
      go_enter Try.func3, Try.ntmps3
      have Hc := Lib.hid (sane_true w)
      go_wp2_with fail
      refine Hc.out.mono ?_
      rintro e w1 ⟨rfl, hb⟩
      replace HK := Lib.hid (HK.out.call hb)
      clear hb
      clear Hc
      have Hc := Lib.hid (few_s (HK.out.get (u0) (l0) (by with_reducible (repeat (first | exact List.mem_cons_self | refine List.mem_cons_of_mem _ ?_)))))
      go_wp2_with fail
      refine Hc.out.mono ?_
      rintro e _ ⟨rfl, rfl⟩
      clear Hc
      have Hc := Lib.hid (few_s (HK.out.get (u1) (l1) (by with_reducible (repeat (first | exact List.mem_cons_self | refine List.mem_cons_of_mem _ ?_)))))
      go_wp2_with fail
      refine Hc.out.mono ?_
      rintro e _ ⟨rfl, rfl⟩
      clear Hc
      have Hc := Lib.hid (normal_s (HK.out.get (u0) (l0) (by with_reducible (repeat (first | exact List.mem_cons_self | refine List.mem_cons_of_mem _ ?_)))) (by omega))
      go_wp2_with fail
      refine Hc.out.mono ?_
      rintro e w2 ⟨v1, rfl, hb, hs⟩
      replace HK := Lib.hid (HK.out.also hb hs)
      clear hb hs Hc
      have Hc := Lib.hid (rnormal_s (HK.out.get (u0) (l0) (by with_reducible (repeat (first | exact List.mem_cons_self | refine List.mem_cons_of_mem _ ?_)))) (by omega))
      go_wp2_with fail
      refine Hc.out.mono ?_
      rintro e w3 ⟨v2, rfl, hb, hs⟩
      replace HK := Lib.hid (HK.out.also hb hs)
      clear hb hs Hc
      have Hc := Lib.hid (same_s (HK.out.get (v1) (norm l0) (by with_reducible (repeat (first | exact List.mem_cons_self | refine List.mem_cons_of_mem _ ?_)))) (HK.out.get (v2) (norm l0) (by with_reducible (repeat (first | exact List.mem_cons_self | refine List.mem_cons_of_mem _ ?_)))) true (by simp))
      go_wp2_with fail
      refine Hc.out.mono ?_
      rintro e w4 ⟨rfl, hb⟩
      replace HK := Lib.hid (HK.out.call hb)
      clear hb
      clear Hc
      have Hc := Lib.hid (union_s (HK.out.get (u0) (l0) (by with_reducible (repeat (first | exact List.mem_cons_self | refine List.mem_cons_of_mem _ ?_)))) (HK.out.get (u1) (l1) (by with_reducible (repeat (first | exact List.mem_cons_self | refine List.mem_cons_of_mem _ ?_)))) (by omega))
      go_wp2_with fail
      refine Hc.out.mono ?_
      rintro e w5 ⟨v3, rfl, hb, hs⟩
      replace HK := Lib.hid (HK.out.also hb hs)
      clear hb hs Hc
      have Hc := Lib.hid (runion_s (HK.out.get (u0) (l0) (by with_reducible (repeat (first | exact List.mem_cons_self | refine List.mem_cons_of_mem _ ?_)))) (HK.out.get (u1) (l1) (by with_reducible (repeat (first | exact List.mem_cons_self | refine List.mem_cons_of_mem _ ?_)))) (by omega))
      go_wp2_with fail
      refine Hc.out.mono ?_
      rintro e w6 ⟨v4, rfl, hb, hs⟩
      replace HK := Lib.hid (HK.out.also hb hs)
      clear hb hs Hc
      have Hc := Lib.hid (same_s (HK.out.get (v3) (uniL l0 l1) (by with_reducible (repeat (first | exact List.mem_cons_self | refine List.mem_cons_of_mem _ ?_)))) (HK.out.get (v4) (uniL l0 l1) (by with_reducible (repeat (first | exact List.mem_cons_self | refine List.mem_cons_of_mem _ ?_)))) true (by simp))
      go_wp2_with fail
      refine Hc.out.mono ?_
      rintro e w7 ⟨rfl, hb⟩
      replace HK := Lib.hid (HK.out.call hb)
      clear hb
      clear Hc
      have Hc := Lib.hid (intersect_s (HK.out.get (u0) (l0) (by with_reducible (repeat (first | exact List.mem_cons_self | refine List.mem_cons_of_mem _ ?_)))) (HK.out.get (u1) (l1) (by with_reducible (repeat (first | exact List.mem_cons_self | refine List.mem_cons_of_mem _ ?_)))) (by omega))
      go_wp2_with fail
      refine Hc.out.mono ?_
      rintro e w8 ⟨v5, rfl, hb, hs⟩
      replace HK := Lib.hid (HK.out.also hb hs)
      clear hb hs Hc
      have Hc := Lib.hid (rintersect_s (HK.out.get (u0) (l0) (by with_reducible (repeat (first | exact List.mem_cons_self | refine List.mem_cons_of_mem _ ?_)))) (HK.out.get (u1) (l1) (by with_reducible (repeat (first | exact List.mem_cons_self | refine List.mem_cons_of_mem _ ?_)))) (by omega))
      go_wp2_with fail
      refine Hc.out.mono ?_
      rintro e w9 ⟨v6, rfl, hb, hs⟩
      replace HK := Lib.hid (HK.out.also hb hs)
      clear hb hs Hc
      have Hc := Lib.hid (same_s (HK.out.get (v5) (intL l0 l1) (by with_reducible (repeat (first | exact List.mem_cons_self | refine List.mem_cons_of_mem _ ?_)))) (HK.out.get (v6) (intL l0 l1) (by with_reducible (repeat (first | exact List.mem_cons_self | refine List.mem_cons_of_mem _ ?_)))) true (by simp))
      go_wp2_with fail
      refine Hc.out.mono ?_
      rintro e w10 ⟨rfl, hb⟩
      replace HK := Lib.hid (HK.out.call hb)
      clear hb
      clear Hc
      have Hc := Lib.hid (minus_s (HK.out.get (u0) (l0) (by with_reducible (repeat (first | exact List.mem_cons_self | refine List.mem_cons_of_mem _ ?_)))) (HK.out.get (u1) (l1) (by with_reducible (repeat (first | exact List.mem_cons_self | refine List.mem_cons_of_mem _ ?_)))) (by omega))
      go_wp2_with fail
      refine Hc.out.mono ?_
      rintro e w11 ⟨v7, rfl, hb, hs⟩
      replace HK := Lib.hid (HK.out.also hb hs)
      clear hb hs Hc
      have Hc := Lib.hid (rminus_s (HK.out.get (u0) (l0) (by with_reducible (repeat (first | exact List.mem_cons_self | refine List.mem_cons_of_mem _ ?_)))) (HK.out.get (u1) (l1) (by with_reducible (repeat (first | exact List.mem_cons_self | refine List.mem_cons_of_mem _ ?_)))) (by omega))
      go_wp2_with fail
      refine Hc.out.mono ?_
      rintro e w12 ⟨v8, rfl, hb, hs⟩
      replace HK := Lib.hid (HK.out.also hb hs)
      clear hb hs Hc
      have Hc := Lib.hid (same_s (HK.out.get (v7) (minL l0 l1) (by with_reducible (repeat (first | exact List.mem_cons_self | refine List.mem_cons_of_mem _ ?_)))) (HK.out.get (v8) (minL l0 l1) (by with_reducible (repeat (first | exact List.mem_cons_self | refine List.mem_cons_of_mem _ ?_)))) true (by simp))
      go_wp2_with fail
      refine Hc.out.mono ?_
      rintro e w13 ⟨rfl, hb⟩
      replace HK := Lib.hid (HK.out.call hb)
      clear hb
      clear Hc
      have Hc := Lib.hid (check_s (HK.out.get (u0) (l0) (by with_reducible (repeat (first | exact List.mem_cons_self | refine List.mem_cons_of_mem _ ?_)))) R HR.out)
      go_wp2_with fail
      refine Hc.out.mono ?_
      rintro e w14 ⟨rfl, hb⟩
      replace HK := Lib.hid (HK.out.call hb)
      clear hb
      clear Hc
      have Hc := Lib.hid (rcheck_s (HK.out.get (u0) (l0) (by with_reducible (repeat (first | exact List.mem_cons_self | refine List.mem_cons_of_mem _ ?_)))) R HR.out)
      go_wp2_with fail
      refine Hc.out.mono ?_
      rintro e w15 ⟨rfl, hb⟩
      replace HK := Lib.hid (HK.out.call hb)
      clear hb
      clear Hc
      have Hc := Lib.hid (minutes_s (HK.out.get (u0) (l0) (by with_reducible (repeat (first | exact List.mem_cons_self | refine List.mem_cons_of_mem _ ?_)))) (by omega) T HT.out)
      go_wp2_with fail
      refine Hc.out.mono ?_
      rintro e w16 ⟨rfl, hb⟩
      replace HK := Lib.hid (HK.out.call hb)
      clear hb
      clear Hc
      have Hc := Lib.hid (rminutes_s (HK.out.get (u0) (l0) (by with_reducible (repeat (first | exact List.mem_cons_self | refine List.mem_cons_of_mem _ ?_)))) (by omega) T HT.out)
      go_wp2_with fail
      refine Hc.out.mono ?_
      rintro e w17 ⟨rfl, hb⟩
      replace HK := Lib.hid (HK.out.call hb)
      clear hb
      clear Hc
      go_wp2
      go_ret
      exact ⟨rfl, HK.out.below⟩
    · have d1 : decide (l1.length ≤ 40) = false := decide_eq_false c1
      go_enter Try.func3, Try.ntmps3
      have Hc := Lib.hid (sane_true w)
      go_wp2_with fail
      refine Hc.out.mono ?_
      rintro e w1 ⟨rfl, hb⟩
      replace HK := Lib.hid (HK.out.call hb)
      clear hb
      clear Hc
      have Hc := Lib.hid (few_s (HK.out.get (u0) (l0) (by with_reducible (repeat (first | exact List.mem_cons_self | refine List.mem_cons_of_mem _ ?_)))))
      go_wp2_with fail
      refine Hc.out.mono ?_
      rintro e _ ⟨rfl, rfl⟩
      clear Hc
      have Hc := Lib.hid (few_s (HK.out.get (u1) (l1) (by with_reducible (repeat (first | exact List.mem_cons_self | refine List.mem_cons_of_mem _ ?_)))))
      go_wp2_with fail
      refine Hc.out.mono ?_
      rintro e _ ⟨rfl, rfl⟩
      clear Hc
      go_wp2
      go_ret
      exact ⟨rfl, HK.out.below⟩
  · have d0 : decide (l0.length ≤ 40) = false := decide_eq_false c0
    go_enter Try.func3, Try.ntmps3
    have Hc := Lib.hid (sane_true w)
    go_wp2_with fail
    refine Hc.out.mono ?_
    rintro e w1 ⟨rfl, hb⟩
    replace HK := Lib.hid (HK.out.call hb)
    clear hb
    clear Hc
    have Hc := Lib.hid (few_s (HK.out.get (u0) (l0) (by with_reducible (repeat (first | exact List.mem_cons_self | refine List.mem_cons_of_mem _ ?_)))))
    go_wp2_with fail
    refine Hc.out.mono ?_
    rintro e _ ⟨rfl, rfl⟩
    clear Hc
    go_wp2
    go_ret
    exact ⟨rfl, HK.out.below⟩

set_option maxRecDepth 100000 in
theorem lifted (os : Os) (started : os.Started) (H : Type) (enc : TypeId × Value → H) :
    ReturnsInHanded {} Try.checked os 3 .any (Rows.spansMatchReferenceSpec.pre6 enc Try.prog Try.f3 Rows.spansMatchReferenceRow.domain false) (Rows.spansMatchReferenceSpec.post enc Try.prog Try.f3 false true false false) := by
  refine returnsInHanded_of_change_sized (C := Try.checked) own started (by kernel_rfl) Try.func3
    (ChangeSpec.witness6 (enc := enc) (C := Try.checked) false ⟨#[], #[.slice none 0 0, .slice none 0 0], []⟩ 8 (by kernel_rfl) (by kernel_rfl) (by kernel_rfl) (by kernel_rfl)) ?_
  intro W base args ds gs before hval0 hW _ hsz0 _
  have hsz : (DataW.weightsEach Try.prog (Try.f3.params.toList ++ Rows.spansMatchReferenceSpec.plain.varTypes Try.prog) (ds ++ gs)).all (· ≤ reachBytes) = true := hsz0
  have hval : ∀ (j : Nat) t v, Try.f3.params[j]? = some t → args[j]? = some v → Value.okWide Try.prog W .any base t v := hval0
  clear hsz0 hval0
  have hW' := hW
  obtain ⟨p, q, hA0, hV, rfl, _, _⟩ := hW
  have hA : DataW.TrodAll enc Try.prog W 0 (fun _ => true) true Try.f3.params.toList args.toList ds p := hA0
  rw [Try.params3] at hA hval hsz
  obtain ⟨v0, vs0, d0, ds0, p0, q0, hargs, rfl, rfl, h0, r0⟩ := trodAll_cons hA
  obtain ⟨v1, vs1, d1, ds1, p1, q1, rfl, rfl, rfl, h1, r1⟩ := trodAll_cons r0
  obtain ⟨rfl, rfl, rfl⟩ := trodAll_nil r1
  obtain rfl : args = #[v0, v1] := by cases args; simp_all
  obtain ⟨rfl, rfl⟩ := trodVars_none hV
  have hw0 : ∀ n ∈ d0.weights Try.prog 22, n ≤ reachBytes := by
    intro n hn
    have := List.all_eq_true.1 hsz n (DataW.weights_mem_each (t := 22) (d := d0) (j := 0) rfl rfl n hn)
    simpa using this
  obtain ⟨fuel0, hf0⟩ := h0
  obtain ⟨l0, hl0⟩ := openS (v := v0) (by first | exact hf0 | (obtain ⟨o, m, c, rfl⟩ := okWide_slice Try.underlying22 (hval 0 22 v0 rfl rfl); exact hf0)) hw0
  have hw1 : ∀ n ∈ d1.weights Try.prog 22, n ≤ reachBytes := by
    intro n hn
    have := List.all_eq_true.1 hsz n (DataW.weights_mem_each (t := 22) (d := d1) (j := 1) rfl rfl n hn)
    simpa using this
  obtain ⟨fuel1, hf1⟩ := h1
  obtain ⟨l1, hl1⟩ := openS (v := v1) (by first | exact hf1 | (obtain ⟨o, m, c, rfl⟩ := okWide_slice Try.underlying22 (hval 1 22 v1 rfl rfl); exact hf1)) hw1
  clear hA0
  refine (walk l0 l1 v0 v1 W hl0 hl1).mono fun e W' ⟨he, hb⟩ => ?_
  subst he
  refine ⟨_, rfl, post_law laidOut ?_ rfl rfl hW' rfl rfl rfl hb⟩
  intro t ht
  rw [Try.params3] at ht
  have hm : t ∈ [3, 22] := (by decide : ∀ t ∈ (#[22, 22] : Array TypeId).toList, t ∈ [3, 22]) t ht
  have hall : ([3, 22].all fun u => Try.prog.readableRec u && decide (u < Try.prog.types.size)) = true := by kernel_rfl
  have := List.all_eq_true.1 hall t hm
  simpa using this

theorem over : Rows.spansMatchReferenceRow.holds Try.pinned (OpenSpec.ofChange Rows.spansMatchReferenceSpec) :=
  OpenClaim.holds_of_wide 3 Try.f3 rfl rfl rfl rfl rfl rfl rfl ⟨rfl, rfl, rfl, rfl, rfl⟩ rfl rfl rfl rfl rfl (by kernel_rfl) Try.func3 (by kernel_rfl)
    (of_decide_eq_true (by kernel_rfl)) (by unfold Func.isWrapper; first | (rw [if_pos (by decide +kernel)]; kernel_rfl) | (rw [if_neg (by decide +kernel)]; exact ⟨rfl, rfl⟩))
    (fun os started H enc _ => lifted os started H enc)

/-- THE STATEMENT. -/
theorem proved : Rows.SpansMatchReferenceSaid :=
  over
#print axioms proved
end Go.Proofs.Ytboojinokljelaa.spansMatchReference
