/-
  The statement 'Rows.SpansMinutesSaid': for all arguments the law returns true; the arguments read as they did.
-/
import Derived.Test.YtboojinokljelaaSn
import Derived.Test.YtboojinokljelaaOw
namespace Go.Proofs.Ytboojinokljelaa.spansMinutes
open Go.ChangeShapes Go.WideShapes Go.ChangeAt Go.RowKit
set_option linter.unusedVariables false
set_option linter.unusedSimpArgs false

set_option maxRecDepth 100000 in
set_option maxHeartbeats 4000000 in
theorem walk (l0 : List (Int × Int)) (l1 : List (Int × Int)) (u0 : Value) (u1 : Value) (w : World) (h0 : Sl (fun k => k < w.heap.size) w u0 l0) (h1 : Sl (fun k => k < w.heap.size) w u1 l1) :
    Calls Try.prog 8 #[u0, u1] w fun e w' => e = .returned (.bool true) ∧ Below w.heap.size w w' := by
  have HK : Hid (Kn w [(u0, l0), (u1, l1)] w) := Lib.hid ⟨Below.refl _ _, by
    intro y hy
    simp only [List.mem_cons, List.not_mem_nil, or_false] at hy
    rcases hy with rfl | rfl
    · exact h0
    · exact h1⟩
  clear h0 h1
  by_cases c0 : l0.length ≤ 40
  · have d0 : decide (l0.length ≤ 40) = true := decide_eq_true c0
    by_cases c1 : l1.length ≤ 40
    · have d1 : decide (l1.length ≤ 40) = true := decide_eq_true c1
      have z1 := tot_union (norm_nr l0) (norm_nr l1) (uni_nr l0 l1) (int_nr l0 l1) (fun m => by rw [uni_cov, norm_cov, norm_cov]) (fun m => by rw [int_cov, norm_cov, norm_cov])
      have z2 := tot_minus (b := norm l1) (norm_nr l0) (min_nr l0 l1) (int_nr l0 l1) (fun m => by rw [min_cov, norm_cov, norm_cov]) (fun m => by rw [int_cov, norm_cov, norm_cov])
      have z3 := tot_range (norm_nr l0)
      have z4 := tot_range (norm_nr l1)
      have z5 := tot_range (int_nr l0 l1)
      have z6 := tot_range (uni_nr l0 l1)
      have t1 := uni_length l0 l1
      have t2 := int_length l0 l1
      have t3 := min_length l0 l1
      obtain ⟨A, hA⟩ : ∃ A, A = tot (norm l0) := ⟨_, rfl⟩
      obtain ⟨B, hB⟩ : ∃ B, B = tot (norm l1) := ⟨_, rfl⟩
      obtain ⟨I, hI⟩ : ∃ I, I = tot (intL l0 l1) := ⟨_, rfl⟩
      obtain ⟨U, hU⟩ : ∃ U, U = tot (uniL l0 l1) := ⟨_, rfl⟩
      obtain ⟨M, hM⟩ : ∃ M, M = tot (minL l0 l1) := ⟨_, rfl⟩
      have hI2 : I = tot (norm (intL l0 l1)) := by rw [norm_self (int_nr l0 l1)]; exact hI
      have hU2 : U = tot (norm (uniL l0 l1)) := by rw [norm_self (uni_nr l0 l1)]; exact hU
      have hM2 : M = tot (norm (minL l0 l1)) := by rw [norm_self (min_nr l0 l1)]; exact hM
      rw [← hA, ← hB, ← hI, ← hU] at z1
      rw [← hA, ← hM, ← hI] at z2
      rw [← hA] at z3; rw [← hB] at z4; rw [← hI] at z5; rw [← hU] at z6
      have y1 : decide (0 ≤ A) = true := decide_eq_true z3.1
      have y2 : decide (A ≤ 1073741824) = true := decide_eq_true z3.2
      have y3 : (U + I == A + B) = true := by rw [z1]; simp
      have y4 : (M == A - I) = true := by rw [← z2]; simp
      obtain ⟨b1, b2⟩ := z3; obtain ⟨b3, b4⟩ := z4; obtain ⟨b5, b6⟩ := z5; obtain ⟨b7, b8⟩ := z6
      have HA := Lib.hid hA; have HB := Lib.hid hB; have HI2 := Lib.hid hI2; have HU2 := Lib.hid hU2; have HM2 := Lib.hid hM2
      clear hA hB hI hU hM hI2 hU2 hM2 z1 z2
      go_enter Try.func8, Try.ntmps8
      have Hc := Lib.hid (sane_true w)
      go_wp2_with fail
      refine Hc.out.mono ?_
      rintro e w1 ⟨rfl, hb⟩
      replace HK := Lib.hid (HK.out.call hb)
      clear hb
      clear Hc
      have Hc := Lib.hid (few_s (HK.out.get (u0) (l0) (by with_reducible (repeat (first | exact List.mem_cons_self | refine List.mem_cons_of_mem _ ?_)))))
      go_wp2_with fail
      refine Hc.out.mono ?_
      rintro e _ ⟨rfl, rfl⟩
      clear Hc
      have Hc := Lib.hid (few_s (HK.out.get (u1) (l1) (by with_reducible (repeat (first | exact List.mem_cons_self | refine List.mem_cons_of_mem _ ?_)))))
      go_wp2_with fail
      refine Hc.out.mono ?_
      rintro e _ ⟨rfl, rfl⟩
      clear Hc
      have Hc := Lib.hid (minutes_s (HK.out.get (u0) (l0) (by with_reducible (repeat (first | exact List.mem_cons_self | refine List.mem_cons_of_mem _ ?_)))) (by omega) A HA.out)
      go_wp2_with fail
      refine Hc.out.mono ?_
      rintro e w2 ⟨rfl, hb⟩
      replace HK := Lib.hid (HK.out.call hb)
      clear hb
      clear Hc
      have Hc := Lib.hid (minutes_s (HK.out.get (u1) (l1) (by with_reducible (repeat (first | exact List.mem_cons_self | refine List.mem_cons_of_mem _ ?_)))) (by omega) B HB.out)
      go_wp2_with fail
      refine Hc.out.mono ?_
      rintro e w3 ⟨rfl, hb⟩
      replace HK := Lib.hid (HK.out.call hb)
      clear hb
      clear Hc
      have Hc := Lib.hid (intersect_s (HK.out.get (u0) (l0) (by with_reducible (repeat (first | exact List.mem_cons_self | refine List.mem_cons_of_mem _ ?_)))) (HK.out.get (u1) (l1) (by with_reducible (repeat (first | exact List.mem_cons_self | refine List.mem_cons_of_mem _ ?_)))) (by omega))
      go_wp2_with fail
      refine Hc.out.mono ?_
      rintro e w4 ⟨v1, rfl, hb, hs⟩
      replace HK := Lib.hid (HK.out.also hb hs)
      clear hb hs Hc
      have Hc := Lib.hid (minutes_s (HK.out.get (v1) (intL l0 l1) (by with_reducible (repeat (first | exact List.mem_cons_self | refine List.mem_cons_of_mem _ ?_)))) (by omega) I HI2.out)
      go_wp2_with fail
      refine Hc.out.mono ?_
      rintro e w5 ⟨rfl, hb⟩
      replace HK := Lib.hid (HK.out.call hb)
      clear hb
      clear Hc
      have Hc := Lib.hid (union_s (HK.out.get (u0) (l0) (by with_reducible (repeat (first | exact List.mem_cons_self | refine List.mem_cons_of_mem _ ?_)))) (HK.out.get (u1) (l1) (by with_reducible (repeat (first | exact List.mem_cons_self | refine List.mem_cons_of_mem _ ?_)))) (by omega))
      go_wp2_with fail
      refine Hc.out.mono ?_
      rintro e w6 ⟨v2, rfl, hb, hs⟩
      replace HK := Lib.hid (HK.out.also hb hs)
      clear hb hs Hc
      have Hc := Lib.hid (minutes_s (HK.out.get (v2) (uniL l0 l1) (by with_reducible (repeat (first | exact List.mem_cons_self | refine List.mem_cons_of_mem _ ?_)))) (by omega) U HU2.out)
      go_wp2_with fail
      refine Hc.out.mono ?_
      rintro e w7 ⟨rfl, hb⟩
      replace HK := Lib.hid (HK.out.call hb)
      clear hb
      clear Hc
      have Hc := Lib.hid (minus_s (HK.out.get (u0) (l0) (by with_reducible (repeat (first | exact List.mem_cons_self | refine List.mem_cons_of_mem _ ?_)))) (HK.out.get (u1) (l1) (by with_reducible (repeat (first | exact List.mem_cons_self | refine List.mem_cons_of_mem _ ?_)))) (by omega))
      go_wp2_with fail
      refine Hc.out.mono ?_
      rintro e w8 ⟨v3, rfl, hb, hs⟩
      replace HK := Lib.hid (HK.out.also hb hs)
      clear hb hs Hc
      have Hc := Lib.hid (minutes_s (HK.out.get (v3) (minL l0 l1) (by with_reducible (repeat (first | exact List.mem_cons_self | refine List.mem_cons_of_mem _ ?_)))) (by omega) M HM2.out)
      go_wp2_with fail
      refine Hc.out.mono ?_
      rintro e w9 ⟨rfl, hb⟩
      replace HK := Lib.hid (HK.out.call hb)
      clear hb
      clear Hc
      go_wp2
      go_ret
      exact ⟨rfl, HK.out.below⟩
    · have d1 : decide (l1.length ≤ 40) = false := decide_eq_false c1
      go_enter Try.func8, Try.ntmps8
      have Hc := Lib.hid (sane_true w)
      go_wp2_with fail
      refine Hc.out.mono ?_
      rintro e w1 ⟨rfl, hb⟩
      replace HK := Lib.hid (HK.out.call hb)
      clear hb
      clear Hc
      have Hc := Lib.hid (few_s (HK.out.get (u0) (l0) (by with_reducible (repeat (first | exact List.mem_cons_self | refine List.mem_cons_of_mem _ ?_)))))
      go_wp2_with fail
      refine Hc.out.mono ?_
      rintro e _ ⟨rfl, rfl⟩
      clear Hc
      have Hc := Lib.hid (few_s (HK.out.get (u1) (l1) (by with_reducible (repeat (first | exact List.mem_cons_self | refine List.mem_cons_of_mem _ ?_)))))
      go_wp2_with fail
      refine Hc.out.mono ?_
      rintro e _ ⟨rfl, rfl⟩
      clear Hc
      go_wp2
      go_ret
      exact ⟨rfl, HK.out.below⟩
  · have d0 : decide (l0.length ≤ 40) = false := decide_eq_false c0
    go_enter Try.func8, Try.ntmps8
    have Hc := Lib.hid (sane_true w)
    go_wp2_with fail
    refine Hc.out.mono ?_
    rintro e w1 ⟨rfl, hb⟩
    replace HK := Lib.hid (HK.out.call hb)
    clear hb
    clear Hc
    have Hc := Lib.hid (few_s (HK.out.get (u0) (l0) (by with_reducible (repeat (first | exact List.mem_cons_self | refine List.mem_cons_of_mem _ ?_)))))
    go_wp2_with fail
    refine Hc.out.mono ?_
    rintro e _ ⟨rfl, rfl⟩
    clear Hc
    go_wp2
    go_ret
    exact ⟨rfl, HK.out.below⟩

set_option maxRecDepth 100000 in
theorem lifted (os : Os) (started : os.Started) (H : Type) (enc : TypeId × Value → H) :
    ReturnsInHanded {} Try.checked os 8 .any (Rows.spansMinutesSpec.pre6 enc Try.prog Try.f8 Rows.spansMinutesRow.domain false) (Rows.spansMinutesSpec.post enc Try.prog Try.f8 false true false false) := by
  refine returnsInHanded_of_change_sized (C := Try.checked) own started (by kernel_rfl) Try.func8
    (ChangeSpec.witness6 (enc := enc) (C := Try.checked) false ⟨#[], #[.slice none 0 0, .slice none 0 0], []⟩ 8 (by kernel_rfl) (by kernel_rfl) (by kernel_rfl) (by kernel_rfl)) ?_
  intro W base args ds gs before hval0 hW _ hsz0 _
  have hsz : (DataW.weightsEach Try.prog (Try.f8.params.toList ++ Rows.spansMinutesSpec.plain.varTypes Try.prog) (ds ++ gs)).all (· ≤ reachBytes) = true := hsz0
  have hval : ∀ (j : Nat) t v, Try.f8.params[j]? = some t → args[j]? = some v → Value.okWide Try.prog W .any base t v := hval0
  clear hsz0 hval0
  have hW' := hW
  obtain ⟨p, q, hA0, hV, rfl, _, _⟩ := hW
  have hA : DataW.TrodAll enc Try.prog W 0 (fun _ => true) true Try.f8.params.toList args.toList ds p := hA0
  rw [Try.params8] at hA hval hsz
  obtain ⟨v0, vs0, d0, ds0, p0, q0, hargs, rfl, rfl, h0, r0⟩ := trodAll_cons hA
  obtain ⟨v1, vs1, d1, ds1, p1, q1, rfl, rfl, rfl, h1, r1⟩ := trodAll_cons r0
  obtain ⟨rfl, rfl, rfl⟩ := trodAll_nil r1
  obtain rfl : args = #[v0, v1] := by cases args; simp_all
  obtain ⟨rfl, rfl⟩ := trodVars_none hV
  have hw0 : ∀ n ∈ d0.weights Try.prog 22, n ≤ reachBytes := by
    intro n hn
    have := List.all_eq_true.1 hsz n (DataW.weights_mem_each (t := 22) (d := d0) (j := 0) rfl rfl n hn)
    simpa using this
  obtain ⟨fuel0, hf0⟩ := h0
  obtain ⟨l0, hl0⟩ := openS (v := v0) (by first | exact hf0 | (obtain ⟨o, m, c, rfl⟩ := okWide_slice Try.underlying22 (hval 0 22 v0 rfl rfl); exact hf0)) hw0
  have hw1 : ∀ n ∈ d1.weights Try.prog 22, n ≤ reachBytes := by
    intro n hn
    have := List.all_eq_true.1 hsz n (DataW.weights_mem_each (t := 22) (d := d1) (j := 1) rfl rfl n hn)
    simpa using this
  obtain ⟨fuel1, hf1⟩ := h1
  obtain ⟨l1, hl1⟩ := openS (v := v1) (by first | exact hf1 | (obtain ⟨o, m, c, rfl⟩ := okWide_slice Try.underlying22 (hval 1 22 v1 rfl rfl); exact hf1)) hw1
  clear hA0
  refine (walk l0 l1 v0 v1 W hl0 hl1).mono fun e W' ⟨he, hb⟩ => ?_
  subst he
  refine ⟨_, rfl, post_law laidOut ?_ rfl rfl hW' rfl rfl rfl hb⟩
  intro t ht
  rw [Try.params8] at ht
  have hm : t ∈ [3, 22] := (by decide : ∀ t ∈ (#[22, 22] : Array TypeId).toList, t ∈ [3, 22]) t ht
  have hall : ([3, 22].all fun u => Try.prog.readableRec u && decide (u < Try.prog.types.size)) = true := by kernel_rfl
  have := List.all_eq_true.1 hall t hm
  simpa using this

theorem over : Rows.spansMinutesRow.holds Try.pinned (OpenSpec.ofChange Rows.spansMinutesSpec) :=
  OpenClaim.holds_of_wide 8 Try.f8 rfl rfl rfl rfl rfl rfl rfl ⟨rfl, rfl, rfl, rfl, rfl⟩ rfl rfl rfl rfl rfl (by kernel_rfl) Try.func8 (by kernel_rfl)
    (of_decide_eq_true (by kernel_rfl)) (by unfold Func.isWrapper; first | (rw [if_pos (by decide +kernel)]; kernel_rfl) | (rw [if_neg (by decide +kernel)]; exact ⟨rfl, rfl⟩))
    (fun os started H enc _ => lifted os started H enc)

/-- THE STATEMENT. -/
theorem proved : Rows.SpansMinutesSaid :=
  over
#print axioms proved
end Go.Proofs.Ytboojinokljelaa.spansMinutes
