/-
  The statement 'Rows.SpansAlgebraSaid': for all arguments the law returns true; the arguments read as they did.
-/
import Derived.Test.YtboojinokljelaaSn
import Derived.Test.YtboojinokljelaaOw
namespace Go.Proofs.Ytboojinokljelaa.spansAlgebra
open Go.ChangeShapes Go.WideShapes Go.ChangeAt Go.RowKit
set_option linter.unusedVariables false
set_option linter.unusedSimpArgs false

theorem alg1 (a b : List (Int × Int)) : true = decide (uniL a b = uniL b a) := (decide_eq_true (nr_uniq _ _ _ _ (uni_nr _ _) (uni_nr _ _) (fun m => by rw [uni_cov, uni_cov, or_comm]))).symm
theorem alg2 (a b : List (Int × Int)) : true = decide (intL a b = intL b a) := (decide_eq_true (nr_uniq _ _ _ _ (int_nr _ _) (int_nr _ _) (fun m => by rw [int_cov, int_cov, and_comm]))).symm
theorem alg3 (a b c : List (Int × Int)) : true = decide (intL a (uniL b c) = uniL (intL a b) (intL a c)) := (decide_eq_true (nr_uniq _ _ _ _ (int_nr _ _) (uni_nr _ _) (fun m => by rw [int_cov, uni_cov, mem_uni, mem_int, mem_int, and_or_left]))).symm
theorem alg4 (a b c : List (Int × Int)) : true = decide (minL a (uniL b c) = intL (minL a b) (minL a c)) := (decide_eq_true (nr_uniq _ _ _ _ (min_nr _ _) (int_nr _ _) (fun m => by
  rw [min_cov, int_cov, mem_uni, mem_min, mem_min, not_or]
  constructor
  · exact fun h => ⟨⟨h.1, h.2.1⟩, h.1, h.2.2⟩
  · exact fun h => ⟨h.1.1, h.1.2, h.2.2⟩))).symm
theorem alg5 (a b : List (Int × Int)) : true = decide (uniL (minL a b) (intL a b) = norm a) := (decide_eq_true (nr_uniq _ _ _ _ (uni_nr _ _) (norm_nr _) (fun m => by
  rw [uni_cov, norm_cov, mem_min, mem_int]
  constructor
  · rintro (h | h)
    · exact h.1
    · exact h.1
  · intro h
    by_cases hb : mem b m
    · exact .inr ⟨h, hb⟩
    · exact .inl ⟨h, hb⟩))).symm

set_option maxRecDepth 100000 in
set_option maxHeartbeats 4000000 in
theorem walk (l0 : List (Int × Int)) (l1 : List (Int × Int)) (l2 : List (Int × Int)) (u0 : Value) (u1 : Value) (u2 : Value) (w : World) (h0 : Sl (fun k => k < w.heap.size) w u0 l0) (h1 : Sl (fun k => k < w.heap.size) w u1 l1) (h2 : Sl (fun k => k < w.heap.size) w u2 l2) :
    Calls Try.prog 7 #[u0, u1, u2] w fun e w' => e = .returned (.bool true) ∧ Below w.heap.size w w' := by
  have HK : Hid (Kn w [(u0, l0), (u1, l1), (u2, l2)] w) := Lib.hid ⟨Below.refl _ _, by
    intro y hy
    simp only [List.mem_cons, List.not_mem_nil, or_false] at hy
    rcases hy with rfl | rfl | rfl
    · exact h0
    · exact h1
    · exact h2⟩
  clear h0 h1 h2
  by_cases c0 : l0.length ≤ 40
  · have d0 : decide (l0.length ≤ 40) = true := decide_eq_true c0
    by_cases c1 : l1.length ≤ 40
    · have d1 : decide (l1.length ≤ 40) = true := decide_eq_true c1
      by_cases c2 : l2.length ≤ 40
      · have d2 : decide (l2.length ≤ 40) = true := decide_eq_true c2
        have t1 := uni_length l1 l2
        have t2 := int_length l0 l1
        have t3 := int_length l0 l2
        have t4 := min_length l0 l1
        have t5 := min_length l0 l2
        go_enter Try.func7, Try.ntmps7
        have Hc := Lib.hid (sane_true w)
        go_wp2_with fail
        refine Hc.out.mono ?_
        rintro e w1 ⟨rfl, hb⟩
        replace HK := Lib.hid (HK.out.call hb)
        clear hb
        clear Hc
        have Hc := Lib.hid (few_s (HK.out.get (u0) (l0) (by with_reducible (repeat (first | exact List.mem_cons_self | refine List.mem_cons_of_mem _ ?_)))))
        go_wp2_with fail
        refine Hc.out.mono ?_
        rintro e _ ⟨rfl, rfl⟩
        clear Hc
        have Hc := Lib.hid (few_s (HK.out.get (u1) (l1) (by with_reducible (repeat (first | exact List.mem_cons_self | refine List.mem_cons_of_mem _ ?_)))))
        go_wp2_with fail
        refine Hc.out.mono ?_
        rintro e _ ⟨rfl, rfl⟩
        clear Hc
        have Hc := Lib.hid (few_s (HK.out.get (u2) (l2) (by with_reducible (repeat (first | exact List.mem_cons_self | refine List.mem_cons_of_mem _ ?_)))))
        go_wp2_with fail
        refine Hc.out.mono ?_
        rintro e _ ⟨rfl, rfl⟩
        clear Hc
        have Hc := Lib.hid (union_s (HK.out.get (u1) (l1) (by with_reducible (repeat (first | exact List.mem_cons_self | refine List.mem_cons_of_mem _ ?_)))) (HK.out.get (u2) (l2) (by with_reducible (repeat (first | exact List.mem_cons_self | refine List.mem_cons_of_mem _ ?_)))) (by omega))
        go_wp2_with fail
        refine Hc.out.mono ?_
        rintro e w2 ⟨v1, rfl, hb, hs⟩
        replace HK := Lib.hid (HK.out.also hb hs)
        clear hb hs Hc
        have Hc := Lib.hid (intersect_s (HK.out.get (u0) (l0) (by with_reducible (repeat (first | exact List.mem_cons_self | refine List.mem_cons_of_mem _ ?_)))) (HK.out.get (v1) (uniL l1 l2) (by with_reducible (repeat (first | exact List.mem_cons_self | refine List.mem_cons_of_mem _ ?_)))) (by omega))
        go_wp2_with fail
        refine Hc.out.mono ?_
        rintro e w3 ⟨v2, rfl, hb, hs⟩
        replace HK := Lib.hid (HK.out.also hb hs)
        clear hb hs Hc
        have Hc := Lib.hid (intersect_s (HK.out.get (u0) (l0) (by with_reducible (repeat (first | exact List.mem_cons_self | refine List.mem_cons_of_mem _ ?_)))) (HK.out.get (u1) (l1) (by with_reducible (repeat (first | exact List.mem_cons_self | refine List.mem_cons_of_mem _ ?_)))) (by omega))
        go_wp2_with fail
        refine Hc.out.mono ?_
        rintro e w4 ⟨v3, rfl, hb, hs⟩
        replace HK := Lib.hid (HK.out.also hb hs)
        clear hb hs Hc
        have Hc := Lib.hid (intersect_s (HK.out.get (u0) (l0) (by with_reducible (repeat (first | exact List.mem_cons_self | refine List.mem_cons_of_mem _ ?_)))) (HK.out.get (u2) (l2) (by with_reducible (repeat (first | exact List.mem_cons_self | refine List.mem_cons_of_mem _ ?_)))) (by omega))
        go_wp2_with fail
        refine Hc.out.mono ?_
        rintro e w5 ⟨v4, rfl, hb, hs⟩
        replace HK := Lib.hid (HK.out.also hb hs)
        clear hb hs Hc
        have Hc := Lib.hid (union_s (HK.out.get (v3) (intL l0 l1) (by with_reducible (repeat (first | exact List.mem_cons_self | refine List.mem_cons_of_mem _ ?_)))) (HK.out.get (v4) (intL l0 l2) (by with_reducible (repeat (first | exact List.mem_cons_self | refine List.mem_cons_of_mem _ ?_)))) (by omega))
        go_wp2_with fail
        refine Hc.out.mono ?_
        rintro e w6 ⟨v5, rfl, hb, hs⟩
        replace HK := Lib.hid (HK.out.also hb hs)
        clear hb hs Hc
        have Hc := Lib.hid (minus_s (HK.out.get (u0) (l0) (by with_reducible (repeat (first | exact List.mem_cons_self | refine List.mem_cons_of_mem _ ?_)))) (HK.out.get (v1) (uniL l1 l2) (by with_reducible (repeat (first | exact List.mem_cons_self | refine List.mem_cons_of_mem _ ?_)))) (by omega))
        go_wp2_with fail
        refine Hc.out.mono ?_
        rintro e w7 ⟨v6, rfl, hb, hs⟩
        replace HK := Lib.hid (HK.out.also hb hs)
        clear hb hs Hc
        have Hc := Lib.hid (minus_s (HK.out.get (u0) (l0) (by with_reducible (repeat (first | exact List.mem_cons_self | refine List.mem_cons_of_mem _ ?_)))) (HK.out.get (u1) (l1) (by with_reducible (repeat (first | exact List.mem_cons_self | refine List.mem_cons_of_mem _ ?_)))) (by omega))
        go_wp2_with fail
        refine Hc.out.mono ?_
        rintro e w8 ⟨v7, rfl, hb, hs⟩
        replace HK := Lib.hid (HK.out.also hb hs)
        clear hb hs Hc
        have Hc := Lib.hid (minus_s (HK.out.get (u0) (l0) (by with_reducible (repeat (first | exact List.mem_cons_self | refine List.mem_cons_of_mem _ ?_)))) (HK.out.get (u2) (l2) (by with_reducible (repeat (first | exact List.mem_cons_self | refine List.mem_cons_of_mem _ ?_)))) (by omega))
        go_wp2_with fail
        refine Hc.out.mono ?_
        rintro e w9 ⟨v8, rfl, hb, hs⟩
        replace HK := Lib.hid (HK.out.also hb hs)
        clear hb hs Hc
        have Hc := Lib.hid (intersect_s (HK.out.get (v7) (minL l0 l1) (by with_reducible (repeat (first | exact List.mem_cons_self | refine List.mem_cons_of_mem _ ?_)))) (HK.out.get (v8) (minL l0 l2) (by with_reducible (repeat (first | exact List.mem_cons_self | refine List.mem_cons_of_mem _ ?_)))) (by omega))
        go_wp2_with fail
        refine Hc.out.mono ?_
        rintro e w10 ⟨v9, rfl, hb, hs⟩
        replace HK := Lib.hid (HK.out.also hb hs)
        clear hb hs Hc
        have Hc := Lib.hid (minus_s (HK.out.get (u0) (l0) (by with_reducible (repeat (first | exact List.mem_cons_self | refine List.mem_cons_of_mem _ ?_)))) (HK.out.get (u1) (l1) (by with_reducible (repeat (first | exact List.mem_cons_self | refine List.mem_cons_of_mem _ ?_)))) (by omega))
        go_wp2_with fail
        refine Hc.out.mono ?_
        rintro e w11 ⟨v10, rfl, hb, hs⟩
        replace HK := Lib.hid (HK.out.also hb hs)
        clear hb hs Hc
        have Hc := Lib.hid (intersect_s (HK.out.get (u0) (l0) (by with_reducible (repeat (first | exact List.mem_cons_self | refine List.mem_cons_of_mem _ ?_)))) (HK.out.get (u1) (l1) (by with_reducible (repeat (first | exact List.mem_cons_self | refine List.mem_cons_of_mem _ ?_)))) (by omega))
        go_wp2_with fail
        refine Hc.out.mono ?_
        rintro e w12 ⟨v11, rfl, hb, hs⟩
        replace HK := Lib.hid (HK.out.also hb hs)
        clear hb hs Hc
        have Hc := Lib.hid (union_s (HK.out.get (v10) (minL l0 l1) (by with_reducible (repeat (first | exact List.mem_cons_self | refine List.mem_cons_of_mem _ ?_)))) (HK.out.get (v11) (intL l0 l1) (by with_reducible (repeat (first | exact List.mem_cons_self | refine List.mem_cons_of_mem _ ?_)))) (by omega))
        go_wp2_with fail
        refine Hc.out.mono ?_
        rintro e w13 ⟨v12, rfl, hb, hs⟩
        replace HK := Lib.hid (HK.out.also hb hs)
        clear hb hs Hc
        have Hc := Lib.hid (union_s (HK.out.get (u2) (l2) (by with_reducible (repeat (first | exact List.mem_cons_self | refine List.mem_cons_of_mem _ ?_)))) (HK.out.get (u1) (l1) (by with_reducible (repeat (first | exact List.mem_cons_self | refine List.mem_cons_of_mem _ ?_)))) (by omega))
        go_wp2_with fail
        refine Hc.out.mono ?_
        rintro e w14 ⟨v13, rfl, hb, hs⟩
        replace HK := Lib.hid (HK.out.also hb hs)
        clear hb hs Hc
        have Hc := Lib.hid (same_s (HK.out.get (v1) (uniL l1 l2) (by with_reducible (repeat (first | exact List.mem_cons_self | refine List.mem_cons_of_mem _ ?_)))) (HK.out.get (v13) (uniL l2 l1) (by with_reducible (repeat (first | exact List.mem_cons_self | refine List.mem_cons_of_mem _ ?_)))) true (alg1 l1 l2))
        go_wp2_with fail
        refine Hc.out.mono ?_
        rintro e w15 ⟨rfl, hb⟩
        replace HK := Lib.hid (HK.out.call hb)
        clear hb
        clear Hc
        have Hc := Lib.hid (intersect_s (HK.out.get (u0) (l0) (by with_reducible (repeat (first | exact List.mem_cons_self | refine List.mem_cons_of_mem _ ?_)))) (HK.out.get (u1) (l1) (by with_reducible (repeat (first | exact List.mem_cons_self | refine List.mem_cons_of_mem _ ?_)))) (by omega))
        go_wp2_with fail
        refine Hc.out.mono ?_
        rintro e w16 ⟨v14, rfl, hb, hs⟩
        replace HK := Lib.hid (HK.out.also hb hs)
        clear hb hs Hc
        have Hc := Lib.hid (intersect_s (HK.out.get (u1) (l1) (by with_reducible (repeat (first | exact List.mem_cons_self | refine List.mem_cons_of_mem _ ?_)))) (HK.out.get (u0) (l0) (by with_reducible (repeat (first | exact List.mem_cons_self | refine List.mem_cons_of_mem _ ?_)))) (by omega))
        go_wp2_with fail
        refine Hc.out.mono ?_
        rintro e w17 ⟨v15, rfl, hb, hs⟩
        replace HK := Lib.hid (HK.out.also hb hs)
        clear hb hs Hc
        have Hc := Lib.hid (same_s (HK.out.get (v14) (intL l0 l1) (by with_reducible (repeat (first | exact List.mem_cons_self | refine List.mem_cons_of_mem _ ?_)))) (HK.out.get (v15) (intL l1 l0) (by with_reducible (repeat (first | exact List.mem_cons_self | refine List.mem_cons_of_mem _ ?_)))) true (alg2 l0 l1))
        go_wp2_with fail
        refine Hc.out.mono ?_
        rintro e w18 ⟨rfl, hb⟩
        replace HK := Lib.hid (HK.out.call hb)
        clear hb
        clear Hc
        have Hc := Lib.hid (same_s (HK.out.get (v2) (intL l0 (uniL l1 l2)) (by with_reducible (repeat (first | exact List.mem_cons_self | refine List.mem_cons_of_mem _ ?_)))) (HK.out.get (v5) (uniL (intL l0 l1) (intL l0 l2)) (by with_reducible (repeat (first | exact List.mem_cons_self | refine List.mem_cons_of_mem _ ?_)))) true (alg3 l0 l1 l2))
        go_wp2_with fail
        refine Hc.out.mono ?_
        rintro e w19 ⟨rfl, hb⟩
        replace HK := Lib.hid (HK.out.call hb)
        clear hb
        clear Hc
        have Hc := Lib.hid (same_s (HK.out.get (v6) (minL l0 (uniL l1 l2)) (by with_reducible (repeat (first | exact List.mem_cons_self | refine List.mem_cons_of_mem _ ?_)))) (HK.out.get (v9) (intL (minL l0 l1) (minL l0 l2)) (by with_reducible (repeat (first | exact List.mem_cons_self | refine List.mem_cons_of_mem _ ?_)))) true (alg4 l0 l1 l2))
        go_wp2_with fail
        refine Hc.out.mono ?_
        rintro e w20 ⟨rfl, hb⟩
        replace HK := Lib.hid (HK.out.call hb)
        clear hb
        clear Hc
        have Hc := Lib.hid (normal_s (HK.out.get (u0) (l0) (by with_reducible (repeat (first | exact List.mem_cons_self | refine List.mem_cons_of_mem _ ?_)))) (by omega))
        go_wp2_with fail
        refine Hc.out.mono ?_
        rintro e w21 ⟨v16, rfl, hb, hs⟩
        replace HK := Lib.hid (HK.out.also hb hs)
        clear hb hs Hc
        have Hc := Lib.hid (same_s (HK.out.get (v12) (uniL (minL l0 l1) (intL l0 l1)) (by with_reducible (repeat (first | exact List.mem_cons_self | refine List.mem_cons_of_mem _ ?_)))) (HK.out.get (v16) (norm l0) (by with_reducible (repeat (first | exact List.mem_cons_self | refine List.mem_cons_of_mem _ ?_)))) true (alg5 l0 l1))
        go_wp2_with fail
        refine Hc.out.mono ?_
        rintro e w22 ⟨rfl, hb⟩
        replace HK := Lib.hid (HK.out.call hb)
        clear hb
        clear Hc
        go_wp2
        go_ret
        exact ⟨rfl, HK.out.below⟩
      · have d2 : decide (l2.length ≤ 40) = false := decide_eq_false c2
        go_enter Try.func7, Try.ntmps7
        have Hc := Lib.hid (sane_true w)
        go_wp2_with fail
        refine Hc.out.mono ?_
        rintro e w1 ⟨rfl, hb⟩
        replace HK := Lib.hid (HK.out.call hb)
        clear hb
        clear Hc
        have Hc := Lib.hid (few_s (HK.out.get (u0) (l0) (by with_reducible (repeat (first | exact List.mem_cons_self | refine List.mem_cons_of_mem _ ?_)))))
        go_wp2_with fail
        refine Hc.out.mono ?_
        rintro e _ ⟨rfl, rfl⟩
        clear Hc
        have Hc := Lib.hid (few_s (HK.out.get (u1) (l1) (by with_reducible (repeat (first | exact List.mem_cons_self | refine List.mem_cons_of_mem _ ?_)))))
        go_wp2_with fail
        refine Hc.out.mono ?_
        rintro e _ ⟨rfl, rfl⟩
        clear Hc
        have Hc := Lib.hid (few_s (HK.out.get (u2) (l2) (by with_reducible (repeat (first | exact List.mem_cons_self | refine List.mem_cons_of_mem _ ?_)))))
        go_wp2_with fail
        refine Hc.out.mono ?_
        rintro e _ ⟨rfl, rfl⟩
        clear Hc
        go_wp2
        go_ret
        exact ⟨rfl, HK.out.below⟩
    · have d1 : decide (l1.length ≤ 40) = false := decide_eq_false c1
      go_enter Try.func7, Try.ntmps7
      have Hc := Lib.hid (sane_true w)
      go_wp2_with fail
      refine Hc.out.mono ?_
      rintro e w1 ⟨rfl, hb⟩
      replace HK := Lib.hid (HK.out.call hb)
      clear hb
      clear Hc
      have Hc := Lib.hid (few_s (HK.out.get (u0) (l0) (by with_reducible (repeat (first | exact List.mem_cons_self | refine List.mem_cons_of_mem _ ?_)))))
      go_wp2_with fail
      refine Hc.out.mono ?_
      rintro e _ ⟨rfl, rfl⟩
      clear Hc
      have Hc := Lib.hid (few_s (HK.out.get (u1) (l1) (by with_reducible (repeat (first | exact List.mem_cons_self | refine List.mem_cons_of_mem _ ?_)))))
      go_wp2_with fail
      refine Hc.out.mono ?_
      rintro e _ ⟨rfl, rfl⟩
      clear Hc
      go_wp2
      go_ret
      exact ⟨rfl, HK.out.below⟩
  · have d0 : decide (l0.length ≤ 40) = false := decide_eq_false c0
    go_enter Try.func7, Try.ntmps7
    have Hc := Lib.hid (sane_true w)
    go_wp2_with fail
    refine Hc.out.mono ?_
    rintro e w1 ⟨rfl, hb⟩
    replace HK := Lib.hid (HK.out.call hb)
    clear hb
    clear Hc
    have Hc := Lib.hid (few_s (HK.out.get (u0) (l0) (by with_reducible (repeat (first | exact List.mem_cons_self | refine List.mem_cons_of_mem _ ?_)))))
    go_wp2_with fail
    refine Hc.out.mono ?_
    rintro e _ ⟨rfl, rfl⟩
    clear Hc
    go_wp2
    go_ret
    exact ⟨rfl, HK.out.below⟩

set_option maxRecDepth 100000 in
theorem lifted (os : Os) (started : os.Started) (H : Type) (enc : TypeId × Value → H) :
    ReturnsInHanded {} Try.checked os 7 .any (Rows.spansAlgebraSpec.pre6 enc Try.prog Try.f7 Rows.spansAlgebraRow.domain false) (Rows.spansAlgebraSpec.post enc Try.prog Try.f7 false true false false) := by
  refine returnsInHanded_of_change_sized (C := Try.checked) own started (by kernel_rfl) Try.func7
    (ChangeSpec.witness6 (enc := enc) (C := Try.checked) false ⟨#[], #[.slice none 0 0, .slice none 0 0, .slice none 0 0], []⟩ 8 (by kernel_rfl) (by kernel_rfl) (by kernel_rfl) (by kernel_rfl)) ?_
  intro W base args ds gs before hval0 hW _ hsz0 _
  have hsz : (DataW.weightsEach Try.prog (Try.f7.params.toList ++ Rows.spansAlgebraSpec.plain.varTypes Try.prog) (ds ++ gs)).all (· ≤ reachBytes) = true := hsz0
  have hval : ∀ (j : Nat) t v, Try.f7.params[j]? = some t → args[j]? = some v → Value.okWide Try.prog W .any base t v := hval0
  clear hsz0 hval0
  have hW' := hW
  obtain ⟨p, q, hA0, hV, rfl, _, _⟩ := hW
  have hA : DataW.TrodAll enc Try.prog W 0 (fun _ => true) true Try.f7.params.toList args.toList ds p := hA0
  rw [Try.params7] at hA hval hsz
  obtain ⟨v0, vs0, d0, ds0, p0, q0, hargs, rfl, rfl, h0, r0⟩ := trodAll_cons hA
  obtain ⟨v1, vs1, d1, ds1, p1, q1, rfl, rfl, rfl, h1, r1⟩ := trodAll_cons r0
  obtain ⟨v2, vs2, d2, ds2, p2, q2, rfl, rfl, rfl, h2, r2⟩ := trodAll_cons r1
  obtain ⟨rfl, rfl, rfl⟩ := trodAll_nil r2
  obtain rfl : args = #[v0, v1, v2] := by cases args; simp_all
  obtain ⟨rfl, rfl⟩ := trodVars_none hV
  have hw0 : ∀ n ∈ d0.weights Try.prog 22, n ≤ reachBytes := by
    intro n hn
    have := List.all_eq_true.1 hsz n (DataW.weights_mem_each (t := 22) (d := d0) (j := 0) rfl rfl n hn)
    simpa using this
  obtain ⟨fuel0, hf0⟩ := h0
  obtain ⟨l0, hl0⟩ := openS (v := v0) (by first | exact hf0 | (obtain ⟨o, m, c, rfl⟩ := okWide_slice Try.underlying22 (hval 0 22 v0 rfl rfl); exact hf0)) hw0
  have hw1 : ∀ n ∈ d1.weights Try.prog 22, n ≤ reachBytes := by
    intro n hn
    have := List.all_eq_true.1 hsz n (DataW.weights_mem_each (t := 22) (d := d1) (j := 1) rfl rfl n hn)
    simpa using this
  obtain ⟨fuel1, hf1⟩ := h1
  obtain ⟨l1, hl1⟩ := openS (v := v1) (by first | exact hf1 | (obtain ⟨o, m, c, rfl⟩ := okWide_slice Try.underlying22 (hval 1 22 v1 rfl rfl); exact hf1)) hw1
  have hw2 : ∀ n ∈ d2.weights Try.prog 22, n ≤ reachBytes := by
    intro n hn
    have := List.all_eq_true.1 hsz n (DataW.weights_mem_each (t := 22) (d := d2) (j := 2) rfl rfl n hn)
    simpa using this
  obtain ⟨fuel2, hf2⟩ := h2
  obtain ⟨l2, hl2⟩ := openS (v := v2) (by first | exact hf2 | (obtain ⟨o, m, c, rfl⟩ := okWide_slice Try.underlying22 (hval 2 22 v2 rfl rfl); exact hf2)) hw2
  clear hA0
  refine (walk l0 l1 l2 v0 v1 v2 W hl0 hl1 hl2).mono fun e W' ⟨he, hb⟩ => ?_
  subst he
  refine ⟨_, rfl, post_law laidOut ?_ rfl rfl hW' rfl rfl rfl hb⟩
  intro t ht
  rw [Try.params7] at ht
  have hm : t ∈ [3, 22] := (by decide : ∀ t ∈ (#[22, 22, 22] : Array TypeId).toList, t ∈ [3, 22]) t ht
  have hall : ([3, 22].all fun u => Try.prog.readableRec u && decide (u < Try.prog.types.size)) = true := by kernel_rfl
  have := List.all_eq_true.1 hall t hm
  simpa using this

theorem over : Rows.spansAlgebraRow.holds Try.pinned (OpenSpec.ofChange Rows.spansAlgebraSpec) :=
  OpenClaim.holds_of_wide 7 Try.f7 rfl rfl rfl rfl rfl rfl rfl ⟨rfl, rfl, rfl, rfl, rfl⟩ rfl rfl rfl rfl rfl (by kernel_rfl) Try.func7 (by kernel_rfl)
    (of_decide_eq_true (by kernel_rfl)) (by unfold Func.isWrapper; first | (rw [if_pos (by decide +kernel)]; kernel_rfl) | (rw [if_neg (by decide +kernel)]; exact ⟨rfl, rfl⟩))
    (fun os started H enc _ => lifted os started H enc)

/-- THE STATEMENT. -/
theorem proved : Rows.SpansAlgebraSaid :=
  over
#print axioms proved
end Go.Proofs.Ytboojinokljelaa.spansAlgebra
