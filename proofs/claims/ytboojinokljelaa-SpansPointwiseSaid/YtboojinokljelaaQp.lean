/-
  The statement 'Rows.SpansPointwiseSaid': for all arguments the law returns true; the arguments read as they did.
-/
import Derived.Test.YtboojinokljelaaSn
import Derived.Test.YtboojinokljelaaOw
namespace Go.Proofs.Ytboojinokljelaa.spansPointwise
open Go.ChangeShapes Go.WideShapes Go.ChangeAt Go.RowKit
set_option linter.unusedVariables false
set_option linter.unusedSimpArgs false

theorem inB_uni (a b : List (Int × Int)) (m : Int) : (inB a m || inB b m) = inB (uniL a b) m := by
  rw [Bool.eq_iff_iff, Bool.or_eq_true, inB_iff, inB_iff, inB_iff, mem_uni]
theorem inB_int (a b : List (Int × Int)) (m : Int) : (inB a m && inB b m) = inB (intL a b) m := by
  rw [Bool.eq_iff_iff, Bool.and_eq_true, inB_iff, inB_iff, inB_iff, mem_int]
theorem inB_min (a b : List (Int × Int)) (m : Int) : (inB a m && !inB b m) = inB (minL a b) m := by
  rw [Bool.eq_iff_iff, Bool.and_eq_true, inB_iff, inB_iff, mem_min, Bool.not_eq_true', ← Bool.not_eq_true, inB_iff]

set_option maxRecDepth 100000 in
set_option maxHeartbeats 4000000 in
theorem walk (l0 : List (Int × Int)) (l1 : List (Int × Int)) (a2 : Int) (u0 : Value) (u1 : Value) (w : World) (h0 : Sl (fun k => k < w.heap.size) w u0 l0) (h1 : Sl (fun k => k < w.heap.size) w u1 l1) (h2 : I64 a2) :
    Calls Try.prog 6 #[u0, u1, .int .i64 a2] w fun e w' => e = .returned (.bool true) ∧ Below w.heap.size w w' := by
  have HK : Hid (Kn w [(u0, l0), (u1, l1)] w) := Lib.hid ⟨Below.refl _ _, by
    intro y hy
    simp only [List.mem_cons, List.not_mem_nil, or_false] at hy
    rcases hy with rfl | rfl
    · exact h0
    · exact h1⟩
  clear h0 h1
  by_cases c0 : l0.length ≤ 40
  · have d0 : decide (l0.length ≤ 40) = true := decide_eq_true c0
    by_cases c1 : l1.length ≤ 40
    · have d1 : decide (l1.length ≤ 40) = true := decide_eq_true c1
      obtain ⟨X, hX⟩ : ∃ X, X = inB l0 a2 := ⟨_, rfl⟩
      obtain ⟨Y, hY⟩ : ∃ Y, Y = inB l1 a2 := ⟨_, rfl⟩
      have q1 : (X || Y) = inB (uniL l0 l1) a2 := by rw [hX, hY]; exact inB_uni l0 l1 a2
      have q2 : (X && Y) = inB (intL l0 l1) a2 := by rw [hX, hY]; exact inB_int l0 l1 a2
      have q3 : (X && !Y) = inB (minL l0 l1) a2 := by rw [hX, hY]; exact inB_min l0 l1 a2
      have HX := Lib.hid hX; have HY := Lib.hid hY; have Q1 := Lib.hid q1; have Q2 := Lib.hid q2; have Q3 := Lib.hid q3
      have n1 := (chk_ok (uni_nr l0 l1)).symm
      have n2 := (chk_ok (int_nr l0 l1)).symm
      have n3 := (chk_ok (min_nr l0 l1)).symm
      have N1 := Lib.hid n1; have N2 := Lib.hid n2; have N3 := Lib.hid n3
      clear hX hY q1 q2 q3 n1 n2 n3 h2
      cases X <;> cases Y
      all_goals
        go_enter Try.func6, Try.ntmps6
        have Hc := Lib.hid (sane_true w)
        go_wp2_with fail
        refine Hc.out.mono ?_
        rintro e w1 ⟨rfl, hb⟩
        replace HK := Lib.hid (HK.out.call hb)
        clear hb
        clear Hc
        have Hc := Lib.hid (few_s (HK.out.get (u0) (l0) (by with_reducible (repeat (first | exact List.mem_cons_self | refine List.mem_cons_of_mem _ ?_)))))
        go_wp2_with fail
        refine Hc.out.mono ?_
        rintro e _ ⟨rfl, rfl⟩
        clear Hc
        have Hc := Lib.hid (few_s (HK.out.get (u1) (l1) (by with_reducible (repeat (first | exact List.mem_cons_self | refine List.mem_cons_of_mem _ ?_)))))
        go_wp2_with fail
        refine Hc.out.mono ?_
        rintro e _ ⟨rfl, rfl⟩
        clear Hc
        have Hc := Lib.hid (contains_s (HK.out.get (u0) (l0) (by with_reducible (repeat (first | exact List.mem_cons_self | refine List.mem_cons_of_mem _ ?_)))) a2 _ HX.out)
        go_wp2_with fail
        refine Hc.out.mono ?_
        rintro e w2 ⟨rfl, hb⟩
        replace HK := Lib.hid (HK.out.call hb)
        clear hb
        clear Hc
        have Hc := Lib.hid (contains_s (HK.out.get (u1) (l1) (by with_reducible (repeat (first | exact List.mem_cons_self | refine List.mem_cons_of_mem _ ?_)))) a2 _ HY.out)
        go_wp2_with fail
        refine Hc.out.mono ?_
        rintro e w3 ⟨rfl, hb⟩
        replace HK := Lib.hid (HK.out.call hb)
        clear hb
        clear Hc
        have Hc := Lib.hid (union_s (HK.out.get (u0) (l0) (by with_reducible (repeat (first | exact List.mem_cons_self | refine List.mem_cons_of_mem _ ?_)))) (HK.out.get (u1) (l1) (by with_reducible (repeat (first | exact List.mem_cons_self | refine List.mem_cons_of_mem _ ?_)))) (by omega))
        go_wp2_with fail
        refine Hc.out.mono ?_
        rintro e w4 ⟨v1, rfl, hb, hs⟩
        replace HK := Lib.hid (HK.out.also hb hs)
        clear hb hs Hc
        have Hc := Lib.hid (intersect_s (HK.out.get (u0) (l0) (by with_reducible (repeat (first | exact List.mem_cons_self | refine List.mem_cons_of_mem _ ?_)))) (HK.out.get (u1) (l1) (by with_reducible (repeat (first | exact List.mem_cons_self | refine List.mem_cons_of_mem _ ?_)))) (by omega))
        go_wp2_with fail
        refine Hc.out.mono ?_
        rintro e w5 ⟨v2, rfl, hb, hs⟩
        replace HK := Lib.hid (HK.out.also hb hs)
        clear hb hs Hc
        have Hc := Lib.hid (minus_s (HK.out.get (u0) (l0) (by with_reducible (repeat (first | exact List.mem_cons_self | refine List.mem_cons_of_mem _ ?_)))) (HK.out.get (u1) (l1) (by with_reducible (repeat (first | exact List.mem_cons_self | refine List.mem_cons_of_mem _ ?_)))) (by omega))
        go_wp2_with fail
        refine Hc.out.mono ?_
        rintro e w6 ⟨v3, rfl, hb, hs⟩
        replace HK := Lib.hid (HK.out.also hb hs)
        clear hb hs Hc
        have Hc := Lib.hid (check_s (HK.out.get (v1) (uniL l0 l1) (by with_reducible (repeat (first | exact List.mem_cons_self | refine List.mem_cons_of_mem _ ?_)))) 0 N1.out)
        go_wp2_with fail
        refine Hc.out.mono ?_
        rintro e w7 ⟨rfl, hb⟩
        replace HK := Lib.hid (HK.out.call hb)
        clear hb
        clear Hc
        have Hc := Lib.hid (check_s (HK.out.get (v2) (intL l0 l1) (by with_reducible (repeat (first | exact List.mem_cons_self | refine List.mem_cons_of_mem _ ?_)))) 0 N2.out)
        go_wp2_with fail
        refine Hc.out.mono ?_
        rintro e w8 ⟨rfl, hb⟩
        replace HK := Lib.hid (HK.out.call hb)
        clear hb
        clear Hc
        have Hc := Lib.hid (check_s (HK.out.get (v3) (minL l0 l1) (by with_reducible (repeat (first | exact List.mem_cons_self | refine List.mem_cons_of_mem _ ?_)))) 0 N3.out)
        go_wp2_with fail
        refine Hc.out.mono ?_
        rintro e w9 ⟨rfl, hb⟩
        replace HK := Lib.hid (HK.out.call hb)
        clear hb
        clear Hc
        have Hc := Lib.hid (contains_s (HK.out.get (v1) (uniL l0 l1) (by with_reducible (repeat (first | exact List.mem_cons_self | refine List.mem_cons_of_mem _ ?_)))) a2 _ Q1.out)
        go_wp2_with fail
        refine Hc.out.mono ?_
        rintro e w10 ⟨rfl, hb⟩
        replace HK := Lib.hid (HK.out.call hb)
        clear hb
        clear Hc
        have Hc := Lib.hid (contains_s (HK.out.get (v2) (intL l0 l1) (by with_reducible (repeat (first | exact List.mem_cons_self | refine List.mem_cons_of_mem _ ?_)))) a2 _ Q2.out)
        go_wp2_with fail
        refine Hc.out.mono ?_
        rintro e w11 ⟨rfl, hb⟩
        replace HK := Lib.hid (HK.out.call hb)
        clear hb
        clear Hc
        have Hc := Lib.hid (contains_s (HK.out.get (v3) (minL l0 l1) (by with_reducible (repeat (first | exact List.mem_cons_self | refine List.mem_cons_of_mem _ ?_)))) a2 _ Q3.out)
        go_wp2_with fail
        refine Hc.out.mono ?_
        rintro e w12 ⟨rfl, hb⟩
        replace HK := Lib.hid (HK.out.call hb)
        clear hb
        clear Hc
        go_wp2
        go_ret
        exact ⟨rfl, HK.out.below⟩
    · have d1 : decide (l1.length ≤ 40) = false := decide_eq_false c1
      go_enter Try.func6, Try.ntmps6
      have Hc := Lib.hid (sane_true w)
      go_wp2_with fail
      refine Hc.out.mono ?_
      rintro e w1 ⟨rfl, hb⟩
      replace HK := Lib.hid (HK.out.call hb)
      clear hb
      clear Hc
      have Hc := Lib.hid (few_s (HK.out.get (u0) (l0) (by with_reducible (repeat (first | exact List.mem_cons_self | refine List.mem_cons_of_mem _ ?_)))))
      go_wp2_with fail
      refine Hc.out.mono ?_
      rintro e _ ⟨rfl, rfl⟩
      clear Hc
      have Hc := Lib.hid (few_s (HK.out.get (u1) (l1) (by with_reducible (repeat (first | exact List.mem_cons_self | refine List.mem_cons_of_mem _ ?_)))))
      go_wp2_with fail
      refine Hc.out.mono ?_
      rintro e _ ⟨rfl, rfl⟩
      clear Hc
      go_wp2
      go_ret
      exact ⟨rfl, HK.out.below⟩
  · have d0 : decide (l0.length ≤ 40) = false := decide_eq_false c0
    go_enter Try.func6, Try.ntmps6
    have Hc := Lib.hid (sane_true w)
    go_wp2_with fail
    refine Hc.out.mono ?_
    rintro e w1 ⟨rfl, hb⟩
    replace HK := Lib.hid (HK.out.call hb)
    clear hb
    clear Hc
    have Hc := Lib.hid (few_s (HK.out.get (u0) (l0) (by with_reducible (repeat (first | exact List.mem_cons_self | refine List.mem_cons_of_mem _ ?_)))))
    go_wp2_with fail
    refine Hc.out.mono ?_
    rintro e _ ⟨rfl, rfl⟩
    clear Hc
    go_wp2
    go_ret
    exact ⟨rfl, HK.out.below⟩

set_option maxRecDepth 100000 in
theorem lifted (os : Os) (started : os.Started) (H : Type) (enc : TypeId × Value → H) :
    ReturnsInHanded {} Try.checked os 6 .any (Rows.spansPointwiseSpec.pre6 enc Try.prog Try.f6 Rows.spansPointwiseRow.domain false) (Rows.spansPointwiseSpec.post enc Try.prog Try.f6 false true false false) := by
  refine returnsInHanded_of_change_sized (C := Try.checked) own started (by kernel_rfl) Try.func6
    (ChangeSpec.witness6 (enc := enc) (C := Try.checked) false ⟨#[], #[.slice none 0 0, .slice none 0 0, .int .i64 0], []⟩ 8 (by kernel_rfl) (by kernel_rfl) (by kernel_rfl) (by kernel_rfl)) ?_
  intro W base args ds gs before hval0 hW _ hsz0 _
  have hsz : (DataW.weightsEach Try.prog (Try.f6.params.toList ++ Rows.spansPointwiseSpec.plain.varTypes Try.prog) (ds ++ gs)).all (· ≤ reachBytes) = true := hsz0
  have hval : ∀ (j : Nat) t v, Try.f6.params[j]? = some t → args[j]? = some v → Value.okWide Try.prog W .any base t v := hval0
  clear hsz0 hval0
  have hW' := hW
  obtain ⟨p, q, hA0, hV, rfl, _, _⟩ := hW
  have hA : DataW.TrodAll enc Try.prog W 0 (fun _ => true) true Try.f6.params.toList args.toList ds p := hA0
  rw [Try.params6] at hA hval hsz
  obtain ⟨v0, vs0, d0, ds0, p0, q0, hargs, rfl, rfl, h0, r0⟩ := trodAll_cons hA
  obtain ⟨v1, vs1, d1, ds1, p1, q1, rfl, rfl, rfl, h1, r1⟩ := trodAll_cons r0
  obtain ⟨v2, vs2, d2, ds2, p2, q2, rfl, rfl, rfl, h2, r2⟩ := trodAll_cons r1
  obtain ⟨rfl, rfl, rfl⟩ := trodAll_nil r2
  obtain rfl : args = #[v0, v1, v2] := by cases args; simp_all
  obtain ⟨rfl, rfl⟩ := trodVars_none hV
  have hw0 : ∀ n ∈ d0.weights Try.prog 22, n ≤ reachBytes := by
    intro n hn
    have := List.all_eq_true.1 hsz n (DataW.weights_mem_each (t := 22) (d := d0) (j := 0) rfl rfl n hn)
    simpa using this
  obtain ⟨fuel0, hf0⟩ := h0
  obtain ⟨l0, hl0⟩ := openS (v := v0) (by first | exact hf0 | (obtain ⟨o, m, c, rfl⟩ := okWide_slice Try.underlying22 (hval 0 22 v0 rfl rfl); exact hf0)) hw0
  have hw1 : ∀ n ∈ d1.weights Try.prog 22, n ≤ reachBytes := by
    intro n hn
    have := List.all_eq_true.1 hsz n (DataW.weights_mem_each (t := 22) (d := d1) (j := 1) rfl rfl n hn)
    simpa using this
  obtain ⟨fuel1, hf1⟩ := h1
  obtain ⟨l1, hl1⟩ := openS (v := v1) (by first | exact hf1 | (obtain ⟨o, m, c, rfl⟩ := okWide_slice Try.underlying22 (hval 1 22 v1 rfl rfl); exact hf1)) hw1
  obtain ⟨a2, rfl, rfl, rfl, wf2⟩ := open_int Try.underlying3 (hval 2 3 v2 rfl rfl) h2
  clear hA0
  refine (walk l0 l1 a2 v0 v1 W hl0 hl1 (i64_wf wf2)).mono fun e W' ⟨he, hb⟩ => ?_
  subst he
  refine ⟨_, rfl, post_law laidOut ?_ rfl rfl hW' rfl rfl rfl hb⟩
  intro t ht
  rw [Try.params6] at ht
  have hm : t ∈ [3, 22] := (by decide : ∀ t ∈ (#[22, 22, 3] : Array TypeId).toList, t ∈ [3, 22]) t ht
  have hall : ([3, 22].all fun u => Try.prog.readableRec u && decide (u < Try.prog.types.size)) = true := by kernel_rfl
  have := List.all_eq_true.1 hall t hm
  simpa using this

theorem over : Rows.spansPointwiseRow.holds Try.pinned (OpenSpec.ofChange Rows.spansPointwiseSpec) :=
  OpenClaim.holds_of_wide 6 Try.f6 rfl rfl rfl rfl rfl rfl rfl ⟨rfl, rfl, rfl, rfl, rfl⟩ rfl rfl rfl rfl rfl (by kernel_rfl) Try.func6 (by kernel_rfl)
    (of_decide_eq_true (by kernel_rfl)) (by unfold Func.isWrapper; first | (rw [if_pos (by decide +kernel)]; kernel_rfl) | (rw [if_neg (by decide +kernel)]; exact ⟨rfl, rfl⟩))
    (fun os started H enc _ => lifted os started H enc)

/-- THE STATEMENT. -/
theorem proved : Rows.SpansPointwiseSaid :=
  over
#print axioms proved
end Go.Proofs.Ytboojinokljelaa.spansPointwise
