/-
  The statement 'Rows.SpansAdvanceMatchesReferenceSaid': for all arguments the law returns true; the arguments read as they did.
-/
import Derived.Test.YtboojinokljelaaSn
import Derived.Test.YtboojinokljelaaOw
namespace Go.Proofs.Ytboojinokljelaa.spansAdvanceMatchesReference
open Go.ChangeShapes Go.WideShapes Go.ChangeAt Go.RowKit
set_option linter.unusedVariables false
set_option linter.unusedSimpArgs false

set_option maxRecDepth 100000 in
set_option maxHeartbeats 4000000 in
theorem walk (l0 : List (Int × Int)) (a1 : Int) (a2 : Int) (u0 : Value) (w : World) (h0 : Sl (fun k => k < w.heap.size) w u0 l0) (h1 : I64 a1) (h2 : I64 a2) :
    Calls Try.prog 4 #[u0, .int .i64 a1, .int .i64 a2] w fun e w' => e = .returned (.bool true) ∧ Below w.heap.size w w' := by
  have HK : Hid (Kn w [(u0, l0)] w) := Lib.hid ⟨Below.refl _ _, by
    intro y hy
    simp only [List.mem_cons, List.not_mem_nil, or_false] at hy
    subst hy
    · exact h0⟩
  clear h0
  by_cases c0 : l0.length ≤ 40
  · have d0 : decide (l0.length ≤ 40) = true := decide_eq_true c0
    obtain ⟨M, hM⟩ : ∃ M, M = advM (ahead l0 a1) a1 a2 := ⟨_, rfl⟩
    obtain ⟨O, hO⟩ : ∃ O, O = advB (ahead l0 a1) a2 := ⟨_, rfl⟩
    obtain ⟨C, hC⟩ : ∃ C, C = inB l0 a1 := ⟨_, rfl⟩
    have e1 : (M == M) = true := by simp
    have e2 : (O == O) = true := by simp
    have e3 : (C == C) = true := by simp
    have HM := Lib.hid hM; have HO := Lib.hid hO; have HC := Lib.hid hC; have H1 := Lib.hid h1; have H2 := Lib.hid h2
    clear hM hO hC h1 h2
    go_enter Try.func4, Try.ntmps4
    have Hc := Lib.hid (sane_true w)
    go_wp2_with fail
    refine Hc.out.mono ?_
    rintro e w1 ⟨rfl, hb⟩
    replace HK := Lib.hid (HK.out.call hb)
    clear hb
    clear Hc
    have Hc := Lib.hid (few_s (HK.out.get (u0) (l0) (by with_reducible (repeat (first | exact List.mem_cons_self | refine List.mem_cons_of_mem _ ?_)))))
    go_wp2_with fail
    refine Hc.out.mono ?_
    rintro e _ ⟨rfl, rfl⟩
    clear Hc
    have Hc := Lib.hid (advance_s (HK.out.get (u0) (l0) (by with_reducible (repeat (first | exact List.mem_cons_self | refine List.mem_cons_of_mem _ ?_)))) (by omega) a1 a2 H1.out H2.out M O HM.out HO.out)
    go_wp2_with fail
    refine Hc.out.mono ?_
    rintro e w2 ⟨rfl, hb⟩
    replace HK := Lib.hid (HK.out.call hb)
    clear hb
    clear Hc
    have Hc := Lib.hid (radvance_s (HK.out.get (u0) (l0) (by with_reducible (repeat (first | exact List.mem_cons_self | refine List.mem_cons_of_mem _ ?_)))) (by omega) a1 a2 H1.out H2.out M O HM.out HO.out)
    go_wp2_with fail
    refine Hc.out.mono ?_
    rintro e w3 ⟨rfl, hb⟩
    replace HK := Lib.hid (HK.out.call hb)
    clear hb
    clear Hc
    have Hc := Lib.hid (contains_s (HK.out.get (u0) (l0) (by with_reducible (repeat (first | exact List.mem_cons_self | refine List.mem_cons_of_mem _ ?_)))) a1 C HC.out)
    go_wp2_with fail
    refine Hc.out.mono ?_
    rintro e w4 ⟨rfl, hb⟩
    replace HK := Lib.hid (HK.out.call hb)
    clear hb
    clear Hc
    have Hc := Lib.hid (rcontains_s (HK.out.get (u0) (l0) (by with_reducible (repeat (first | exact List.mem_cons_self | refine List.mem_cons_of_mem _ ?_)))) a1 C HC.out)
    go_wp2_with fail
    refine Hc.out.mono ?_
    rintro e _ ⟨rfl, rfl⟩
    clear Hc
    go_wp2
    go_ret
    exact ⟨rfl, HK.out.below⟩
  · have d0 : decide (l0.length ≤ 40) = false := decide_eq_false c0
    go_enter Try.func4, Try.ntmps4
    have Hc := Lib.hid (sane_true w)
    go_wp2_with fail
    refine Hc.out.mono ?_
    rintro e w1 ⟨rfl, hb⟩
    replace HK := Lib.hid (HK.out.call hb)
    clear hb
    clear Hc
    have Hc := Lib.hid (few_s (HK.out.get (u0) (l0) (by with_reducible (repeat (first | exact List.mem_cons_self | refine List.mem_cons_of_mem _ ?_)))))
    go_wp2_with fail
    refine Hc.out.mono ?_
    rintro e _ ⟨rfl, rfl⟩
    clear Hc
    go_wp2
    go_ret
    exact ⟨rfl, HK.out.below⟩

set_option maxRecDepth 100000 in
theorem lifted (os : Os) (started : os.Started) (H : Type) (enc : TypeId × Value → H) :
    ReturnsInHanded {} Try.checked os 4 .any (Rows.spansAdvanceMatchesReferenceSpec.pre6 enc Try.prog Try.f4 Rows.spansAdvanceMatchesReferenceRow.domain false) (Rows.spansAdvanceMatchesReferenceSpec.post enc Try.prog Try.f4 false true false false) := by
  refine returnsInHanded_of_change_sized (C := Try.checked) own started (by kernel_rfl) Try.func4
    (ChangeSpec.witness6 (enc := enc) (C := Try.checked) false ⟨#[], #[.slice none 0 0, .int .i64 0, .int .i64 0], []⟩ 8 (by kernel_rfl) (by kernel_rfl) (by kernel_rfl) (by kernel_rfl)) ?_
  intro W base args ds gs before hval0 hW _ hsz0 _
  have hsz : (DataW.weightsEach Try.prog (Try.f4.params.toList ++ Rows.spansAdvanceMatchesReferenceSpec.plain.varTypes Try.prog) (ds ++ gs)).all (· ≤ reachBytes) = true := hsz0
  have hval : ∀ (j : Nat) t v, Try.f4.params[j]? = some t → args[j]? = some v → Value.okWide Try.prog W .any base t v := hval0
  clear hsz0 hval0
  have hW' := hW
  obtain ⟨p, q, hA0, hV, rfl, _, _⟩ := hW
  have hA : DataW.TrodAll enc Try.prog W 0 (fun _ => true) true Try.f4.params.toList args.toList ds p := hA0
  rw [Try.params4] at hA hval hsz
  obtain ⟨v0, vs0, d0, ds0, p0, q0, hargs, rfl, rfl, h0, r0⟩ := trodAll_cons hA
  obtain ⟨v1, vs1, d1, ds1, p1, q1, rfl, rfl, rfl, h1, r1⟩ := trodAll_cons r0
  obtain ⟨v2, vs2, d2, ds2, p2, q2, rfl, rfl, rfl, h2, r2⟩ := trodAll_cons r1
  obtain ⟨rfl, rfl, rfl⟩ := trodAll_nil r2
  obtain rfl : args = #[v0, v1, v2] := by cases args; simp_all
  obtain ⟨rfl, rfl⟩ := trodVars_none hV
  have hw0 : ∀ n ∈ d0.weights Try.prog 22, n ≤ reachBytes := by
    intro n hn
    have := List.all_eq_true.1 hsz n (DataW.weights_mem_each (t := 22) (d := d0) (j := 0) rfl rfl n hn)
    simpa using this
  obtain ⟨fuel0, hf0⟩ := h0
  obtain ⟨l0, hl0⟩ := openS (v := v0) (by first | exact hf0 | (obtain ⟨o, m, c, rfl⟩ := okWide_slice Try.underlying22 (hval 0 22 v0 rfl rfl); exact hf0)) hw0
  obtain ⟨a1, rfl, rfl, rfl, wf1⟩ := open_int Try.underlying3 (hval 1 3 v1 rfl rfl) h1
  obtain ⟨a2, rfl, rfl, rfl, wf2⟩ := open_int Try.underlying3 (hval 2 3 v2 rfl rfl) h2
  clear hA0
  refine (walk l0 a1 a2 v0 W hl0 (i64_wf wf1) (i64_wf wf2)).mono fun e W' ⟨he, hb⟩ => ?_
  subst he
  refine ⟨_, rfl, post_law laidOut ?_ rfl rfl hW' rfl rfl rfl hb⟩
  intro t ht
  rw [Try.params4] at ht
  have hm : t ∈ [3, 22] := (by decide : ∀ t ∈ (#[22, 3, 3] : Array TypeId).toList, t ∈ [3, 22]) t ht
  have hall : ([3, 22].all fun u => Try.prog.readableRec u && decide (u < Try.prog.types.size)) = true := by kernel_rfl
  have := List.all_eq_true.1 hall t hm
  simpa using this

theorem over : Rows.spansAdvanceMatchesReferenceRow.holds Try.pinned (OpenSpec.ofChange Rows.spansAdvanceMatchesReferenceSpec) :=
  OpenClaim.holds_of_wide 4 Try.f4 rfl rfl rfl rfl rfl rfl rfl ⟨rfl, rfl, rfl, rfl, rfl⟩ rfl rfl rfl rfl rfl (by kernel_rfl) Try.func4 (by kernel_rfl)
    (of_decide_eq_true (by kernel_rfl)) (by unfold Func.isWrapper; first | (rw [if_pos (by decide +kernel)]; kernel_rfl) | (rw [if_neg (by decide +kernel)]; exact ⟨rfl, rfl⟩))
    (fun os started H enc _ => lifted os started H enc)

/-- THE STATEMENT. -/
theorem proved : Rows.SpansAdvanceMatchesReferenceSaid :=
  over
#print axioms proved
end Go.Proofs.Ytboojinokljelaa.spansAdvanceMatchesReference
