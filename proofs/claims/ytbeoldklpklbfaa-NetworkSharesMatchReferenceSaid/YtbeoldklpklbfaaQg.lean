/-
  The statement 'Rows.NetworkSharesMatchReferenceSaid': for all arguments the law returns true; the arguments read as they did.
-/
import Derived.Test.YtbeoldklpklbfaaFr
import Derived.Test.YtbeoldklpklbfaaRa
import Derived.Test.YtbeoldklpklbfaaXb
namespace Go.Proofs.Ytbeoldklpklbfaa.networkSharesMatchReference
open Go.ChangeShapes Go.WideShapes Go.ChangeAt Go.RowKit
set_option linter.unusedVariables false
set_option linter.unusedSimpArgs false


set_option maxRecDepth 100000 in
set_option maxHeartbeats 8000000 in
theorem walk (V0 : Value) (ps0 : List Pc) (es0 : List Ed) (u1 : Value) (l1 : List Int) (w : World) (h0 : Nw w V0 ps0 es0) (h1 : Hl (fun k => k < w.heap.size) w u1 l1) :
    Calls Try.prog 5 #[V0, u1] w fun e w' => e = .returned (.bool true) ∧ Below w.heap.size w w' := by
  obtain ⟨va, vc, vb, vd, rfl, hh1, hh2⟩ := h0.shape
  obtain ⟨n, hn⟩ : ∃ n, n = ps0.length := ⟨_, rfl⟩
  obtain ⟨m, hm⟩ : ∃ m, m = es0.length := ⟨_, rfl⟩
  rw [← hn, ← hm] at h0 ⊢
  have HN := Lib.hid hn; have HM := Lib.hid hm
  obtain ⟨W, hW⟩ : ∃ W, W = w.alloc (.cells #[.slice va n vc, .slice vb m vd] 25) := ⟨_, rfl⟩
  have hB : Below w.heap.size w W := by rw [hW]; exact ball (Below.refl w.heap.size w) _
  have e0 : W.heap[w.heap.size]? = some (.cells #[.slice va n vc, .slice vb m vd] 25 (0, 0)) := by rw [hW]; exact bnew _ _
  have HV := Lib.hid (h0.on hB); have HB := Lib.hid hB; have HX := Lib.hid e0
  obtain ⟨b0, b1⟩ := box2 e0
  clear h0 hh1 hh2 hn hm hB e0
  obtain ⟨ua, uc, rfl⟩ := h1.shape
  obtain ⟨tl, htl⟩ : ∃ tl, tl = l1.length := ⟨_, rfl⟩
  rw [← htl] at h1 ⊢
  obtain ⟨S, hS⟩ : ∃ S, smB ps0.length es0.length = S := ⟨_, rfl⟩
  have HLU := Lib.hid (h1.on HB.out); have HTL := Lib.hid htl; have HS := Lib.hid hS
  clear h1 htl hS
  cases S with
  | false =>
    have Hc := Lib.hid (sane_true W)
    go_enter Try.func5, Try.ntmps5
    go_wp2_with fail
    rw [← hW]
    clear hW
    refine Hc.out.mono ?_
    rintro e w1 ⟨rfl, hb⟩
    replace HB := Lib.hid (btrans HB.out hb); replace HV := Lib.hid (HV.out.on hb); replace HX := Lib.hid (bon HX.out hb)
    replace HLU := Lib.hid (HLU.out.on hb)
    clear hb b0 b1 Hc
    obtain ⟨b0, b1⟩ := box2 HX.out
    have Hc := Lib.hid (small_any HV.out)
    rw [HS.out] at Hc
    go_wp2_with fail
    refine Hc.out.mono ?_
    rintro e w2 ⟨rfl, hb⟩
    replace HB := Lib.hid (btrans HB.out hb); replace HV := Lib.hid (HV.out.on hb); replace HX := Lib.hid (bon HX.out hb)
    replace HLU := Lib.hid (HLU.out.on hb)
    clear hb b0 b1 Hc
    obtain ⟨b0, b1⟩ := box2 HX.out
    go_wp2
    go_ret
    exact ⟨rfl, HB.out⟩
  | true =>
    by_cases z1 : tl > 20
    · have d1 : decide ((tl : Int) > 20) = true := decide_eq_true (by omega)
      clear z1
      have Hc := Lib.hid (sane_true W)
      go_enter Try.func5, Try.ntmps5
      go_wp2_with fail
      rw [← hW]
      clear hW
      refine Hc.out.mono ?_
      rintro e w1 ⟨rfl, hb⟩
      replace HB := Lib.hid (btrans HB.out hb); replace HV := Lib.hid (HV.out.on hb); replace HX := Lib.hid (bon HX.out hb)
      replace HLU := Lib.hid (HLU.out.on hb)
      clear hb b0 b1 Hc
      obtain ⟨b0, b1⟩ := box2 HX.out
      have Hc := Lib.hid (small_any HV.out)
      rw [HS.out] at Hc
      go_wp2_with fail
      refine Hc.out.mono ?_
      rintro e w2 ⟨rfl, hb⟩
      replace HB := Lib.hid (btrans HB.out hb); replace HV := Lib.hid (HV.out.on hb); replace HX := Lib.hid (bon HX.out hb)
      replace HLU := Lib.hid (HLU.out.on hb)
      clear hb b0 b1 Hc
      obtain ⟨b0, b1⟩ := box2 HX.out
      go_wp2
      go_ret
      exact ⟨rfl, HB.out⟩
    · have d1 : decide ((tl : Int) > 20) = false := decide_eq_false (by omega)
      have Hc := Lib.hid (sane_true W)
      go_enter Try.func5, Try.ntmps5
      go_wp2_with fail
      rw [← hW]
      clear hW
      refine Hc.out.mono ?_
      rintro e w1 ⟨rfl, hb⟩
      replace HB := Lib.hid (btrans HB.out hb); replace HV := Lib.hid (HV.out.on hb); replace HX := Lib.hid (bon HX.out hb)
      replace HLU := Lib.hid (HLU.out.on hb)
      clear hb b0 b1 Hc
      obtain ⟨b0, b1⟩ := box2 HX.out
      have Hc := Lib.hid (small_any HV.out)
      rw [HS.out] at Hc
      go_wp2_with fail
      refine Hc.out.mono ?_
      rintro e w2 ⟨rfl, hb⟩
      replace HB := Lib.hid (btrans HB.out hb); replace HV := Lib.hid (HV.out.on hb); replace HX := Lib.hid (bon HX.out hb)
      replace HLU := Lib.hid (HLU.out.on hb)
      clear hb b0 b1 Hc
      obtain ⟨b0, b1⟩ := box2 HX.out
      have Hc := Lib.hid (sharesP_any HV.out HLU.out (by have := HTL.out; omega))
      go_wp2_with fail
      refine Hc.out.mono ?_
      rintro e w3 ⟨sa, sl, sc, SS, E, rfl, hb, hss, hr⟩
      replace HB := Lib.hid (btrans HB.out hb); replace HV := Lib.hid (HV.out.on hb); replace HX := Lib.hid (bon HX.out hb)
      replace HLU := Lib.hid (HLU.out.on hb)
      have HLS := Lib.hid hss
      have KH := Lib.hid hr
      clear hb b0 b1 Hc hss hr
      obtain ⟨b0, b1⟩ := box2 HX.out
      have Hc := Lib.hid (rsharesP_any HV.out HLU.out (by have := HTL.out; omega))
      go_wp2_with fail
      refine Hc.out.mono ?_
      rintro e w4 ⟨ta, tk, tc, TT, F, rfl, hb, htt, hr⟩
      replace HB := Lib.hid (btrans HB.out hb); replace HV := Lib.hid (HV.out.on hb); replace HX := Lib.hid (bon HX.out hb)
      replace HLU := Lib.hid (HLU.out.on hb)
      replace HLS := Lib.hid (HLS.out.on hb)
      have HLT := Lib.hid htt
      have KH2 := Lib.hid hr
      clear hb b0 b1 Hc htt hr
      obtain ⟨b0, b1⟩ := box2 HX.out
      obtain ⟨rfl, rfl⟩ := KH.out.one KH2.out
      have e1 : (E == E) = true := by simp
      clear z1 d1
      have Hc := Lib.hid (sameS_any HLS.out HLT.out true (decide_eq_true rfl).symm)
      go_wp2_with fail
      refine Hc.out.mono ?_
      rintro e w5 ⟨rfl, hb⟩
      replace HB := Lib.hid (btrans HB.out hb); replace HV := Lib.hid (HV.out.on hb); replace HX := Lib.hid (bon HX.out hb)
      replace HLU := Lib.hid (HLU.out.on hb)
      replace HLS := Lib.hid (HLS.out.on hb)
      replace HLT := Lib.hid (HLT.out.on hb)
      clear hb b0 b1 Hc
      obtain ⟨b0, b1⟩ := box2 HX.out
      go_wp2
      go_ret
      exact ⟨rfl, HB.out⟩

set_option maxRecDepth 100000 in
theorem lifted (os : Os) (started : os.Started) (H : Type) (enc : TypeId × Value → H) :
    ReturnsInHanded {} Try.checked os 5 .any (Rows.networkSharesMatchReferenceSpec.pre6 enc Try.prog Try.f5 Rows.networkSharesMatchReferenceRow.domain false) (Rows.networkSharesMatchReferenceSpec.post enc Try.prog Try.f5 false true false false) := by
  refine returnsInHanded_of_change_sized (C := Try.checked) own started (by kernel_rfl) Try.func5
    (ChangeSpec.witness6 (enc := enc) (C := Try.checked) false ⟨#[], #[.agg #[.slice none 0 0, .slice none 0 0], .slice none 0 0], []⟩ 8 (by kernel_rfl) (by kernel_rfl) (by kernel_rfl) (by kernel_rfl)) ?_
  intro W base args ds gs before hval0 hW _ hsz0 _
  have hsz : (DataW.weightsEach Try.prog (Try.f5.params.toList ++ Rows.networkSharesMatchReferenceSpec.plain.varTypes Try.prog) (ds ++ gs)).all (· ≤ reachBytes) = true := hsz0
  have hval : ∀ (j : Nat) t v, Try.f5.params[j]? = some t → args[j]? = some v → Value.okWide Try.prog W .any base t v := hval0
  clear hsz0 hval0
  have hW' := hW
  obtain ⟨p, q, hA0, hV, rfl, _, _⟩ := hW
  have hA : DataW.TrodAll enc Try.prog W 0 (fun _ => true) true Try.f5.params.toList args.toList ds p := hA0
  rw [Try.params5] at hA hval hsz
  obtain ⟨v0, vs0, d0, ds0, p0, q0, hargs, rfl, rfl, h0, r0⟩ := trodAll_cons hA
  obtain ⟨v1, vs1, d1, ds1, p1, q1, rfl, rfl, rfl, h1, r1⟩ := trodAll_cons r0
  obtain ⟨rfl, rfl, rfl⟩ := trodAll_nil r1
  obtain rfl : args = #[v0, v1] := by cases args; simp_all
  obtain ⟨rfl, rfl⟩ := trodVars_none hV
  have hw0 : ∀ n ∈ d0.weights Try.prog 25, n ≤ reachBytes := by
    intro n hn
    have := List.all_eq_true.1 hsz n (DataW.weights_mem_each (t := 25) (d := d0) (j := 0) rfl rfl n hn)
    simpa using this
  obtain ⟨ps0, es0, hn0⟩ := openNw (hval 0 25 v0 rfl rfl) h0 hw0
  have hw1 : ∀ n ∈ d1.weights Try.prog 29, n ≤ reachBytes := by
    intro n hn
    have := List.all_eq_true.1 hsz n (DataW.weights_mem_each (t := 29) (d := d1) (j := 1) rfl rfl n hn)
    simpa using this
  obtain ⟨fuel1, hf1⟩ := h1
  obtain ⟨l1, hl1⟩ := openH (v := v1) (by first | exact hf1 | (obtain ⟨o, m, c, rfl⟩ := okWide_slice Try.underlying29 (hval 1 29 v1 rfl rfl); exact hf1)) hw1
  clear hA0
  refine (walk v0 ps0 es0 v1 l1 W hn0 hl1).mono fun e W' ⟨he, hb⟩ => ?_
  subst he
  refine ⟨_, rfl, post_law laidOut ?_ rfl rfl hW' rfl rfl rfl hb⟩
  intro t ht
  rw [Try.params5] at ht
  have hm : t ∈ [25, 29] := (by decide : ∀ t ∈ (#[25, 29] : Array TypeId).toList, t ∈ [25, 29]) t ht
  have hall : ([25, 29].all fun u => Try.prog.readableRec u && decide (u < Try.prog.types.size)) = true := by kernel_rfl
  have := List.all_eq_true.1 hall t hm
  simpa using this

theorem over : Rows.networkSharesMatchReferenceRow.holds Try.pinned (OpenSpec.ofChange Rows.networkSharesMatchReferenceSpec) :=
  OpenClaim.holds_of_wide 5 Try.f5 rfl rfl rfl rfl rfl rfl rfl ⟨rfl, rfl, rfl, rfl, rfl⟩ rfl rfl rfl rfl rfl (by kernel_rfl) Try.func5 (by kernel_rfl)
    (of_decide_eq_true (by kernel_rfl)) (by unfold Func.isWrapper; first | (rw [if_pos (by decide +kernel)]; kernel_rfl) | (rw [if_neg (by decide +kernel)]; exact ⟨rfl, rfl⟩))
    (fun os started H enc _ => lifted os started H enc)

/-- THE STATEMENT. -/
theorem proved : Rows.NetworkSharesMatchReferenceSaid :=
  over
#print axioms proved
end Go.Proofs.Ytbeoldklpklbfaa.networkSharesMatchReference
