/-
  The statement 'Rows.NetworkMatchesReferenceSaid': for all arguments the law returns true; the arguments read as they did.
-/
import Derived.Test.YtbeoldklpklbfaaFr
import Derived.Test.YtbeoldklpklbfaaRa
import Derived.Test.YtbeoldklpklbfaaYb
namespace Go.Proofs.Ytbeoldklpklbfaa.networkMatchesReference
open Go.ChangeShapes Go.WideShapes Go.ChangeAt Go.RowKit
set_option linter.unusedVariables false
set_option linter.unusedSimpArgs false

theorem tr_tm {ps : List Pc} {eds : List Ed} {a : Int} {L : List Int} {E : Int} (h : TR ps eds a L E) : chk ps eds = 0 → ∀ (es : List Ln) (fn : Nat), Val ps eds es → a = (fn : Int) → fn < ps.length → ∃ L0, Tm ps.length es fn L0 := by
  intro hc es fn v e l
  have he : cerr ps eds [a] = 0 := val_chk (es := es) hc [a] (fun p hp => by
    simp only [List.mem_cons, List.not_mem_nil, or_false] at hp
    exact ⟨fn, by rw [hp, e], l⟩)
  obtain ⟨es', fn', v', e', l', t⟩ := h.2.2 (by rw [h.1]; exact he)
  obtain rfl := v.one v'
  obtain rfl : fn = fn' := by omega
  exact ⟨L, t⟩
theorem rr_tm {ps : List Pc} {eds : List Ed} {a b : Int} {R : List Int} {E : Int} (h : RR ps eds a b R E) : cerr ps eds [a, b] = 0 → ∀ (es : List Ln) (fn : Nat), Val ps eds es → b = (fn : Int) → fn < ps.length → ∃ L0, Tm ps.length es fn L0 := by
  intro hc es fn v e l
  rcases h with ⟨z, _⟩ | ⟨_, es', an, bn, L, v', e1, e2, l1, l2, t, _⟩
  · exact absurd hc z
  · obtain rfl := v.one v'
    obtain rfl : fn = bn := by omega
    exact ⟨L, t⟩

set_option maxRecDepth 100000 in
set_option maxHeartbeats 8000000 in
theorem walk (V0 : Value) (ps0 : List Pc) (es0 : List Ed) (a1 : Int) (a2 : Int) (w : World) (h0 : Nw w V0 ps0 es0) (h1 : I64 a1) (h2 : I64 a2) :
    Calls Try.prog 4 #[V0, .int .i64 a1, .int .i64 a2] w fun e w' => e = .returned (.bool true) ∧ Below w.heap.size w w' := by
  obtain ⟨va, vc, vb, vd, rfl, hh1, hh2⟩ := h0.shape
  obtain ⟨n, hn⟩ : ∃ n, n = ps0.length := ⟨_, rfl⟩
  obtain ⟨m, hm⟩ : ∃ m, m = es0.length := ⟨_, rfl⟩
  rw [← hn, ← hm] at h0 ⊢
  have HN := Lib.hid hn; have HM := Lib.hid hm
  obtain ⟨W, hW⟩ : ∃ W, W = w.alloc (.cells #[.slice va n vc, .slice vb m vd] 25) := ⟨_, rfl⟩
  have hB : Below w.heap.size w W := by rw [hW]; exact ball (Below.refl w.heap.size w) _
  have e0 : W.heap[w.heap.size]? = some (.cells #[.slice va n vc, .slice vb m vd] 25 (0, 0)) := by rw [hW]; exact bnew _ _
  have HV := Lib.hid (h0.on hB); have HB := Lib.hid hB; have HX := Lib.hid e0
  obtain ⟨b0, b1⟩ := box2 e0
  clear h0 hh1 hh2 hn hm hB e0
  obtain ⟨S, hS⟩ : ∃ S, smB ps0.length es0.length = S := ⟨_, rfl⟩
  have HS := Lib.hid hS
  have HI1 := Lib.hid h1; have HI2 := Lib.hid h2
  clear h1 h2 hS
  cases S with
  | false =>
    have Hc := Lib.hid (sane_true W)
    go_enter Try.func4, Try.ntmps4
    go_wp2_with fail
    rw [← hW]
    clear hW
    refine Hc.out.mono ?_
    rintro e w1 ⟨rfl, hb⟩
    replace HB := Lib.hid (btrans HB.out hb); replace HV := Lib.hid (HV.out.on hb); replace HX := Lib.hid (bon HX.out hb)
    clear hb b0 b1 Hc
    obtain ⟨b0, b1⟩ := box2 HX.out
    have Hc := Lib.hid (small_any HV.out)
    rw [HS.out] at Hc
    go_wp2_with fail
    refine Hc.out.mono ?_
    rintro e w2 ⟨rfl, hb⟩
    replace HB := Lib.hid (btrans HB.out hb); replace HV := Lib.hid (HV.out.on hb); replace HX := Lib.hid (bon HX.out hb)
    clear hb b0 b1 Hc
    obtain ⟨b0, b1⟩ := box2 HX.out
    go_wp2
    go_ret
    exact ⟨rfl, HB.out⟩
  | true =>
    have Hc := Lib.hid (sane_true W)
    go_enter Try.func4, Try.ntmps4
    go_wp2_with fail
    rw [← hW]
    clear hW
    refine Hc.out.mono ?_
    rintro e w1 ⟨rfl, hb⟩
    replace HB := Lib.hid (btrans HB.out hb); replace HV := Lib.hid (HV.out.on hb); replace HX := Lib.hid (bon HX.out hb)
    clear hb b0 b1 Hc
    obtain ⟨b0, b1⟩ := box2 HX.out
    have Hc := Lib.hid (small_any HV.out)
    rw [HS.out] at Hc
    go_wp2_with fail
    refine Hc.out.mono ?_
    rintro e w2 ⟨rfl, hb⟩
    replace HB := Lib.hid (btrans HB.out hb); replace HV := Lib.hid (HV.out.on hb); replace HX := Lib.hid (bon HX.out hb)
    clear hb b0 b1 Hc
    obtain ⟨b0, b1⟩ := box2 HX.out
    have Hc := Lib.hid (timesP_any HV.out a1 HI1.out)
    go_wp2_with fail
    refine Hc.out.mono ?_
    rintro e w3 ⟨ta, tk, tc, L, E1, rfl, hb, hh, htr, hbd⟩
    replace HB := Lib.hid (btrans HB.out hb); replace HV := Lib.hid (HV.out.on hb); replace HX := Lib.hid (bon HX.out hb)
    have HL1 := Lib.hid hh
    have KT := Lib.hid htr
    clear hb b0 b1 Hc hh htr
    obtain ⟨b0, b1⟩ := box2 HX.out
    clear hbd
    have Hc := Lib.hid (rtimesP_any HV.out a1 (tr_tm KT.out))
    go_wp2_with fail
    refine Hc.out.mono ?_
    rintro e w4 ⟨ta2, tk2, tc2, L2, E2, rfl, hb, hh, htr, hbd⟩
    replace HB := Lib.hid (btrans HB.out hb); replace HV := Lib.hid (HV.out.on hb); replace HX := Lib.hid (bon HX.out hb)
    replace HL1 := Lib.hid (HL1.out.on hb)
    have HL2 := Lib.hid hh
    have KT2 := Lib.hid htr
    clear hb b0 b1 Hc hh htr
    obtain ⟨b0, b1⟩ := box2 HX.out
    clear hbd
    obtain ⟨rfl, rfl⟩ := KT.out.one KT2.out
    have Hc := Lib.hid (betweenP_any HV.out a1 a2 HI1.out HI2.out)
    go_wp2_with fail
    refine Hc.out.mono ?_
    rintro e w5 ⟨T, E3, rfl, hb, hbr, z0, z1⟩
    replace HB := Lib.hid (btrans HB.out hb); replace HV := Lib.hid (HV.out.on hb); replace HX := Lib.hid (bon HX.out hb)
    replace HL1 := Lib.hid (HL1.out.on hb)
    replace HL2 := Lib.hid (HL2.out.on hb)
    have KB := Lib.hid hbr
    clear hb b0 b1 Hc hbr
    obtain ⟨b0, b1⟩ := box2 HX.out
    clear z0 z1
    have Hc := Lib.hid (rbetweenP_any HV.out a1 a2 (tr_tm KT.out))
    go_wp2_with fail
    refine Hc.out.mono ?_
    rintro e w6 ⟨T2, E4, rfl, hb, hbr⟩
    replace HB := Lib.hid (btrans HB.out hb); replace HV := Lib.hid (HV.out.on hb); replace HX := Lib.hid (bon HX.out hb)
    replace HL1 := Lib.hid (HL1.out.on hb)
    replace HL2 := Lib.hid (HL2.out.on hb)
    have KB2 := Lib.hid hbr
    clear hb b0 b1 Hc hbr
    obtain ⟨b0, b1⟩ := box2 HX.out
    obtain ⟨rfl, rfl⟩ := KB.out.one KB2.out
    have Hc := Lib.hid (routeP_any HV.out a1 a2 HI1.out HI2.out)
    go_wp2_with fail
    refine Hc.out.mono ?_
    rintro e w7 ⟨ra, rk, rc, R, E5, rfl, hb, hrr, hr⟩
    replace HB := Lib.hid (btrans HB.out hb); replace HV := Lib.hid (HV.out.on hb); replace HX := Lib.hid (bon HX.out hb)
    replace HL1 := Lib.hid (HL1.out.on hb)
    replace HL2 := Lib.hid (HL2.out.on hb)
    have HL3 := Lib.hid hrr
    have KR := Lib.hid hr
    clear hb b0 b1 Hc hrr hr
    obtain ⟨b0, b1⟩ := box2 HX.out
    have Hc := Lib.hid (rrouteP_any HV.out a1 a2 (tr_tm KT.out) (rr_tm KR.out))
    go_wp2_with fail
    refine Hc.out.mono ?_
    rintro e w8 ⟨ra2, rk2, rc2, R2, E6, rfl, hb, hrr, hr⟩
    replace HB := Lib.hid (btrans HB.out hb); replace HV := Lib.hid (HV.out.on hb); replace HX := Lib.hid (bon HX.out hb)
    replace HL1 := Lib.hid (HL1.out.on hb)
    replace HL2 := Lib.hid (HL2.out.on hb)
    replace HL3 := Lib.hid (HL3.out.on hb)
    have HL4 := Lib.hid hrr
    have KR2 := Lib.hid hr
    clear hb b0 b1 Hc hrr hr
    obtain ⟨b0, b1⟩ := box2 HX.out
    obtain ⟨rfl, rfl⟩ := KR.out.one KR2.out
    have Hc := Lib.hid (edgeP_any HV.out a1 a2 HI1.out HI2.out)
    go_wp2_with fail
    refine Hc.out.mono ?_
    rintro e w9 ⟨I, E7, rfl, hb, her⟩
    replace HB := Lib.hid (btrans HB.out hb); replace HV := Lib.hid (HV.out.on hb); replace HX := Lib.hid (bon HX.out hb)
    replace HL1 := Lib.hid (HL1.out.on hb)
    replace HL2 := Lib.hid (HL2.out.on hb)
    replace HL3 := Lib.hid (HL3.out.on hb)
    replace HL4 := Lib.hid (HL4.out.on hb)
    have KE := Lib.hid her
    clear hb b0 b1 Hc her
    obtain ⟨b0, b1⟩ := box2 HX.out
    have Hc := Lib.hid (redgeP_any HV.out a1 a2)
    go_wp2_with fail
    refine Hc.out.mono ?_
    rintro e w10 ⟨I2, E8, rfl, hb, her⟩
    replace HB := Lib.hid (btrans HB.out hb); replace HV := Lib.hid (HV.out.on hb); replace HX := Lib.hid (bon HX.out hb)
    replace HL1 := Lib.hid (HL1.out.on hb)
    replace HL2 := Lib.hid (HL2.out.on hb)
    replace HL3 := Lib.hid (HL3.out.on hb)
    replace HL4 := Lib.hid (HL4.out.on hb)
    have KE2 := Lib.hid her
    clear hb b0 b1 Hc her
    obtain ⟨b0, b1⟩ := box2 HX.out
    obtain ⟨rfl, rfl⟩ := KE.out.one KE2.out
    have e0 : (E1 == E1) = true := by simp
    have e1 : (E3 == E3) = true := by simp
    have e2 : (T == T) = true := by simp
    have e3 : (E5 == E5) = true := by simp
    have e4 : (E7 == E7) = true := by simp
    have e5 : (I == I) = true := by simp
    have Hc := Lib.hid (sameI_any HL1.out HL2.out true (decide_eq_true rfl).symm)
    go_wp2_with fail
    refine Hc.out.mono ?_
    rintro e w11 ⟨rfl, hb⟩
    replace HB := Lib.hid (btrans HB.out hb); replace HV := Lib.hid (HV.out.on hb); replace HX := Lib.hid (bon HX.out hb)
    replace HL1 := Lib.hid (HL1.out.on hb)
    replace HL2 := Lib.hid (HL2.out.on hb)
    replace HL3 := Lib.hid (HL3.out.on hb)
    replace HL4 := Lib.hid (HL4.out.on hb)
    clear hb b0 b1 Hc
    obtain ⟨b0, b1⟩ := box2 HX.out
    have Hc := Lib.hid (sameI_any HL3.out HL4.out true (decide_eq_true rfl).symm)
    go_wp2_with fail
    refine Hc.out.mono ?_
    rintro e w12 ⟨rfl, hb⟩
    replace HB := Lib.hid (btrans HB.out hb); replace HV := Lib.hid (HV.out.on hb); replace HX := Lib.hid (bon HX.out hb)
    replace HL1 := Lib.hid (HL1.out.on hb)
    replace HL2 := Lib.hid (HL2.out.on hb)
    replace HL3 := Lib.hid (HL3.out.on hb)
    replace HL4 := Lib.hid (HL4.out.on hb)
    clear hb b0 b1 Hc
    obtain ⟨b0, b1⟩ := box2 HX.out
    go_wp2
    go_ret
    exact ⟨rfl, HB.out⟩

set_option maxRecDepth 100000 in
theorem lifted (os : Os) (started : os.Started) (H : Type) (enc : TypeId × Value → H) :
    ReturnsInHanded {} Try.checked os 4 .any (Rows.networkMatchesReferenceSpec.pre6 enc Try.prog Try.f4 Rows.networkMatchesReferenceRow.domain false) (Rows.networkMatchesReferenceSpec.post enc Try.prog Try.f4 false true false false) := by
  refine returnsInHanded_of_change_sized (C := Try.checked) own started (by kernel_rfl) Try.func4
    (ChangeSpec.witness6 (enc := enc) (C := Try.checked) false ⟨#[], #[.agg #[.slice none 0 0, .slice none 0 0], .int .i64 0, .int .i64 0], []⟩ 8 (by kernel_rfl) (by kernel_rfl) (by kernel_rfl) (by kernel_rfl)) ?_
  intro W base args ds gs before hval0 hW _ hsz0 _
  have hsz : (DataW.weightsEach Try.prog (Try.f4.params.toList ++ Rows.networkMatchesReferenceSpec.plain.varTypes Try.prog) (ds ++ gs)).all (· ≤ reachBytes) = true := hsz0
  have hval : ∀ (j : Nat) t v, Try.f4.params[j]? = some t → args[j]? = some v → Value.okWide Try.prog W .any base t v := hval0
  clear hsz0 hval0
  have hW' := hW
  obtain ⟨p, q, hA0, hV, rfl, _, _⟩ := hW
  have hA : DataW.TrodAll enc Try.prog W 0 (fun _ => true) true Try.f4.params.toList args.toList ds p := hA0
  rw [Try.params4] at hA hval hsz
  obtain ⟨v0, vs0, d0, ds0, p0, q0, hargs, rfl, rfl, h0, r0⟩ := trodAll_cons hA
  obtain ⟨v1, vs1, d1, ds1, p1, q1, rfl, rfl, rfl, h1, r1⟩ := trodAll_cons r0
  obtain ⟨v2, vs2, d2, ds2, p2, q2, rfl, rfl, rfl, h2, r2⟩ := trodAll_cons r1
  obtain ⟨rfl, rfl, rfl⟩ := trodAll_nil r2
  obtain rfl : args = #[v0, v1, v2] := by cases args; simp_all
  obtain ⟨rfl, rfl⟩ := trodVars_none hV
  have hw0 : ∀ n ∈ d0.weights Try.prog 25, n ≤ reachBytes := by
    intro n hn
    have := List.all_eq_true.1 hsz n (DataW.weights_mem_each (t := 25) (d := d0) (j := 0) rfl rfl n hn)
    simpa using this
  obtain ⟨ps0, es0, hn0⟩ := openNw (hval 0 25 v0 rfl rfl) h0 hw0
  obtain ⟨a1, rfl, rfl, rfl, wf1⟩ := open_int Try.underlying3 (hval 1 3 v1 rfl rfl) h1
  obtain ⟨a2, rfl, rfl, rfl, wf2⟩ := open_int Try.underlying3 (hval 2 3 v2 rfl rfl) h2
  clear hA0
  refine (walk v0 ps0 es0 a1 a2 W hn0 (i64_wf wf1) (i64_wf wf2)).mono fun e W' ⟨he, hb⟩ => ?_
  subst he
  refine ⟨_, rfl, post_law laidOut ?_ rfl rfl hW' rfl rfl rfl hb⟩
  intro t ht
  rw [Try.params4] at ht
  have hm : t ∈ [3, 25] := (by decide : ∀ t ∈ (#[25, 3, 3] : Array TypeId).toList, t ∈ [3, 25]) t ht
  have hall : ([3, 25].all fun u => Try.prog.readableRec u && decide (u < Try.prog.types.size)) = true := by kernel_rfl
  have := List.all_eq_true.1 hall t hm
  simpa using this

theorem over : Rows.networkMatchesReferenceRow.holds Try.pinned (OpenSpec.ofChange Rows.networkMatchesReferenceSpec) :=
  OpenClaim.holds_of_wide 4 Try.f4 rfl rfl rfl rfl rfl rfl rfl ⟨rfl, rfl, rfl, rfl, rfl⟩ rfl rfl rfl rfl rfl (by kernel_rfl) Try.func4 (by kernel_rfl)
    (of_decide_eq_true (by kernel_rfl)) (by unfold Func.isWrapper; first | (rw [if_pos (by decide +kernel)]; kernel_rfl) | (rw [if_neg (by decide +kernel)]; exact ⟨rfl, rfl⟩))
    (fun os started H enc _ => lifted os started H enc)

/-- THE STATEMENT. -/
theorem proved : Rows.NetworkMatchesReferenceSaid :=
  over
#print axioms proved
end Go.Proofs.Ytbeoldklpklbfaa.networkMatchesReference
