/-
  The statement 'Rows.NetworkRouteIsFastestSaid': for all arguments the law returns true; the arguments read as they did.
-/
import Derived.Test.YtbeoldklpklbfaaFr
import Derived.Test.YtbeoldklpklbfaaRm
namespace Go.Proofs.Ytbeoldklpklbfaa.networkRouteIsFastest
open Go.ChangeShapes Go.WideShapes Go.ChangeAt Go.RowKit
set_option linter.unusedVariables false
set_option linter.unusedSimpArgs false


set_option maxRecDepth 100000 in
set_option maxHeartbeats 8000000 in
theorem walk (V0 : Value) (ps0 : List Pc) (es0 : List Ed) (a1 : Int) (a2 : Int) (w : World) (h0 : Nw w V0 ps0 es0) (h1 : I64 a1) (h2 : I64 a2) :
    Calls Try.prog 8 #[V0, .int .i64 a1, .int .i64 a2] w fun e w' => e = .returned (.bool true) ∧ Below w.heap.size w w' := by
  obtain ⟨va, vc, vb, vd, rfl, hh1, hh2⟩ := h0.shape
  obtain ⟨n, hn⟩ : ∃ n, n = ps0.length := ⟨_, rfl⟩
  obtain ⟨m, hm⟩ : ∃ m, m = es0.length := ⟨_, rfl⟩
  rw [← hn, ← hm] at h0 ⊢
  have HN := Lib.hid hn; have HM := Lib.hid hm
  obtain ⟨W, hW⟩ : ∃ W, W = w.alloc (.cells #[.slice va n vc, .slice vb m vd] 25) := ⟨_, rfl⟩
  have hB : Below w.heap.size w W := by rw [hW]; exact ball (Below.refl w.heap.size w) _
  have e0 : W.heap[w.heap.size]? = some (.cells #[.slice va n vc, .slice vb m vd] 25 (0, 0)) := by rw [hW]; exact bnew _ _
  have HV := Lib.hid (h0.on hB); have HB := Lib.hid hB; have HX := Lib.hid e0
  obtain ⟨b0, b1⟩ := box2 e0
  clear h0 hh1 hh2 hn hm hB e0
  obtain ⟨S, hS⟩ : ∃ S, smB ps0.length es0.length = S := ⟨_, rfl⟩
  have HS := Lib.hid hS; have H1 := Lib.hid h1; have H2 := Lib.hid h2
  clear hS h1 h2
  cases S with
  | false =>
    have Hc := Lib.hid (sane_true W)
    go_enter Try.func8, Try.ntmps8
    go_wp2_with fail
    rw [← hW]
    clear hW
    refine Hc.out.mono ?_
    rintro e w1 ⟨rfl, hb⟩
    replace HB := Lib.hid (btrans HB.out hb); replace HV := Lib.hid (HV.out.on hb); replace HX := Lib.hid (bon HX.out hb)
    clear hb b0 b1 Hc
    obtain ⟨b0, b1⟩ := box2 HX.out
    have Hc := Lib.hid (small_any HV.out)
    rw [HS.out] at Hc
    go_wp2_with fail
    refine Hc.out.mono ?_
    rintro e w2 ⟨rfl, hb⟩
    replace HB := Lib.hid (btrans HB.out hb); replace HV := Lib.hid (HV.out.on hb); replace HX := Lib.hid (bon HX.out hb)
    clear hb b0 b1 Hc
    obtain ⟨b0, b1⟩ := box2 HX.out
    go_wp2
    go_ret
    exact ⟨rfl, HB.out⟩
  | true =>
    have Hc := Lib.hid (sane_true W)
    go_enter Try.func8, Try.ntmps8
    go_wp2_with fail
    rw [← hW]
    clear hW
    refine Hc.out.mono ?_
    rintro e w1 ⟨rfl, hb⟩
    replace HB := Lib.hid (btrans HB.out hb); replace HV := Lib.hid (HV.out.on hb); replace HX := Lib.hid (bon HX.out hb)
    clear hb b0 b1 Hc
    obtain ⟨b0, b1⟩ := box2 HX.out
    have Hc := Lib.hid (small_any HV.out)
    rw [HS.out] at Hc
    go_wp2_with fail
    refine Hc.out.mono ?_
    rintro e w2 ⟨rfl, hb⟩
    replace HB := Lib.hid (btrans HB.out hb); replace HV := Lib.hid (HV.out.on hb); replace HX := Lib.hid (bon HX.out hb)
    clear hb b0 b1 Hc
    obtain ⟨b0, b1⟩ := box2 HX.out
    have Hc := Lib.hid (routeP_any HV.out a1 a2 H1.out H2.out)
    go_wp2_with fail
    refine Hc.out.mono ?_
    rintro e w3 ⟨r1, rk, r2, R, E, rfl, hb, hl, hr⟩
    replace HB := Lib.hid (btrans HB.out hb); replace HV := Lib.hid (HV.out.on hb); replace HX := Lib.hid (bon HX.out hb)
    have HLR := Lib.hid hl
    have KR := Lib.hid hr
    clear hb b0 b1 Hc hl hr
    obtain ⟨b0, b1⟩ := box2 HX.out
    have Hc := Lib.hid (betweenP_any HV.out a1 a2 H1.out H2.out)
    go_wp2_with fail
    refine Hc.out.mono ?_
    rintro e w4 ⟨T, E2, rfl, hb, hr2, hn2, hx2⟩
    replace HB := Lib.hid (btrans HB.out hb); replace HV := Lib.hid (HV.out.on hb); replace HX := Lib.hid (bon HX.out hb)
    replace HLR := Lib.hid (HLR.out.on hb)
    have KB := Lib.hid hr2
    clear hb b0 b1 Hc hr2
    obtain ⟨b0, b1⟩ := box2 HX.out
    clear hn2 hx2
    obtain ⟨rfl, q1, q2⟩ := fast KR.out KB.out
    have e1 : (E2 != E2) = false := by simp
    have Q1 := Lib.hid q1; have Q2 := Lib.hid q2
    clear q1 q2
    by_cases z : E2 = 0
    · subst z
      obtain ⟨es, an, bn, L, P, hchk, hval, rfl, rfl, rfl, hRF, hT, hb0, _, _⟩ := Q2.out rfl
      have hk : rk = P.length := by
        obtain ⟨_, _, e⟩ := HLR.out.shape
        simp only [Value.slice.injEq] at e
        rw [ints_length] at e
        exact e.2.1
      have hsm := HS.out
      unfold smB at hsm
      have hsm2 := (of_decide_eq_true hsm).1
      have hn12 : rk ≤ 12 := by have := hRF.le; omega
      obtain ⟨k1, hk1⟩ : ∃ k1, rk = k1 + 1 := ⟨rk - 1, by have := hRF.pos; omega⟩
      obtain ⟨g, off, x0, rfl, hg, hx0, _, c0, _⟩ := HLR.out.pick 0 (by rw [ints_length]; exact hRF.pos)
      have c1 := (HLR.out.at (k := k1) (x := (bn : Int)) (by rw [ints_get, show k1 = P.length - 1 by omega, hRF.last]; rfl)).2.1
      have hx0a : x0 = (an : Int) := by rw [ints_get, hRF.first] at hx0; exact (Option.some.inj hx0).symm
      subst hx0a
      rw [Nat.add_zero] at c0
      have w1 : IntKind.i64.wrap ((rk : Int) - 1) = (k1 : Int) := by rw [show (rk : Int) - 1 = (k1 : Int) by omega]; exact wrap_in (by omega) (by omega)
      have d1 : ((rk : Int) == 0) = false := by simp; omega
      have d2 : decide ((rk : Int) > 12) = false := decide_eq_false (by omega)
      have d3 : ((an : Int) != (an : Int)) = false := by simp
      have d4 : ((bn : Int) != (bn : Int)) = false := by simp
      have p1 : (0 : Int) < (rk : Int) := by omega
      have p2 : (k1 : Int) < (rk : Int) := by omega
      have HRFH := Lib.hid hRF; have HT := Lib.hid hT; have HB0 := Lib.hid hb0; have HVAL := Lib.hid hval; have HCHK := Lib.hid hchk; have HK := Lib.hid hk; have HG := Lib.hid hg; have HK1 := Lib.hid hk1
      clear hk1
      clear hRF hT hb0 hval hchk hk hg hx0 hsm hsm2
      go_wp2
      clear c0 c1 d1 d2 d3 d4 p1 p2 e1 b0 b1 w1
      obtain ⟨W9, hW9⟩ : ∃ W9, W9 = w4 := ⟨_, rfl⟩
      subst hW9
      go_loopw [11] (fun s wr => ∃ i : Nat, i ≤ rk ∧ s = .int .i64 (i : Int) ∧ Hid (Below W9.heap.size W9 wr)) (fun s _ => rk - (intOf s).toNat)
      case atStart => exact ⟨0, by omega, rfl, Lib.hid (Below.refl _ _)⟩
      case round =>
        obtain ⟨i, hi, rfl, HW⟩ := hrel
        by_cases hlt : i < rk
        · have hlt2 : (i : Int) < (rk : Int) := by omega
          go_wp2
          obtain ⟨W8, hW8⟩ : ∃ W8, W8 = wr := ⟨_, rfl⟩
          subst hW8
          go_loopw [12] (fun s wr => ∃ j : Nat, j ≤ i ∧ s = .int .i64 (j : Int) ∧ Hid (Below W9.heap.size W9 wr)) (fun s _ => i - (intOf s).toNat)
          case atStart => exact ⟨0, by omega, rfl, HW⟩
          case round =>
            obtain ⟨j, hj, rfl, HWJ⟩ := hrel
            by_cases hltj : j < i
            · have hltj2 : (j : Int) < (i : Int) := by omega
              have hltj3 : (j : Int) < (rk : Int) := by omega
              obtain ⟨x, hx⟩ : ∃ x, P[i]? = some x := ⟨_, List.getElem?_eq_getElem (by have := HK.out; omega)⟩
              obtain ⟨y, hy⟩ : ∃ y, P[j]? = some y := ⟨_, List.getElem?_eq_getElem (by have := HK.out; omega)⟩
              have hxy := HRFH.out.ne hx hy hltj
              have f0 := ((HLR.out.on HWJ.out).at (k := i) (x := (x : Int)) (by rw [ints_get, hx]; rfl)).2.1
              have f1 := ((HLR.out.on HWJ.out).at (k := j) (x := (y : Int)) (by rw [ints_get, hy]; rfl)).2.1
              have d1 : ((x : Int) == (y : Int)) = false := by simp; omega
              clear hx hy hxy
              go_wp2_with fail
              go_quiet (fail)
              have HW2 := Lib.hid (bdrewN HWJ.out nq)
              clear f0 f1
              generalize wr.drewN nq = w7 at *
              go_wp2
              go_roundw
              case rel => exact ⟨j + 1, by omega, by go_num, HW2⟩
              case measure => simp [intOf]; omega
            · obtain rfl : j = i := by omega
              have hltj2 : ¬ ((j : Int) < (j : Int)) := by omega
              go_wp2
              go_roundw
              case rel => exact ⟨j + 1, by omega, by go_num, HWJ⟩
              case measure => simp [intOf]; omega
        · obtain rfl : i = rk := by omega
          have hlt2 : ¬ ((i : Int) < (i : Int)) := by omega
          obtain ⟨b0, b1⟩ := box2 (bon HX.out HW.out)
          have Hc := Lib.hid (minutes_any8 (HV.out.on HW.out) HVAL.out HCHK.out (HLR.out.on HW.out) (by rw [ints_length, ← HK.out]; omega))
          go_wp2_with fail
          refine Hc.out.mono ?_
          rintro e w8 ⟨S, B, rfl, hb, hm⟩
          rcases hm with ⟨rfl, _, hs⟩ | ⟨rfl, _, i9, hi9, hno⟩
          · rw [ints_length, HRFH.out.sum, HB0.out, HT.out, Int.sub_zero] at hs
            subst hs
            have d1 : (S == S) = true := by simp
            have HF := Lib.hid (btrans HB.out (btrans HW.out hb))
            clear hb b0 b1 Hc
            go_wp2
            go_ret
            exact ⟨rfl, HF.out⟩
          · obtain ⟨j9, hj9⟩ := HRFH.out.hops i9 (by rw [ints_length] at hi9; exact hi9)
            exact absurd hj9 (hno j9)
    · have d0 : (E2 != 0) = true := by simpa using z
      obtain ⟨rfl, rfl⟩ := Q1.out z
      have hk : rk = 0 := by
        obtain ⟨_, _, e⟩ := HLR.out.shape
        simp only [Value.slice.injEq] at e
        exact e.2.1
      subst hk
      clear z
      go_wp2
      go_ret
      exact ⟨rfl, HB.out⟩

set_option maxRecDepth 100000 in
theorem lifted (os : Os) (started : os.Started) (H : Type) (enc : TypeId × Value → H) :
    ReturnsInHanded {} Try.checked os 8 .any (Rows.networkRouteIsFastestSpec.pre6 enc Try.prog Try.f8 Rows.networkRouteIsFastestRow.domain false) (Rows.networkRouteIsFastestSpec.post enc Try.prog Try.f8 false true false false) := by
  refine returnsInHanded_of_change_sized (C := Try.checked) own started (by kernel_rfl) Try.func8
    (ChangeSpec.witness6 (enc := enc) (C := Try.checked) false ⟨#[], #[.agg #[.slice none 0 0, .slice none 0 0], .int .i64 0, .int .i64 0], []⟩ 8 (by kernel_rfl) (by kernel_rfl) (by kernel_rfl) (by kernel_rfl)) ?_
  intro W base args ds gs before hval0 hW _ hsz0 _
  have hsz : (DataW.weightsEach Try.prog (Try.f8.params.toList ++ Rows.networkRouteIsFastestSpec.plain.varTypes Try.prog) (ds ++ gs)).all (· ≤ reachBytes) = true := hsz0
  have hval : ∀ (j : Nat) t v, Try.f8.params[j]? = some t → args[j]? = some v → Value.okWide Try.prog W .any base t v := hval0
  clear hsz0 hval0
  have hW' := hW
  obtain ⟨p, q, hA0, hV, rfl, _, _⟩ := hW
  have hA : DataW.TrodAll enc Try.prog W 0 (fun _ => true) true Try.f8.params.toList args.toList ds p := hA0
  rw [Try.params8] at hA hval hsz
  obtain ⟨v0, vs0, d0, ds0, p0, q0, hargs, rfl, rfl, h0, r0⟩ := trodAll_cons hA
  obtain ⟨v1, vs1, d1, ds1, p1, q1, rfl, rfl, rfl, h1, r1⟩ := trodAll_cons r0
  obtain ⟨v2, vs2, d2, ds2, p2, q2, rfl, rfl, rfl, h2, r2⟩ := trodAll_cons r1
  obtain ⟨rfl, rfl, rfl⟩ := trodAll_nil r2
  obtain rfl : args = #[v0, v1, v2] := by cases args; simp_all
  obtain ⟨rfl, rfl⟩ := trodVars_none hV
  have hw0 : ∀ n ∈ d0.weights Try.prog 25, n ≤ reachBytes := by
    intro n hn
    have := List.all_eq_true.1 hsz n (DataW.weights_mem_each (t := 25) (d := d0) (j := 0) rfl rfl n hn)
    simpa using this
  obtain ⟨ps0, es0, hn0⟩ := openNw (hval 0 25 v0 rfl rfl) h0 hw0
  obtain ⟨a1, rfl, rfl, rfl, wf1⟩ := open_int Try.underlying3 (hval 1 3 v1 rfl rfl) h1
  obtain ⟨a2, rfl, rfl, rfl, wf2⟩ := open_int Try.underlying3 (hval 2 3 v2 rfl rfl) h2
  clear hA0
  refine (walk v0 ps0 es0 a1 a2 W hn0 (i64_wf wf1) (i64_wf wf2)).mono fun e W' ⟨he, hb⟩ => ?_
  subst he
  refine ⟨_, rfl, post_law laidOut ?_ rfl rfl hW' rfl rfl rfl hb⟩
  intro t ht
  rw [Try.params8] at ht
  have hm : t ∈ [3, 25] := (by decide : ∀ t ∈ (#[25, 3, 3] : Array TypeId).toList, t ∈ [3, 25]) t ht
  have hall : ([3, 25].all fun u => Try.prog.readableRec u && decide (u < Try.prog.types.size)) = true := by kernel_rfl
  have := List.all_eq_true.1 hall t hm
  simpa using this

theorem over : Rows.networkRouteIsFastestRow.holds Try.pinned (OpenSpec.ofChange Rows.networkRouteIsFastestSpec) :=
  OpenClaim.holds_of_wide 8 Try.f8 rfl rfl rfl rfl rfl rfl rfl ⟨rfl, rfl, rfl, rfl, rfl⟩ rfl rfl rfl rfl rfl (by kernel_rfl) Try.func8 (by kernel_rfl)
    (of_decide_eq_true (by kernel_rfl)) (by unfold Func.isWrapper; first | (rw [if_pos (by decide +kernel)]; kernel_rfl) | (rw [if_neg (by decide +kernel)]; exact ⟨rfl, rfl⟩))
    (fun os started H enc _ => lifted os started H enc)

/-- THE STATEMENT. -/
theorem proved : Rows.NetworkRouteIsFastestSaid :=
  over
#print axioms proved
end Go.Proofs.Ytbeoldklpklbfaa.networkRouteIsFastest
