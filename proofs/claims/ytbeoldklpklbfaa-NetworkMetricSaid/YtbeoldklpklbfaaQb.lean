/-
  The statement 'Rows.NetworkMetricSaid': for all arguments the law returns true; the arguments read as they did.
-/
import Derived.Test.YtbeoldklpklbfaaFr
namespace Go.Proofs.Ytbeoldklpklbfaa.networkMetric
open Go.ChangeShapes Go.WideShapes Go.ChangeAt Go.RowKit
set_option linter.unusedVariables false
set_option linter.unusedSimpArgs false

/-- What the law compares. -/
theorem metric {ps : List Pc} {es : List Ed} {a b c T1 E1 T2 E2 T3 E3 T4 E4 : Int} (hc : chk ps es = 0) (ha : rng 0 a (ps.length - 1) = true) (hb : rng 0 b (ps.length - 1) = true) (hcc : rng 0 c (ps.length - 1) = true)
    (h1 : BR ps es a b T1 E1) (h2 : BR ps es b a T2 E2) (h3 : BR ps es a c T3 E3) (h4 : BR ps es c b T4 E4) :
    E1 = E2 ∧ T1 = T2 ∧ (E1 = 0 ∨ E1 = 80) ∧ (E1 = 0 → (T1 = 0 ↔ a = b)) ∧ (E3 = 0 → E4 = 0 → E1 = 0 ∧ T1 ≤ T3 + T4) := by
  have cz : ∀ x y, rng 0 x (ps.length - 1) = true → rng 0 y (ps.length - 1) = true → cerr ps es [x, y] = 0 := by
    intro x y hx hy
    unfold cerr
    rw [if_pos hc, if_pos]
    unfold plc
    simp [hx, hy]
  rcases h1 with ⟨g, _⟩ | ⟨_, es1, an, bn, L1, v1, rfl, rfl, l1, l2, t1, d1⟩
  · exact absurd (cz _ _ ha hb) g
  rcases h2 with ⟨g, _⟩ | ⟨_, es2, bn2, an2, L2, v2, e1, e2, _, _, t2, d2⟩
  · exact absurd (cz _ _ hb ha) g
  rcases h3 with ⟨g, _⟩ | ⟨_, es3, an3, cn, L3, v3, e3, rfl, _, l3, t3, d3⟩
  · exact absurd (cz _ _ ha hcc) g
  rcases h4 with ⟨g, _⟩ | ⟨_, es4, cn4, bn4, L4, v4, e4, e5, _, _, t4, d4⟩
  · exact absurd (cz _ _ hcc hb) g
  obtain rfl := v1.one v2
  obtain rfl := v1.one v3
  obtain rfl := v1.one v4
  obtain rfl : bn = bn2 := by omega
  obtain rfl : an = an2 := by omega
  obtain rfl : an = an3 := by omega
  obtain rfl : cn = cn4 := by omega
  obtain rfl : bn = bn4 := by omega
  obtain rfl := tm_one v1.2.1 t1 t3
  have G := wt_wt v1.2.1
  have hs := dist_symm G t1.2 t2.2
  have hz := dist_eq_zero (b := bn) G t1.2
  have ht := fun h0 h1 => dist_tri (b := bn) G t1.2 t4.2 h0 h1
  have h5 : ((an : Int) = (bn : Int)) ↔ an = bn := Int.ofNat_inj
  refine ⟨by omega, by omega, by omega, fun h => ?_, fun hh1 hh2 => ?_⟩
  · rw [h5, ← hz]
    omega
  · have := ht (by omega) (by omega)
    omega

set_option maxRecDepth 100000 in
set_option maxHeartbeats 8000000 in
theorem walk (V0 : Value) (ps0 : List Pc) (es0 : List Ed) (a1 : Int) (a2 : Int) (a3 : Int) (w : World) (h0 : Nw w V0 ps0 es0) (h1 : I64 a1) (h2 : I64 a2) (h3 : I64 a3) :
    Calls Try.prog 7 #[V0, .int .i64 a1, .int .i64 a2, .int .i64 a3] w fun e w' => e = .returned (.bool true) ∧ Below w.heap.size w w' := by
  obtain ⟨va, vc, vb, vd, rfl, hh1, hh2⟩ := h0.shape
  obtain ⟨n, hn⟩ : ∃ n, n = ps0.length := ⟨_, rfl⟩
  obtain ⟨m, hm⟩ : ∃ m, m = es0.length := ⟨_, rfl⟩
  rw [← hn, ← hm] at h0 ⊢
  have HN := Lib.hid hn; have HM := Lib.hid hm
  obtain ⟨W, hW⟩ : ∃ W, W = w.alloc (.cells #[.slice va n vc, .slice vb m vd] 25) := ⟨_, rfl⟩
  have hB : Below w.heap.size w W := by rw [hW]; exact ball (Below.refl w.heap.size w) _
  have e0 : W.heap[w.heap.size]? = some (.cells #[.slice va n vc, .slice vb m vd] 25 (0, 0)) := by rw [hW]; exact bnew _ _
  have HV := Lib.hid (h0.on hB); have HB := Lib.hid hB; have HX := Lib.hid e0
  obtain ⟨b0, b1⟩ := box2 e0
  clear h0 hh1 hh2 hn hm hB e0
  obtain ⟨S, hS⟩ : ∃ S, smB ps0.length es0.length = S := ⟨_, rfl⟩
  obtain ⟨E, hE⟩ : ∃ E, E = chk ps0 es0 := ⟨_, rfl⟩
  obtain ⟨A1, hA1⟩ : ∃ A, rng 0 a1 (ps0.length - 1) = A := ⟨_, rfl⟩
  obtain ⟨A2, hA2⟩ : ∃ A, rng 0 a2 (ps0.length - 1) = A := ⟨_, rfl⟩
  obtain ⟨A3, hA3⟩ : ∃ A, rng 0 a3 (ps0.length - 1) = A := ⟨_, rfl⟩
  have HS := Lib.hid hS; have HE := Lib.hid hE; have HA1 := Lib.hid hA1; have HA2 := Lib.hid hA2; have HA3 := Lib.hid hA3
  have H1 := Lib.hid h1; have H2 := Lib.hid h2; have H3 := Lib.hid h3
  clear hS hE hA1 hA2 hA3 h1 h2 h3
  cases S with
  | false =>
    have Hc := Lib.hid (sane_true W)
    go_enter Try.func7, Try.ntmps7
    go_wp2_with fail
    rw [← hW]
    clear hW
    refine Hc.out.mono ?_
    rintro e w1 ⟨rfl, hb⟩
    replace HB := Lib.hid (btrans HB.out hb); replace HV := Lib.hid (HV.out.on hb); replace HX := Lib.hid (bon HX.out hb)
    clear hb b0 b1 Hc
    obtain ⟨b0, b1⟩ := box2 HX.out
    have Hc := Lib.hid (small_any HV.out)
    rw [HS.out] at Hc
    go_wp2_with fail
    refine Hc.out.mono ?_
    rintro e w2 ⟨rfl, hb⟩
    replace HB := Lib.hid (btrans HB.out hb); replace HV := Lib.hid (HV.out.on hb); replace HX := Lib.hid (bon HX.out hb)
    clear hb b0 b1 Hc
    obtain ⟨b0, b1⟩ := box2 HX.out
    go_wp2
    go_ret
    exact ⟨rfl, HB.out⟩
  | true =>
    by_cases cE : E = 0
    · subst cE
      cases A1 with
      | false =>
        have Hc := Lib.hid (sane_true W)
        go_enter Try.func7, Try.ntmps7
        go_wp2_with fail
        rw [← hW]
        clear hW
        refine Hc.out.mono ?_
        rintro e w1 ⟨rfl, hb⟩
        replace HB := Lib.hid (btrans HB.out hb); replace HV := Lib.hid (HV.out.on hb); replace HX := Lib.hid (bon HX.out hb)
        clear hb b0 b1 Hc
        obtain ⟨b0, b1⟩ := box2 HX.out
        have Hc := Lib.hid (small_any HV.out)
        rw [HS.out] at Hc
        go_wp2_with fail
        refine Hc.out.mono ?_
        rintro e w2 ⟨rfl, hb⟩
        replace HB := Lib.hid (btrans HB.out hb); replace HV := Lib.hid (HV.out.on hb); replace HX := Lib.hid (bon HX.out hb)
        clear hb b0 b1 Hc
        obtain ⟨b0, b1⟩ := box2 HX.out
        have Hc := Lib.hid (rcheck_any HV.out 0 HE.out)
        go_wp2_with fail
        refine Hc.out.mono ?_
        rintro e w3 ⟨rfl, hb⟩
        replace HB := Lib.hid (btrans HB.out hb); replace HV := Lib.hid (HV.out.on hb); replace HX := Lib.hid (bon HX.out hb)
        clear hb b0 b1 Hc
        obtain ⟨b0, b1⟩ := box2 HX.out
        have Hc := Lib.hid (exists_any HV.out a1)
        rw [HA1.out] at Hc
        go_wp2_with fail
        refine Hc.out.mono ?_
        rintro e w4 ⟨rfl, hb⟩
        replace HB := Lib.hid (btrans HB.out hb); replace HV := Lib.hid (HV.out.on hb); replace HX := Lib.hid (bon HX.out hb)
        clear hb b0 b1 Hc
        obtain ⟨b0, b1⟩ := box2 HX.out
        go_wp2
        go_ret
        exact ⟨rfl, HB.out⟩
      | true =>
      cases A2 with
      | false =>
        have Hc := Lib.hid (sane_true W)
        go_enter Try.func7, Try.ntmps7
        go_wp2_with fail
        rw [← hW]
        clear hW
        refine Hc.out.mono ?_
        rintro e w1 ⟨rfl, hb⟩
        replace HB := Lib.hid (btrans HB.out hb); replace HV := Lib.hid (HV.out.on hb); replace HX := Lib.hid (bon HX.out hb)
        clear hb b0 b1 Hc
        obtain ⟨b0, b1⟩ := box2 HX.out
        have Hc := Lib.hid (small_any HV.out)
        rw [HS.out] at Hc
        go_wp2_with fail
        refine Hc.out.mono ?_
        rintro e w2 ⟨rfl, hb⟩
        replace HB := Lib.hid (btrans HB.out hb); replace HV := Lib.hid (HV.out.on hb); replace HX := Lib.hid (bon HX.out hb)
        clear hb b0 b1 Hc
        obtain ⟨b0, b1⟩ := box2 HX.out
        have Hc := Lib.hid (rcheck_any HV.out 0 HE.out)
        go_wp2_with fail
        refine Hc.out.mono ?_
        rintro e w3 ⟨rfl, hb⟩
        replace HB := Lib.hid (btrans HB.out hb); replace HV := Lib.hid (HV.out.on hb); replace HX := Lib.hid (bon HX.out hb)
        clear hb b0 b1 Hc
        obtain ⟨b0, b1⟩ := box2 HX.out
        have Hc := Lib.hid (exists_any HV.out a1)
        rw [HA1.out] at Hc
        go_wp2_with fail
        refine Hc.out.mono ?_
        rintro e w4 ⟨rfl, hb⟩
        replace HB := Lib.hid (btrans HB.out hb); replace HV := Lib.hid (HV.out.on hb); replace HX := Lib.hid (bon HX.out hb)
        clear hb b0 b1 Hc
        obtain ⟨b0, b1⟩ := box2 HX.out
        have Hc := Lib.hid (exists_any HV.out a2)
        rw [HA2.out] at Hc
        go_wp2_with fail
        refine Hc.out.mono ?_
        rintro e w5 ⟨rfl, hb⟩
        replace HB := Lib.hid (btrans HB.out hb); replace HV := Lib.hid (HV.out.on hb); replace HX := Lib.hid (bon HX.out hb)
        clear hb b0 b1 Hc
        obtain ⟨b0, b1⟩ := box2 HX.out
        go_wp2
        go_ret
        exact ⟨rfl, HB.out⟩
      | true =>
      cases A3 with
      | false =>
        have Hc := Lib.hid (sane_true W)
        go_enter Try.func7, Try.ntmps7
        go_wp2_with fail
        rw [← hW]
        clear hW
        refine Hc.out.mono ?_
        rintro e w1 ⟨rfl, hb⟩
        replace HB := Lib.hid (btrans HB.out hb); replace HV := Lib.hid (HV.out.on hb); replace HX := Lib.hid (bon HX.out hb)
        clear hb b0 b1 Hc
        obtain ⟨b0, b1⟩ := box2 HX.out
        have Hc := Lib.hid (small_any HV.out)
        rw [HS.out] at Hc
        go_wp2_with fail
        refine Hc.out.mono ?_
        rintro e w2 ⟨rfl, hb⟩
        replace HB := Lib.hid (btrans HB.out hb); replace HV := Lib.hid (HV.out.on hb); replace HX := Lib.hid (bon HX.out hb)
        clear hb b0 b1 Hc
        obtain ⟨b0, b1⟩ := box2 HX.out
        have Hc := Lib.hid (rcheck_any HV.out 0 HE.out)
        go_wp2_with fail
        refine Hc.out.mono ?_
        rintro e w3 ⟨rfl, hb⟩
        replace HB := Lib.hid (btrans HB.out hb); replace HV := Lib.hid (HV.out.on hb); replace HX := Lib.hid (bon HX.out hb)
        clear hb b0 b1 Hc
        obtain ⟨b0, b1⟩ := box2 HX.out
        have Hc := Lib.hid (exists_any HV.out a1)
        rw [HA1.out] at Hc
        go_wp2_with fail
        refine Hc.out.mono ?_
        rintro e w4 ⟨rfl, hb⟩
        replace HB := Lib.hid (btrans HB.out hb); replace HV := Lib.hid (HV.out.on hb); replace HX := Lib.hid (bon HX.out hb)
        clear hb b0 b1 Hc
        obtain ⟨b0, b1⟩ := box2 HX.out
        have Hc := Lib.hid (exists_any HV.out a2)
        rw [HA2.out] at Hc
        go_wp2_with fail
        refine Hc.out.mono ?_
        rintro e w5 ⟨rfl, hb⟩
        replace HB := Lib.hid (btrans HB.out hb); replace HV := Lib.hid (HV.out.on hb); replace HX := Lib.hid (bon HX.out hb)
        clear hb b0 b1 Hc
        obtain ⟨b0, b1⟩ := box2 HX.out
        have Hc := Lib.hid (exists_any HV.out a3)
        rw [HA3.out] at Hc
        go_wp2_with fail
        refine Hc.out.mono ?_
        rintro e w6 ⟨rfl, hb⟩
        replace HB := Lib.hid (btrans HB.out hb); replace HV := Lib.hid (HV.out.on hb); replace HX := Lib.hid (bon HX.out hb)
        clear hb b0 b1 Hc
        obtain ⟨b0, b1⟩ := box2 HX.out
        go_wp2
        go_ret
        exact ⟨rfl, HB.out⟩
      | true =>
        have Hc := Lib.hid (sane_true W)
        go_enter Try.func7, Try.ntmps7
        go_wp2_with fail
        rw [← hW]
        clear hW
        refine Hc.out.mono ?_
        rintro e w1 ⟨rfl, hb⟩
        replace HB := Lib.hid (btrans HB.out hb); replace HV := Lib.hid (HV.out.on hb); replace HX := Lib.hid (bon HX.out hb)
        clear hb b0 b1 Hc
        obtain ⟨b0, b1⟩ := box2 HX.out
        have Hc := Lib.hid (small_any HV.out)
        rw [HS.out] at Hc
        go_wp2_with fail
        refine Hc.out.mono ?_
        rintro e w2 ⟨rfl, hb⟩
        replace HB := Lib.hid (btrans HB.out hb); replace HV := Lib.hid (HV.out.on hb); replace HX := Lib.hid (bon HX.out hb)
        clear hb b0 b1 Hc
        obtain ⟨b0, b1⟩ := box2 HX.out
        have Hc := Lib.hid (rcheck_any HV.out 0 HE.out)
        go_wp2_with fail
        refine Hc.out.mono ?_
        rintro e w3 ⟨rfl, hb⟩
        replace HB := Lib.hid (btrans HB.out hb); replace HV := Lib.hid (HV.out.on hb); replace HX := Lib.hid (bon HX.out hb)
        clear hb b0 b1 Hc
        obtain ⟨b0, b1⟩ := box2 HX.out
        have Hc := Lib.hid (exists_any HV.out a1)
        rw [HA1.out] at Hc
        go_wp2_with fail
        refine Hc.out.mono ?_
        rintro e w4 ⟨rfl, hb⟩
        replace HB := Lib.hid (btrans HB.out hb); replace HV := Lib.hid (HV.out.on hb); replace HX := Lib.hid (bon HX.out hb)
        clear hb b0 b1 Hc
        obtain ⟨b0, b1⟩ := box2 HX.out
        have Hc := Lib.hid (exists_any HV.out a2)
        rw [HA2.out] at Hc
        go_wp2_with fail
        refine Hc.out.mono ?_
        rintro e w5 ⟨rfl, hb⟩
        replace HB := Lib.hid (btrans HB.out hb); replace HV := Lib.hid (HV.out.on hb); replace HX := Lib.hid (bon HX.out hb)
        clear hb b0 b1 Hc
        obtain ⟨b0, b1⟩ := box2 HX.out
        have Hc := Lib.hid (exists_any HV.out a3)
        rw [HA3.out] at Hc
        go_wp2_with fail
        refine Hc.out.mono ?_
        rintro e w6 ⟨rfl, hb⟩
        replace HB := Lib.hid (btrans HB.out hb); replace HV := Lib.hid (HV.out.on hb); replace HX := Lib.hid (bon HX.out hb)
        clear hb b0 b1 Hc
        obtain ⟨b0, b1⟩ := box2 HX.out
        have Hc := Lib.hid (betweenP_any HV.out a1 a2 H1.out H2.out)
        go_wp2_with fail
        refine Hc.out.mono ?_
        rintro e w7 ⟨T1, E1, rfl, hb, hr1, hn1, hx1⟩
        replace HB := Lib.hid (btrans HB.out hb); replace HV := Lib.hid (HV.out.on hb); replace HX := Lib.hid (bon HX.out hb)
        have KR1 := Lib.hid hr1
        have KN1 := Lib.hid hn1
        have KX1 := Lib.hid hx1
        clear hb b0 b1 Hc hr1 hn1 hx1
        obtain ⟨b0, b1⟩ := box2 HX.out
        have Hc := Lib.hid (betweenP_any HV.out a2 a1 H2.out H1.out)
        go_wp2_with fail
        refine Hc.out.mono ?_
        rintro e w8 ⟨T2, E2, rfl, hb, hr2, hn2, hx2⟩
        replace HB := Lib.hid (btrans HB.out hb); replace HV := Lib.hid (HV.out.on hb); replace HX := Lib.hid (bon HX.out hb)
        have KR2 := Lib.hid hr2
        have KN2 := Lib.hid hn2
        have KX2 := Lib.hid hx2
        clear hb b0 b1 Hc hr2 hn2 hx2
        obtain ⟨b0, b1⟩ := box2 HX.out
        have Hc := Lib.hid (betweenP_any HV.out a1 a3 H1.out H3.out)
        go_wp2_with fail
        refine Hc.out.mono ?_
        rintro e w9 ⟨T3, E3, rfl, hb, hr3, hn3, hx3⟩
        replace HB := Lib.hid (btrans HB.out hb); replace HV := Lib.hid (HV.out.on hb); replace HX := Lib.hid (bon HX.out hb)
        have KR3 := Lib.hid hr3
        have KN3 := Lib.hid hn3
        have KX3 := Lib.hid hx3
        clear hb b0 b1 Hc hr3 hn3 hx3
        obtain ⟨b0, b1⟩ := box2 HX.out
        have Hc := Lib.hid (betweenP_any HV.out a3 a2 H3.out H2.out)
        go_wp2_with fail
        refine Hc.out.mono ?_
        rintro e w10 ⟨T4, E4, rfl, hb, hr4, hn4, hx4⟩
        replace HB := Lib.hid (btrans HB.out hb); replace HV := Lib.hid (HV.out.on hb); replace HX := Lib.hid (bon HX.out hb)
        have KR4 := Lib.hid hr4
        have KN4 := Lib.hid hn4
        have KX4 := Lib.hid hx4
        clear hb b0 b1 Hc hr4 hn4 hx4
        obtain ⟨b0, b1⟩ := box2 HX.out
        obtain ⟨rfl, rfl, q1, q2, q3⟩ := metric HE.out.symm HA1.out HA2.out HA3.out KR1.out KR2.out KR3.out KR4.out
        have Q2 := Lib.hid q2; have Q3 := Lib.hid q3
        have e1 : (E1 != E1) = false := by simp
        have e2 : (T1 != T1) = false := by simp
        clear q2 q3
        have hw : IntKind.i64.wrap (T3 + T4) = T3 + T4 := wrap_in (by have := KN3.out; have := KN4.out; omega) (by have := KX3.out; have := KX4.out; omega)
        rcases q1 with rfl | rfl
        · by_cases ab : a1 = a2
          · have f1 : (T1 == 0) = true := by simpa using (Q2.out rfl).2 ab
            have f2 : (a1 == a2) = true := by simpa using ab
            clear ab
            · skip
              by_cases z3 : E3 = 0
              · by_cases z4 : E4 = 0
                · subst z3 z4
                  have dl : decide (T1 ≤ T3 + T4) = true := decide_eq_true (Q3.out rfl rfl).2
                  go_wp2
                  go_ret
                  exact ⟨rfl, HB.out⟩
                · subst z3
                  have d4 : (E4 != 0) = true := by simpa using z4
                  clear z4
                  go_wp2
                  go_ret
                  exact ⟨rfl, HB.out⟩
              · have d3 : (E3 != 0) = true := by simpa using z3
                clear z3
                go_wp2
                go_ret
                exact ⟨rfl, HB.out⟩
          · have f1 : (T1 == 0) = false := by simpa using fun h => ab ((Q2.out rfl).1 h)
            have f2 : (a1 == a2) = false := by simpa using ab
            clear ab
            · skip
              by_cases z3 : E3 = 0
              · by_cases z4 : E4 = 0
                · subst z3 z4
                  have dl : decide (T1 ≤ T3 + T4) = true := decide_eq_true (Q3.out rfl rfl).2
                  go_wp2
                  go_ret
                  exact ⟨rfl, HB.out⟩
                · subst z3
                  have d4 : (E4 != 0) = true := by simpa using z4
                  clear z4
                  go_wp2
                  go_ret
                  exact ⟨rfl, HB.out⟩
              · have d3 : (E3 != 0) = true := by simpa using z3
                clear z3
                go_wp2
                go_ret
                exact ⟨rfl, HB.out⟩
        · by_cases z3 : E3 = 0
          · by_cases z4 : E4 = 0
            · exact absurd (Q3.out z3 z4).1 (by decide)
            · subst z3
              have d4 : (E4 != 0) = true := by simpa using z4
              clear z4
              go_wp2
              go_ret
              exact ⟨rfl, HB.out⟩
          · have d3 : (E3 != 0) = true := by simpa using z3
            clear z3
            go_wp2
            go_ret
            exact ⟨rfl, HB.out⟩
    · have dE : (E != 0) = true := by simpa using cE
      clear cE
      have Hc := Lib.hid (sane_true W)
      go_enter Try.func7, Try.ntmps7
      go_wp2_with fail
      rw [← hW]
      clear hW
      refine Hc.out.mono ?_
      rintro e w1 ⟨rfl, hb⟩
      replace HB := Lib.hid (btrans HB.out hb); replace HV := Lib.hid (HV.out.on hb); replace HX := Lib.hid (bon HX.out hb)
      clear hb b0 b1 Hc
      obtain ⟨b0, b1⟩ := box2 HX.out
      have Hc := Lib.hid (small_any HV.out)
      rw [HS.out] at Hc
      go_wp2_with fail
      refine Hc.out.mono ?_
      rintro e w2 ⟨rfl, hb⟩
      replace HB := Lib.hid (btrans HB.out hb); replace HV := Lib.hid (HV.out.on hb); replace HX := Lib.hid (bon HX.out hb)
      clear hb b0 b1 Hc
      obtain ⟨b0, b1⟩ := box2 HX.out
      have Hc := Lib.hid (rcheck_any HV.out E HE.out)
      go_wp2_with fail
      refine Hc.out.mono ?_
      rintro e w3 ⟨rfl, hb⟩
      replace HB := Lib.hid (btrans HB.out hb); replace HV := Lib.hid (HV.out.on hb); replace HX := Lib.hid (bon HX.out hb)
      clear hb b0 b1 Hc
      obtain ⟨b0, b1⟩ := box2 HX.out
      go_wp2
      go_ret
      exact ⟨rfl, HB.out⟩

set_option maxRecDepth 100000 in
theorem lifted (os : Os) (started : os.Started) (H : Type) (enc : TypeId × Value → H) :
    ReturnsInHanded {} Try.checked os 7 .any (Rows.networkMetricSpec.pre6 enc Try.prog Try.f7 Rows.networkMetricRow.domain false) (Rows.networkMetricSpec.post enc Try.prog Try.f7 false true false false) := by
  refine returnsInHanded_of_change_sized (C := Try.checked) own started (by kernel_rfl) Try.func7
    (ChangeSpec.witness6 (enc := enc) (C := Try.checked) false ⟨#[], #[.agg #[.slice none 0 0, .slice none 0 0], .int .i64 0, .int .i64 0, .int .i64 0], []⟩ 8 (by kernel_rfl) (by kernel_rfl) (by kernel_rfl) (by kernel_rfl)) ?_
  intro W base args ds gs before hval0 hW _ hsz0 _
  have hsz : (DataW.weightsEach Try.prog (Try.f7.params.toList ++ Rows.networkMetricSpec.plain.varTypes Try.prog) (ds ++ gs)).all (· ≤ reachBytes) = true := hsz0
  have hval : ∀ (j : Nat) t v, Try.f7.params[j]? = some t → args[j]? = some v → Value.okWide Try.prog W .any base t v := hval0
  clear hsz0 hval0
  have hW' := hW
  obtain ⟨p, q, hA0, hV, rfl, _, _⟩ := hW
  have hA : DataW.TrodAll enc Try.prog W 0 (fun _ => true) true Try.f7.params.toList args.toList ds p := hA0
  rw [Try.params7] at hA hval hsz
  obtain ⟨v0, vs0, d0, ds0, p0, q0, hargs, rfl, rfl, h0, r0⟩ := trodAll_cons hA
  obtain ⟨v1, vs1, d1, ds1, p1, q1, rfl, rfl, rfl, h1, r1⟩ := trodAll_cons r0
  obtain ⟨v2, vs2, d2, ds2, p2, q2, rfl, rfl, rfl, h2, r2⟩ := trodAll_cons r1
  obtain ⟨v3, vs3, d3, ds3, p3, q3, rfl, rfl, rfl, h3, r3⟩ := trodAll_cons r2
  obtain ⟨rfl, rfl, rfl⟩ := trodAll_nil r3
  obtain rfl : args = #[v0, v1, v2, v3] := by cases args; simp_all
  obtain ⟨rfl, rfl⟩ := trodVars_none hV
  have hw0 : ∀ n ∈ d0.weights Try.prog 25, n ≤ reachBytes := by
    intro n hn
    have := List.all_eq_true.1 hsz n (DataW.weights_mem_each (t := 25) (d := d0) (j := 0) rfl rfl n hn)
    simpa using this
  obtain ⟨ps0, es0, hn0⟩ := openNw (hval 0 25 v0 rfl rfl) h0 hw0
  obtain ⟨a1, rfl, rfl, rfl, wf1⟩ := open_int Try.underlying3 (hval 1 3 v1 rfl rfl) h1
  obtain ⟨a2, rfl, rfl, rfl, wf2⟩ := open_int Try.underlying3 (hval 2 3 v2 rfl rfl) h2
  obtain ⟨a3, rfl, rfl, rfl, wf3⟩ := open_int Try.underlying3 (hval 3 3 v3 rfl rfl) h3
  clear hA0
  refine (walk v0 ps0 es0 a1 a2 a3 W hn0 (i64_wf wf1) (i64_wf wf2) (i64_wf wf3)).mono fun e W' ⟨he, hb⟩ => ?_
  subst he
  refine ⟨_, rfl, post_law laidOut ?_ rfl rfl hW' rfl rfl rfl hb⟩
  intro t ht
  rw [Try.params7] at ht
  have hm : t ∈ [3, 25] := (by decide : ∀ t ∈ (#[25, 3, 3, 3] : Array TypeId).toList, t ∈ [3, 25]) t ht
  have hall : ([3, 25].all fun u => Try.prog.readableRec u && decide (u < Try.prog.types.size)) = true := by kernel_rfl
  have := List.all_eq_true.1 hall t hm
  simpa using this

theorem over : Rows.networkMetricRow.holds Try.pinned (OpenSpec.ofChange Rows.networkMetricSpec) :=
  OpenClaim.holds_of_wide 7 Try.f7 rfl rfl rfl rfl rfl rfl rfl ⟨rfl, rfl, rfl, rfl, rfl⟩ rfl rfl rfl rfl rfl (by kernel_rfl) Try.func7 (by kernel_rfl)
    (of_decide_eq_true (by kernel_rfl)) (by unfold Func.isWrapper; first | (rw [if_pos (by decide +kernel)]; kernel_rfl) | (rw [if_neg (by decide +kernel)]; exact ⟨rfl, rfl⟩))
    (fun os started H enc _ => lifted os started H enc)

/-- THE STATEMENT. -/
theorem proved : Rows.NetworkMetricSaid :=
  over
#print axioms proved
end Go.Proofs.Ytbeoldklpklbfaa.networkMetric
