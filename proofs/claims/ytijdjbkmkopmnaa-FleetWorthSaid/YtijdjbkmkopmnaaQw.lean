/-
  The statement 'Rows.FleetWorthSaid': for all arguments the law returns true; the arguments read as they did.
-/
import Derived.Test.YtijdjbkmkopmnaaFr
namespace Go.Proofs.Ytijdjbkmkopmnaa.fleetWorth
open Go.ChangeShapes Go.WideShapes Go.ChangeAt Go.RowKit
set_option linter.unusedVariables false
set_option linter.unusedSimpArgs false

theorem worthV_ok {a b c d f s : Int} (h : worthV a b c d f = (s, 0)) : okW a b c d f ∧ s = valW a b c d f := by
  unfold worthV at h
  split at h
  · simp only [Prod.mk.injEq, and_true] at h; exact ⟨by assumption, h.symm⟩
  · simp at h
theorem loss_bnd {a g d : Int} (a0 : 0 ≤ a) (g0 : 0 < g) (hg : g < d) : 0 ≤ a * g / d ∧ a * g / d ≤ a := by
  have h0 : 0 ≤ a * g := Int.mul_nonneg a0 (by omega)
  have h1 : a * g ≤ a * d := Int.mul_le_mul_of_nonneg_left (by omega) a0
  refine ⟨Int.ediv_nonneg h0 (by omega), ?_⟩
  have := Int.ediv_le_ediv (show (0:Int) < d by omega) h1
  rwa [Int.mul_ediv_cancel _ (by omega)] at this
theorem val_bnd {a b c d f : Int} (h : okW a b c d f) : leastW a f ≤ valW a b c d f ∧ valW a b c d f ≤ a := by
  obtain ⟨⟨a0, a1⟩, ⟨b0, b1⟩, ⟨c0, c1⟩, ⟨d0, d1⟩, ⟨f0, f1⟩⟩ := h
  obtain ⟨m0, m1, l0, l1⟩ := least_bnd a0 a1 f0 f1
  unfold valW
  split
  · omega
  · split
    · omega
    · have := loss_bnd (a := a) (g := c - b) (d := d) a0 (by omega) (by omega)
      omega
theorem val_mono {a b c c' d f : Int} (h : okW a b c d f) (hc : c ≤ c') : valW a b c' d f ≤ valW a b c d f := by
  have hb := val_bnd h
  obtain ⟨⟨a0, a1⟩, ⟨b0, b1⟩, ⟨c0, c1⟩, ⟨d0, d1⟩, ⟨f0, f1⟩⟩ := h
  obtain ⟨m0, m1, l0, l1⟩ := least_bnd a0 a1 f0 f1
  unfold valW at *
  by_cases e0 : c' ≤ b
  · rw [if_pos e0, if_pos (by omega)]; exact Int.le_refl _
  · rw [if_neg e0]
    by_cases e1 : d ≤ c' - b
    · rw [if_pos e1]; exact hb.1
    · rw [if_neg e1]
      have h1 := loss_bnd (a := a) (g := c' - b) (d := d) a0 (by omega) (by omega)
      by_cases e2 : c ≤ b
      · rw [if_pos e2]; omega
      · rw [if_neg e2, if_neg (by omega)]
        have h2 : a * (c - b) ≤ a * (c' - b) := Int.mul_le_mul_of_nonneg_left (by omega) a0
        have h3 := Int.ediv_le_ediv (show (0:Int) < d by omega) h2
        omega
theorem val_new {a b c d f : Int} (h : c ≤ b) : valW a b c d f = a := if_pos h
theorem val_old {a b c d f : Int} (h : ¬ c ≤ b) (h' : ¬ c - b < d) : valW a b c d f = leastW a f := by
  unfold valW
  rw [if_neg h, if_pos (by omega)]
/-- What two answers of Worth have in common. -/
theorem wq {ts : List Ty} {ws : List Wn} {ss : List Sw} {hs : List Wh} {wagon a b X E Y F : Int} (h1 : QR ts ws ss hs wagon (fun x y => (X, E) = worthV x.wo x.bu a y.li y.fl) E) (h2 : QR ts ws ss hs wagon (fun x y => (Y, F) = worthV x.wo x.bu b y.li y.fl) F) (hE : E = 0) (hF : F = 0) :
    FV ts ws ss hs ∧ ∃ (i j : Nat) (x : Wn) (y : Ty), wagon = (i : Int) ∧ ws[i]? = some x ∧ x.ty = (j : Int) ∧ ts[j]? = some y ∧ okW x.wo x.bu a y.li y.fl ∧ okW x.wo x.bu b y.li y.fl ∧ X = valW x.wo x.bu a y.li y.fl ∧ Y = valW x.wo x.bu b y.li y.fl := by
  subst hE hF
  rcases h1 with ⟨e1, e2⟩ | ⟨_, _, e⟩ | ⟨e1, i, j, x, y, g1, g2, g3, g4, g5⟩
  · exact absurd e2.symm e1
  · exact absurd e (by decide)
  · rcases h2 with ⟨e3, _⟩ | ⟨_, _, e⟩ | ⟨_, i', j', x', y', k1, k2, k3, k4, k5⟩
    · exact absurd e1 e3
    · exact absurd e (by decide)
    · obtain rfl : i = i' := by omega
      rw [g2] at k2
      cases k2
      obtain rfl : j = j' := by omega
      rw [g4] at k4
      cases k4
      obtain ⟨o1, v1⟩ := worthV_ok g5.symm
      obtain ⟨o2, v2⟩ := worthV_ok k5.symm
      exact ⟨chk_val e1, i, j, x, y, g1, g2, g3, g4, o1, o2, v1, v2⟩

set_option maxRecDepth 100000 in
set_option maxHeartbeats 8000000 in
theorem walk (V0 : Value) (ts0 : List Ty) (ws0 : List Wn) (ss0 : List Sw) (hs0 : List Wh) (a1 : Int) (a2 : Int) (a3 : Int) (w : World) (h0 : Fl w V0 ts0 ws0 ss0 hs0) (h1 : I64 a1) (h2 : I64 a2) (h3 : I64 a3) :
    Calls Try.prog 7 #[V0, .int .i64 a1, .int .i64 a2, .int .i64 a3] w fun e w' => e = .returned (.bool true) ∧ Below w.heap.size w w' := by
  obtain ⟨A1, c1, A2, c2, A3, c3, A4, c4, rfl, gg1, gg2, gg3, gg4⟩ := h0.shape
  obtain ⟨n, hn⟩ : ∃ n, n = ts0.length := ⟨_, rfl⟩
  obtain ⟨m, hm⟩ : ∃ m, m = ws0.length := ⟨_, rfl⟩
  obtain ⟨k, hk⟩ : ∃ k, k = ss0.length := ⟨_, rfl⟩
  obtain ⟨h, hh⟩ : ∃ h, h = hs0.length := ⟨_, rfl⟩
  rw [← hn, ← hm, ← hk, ← hh] at h0 ⊢
  have HN := Lib.hid hn; have HM := Lib.hid hm; have HK := Lib.hid hk; have HH := Lib.hid hh
  obtain ⟨W, hW⟩ : ∃ W, W = w.alloc (.cells #[.slice A1 n c1, .slice A2 m c2, .slice A3 k c3, .slice A4 h c4] 27) := ⟨_, rfl⟩
  have hB : Below w.heap.size w W := by rw [hW]; exact ball (Below.refl w.heap.size w) _
  have e0 : W.heap[w.heap.size]? = some (.cells #[.slice A1 n c1, .slice A2 m c2, .slice A3 k c3, .slice A4 h c4] 27 (0, 0)) := by rw [hW]; exact bnew _ _
  have HV := Lib.hid (h0.on hB); have HB := Lib.hid hB; have HX := Lib.hid e0; have HW := Lib.hid hW
  obtain ⟨b0, b1, b2, b3⟩ := box4 e0
  clear h0 gg1 gg2 gg3 gg4 hn hm hk hh hB e0 hW
  obtain ⟨S, hS⟩ : ∃ S, fewB ts0.length ws0.length ss0.length hs0.length = S := ⟨_, rfl⟩
  have HS := Lib.hid hS
  clear hS
  cases S with
  | false =>
    have Hc := Lib.hid (sane_true W)
    go_enter Try.func7, Try.ntmps7
    go_upto_region 1 with (fail)
    rw [← HW.out]
    clear HW
    go_wp2_with fail
    refine Hc.out.mono ?_
    rintro e w1 ⟨rfl, hb⟩
    replace HB := Lib.hid (btrans HB.out hb); replace HV := Lib.hid (HV.out.on hb); replace HX := Lib.hid (bon HX.out hb)
    clear hb b0 b1 b2 b3 Hc
    obtain ⟨b0, b1, b2, b3⟩ := box4 HX.out
    have Hc := Lib.hid (few_any HV.out)
    rw [HS.out] at Hc
    go_wp2_with fail
    refine Hc.out.mono ?_
    rintro e w2 ⟨rfl, hb⟩
    replace HB := Lib.hid (btrans HB.out hb); replace HV := Lib.hid (HV.out.on hb); replace HX := Lib.hid (bon HX.out hb)
    clear hb b0 b1 b2 b3 Hc
    obtain ⟨b0, b1, b2, b3⟩ := box4 HX.out
    go_wp2
    go_ret
    exact ⟨rfl, HB.out⟩
  | true =>
    by_cases z0 : a2 > a3
    · have d0 : decide (a2 > a3) = true := decide_eq_true z0
      clear z0
      have Hc := Lib.hid (sane_true W)
      go_enter Try.func7, Try.ntmps7
      go_upto_region 1 with (fail)
      rw [← HW.out]
      clear HW
      go_wp2_with fail
      refine Hc.out.mono ?_
      rintro e w1 ⟨rfl, hb⟩
      replace HB := Lib.hid (btrans HB.out hb); replace HV := Lib.hid (HV.out.on hb); replace HX := Lib.hid (bon HX.out hb)
      clear hb b0 b1 b2 b3 Hc
      obtain ⟨b0, b1, b2, b3⟩ := box4 HX.out
      have Hc := Lib.hid (few_any HV.out)
      rw [HS.out] at Hc
      go_wp2_with fail
      refine Hc.out.mono ?_
      rintro e w2 ⟨rfl, hb⟩
      replace HB := Lib.hid (btrans HB.out hb); replace HV := Lib.hid (HV.out.on hb); replace HX := Lib.hid (bon HX.out hb)
      clear hb b0 b1 b2 b3 Hc
      obtain ⟨b0, b1, b2, b3⟩ := box4 HX.out
      go_wp2
      go_ret
      exact ⟨rfl, HB.out⟩
    · have d0 : decide (a2 > a3) = false := decide_eq_false z0
      by_cases z1 : a1 < 0
      · have d1 : decide (a1 < 0) = true := decide_eq_true z1
        clear z0 z1
        have Hc := Lib.hid (sane_true W)
        go_enter Try.func7, Try.ntmps7
        go_upto_region 1 with (fail)
        rw [← HW.out]
        clear HW
        go_wp2_with fail
        refine Hc.out.mono ?_
        rintro e w1 ⟨rfl, hb⟩
        replace HB := Lib.hid (btrans HB.out hb); replace HV := Lib.hid (HV.out.on hb); replace HX := Lib.hid (bon HX.out hb)
        clear hb b0 b1 b2 b3 Hc
        obtain ⟨b0, b1, b2, b3⟩ := box4 HX.out
        have Hc := Lib.hid (few_any HV.out)
        rw [HS.out] at Hc
        go_wp2_with fail
        refine Hc.out.mono ?_
        rintro e w2 ⟨rfl, hb⟩
        replace HB := Lib.hid (btrans HB.out hb); replace HV := Lib.hid (HV.out.on hb); replace HX := Lib.hid (bon HX.out hb)
        clear hb b0 b1 b2 b3 Hc
        obtain ⟨b0, b1, b2, b3⟩ := box4 HX.out
        go_wp2
        go_ret
        exact ⟨rfl, HB.out⟩
      · have d1 : decide (a1 < 0) = false := decide_eq_false z1
        by_cases z2 : a1 ≥ (m : Int)
        · have d2 : decide (a1 ≥ (m : Int)) = true := decide_eq_true z2
          clear z0 z1 z2
          have Hc := Lib.hid (sane_true W)
          go_enter Try.func7, Try.ntmps7
          go_upto_region 1 with (fail)
          rw [← HW.out]
          clear HW
          go_wp2_with fail
          refine Hc.out.mono ?_
          rintro e w1 ⟨rfl, hb⟩
          replace HB := Lib.hid (btrans HB.out hb); replace HV := Lib.hid (HV.out.on hb); replace HX := Lib.hid (bon HX.out hb)
          clear hb b0 b1 b2 b3 Hc
          obtain ⟨b0, b1, b2, b3⟩ := box4 HX.out
          have Hc := Lib.hid (few_any HV.out)
          rw [HS.out] at Hc
          go_wp2_with fail
          refine Hc.out.mono ?_
          rintro e w2 ⟨rfl, hb⟩
          replace HB := Lib.hid (btrans HB.out hb); replace HV := Lib.hid (HV.out.on hb); replace HX := Lib.hid (bon HX.out hb)
          clear hb b0 b1 b2 b3 Hc
          obtain ⟨b0, b1, b2, b3⟩ := box4 HX.out
          go_wp2
          go_ret
          exact ⟨rfl, HB.out⟩
        · have d2 : decide (a1 ≥ (m : Int)) = false := decide_eq_false z2
          have HZ0 := Lib.hid z0; have HZ1 := Lib.hid z1; have HZ2 := Lib.hid z2
          clear z0 z1 z2
          have Hc := Lib.hid (sane_true W)
          go_enter Try.func7, Try.ntmps7
          go_upto_region 1 with (fail)
          rw [← HW.out]
          clear HW
          go_wp2_with fail
          refine Hc.out.mono ?_
          rintro e w1 ⟨rfl, hb⟩
          replace HB := Lib.hid (btrans HB.out hb); replace HV := Lib.hid (HV.out.on hb); replace HX := Lib.hid (bon HX.out hb)
          clear hb b0 b1 b2 b3 Hc
          obtain ⟨b0, b1, b2, b3⟩ := box4 HX.out
          have Hc := Lib.hid (few_any HV.out)
          rw [HS.out] at Hc
          go_wp2_with fail
          refine Hc.out.mono ?_
          rintro e w2 ⟨rfl, hb⟩
          replace HB := Lib.hid (btrans HB.out hb); replace HV := Lib.hid (HV.out.on hb); replace HX := Lib.hid (bon HX.out hb)
          clear hb b0 b1 b2 b3 Hc
          obtain ⟨b0, b1, b2, b3⟩ := box4 HX.out
          have Hc := Lib.hid (worthq_any HV.out a1 a2)
          go_wp2_with fail
          refine Hc.out.mono ?_
          rintro e w3 ⟨X, E, rfl, hb, hq1, hz1⟩
          replace HB := Lib.hid (btrans HB.out hb); replace HV := Lib.hid (HV.out.on hb); replace HX := Lib.hid (bon HX.out hb)
          have HQ1 := Lib.hid hq1
          have HE1 := Lib.hid hz1
          clear hb b0 b1 b2 b3 Hc hq1 hz1
          obtain ⟨b0, b1, b2, b3⟩ := box4 HX.out
          have Hc := Lib.hid (worthq_any HV.out a1 a3)
          go_wp2_with fail
          refine Hc.out.mono ?_
          rintro e w4 ⟨Y, F, rfl, hb, hq2, hz2⟩
          replace HB := Lib.hid (btrans HB.out hb); replace HV := Lib.hid (HV.out.on hb); replace HX := Lib.hid (bon HX.out hb)
          have HQ2 := Lib.hid hq2
          have HE2 := Lib.hid hz2
          clear hb b0 b1 b2 b3 Hc hq2 hz2
          obtain ⟨b0, b1, b2, b3⟩ := box4 HX.out
          by_cases hE : E = 0
          rotate_left
          · have hX := HE1.out hE
            have d3 : (E != 0) = true := by simpa using hE
            have d4 : (X == 0) = true := by simpa using hX
            clear hX hE d0 d1 d2
            go_wp2
            go_ret
            exact ⟨rfl, HB.out⟩
          have d3 : (E != 0) = false := by simpa using hE
          by_cases hF : F = 0
          rotate_left
          · have hY := HE2.out hF
            have d4 : (F != 0) = true := by simpa using hF
            have d5 : (Y == 0) = true := by simpa using hY
            clear hY hF d0 d1 d2 hE
            go_wp2
            go_ret
            exact ⟨rfl, HB.out⟩
          have d4 : (F != 0) = false := by simpa using hF
          obtain ⟨hv, i, j, x, y, rfl, hx, hj, hy, o1, o2, v1, v2⟩ := wq HQ1.out HQ2.out hE hF
          obtain ⟨vt, vw, vs, vh, hVe, t1, t2, t3, t4⟩ := HV.out
          simp only [Value.agg.injEq, Array.mk.injEq, List.cons.injEq, and_true] at hVe
          obtain ⟨rfl, rfl, _, _⟩ := hVe
          have him : i < m := by rw [HM.out]; exact (List.getElem?_eq_some_iff.1 hx).1
          have hjn : j < n := by rw [HN.out]; exact (List.getElem?_eq_some_iff.1 hy).1
          obtain ⟨gw, ow, x', rfl, hgw, hx', _, rw1, _⟩ := t2.pick i (by rw [← HM.out]; exact him)
          rw [hx] at hx'
          cases hx'
          obtain ⟨gt, ot, y', rfl, hgt, hy', _, rt1, _⟩ := t1.pick j (by rw [← HN.out]; exact hjn)
          rw [hy] at hy'
          cases hy'
          have rw2 : w4.rangeAt gw (ow + i * 5) [.int .i64 (j : Int), .int .i64 x.ow, .int .i64 x.ho, .int .i64 x.bu, .int .i64 x.wo] := by rw [← hj]; exact rw1
          have rt2 : w4.rangeAt gt (ot + j * 8) [.int .i64 y.ld, .int .i64 y.ta, .int .i64 y.ln, .int .i64 y.ga, .int .i64 y.br, .int .u64 y.cl, .int .i64 y.li, .int .i64 y.fl] := rt1
          obtain ⟨O, hO⟩ : ∃ O, O = x.wo := ⟨_, rfl⟩
          obtain ⟨B, hBu⟩ : ∃ B, B = x.bu := ⟨_, rfl⟩
          obtain ⟨L, hLi⟩ : ∃ L, L = y.li := ⟨_, rfl⟩
          obtain ⟨G, hG⟩ : ∃ G, G = y.fl := ⟨_, rfl⟩
          rw [← hO, ← hBu] at rw2
          rw [← hLi, ← hG] at rt2
          rw [← hO, ← hBu, ← hLi, ← hG] at o1 o2 v1 v2
          obtain ⟨q1, hq1⟩ : ∃ q, q = x.ow := ⟨_, rfl⟩
          obtain ⟨q2, hq2⟩ : ∃ q, q = x.ho := ⟨_, rfl⟩
          obtain ⟨r0, hr0⟩ : ∃ q, q = y.ld := ⟨_, rfl⟩
          obtain ⟨r1, hr1⟩ : ∃ q, q = y.ta := ⟨_, rfl⟩
          obtain ⟨r2, hr2⟩ : ∃ q, q = y.ln := ⟨_, rfl⟩
          obtain ⟨r3, hr3⟩ : ∃ q, q = y.ga := ⟨_, rfl⟩
          obtain ⟨r4, hr4⟩ : ∃ q, q = y.br := ⟨_, rfl⟩
          obtain ⟨r5, hr5⟩ : ∃ q, q = y.cl := ⟨_, rfl⟩
          rw [← hq1, ← hq2] at rw2
          rw [← hr0, ← hr1, ← hr2, ← hr3, ← hr4, ← hr5] at rt2
          have bnd := val_bnd o2
          have bnd1 := val_bnd o1
          have mono := val_mono o1 (c' := a3) (by have := HZ0.out; omega)
          have new : a2 ≤ B → X = O := fun h => by rw [v1]; exact val_new h
          have old : ¬ (a3 - B < L) → Y = leastW O G := fun h => by rw [v2]; exact val_old (by have := o1.2.2.2.1.1; omega) h
          rw [← v1, ← v2] at mono
          rw [← v2] at bnd
          rw [← v1] at bnd1
          obtain ⟨⟨p0, p1⟩, ⟨p2, p3⟩, ⟨p4, p5⟩, ⟨p6, p7⟩, ⟨p8, p9⟩⟩ := o2
          obtain ⟨m0, m1, l0, l1⟩ := least_bnd p0 p1 p8 p9
          have u1 : IntKind.i64.wrap (O * G) = O * G := wrap_in (by omega) (by omega)
          have u2 : IntKind.i64.wrap (O * G + 99) = O * G + 99 := wrap_in (by omega) (by omega)
          have u3 : IntKind.i64.wrap ((O * G + 99).tdiv 100) = leastW O G := by rw [tdiv_bnd ⟨by omega, by omega⟩ (by decide), Int.tdiv_eq_ediv_of_nonneg (by omega)]; rfl
          have u3b : IntKind.i64.wrap ((O * G + 99) / 100) = leastW O G := by rw [← Int.tdiv_eq_ediv_of_nonneg (by omega)]; exact u3
          have u4 : IntKind.i64.wrap (a3 - B) = a3 - B := wrap_in (by omega) (by omega)
          obtain ⟨A, hA⟩ : ∃ A, O * G = A := ⟨_, rfl⟩
          obtain ⟨Z, hZ⟩ : ∃ Z, leastW O G = Z := ⟨_, rfl⟩
          rw [hA] at u1 u2 u3 u3b
          rw [hZ] at u3 u3b bnd bnd1 old
          have u5 : IntKind.i64.wrap (O * G) = A := by rw [hA, u1]
          have him2 : (i : Int) < (m : Int) := by omega
          have hjn2 : (j : Int) < (n : Int) := by omega
          have e1 : decide (Y > X) = false := decide_eq_false (by omega)
          have e2 : decide (Y < Z) = false := decide_eq_false (by omega)
          have e3 : decide (X > O) = false := decide_eq_false (by omega)
          have HNEW := Lib.hid new; have HOLD := Lib.hid old; have HZE := Lib.hid hZ; have HU3 := Lib.hid (And.intro u3 u3b)
          have HRW := Lib.hid rw2; have HRT := Lib.hid (rangeAt_kept rt2 (heap_alloc_old w4 (.cells #[.int .i64 (j : Int), .int .i64 q1, .int .i64 q2, .int .i64 B, .int .i64 O] 66) hgt))
          clear hv hx hj hy o1 v1 v2 t1 t2 t3 t4 hgw rw1 hgt rt1 rw2 rt2 hO hBu hLi hG hq1 hq2 hr0 hr1 hr2 hr3 hr4 hr5 bnd bnd1 mono new old p0 p1 p2 p3 p4 p5 p6 p7 p8 p9 m0 m1 l0 l1 hA u1 hE hF d0 d1 d2 him hjn
          obtain ⟨w5, h5⟩ : ∃ w5, w5 = w4.alloc (.cells #[.int .i64 (j : Int), .int .i64 q1, .int .i64 q2, .int .i64 B, .int .i64 O] 66) := ⟨_, rfl⟩
          obtain ⟨w6, h6⟩ : ∃ w6, w6 = w5.alloc (.cells #[.int .i64 r0, .int .i64 r1, .int .i64 r2, .int .i64 r3, .int .i64 r4, .int .u64 r5, .int .i64 L, .int .i64 G] 68) := ⟨_, rfl⟩
          have hb5 : Below w4.heap.size w4 w5 := by rw [h5]; exact ball (Below.refl _ _) _
          have hb6 : Below w5.heap.size w5 w6 := by rw [h6]; exact ball (Below.refl _ _) _
          have k5 : w5.heap[w4.heap.size]? = some (.cells #[.int .i64 (j : Int), .int .i64 q1, .int .i64 q2, .int .i64 B, .int .i64 O] 66 (0, 0)) := by rw [h5]; exact bnew _ _
          have k6 : w6.heap[w5.heap.size]? = some (.cells #[.int .i64 r0, .int .i64 r1, .int .i64 r2, .int .i64 r3, .int .i64 r4, .int .u64 r5, .int .i64 L, .int .i64 G] 68 (0, 0)) := by rw [h6]; exact bnew _ _
          have k56 := bon k5 hb6
          have x0 : w5.cell? ⟨w4.heap.size, 0, none⟩ = some (.int .i64 (j : Int)) := by rw [cell_of_row w5 _ 0 _ 66 (0, 0) k5]; rfl
          have y3 : w6.cell? ⟨w4.heap.size, 3, none⟩ = some (.int .i64 B) := by rw [cell_of_row w6 _ 3 _ 66 (0, 0) k56]; rfl
          have y4 : w6.cell? ⟨w4.heap.size, 4, none⟩ = some (.int .i64 O) := by rw [cell_of_row w6 _ 4 _ 66 (0, 0) k56]; rfl
          have z6 : w6.cell? ⟨w5.heap.size, 6, none⟩ = some (.int .i64 L) := by rw [cell_of_row w6 _ 6 _ 68 (0, 0) k6]; rfl
          have z7 : w6.cell? ⟨w5.heap.size, 7, none⟩ = some (.int .i64 G) := by rw [cell_of_row w6 _ 7 _ 68 (0, 0) k6]; rfl
          obtain ⟨v0, _, _, _⟩ := box4 (bon HX.out hb5)
          have HBZ := Lib.hid (btrans HB.out (btrans hb5 hb6))
          rw [← h5] at HRT
          have H5 := Lib.hid h5; have H6 := Lib.hid h6
          clear h5 h6 hb5 hb6 k5 k6 k56
          go_upto_region 10 with (first | (refine wpList_load_mid rfl 66 (.tmp 74) rfl gw (ow + i * 5) rfl [.int .i64 (j : Int), .int .i64 q1, .int .i64 q2, .int .i64 B, .int .i64 O] _ HRW.out Try.underlying66 rfl (by kernel_rfl) ?_) | (refine wpList_load_mid rfl 68 (.tmp 91) rfl gt (ot + j * 8) rfl [.int .i64 r0, .int .i64 r1, .int .i64 r2, .int .i64 r3, .int .i64 r4, .int .u64 r5, .int .i64 L, .int .i64 G] _ HRT.out Try.underlying68 rfl (by kernel_rfl) ?_))
          rw [← H5.out]
          clear b0 b1 b2 b3
          go_upto_region 13 with (first | (refine wpList_load_mid rfl 66 (.tmp 74) rfl gw (ow + i * 5) rfl [.int .i64 (j : Int), .int .i64 q1, .int .i64 q2, .int .i64 B, .int .i64 O] _ HRW.out Try.underlying66 rfl (by kernel_rfl) ?_) | (refine wpList_load_mid rfl 68 (.tmp 91) rfl gt (ot + j * 8) rfl [.int .i64 r0, .int .i64 r1, .int .i64 r2, .int .i64 r3, .int .i64 r4, .int .u64 r5, .int .i64 L, .int .i64 G] _ HRT.out Try.underlying68 rfl (by kernel_rfl) ?_))
          rw [← H6.out]
          clear x0 v0
          by_cases f1 : a2 ≤ B
          · have e4 : decide (a2 ≤ B) = true := decide_eq_true f1
            have hXO := HNEW.out f1
            have e5 : (X != O) = false := by simpa using hXO
            clear f1 hXO
            by_cases f0 : a3 - B < L
            · have e6 : decide (a3 - B < L) = true := decide_eq_true f0
              clear f0
              go_wp2
              go_ret
              exact ⟨rfl, HBZ.out⟩
            · have e6 : decide (a3 - B < L) = false := decide_eq_false f0
              have hYZ := HOLD.out (by omega)
              have e7 : (Y == Z) = true := by simpa using hYZ
              clear f0 hYZ
              go_wp2
              go_ret
              exact ⟨rfl, HBZ.out⟩
          · have e4 : decide (a2 ≤ B) = false := decide_eq_false f1
            clear f1
            by_cases f0 : a3 - B < L
            · have e6 : decide (a3 - B < L) = true := decide_eq_true f0
              clear f0
              go_wp2
              go_ret
              exact ⟨rfl, HBZ.out⟩
            · have e6 : decide (a3 - B < L) = false := decide_eq_false f0
              have hYZ := HOLD.out (by omega)
              have e7 : (Y == Z) = true := by simpa using hYZ
              clear f0 hYZ
              go_wp2
              go_ret
              exact ⟨rfl, HBZ.out⟩

set_option maxRecDepth 100000 in
theorem lifted (os : Os) (started : os.Started) (H : Type) (enc : TypeId × Value → H) :
    ReturnsInHanded {} Try.checked os 7 .any (Rows.fleetWorthSpec.pre6 enc Try.prog Try.f7 Rows.fleetWorthRow.domain false) (Rows.fleetWorthSpec.post enc Try.prog Try.f7 false true false false) := by
  refine returnsInHanded_of_change_sized (C := Try.checked) own started (by kernel_rfl) Try.func7
    (ChangeSpec.witness6 (enc := enc) (C := Try.checked) false ⟨#[], #[.agg #[.slice none 0 0, .slice none 0 0, .slice none 0 0, .slice none 0 0], .int .i64 0, .int .i64 0, .int .i64 0], []⟩ 8 (by kernel_rfl) (by kernel_rfl) (by kernel_rfl) (by kernel_rfl)) ?_
  intro W base args ds gs before hval0 hW _ hsz0 _
  have hsz : (DataW.weightsEach Try.prog (Try.f7.params.toList ++ Rows.fleetWorthSpec.plain.varTypes Try.prog) (ds ++ gs)).all (· ≤ reachBytes) = true := hsz0
  have hval : ∀ (j : Nat) t v, Try.f7.params[j]? = some t → args[j]? = some v → Value.okWide Try.prog W .any base t v := hval0
  clear hsz0 hval0
  have hW' := hW
  obtain ⟨p, q, hA0, hV, rfl, _, _⟩ := hW
  have hA : DataW.TrodAll enc Try.prog W 0 (fun _ => true) true Try.f7.params.toList args.toList ds p := hA0
  rw [Try.params7] at hA hval hsz
  obtain ⟨v0, vs0, d0, ds0, p0, q0, hargs, rfl, rfl, h0, r0⟩ := trodAll_cons hA
  obtain ⟨v1, vs1, d1, ds1, p1, q1, rfl, rfl, rfl, h1, r1⟩ := trodAll_cons r0
  obtain ⟨v2, vs2, d2, ds2, p2, q2, rfl, rfl, rfl, h2, r2⟩ := trodAll_cons r1
  obtain ⟨v3, vs3, d3, ds3, p3, q3, rfl, rfl, rfl, h3, r3⟩ := trodAll_cons r2
  obtain ⟨rfl, rfl, rfl⟩ := trodAll_nil r3
  obtain rfl : args = #[v0, v1, v2, v3] := by cases args; simp_all
  obtain ⟨rfl, rfl⟩ := trodVars_none hV
  have hw0 : ∀ n ∈ d0.weights Try.prog 27, n ≤ reachBytes := by
    intro n hn
    have := List.all_eq_true.1 hsz n (DataW.weights_mem_each (t := 27) (d := d0) (j := 0) rfl rfl n hn)
    simpa using this
  obtain ⟨ts0, ws0, ss0, hs0, hn0⟩ := openFl (hval 0 27 v0 rfl rfl) h0 hw0
  obtain ⟨a1, rfl, rfl, rfl, wf1⟩ := open_int Try.underlying3 (hval 1 3 v1 rfl rfl) h1
  obtain ⟨a2, rfl, rfl, rfl, wf2⟩ := open_int Try.underlying3 (hval 2 3 v2 rfl rfl) h2
  obtain ⟨a3, rfl, rfl, rfl, wf3⟩ := open_int Try.underlying3 (hval 3 3 v3 rfl rfl) h3
  clear hA0
  refine (walk v0 ts0 ws0 ss0 hs0 a1 a2 a3 W hn0 (i64_wf wf1) (i64_wf wf2) (i64_wf wf3)).mono fun e W' ⟨he, hb⟩ => ?_
  subst he
  refine ⟨_, rfl, post_law laidOut ?_ rfl rfl hW' rfl rfl rfl hb⟩
  intro t ht
  rw [Try.params7] at ht
  have hm : t ∈ [3, 27] := (by decide : ∀ t ∈ (#[27, 3, 3, 3] : Array TypeId).toList, t ∈ [3, 27]) t ht
  have hall : ([3, 27].all fun u => Try.prog.readableRec u && decide (u < Try.prog.types.size)) = true := by kernel_rfl
  have := List.all_eq_true.1 hall t hm
  simpa using this

theorem over : Rows.fleetWorthRow.holds Try.pinned (OpenSpec.ofChange Rows.fleetWorthSpec) :=
  OpenClaim.holds_of_wide 7 Try.f7 rfl rfl rfl rfl rfl rfl rfl ⟨rfl, rfl, rfl, rfl, rfl⟩ rfl rfl rfl rfl rfl (by kernel_rfl) Try.func7 (by kernel_rfl)
    (of_decide_eq_true (by kernel_rfl)) (by unfold Func.isWrapper; first | (rw [if_pos (by decide +kernel)]; kernel_rfl) | (rw [if_neg (by decide +kernel)]; exact ⟨rfl, rfl⟩))
    (fun os started H enc _ => lifted os started H enc)

/-- THE STATEMENT. -/
theorem proved : Rows.FleetWorthSaid :=
  over
#print axioms proved
end Go.Proofs.Ytijdjbkmkopmnaa.fleetWorth
