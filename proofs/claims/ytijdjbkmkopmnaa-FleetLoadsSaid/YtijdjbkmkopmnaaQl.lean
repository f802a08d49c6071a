/-
  The statement 'Rows.FleetLoadsSaid': for all arguments the law returns true; the arguments read as they did.
-/
import Derived.Test.YtijdjbkmkopmnaaFr
import Derived.Test.YtijdjbkmkopmnaaLo
namespace Go.Proofs.Ytijdjbkmkopmnaa.fleetLoads
open Go.ChangeShapes Go.WideShapes Go.ChangeAt Go.RowKit
set_option linter.unusedVariables false
set_option linter.unusedSimpArgs false

theorem rng_of {x y z : Int} (h : rng x y z = true) : x ≤ y ∧ y ≤ z := rng_iff.1 h
/-- What a load that fits means. -/
theorem fit0 {ts : List Ty} {ws : List Wn} {ss : List Sw} {hs : List Wh} {wagon c wt E : Int} (h : QR ts ws ss hs wagon (fun _ y => E = fitE y c wt) E) (hE : E = 0) :
    chk ts ws ss hs = 0 ∧ ∃ (i j : Nat) (x : Wn) (y : Ty), wagon = (i : Int) ∧ ws[i]? = some x ∧ x.ty = (j : Int) ∧ ts[j]? = some y ∧ (0 ≤ c ∧ c ≤ 63) ∧ bit y.cl c = true ∧ 0 ≤ wt ∧ wt ≤ y.ld := by
  subst hE
  rcases h with ⟨e1, e2⟩ | ⟨_, _, e⟩ | ⟨e1, i, j, x, y, g1, g2, g3, g4, g5⟩
  · exact absurd e2.symm e1
  · exact absurd e (by decide)
  · unfold fitE at g5
    split at g5
    · rename_i hc
      simp only [Bool.and_eq_true] at hc
      exact ⟨e1, i, j, x, y, g1, g2, g3, g4, rng_of hc.1, hc.2.1, rng_of hc.2.2⟩
    · exact absurd g5 (by decide)
/-- Whatever is asked of the same wagon. -/
theorem fit_same {ts : List Ty} {ws : List Wn} {ss : List Sw} {hs : List Wh} {i j : Nat} {x : Wn} {y : Ty} {c wt E : Int} (h0 : chk ts ws ss hs = 0) (hx : ws[i]? = some x) (hj : x.ty = (j : Int)) (hy : ts[j]? = some y) (h : QR ts ws ss hs (i : Int) (fun _ y => E = fitE y c wt) E) : E = fitE y c wt := by
  rcases h with ⟨e1, _⟩ | ⟨_, e, _⟩ | ⟨_, i', j', x', y', g1, g2, g3, g4, g5⟩
  · exact absurd h0 e1
  · have := (List.getElem?_eq_some_iff.1 hx).1
    rw [rng_true ⟨by omega, by omega⟩] at e
    cases e
  · obtain rfl : i = i' := by omega
    rw [hx] at g2
    cases g2
    obtain rfl : j = j' := by omega
    rw [hy] at g4
    cases g4
    exact g5
theorem fits_is {V : Value} {ts : List Ty} {ws : List Wn} {ss : List Sw} {hs : List Wh} {w : World} (hf : Fl w V ts ws ss hs) {i j : Nat} {x : Wn} {y : Ty} (h0 : chk ts ws ss hs = 0) (hx : ws[i]? = some x) (hj : x.ty = (j : Int)) (hy : ts[j]? = some y) (c L R : Int) (hR : fitE y c L = R) :
    Calls Try.prog 20 #[V, .int .i64 (i : Int), .int .i64 c, .int .i64 L] w fun e w' => e = .returned (.int .i64 R) ∧ Below w.heap.size w w' := by
  refine (fits_any hf (i : Int) c L).mono ?_
  rintro e w' ⟨E, rfl, hb, hq⟩
  have := fit_same h0 hx hj hy hq
  exact ⟨by rw [this, hR], hb⟩

set_option maxRecDepth 100000 in
set_option maxHeartbeats 8000000 in
theorem walk (V0 : Value) (ts0 : List Ty) (ws0 : List Wn) (ss0 : List Sw) (hs0 : List Wh) (a1 : Int) (a2 : Int) (a3 : Int) (a4 : Int) (w : World) (h0 : Fl w V0 ts0 ws0 ss0 hs0) (h1 : I64 a1) (h2 : I64 a2) (h3 : I64 a3) (h4 : I64 a4) :
    Calls Try.prog 8 #[V0, .int .i64 a1, .int .i64 a2, .int .i64 a3, .int .i64 a4] w fun e w' => e = .returned (.bool true) ∧ Below w.heap.size w w' := by
  obtain ⟨A1, c1, A2, c2, A3, c3, A4, c4, rfl, gg1, gg2, gg3, gg4⟩ := h0.shape
  obtain ⟨n, hn⟩ : ∃ n, n = ts0.length := ⟨_, rfl⟩
  obtain ⟨m, hm⟩ : ∃ m, m = ws0.length := ⟨_, rfl⟩
  obtain ⟨k, hk⟩ : ∃ k, k = ss0.length := ⟨_, rfl⟩
  obtain ⟨h, hh⟩ : ∃ h, h = hs0.length := ⟨_, rfl⟩
  rw [← hn, ← hm, ← hk, ← hh] at h0 ⊢
  have HN := Lib.hid hn; have HM := Lib.hid hm; have HK := Lib.hid hk; have HH := Lib.hid hh
  obtain ⟨W, hW⟩ : ∃ W, W = w.alloc (.cells #[.slice A1 n c1, .slice A2 m c2, .slice A3 k c3, .slice A4 h c4] 27) := ⟨_, rfl⟩
  have hB : Below w.heap.size w W := by rw [hW]; exact ball (Below.refl w.heap.size w) _
  have e0 : W.heap[w.heap.size]? = some (.cells #[.slice A1 n c1, .slice A2 m c2, .slice A3 k c3, .slice A4 h c4] 27 (0, 0)) := by rw [hW]; exact bnew _ _
  have HV := Lib.hid (h0.on hB); have HB := Lib.hid hB; have HX := Lib.hid e0; have HW := Lib.hid hW
  obtain ⟨b0, b1, b2, b3⟩ := box4 e0
  clear h0 gg1 gg2 gg3 gg4 hn hm hk hh hB e0 hW
  obtain ⟨S, hS⟩ : ∃ S, fewB ts0.length ws0.length ss0.length hs0.length = S := ⟨_, rfl⟩
  have HS := Lib.hid hS
  clear hS
  cases S with
  | false =>
    have Hc := Lib.hid (sane_true W)
    go_enter Try.func8, Try.ntmps8
    go_upto_region 1 with (fail)
    rw [← HW.out]
    clear HW
    go_wp2_with fail
    refine Hc.out.mono ?_
    rintro e w1 ⟨rfl, hb⟩
    replace HB := Lib.hid (btrans HB.out hb); replace HV := Lib.hid (HV.out.on hb); replace HX := Lib.hid (bon HX.out hb)
    clear hb b0 b1 b2 b3 Hc
    obtain ⟨b0, b1, b2, b3⟩ := box4 HX.out
    have Hc := Lib.hid (few_any HV.out)
    rw [HS.out] at Hc
    go_wp2_with fail
    refine Hc.out.mono ?_
    rintro e w2 ⟨rfl, hb⟩
    replace HB := Lib.hid (btrans HB.out hb); replace HV := Lib.hid (HV.out.on hb); replace HX := Lib.hid (bon HX.out hb)
    clear hb b0 b1 b2 b3 Hc
    obtain ⟨b0, b1, b2, b3⟩ := box4 HX.out
    go_wp2
    go_ret
    exact ⟨rfl, HB.out⟩
  | true =>
    have Hc := Lib.hid (sane_true W)
    go_enter Try.func8, Try.ntmps8
    go_upto_region 1 with (fail)
    rw [← HW.out]
    clear HW
    go_wp2_with fail
    refine Hc.out.mono ?_
    rintro e w1 ⟨rfl, hb⟩
    replace HB := Lib.hid (btrans HB.out hb); replace HV := Lib.hid (HV.out.on hb); replace HX := Lib.hid (bon HX.out hb)
    clear hb b0 b1 b2 b3 Hc
    obtain ⟨b0, b1, b2, b3⟩ := box4 HX.out
    have Hc := Lib.hid (few_any HV.out)
    rw [HS.out] at Hc
    go_wp2_with fail
    refine Hc.out.mono ?_
    rintro e w2 ⟨rfl, hb⟩
    replace HB := Lib.hid (btrans HB.out hb); replace HV := Lib.hid (HV.out.on hb); replace HX := Lib.hid (bon HX.out hb)
    clear hb b0 b1 b2 b3 Hc
    obtain ⟨b0, b1, b2, b3⟩ := box4 HX.out
    have Hc := Lib.hid (fits_any HV.out a1 a2 a3)
    go_wp2_with fail
    refine Hc.out.mono ?_
    rintro e w3 ⟨E, rfl, hb, hq⟩
    replace HB := Lib.hid (btrans HB.out hb); replace HV := Lib.hid (HV.out.on hb); replace HX := Lib.hid (bon HX.out hb)
    have HQ := Lib.hid hq
    clear hb b0 b1 b2 b3 Hc hq
    obtain ⟨b0, b1, b2, b3⟩ := box4 HX.out
    by_cases hE : E = 0
    rotate_left
    · have d0 : (E != 0) = true := by simpa using hE
      clear hE
      go_wp2
      go_ret
      exact ⟨rfl, HB.out⟩
    have d0 : (E != 0) = false := by simpa using hE
    obtain ⟨hchk, i, j, x, y, rfl, hx, hj, hy, hc, hbit, hw0, hw1⟩ := fit0 HQ.out hE
    obtain ⟨c, rfl⟩ : ∃ c : Nat, a2 = (c : Int) := ⟨a2.toNat, by omega⟩
    obtain ⟨wt, rfl⟩ : ∃ c : Nat, a3 = (c : Int) := ⟨a3.toNat, by omega⟩
    obtain ⟨vt, vw, vs, vh, hVe, t1, t2, t3, t4⟩ := HV.out
    simp only [Value.agg.injEq, Array.mk.injEq, List.cons.injEq, and_true] at hVe
    obtain ⟨rfl, rfl, rfl, rfl⟩ := hVe
    have hv := chk_val hchk
    have hn32 : n ≤ 32 := by rw [HN.out]; exact hv.t
    have him : i < m := by rw [HM.out]; exact (List.getElem?_eq_some_iff.1 hx).1
    have hjn : j < n := by rw [HN.out]; exact (List.getElem?_eq_some_iff.1 hy).1
    have hld : y.ld ≤ 1000000 := by
      have := hv.tok y (List.mem_of_getElem? hy)
      unfold tOk tl at this
      simp only [Bool.and_eq_true] at this
      exact (rng_of this.1).2
    obtain ⟨g9, cap9, w9, hrun, hb9, hg9, hcap9, cr, hh9, hcr⟩ := copy_types t1 (by omega) hn32
    obtain ⟨gw, ow, x', rfl, hgw, hx', _, rw1, _⟩ := t2.pick i (by rw [← HM.out]; exact him)
    rw [hx] at hx'
    cases hx'
    obtain ⟨gt, ot, y', rfl, hgt, hy', hyok, rt1, _⟩ := t1.pick j (by rw [← HN.out]; exact hjn)
    rw [hy] at hy'
    cases hy'
    have p0 : w3.cell? ⟨gw, ow + i * 5, none⟩ = some (.int .i64 (j : Int)) := by have := rw1 0 _ rfl; rw [hj] at this; exact this
    have p1 : w3.cell? ⟨gt, ot + j * 8, none⟩ = some (.int .i64 y.ld) := rt1 0 _ rfl
    obtain ⟨C, hC⟩ : ∃ C : Nat, y.cl = (C : Int) := ⟨y.cl.toNat, by have := hyok.1; omega⟩
    have p2 : w3.cell? ⟨gt, ot + j * 8 + 5, none⟩ = some (.int .u64 (C : Int)) := by rw [← hC]; exact rt1 5 _ rfl
    have hC64 : C < 18446744073709551616 := by have := hyok.2; omega
    obtain ⟨Y, hY⟩ : ∃ Y, Y = y.ld := ⟨_, rfl⟩
    rw [← hY] at p1 hw1 hld
    have hbc : C / 2 ^ c % 2 = 1 := by
      unfold bit at hbit
      rw [hC, Int.toNat_natCast, Int.toNat_natCast] at hbit
      simpa using hbit
    obtain ⟨D, hD⟩ : ∃ D, D = C / 2 ^ c := ⟨_, rfl⟩
    have hD2 : (C : Int) / 2 ^ c = (D : Int) := by rw [hD]; simp
    have hmin : min c 64 = c := by omega
    have hand := and_one D (by rw [hD]; exact Nat.lt_of_le_of_lt (Nat.div_le_self _ _) hC64)
    have hD1 : D % 2 = 1 := by rw [hD]; exact hbc
    rw [hD1] at hand
    -- the copy
    obtain ⟨C2, hC2⟩ : ∃ C2, C2 = C ^^^ 2 ^ c := ⟨_, rfl⟩
    have hC2l : C2 < 18446744073709551616 := by rw [hC2]; exact flip_lt C c hC64 (by omega)
    have hC2b : C2 / 2 ^ c % 2 = 0 := by rw [hC2]; exact flip_bit C c hbc
    obtain ⟨w10, h10⟩ : ∃ w10, w10 = w9.drew := ⟨_, rfl⟩
    have hh10 : w10.heap[g9]? = some (.cells cr 68 (0, 0)) := by rw [h10]; exact hh9
    have hb10 : Below w3.heap.size w3 w10 := by rw [h10]; exact bdrewN hb9 1
    have hset := copy_set (C := (C2 : Int)) hcap9 HN.out hn32 hh10 hcr t1.2.1 hy ⟨by omega, by omega⟩
    obtain ⟨w11, h11⟩ : ∃ w11, w11 = w10.setCell ⟨g9, j * 8 + 5, none⟩ (.int .u64 (C2 : Int)) := ⟨_, rfl⟩
    have hbs : Below w3.heap.size w3 w11 := by rw [h11]; exact Below.setCell hb10 hg9 _
    rw [← h11] at hset
    have q2 : w10.cell? ⟨g9, j * 8 + 5, none⟩ = some (.int .u64 (C : Int)) := by
      rw [cell_of_row _ g9 _ _ 68 (0, 0) hh10, ← hC]
      exact hcr _ _ (cells_fl ty_len ts0 j y hy 5 _ rfl)
    have q3 : w10.frozen? ⟨g9, j * 8 + 5, none⟩ = false := frozen_of_row w10 g9 _ cr 68 hh10
    have hV2 : Fl w11 (.agg #[.slice (some ⟨g9, 0, none⟩) n cap9, .slice (some ⟨gw, ow, none⟩) m c2, .slice A3 k c3, .slice A4 h c4]) (ts0.set j { y with cl := (C2 : Int) }) ws0 ss0 hs0 := ⟨_, _, _, _, rfl, hset, t2.on hbs, t3.on hbs, t4.on hbs⟩
    obtain ⟨w12, h12⟩ : ∃ w12, w12 = w11.alloc (.cells #[.slice (some ⟨g9, 0, none⟩) n cap9, .slice (some ⟨gw, ow, none⟩) m c2, .slice A3 k c3, .slice A4 h c4] 27) := ⟨_, rfl⟩
    have hx12 : w12.heap[w11.heap.size]? = some (.cells #[.slice (some ⟨g9, 0, none⟩) n cap9, .slice (some ⟨gw, ow, none⟩) m c2, .slice A3 k c3, .slice A4 h c4] 27 (0, 0)) := by rw [h12]; exact bnew _ _
    have hb12 : Below w11.heap.size w11 w12 := by rw [h12]; exact ball (Below.refl _ _) _
    have q0 : w9.cell? ⟨g9, j * 8 + 5, none⟩ = some (.int .u64 (C : Int)) := by
      rw [cell_of_row _ g9 _ _ 68 (0, 0) hh9, ← hC]
      exact hcr _ _ (cells_fl ty_len ts0 j y hy 5 _ rfl)
    have q1 : w9.frozen? ⟨g9, j * 8 + 5, none⟩ = false := frozen_of_row w9 g9 _ cr 68 hh9
    have hpw : (2 : Nat) ^ c < 18446744073709551616 := Nat.pow_lt_pow_right (a := 2) (n := 64) (by decide) (by omega)
    obtain ⟨P, hP⟩ : ∃ P : Nat, P = 2 ^ c := ⟨_, rfl⟩
    have hP2 : (2 : Int) ^ c = (P : Int) := by rw [hP]; simp
    have hPl : P < 18446744073709551616 := by rw [hP]; exact hpw
    have s1 : IntKind.u64.wrap (2 ^ c) = (P : Int) := by rw [hP2, IntKind.wrap_u64]; omega
    have s2 : IntKind.u64.wrap (1 * 2 ^ c) = (P : Int) := by rw [Int.one_mul]; exact s1
    have s3 : bits .xor .u64 (C : Int) (P : Int) = (C2 : Int) := by rw [bits_xor_u64_nat C P hC64 hPl, hC2, hP]
    have hchk2 := chk_set (C := (C2 : Int)) hchk hy
    have hy2 : (ts0.set j { y with cl := (C2 : Int) })[j]? = some { y with cl := (C2 : Int) } := by rw [List.getElem?_set, if_pos rfl, if_pos (List.getElem?_eq_some_iff.1 hy).1]
    -- the lighter weight
    obtain ⟨M, hM⟩ : ∃ M, M = IntKind.u64.wrap a4 := ⟨_, rfl⟩
    have hM0 : 0 ≤ M := by rw [hM, IntKind.wrap_u64]; omega
    obtain ⟨M2, rfl⟩ : ∃ M2 : Nat, M = (M2 : Int) := ⟨M.toNat, by omega⟩
    obtain ⟨L, hL⟩ : ∃ L : Nat, L = M2 % (wt + 1) := ⟨_, rfl⟩
    have hL1 : L ≤ wt := by have := Nat.mod_lt M2 (show 0 < wt + 1 by omega); omega
    have r1 : IntKind.i64.wrap ((wt : Int) + 1) = (wt : Int) + 1 := wrap_in (by omega) (by omega)
    have r2 : IntKind.u64.wrap ((wt : Int) + 1) = (wt : Int) + 1 := by rw [IntKind.wrap_u64]; omega
    have r3 : ((M2 : Int).tmod ((wt : Int) + 1)) = (L : Int) := by rw [Int.tmod_eq_emod_of_nonneg (by omega), hL]; simp
    have r3b : ((M2 : Int) % ((wt : Int) + 1)) = (L : Int) := by rw [hL]; simp
    have r4 : IntKind.u64.wrap (L : Int) = (L : Int) := by rw [IntKind.wrap_u64]; omega
    have r5 : IntKind.i64.wrap (L : Int) = (L : Int) := wrap_in (by omega) (by omega)
    have r6 : ((wt : Int) + 1) ≠ 0 := by omega
    have f1 : fitE y (c : Int) (L : Int) = 0 := by unfold fitE; rw [rng_true (x := 0) (z := 63) hc, hbit, rng_true ⟨by omega, by omega⟩]; rfl
    have f2 : fitE y (c : Int) (-1) = 91 := by unfold fitE; rw [rng_false (x := 0) (y := -1) (by omega)]; simp
    have hbz : bit (C2 : Int) (c : Int) = false := by unfold bit; rw [Int.toNat_natCast, Int.toNat_natCast, hC2b]; rfl
    have f3 : fitE { y with cl := (C2 : Int) } (c : Int) (L : Int) = 91 := by
      unfold fitE
      simp [hbz]
    have him2 : (i : Int) < (m : Int) := by omega
    have hjn2 : (j : Int) < (n : Int) := by omega
    have e1 : decide ((wt : Int) > Y) = false := decide_eq_false (by omega)
    have e2 : decide (Y < (wt : Int)) = false := decide_eq_false (by omega)
    have e3 : decide ((i : Int) < 0) = false := decide_eq_false (by omega)
    have e4 : decide ((c : Int) < 0) = false := decide_eq_false (by omega)
    have e5 : decide (63 < (c : Int)) = false := decide_eq_false (by omega)
    have e6 : decide ((wt : Int) < 0) = false := decide_eq_false (by omega)
    have e7 : decide ((j : Int) < 0) = false := decide_eq_false (by omega)
    have e8 : decide (n ≤ j) = false := decide_eq_false (by omega)
    have e10 : decide (m ≤ i) = false := decide_eq_false (by omega)
    have e9 : decide ((j : Int) ≥ (n : Int)) = false := decide_eq_false (by omega)
    have HP2 := Lib.hid hP2
    have c0 : (0 : Int) ≤ (c : Int) := by omega
    have c63 : (c : Int) ≤ 63 := by omega
    have c64 : (c : Int) < 64 := by omega
    have HC := Lib.hid hchk; have HXX := Lib.hid hx; have HJ := Lib.hid hj; have HYY := Lib.hid hy; have HF1 := Lib.hid f1; have HF2 := Lib.hid f2; have HF3 := Lib.hid f3; have HC2 := Lib.hid hchk2; have HY2 := Lib.hid hy2
    have HRUN := Lib.hid hrun; have HB9 := Lib.hid hb9; have HSET := Lib.hid hset; have HBS := Lib.hid hbs; have HQ2 := Lib.hid q2; have HQ3 := Lib.hid q3; have HV2 := Lib.hid (hV2.on hb12); have H10 := Lib.hid h10; have H11 := Lib.hid h11; have H12 := Lib.hid h12; have HX12 := Lib.hid hx12; have HB12 := Lib.hid hb12; have HB10 := Lib.hid hb10; have HQ0 := Lib.hid q0; have HQ1 := Lib.hid q1; have HM2 := Lib.hid hM
    have HCELL := Lib.hid (And.intro p0 (And.intro p1 p2))
    have HR := Lib.hid (And.intro r1 (And.intro r2 (And.intro r3 (And.intro r3b (And.intro r4 (And.intro r5 r6))))))
    have HSH := Lib.hid (And.intro s1 (And.intro s2 s3))
    clear hV2 q2 q3 h10 h11 h12 hx12 hb12 hb10 hh10 hD1 hchk hx hj hy hc hbit hw0 hw1 t1 t2 t3 t4 hv hn32 him hjn hld hrun hb9 hg9 hcap9 hh9 hcr hgw rw1 hgt hyok rt1 hC hC64 hY hbc hD hset hbs hC2 hC2l hC2b hpw hP hPl hchk2 hy2 hM hM0 hL hL1 f1 f2 f3 hE q0 q1 p0 p1 p2 r1 r2 r3 r3b r4 r5 r6 s1 s2 s3 hbz hP2
    obtain ⟨p0, p1, p2⟩ := HCELL.out
    go_upto_region 10 with (fail)
    clear p0 p1 p2 hD2 hand e1 e2 e3 e4 e5 e6 e7 e8 e9 e10
    obtain ⟨k0, k1, k2, k3⟩ := box4 (bold (o' := .cells #[] 68) HX.out)
    go_upto_region 11 with (at_builtin; refine wp_appT rfl rfl rfl (.tmp 86) (.tmp 88) rfl rfl rfl HRUN.out ?_)
    clear k0 k1 k2 k3 b0 b1 b2 b3
    obtain ⟨b0, b1, b2, b3⟩ := box4 (bon HX.out HB9.out)
    have q0 := HQ0.out
    have q1 := HQ1.out
    obtain ⟨s1, s2, s3⟩ := HSH.out
    go_wp2_with fail
    go_still_tail 10, (by kernel_rfl)
    change wpList _ _ _ _ _ w9.drew
    rw [← H10.out]
    clear q0 q1 b0 b1 b2 b3 s1 s2 s3
    have q2 := HQ2.out
    have q3 := HQ3.out
    obtain ⟨b0, b1, b2, b3⟩ := box4 (bon HX.out HB10.out)
    go_upto_region 12 with (fail)
    rw [← H11.out]
    clear q2 q3 b0 b1 b2 b3
    obtain ⟨b0, b1, b2, b3⟩ := box4 (bon HX.out HBS.out)
    go_upto_region 13 with (fail)
    rw [← H12.out]
    clear b0 b1 b2 b3
    obtain ⟨r1, r2, r3, r3b, r4, r5, r6⟩ := HR.out
    have hm2 : IntKind.u64.wrap a4 = (M2 : Int) := HM2.out.symm
    go_upto_region 14 with (fail)
    clear r1 r2 r3 r3b r4 r5 r6 hm2
    replace HB := Lib.hid (btrans HB.out (btrans HBS.out HB12.out)); replace HV := Lib.hid ((HV.out.on HBS.out).on HB12.out); replace HX := Lib.hid (bon (bon HX.out HBS.out) HB12.out)
    obtain ⟨b0, b1, b2, b3⟩ := box4 HX.out
    have Hc := Lib.hid (fits_is HV.out HC.out HXX.out HJ.out HYY.out (c : Int) (L : Int) 0 HF1.out)
    go_wp2_with fail
    refine Hc.out.mono ?_
    rintro e w13 ⟨rfl, hb⟩
    replace HB := Lib.hid (btrans HB.out hb); replace HV := Lib.hid (HV.out.on hb); replace HX := Lib.hid (bon HX.out hb); replace HV2 := Lib.hid (HV2.out.on hb); replace HX12 := Lib.hid (bon HX12.out hb)
    clear hb b0 b1 b2 b3 Hc
    obtain ⟨b0, b1, b2, b3⟩ := box4 HX.out
    have Hc := Lib.hid (fits_is HV.out HC.out HXX.out HJ.out HYY.out (c : Int) (-1) 91 HF2.out)
    go_wp2_with fail
    refine Hc.out.mono ?_
    rintro e w14 ⟨rfl, hb⟩
    replace HB := Lib.hid (btrans HB.out hb); replace HV2 := Lib.hid (HV2.out.on hb); replace HX12 := Lib.hid (bon HX12.out hb)
    clear hb b0 b1 b2 b3 Hc
    obtain ⟨b0, b1, b2, b3⟩ := box4 HX12.out
    have Hc := Lib.hid (fits_is HV2.out HC2.out HXX.out HJ.out HY2.out (c : Int) (L : Int) 91 HF3.out)
    go_wp2_with fail
    refine Hc.out.mono ?_
    rintro e w15 ⟨rfl, hb⟩
    replace HB := Lib.hid (btrans HB.out hb)
    clear hb b0 b1 b2 b3 Hc
    go_wp2
    go_ret
    exact ⟨rfl, HB.out⟩

set_option maxRecDepth 100000 in
theorem lifted (os : Os) (started : os.Started) (H : Type) (enc : TypeId × Value → H) :
    ReturnsInHanded {} Try.checked os 8 .any (Rows.fleetLoadsSpec.pre6 enc Try.prog Try.f8 Rows.fleetLoadsRow.domain false) (Rows.fleetLoadsSpec.post enc Try.prog Try.f8 false true false false) := by
  refine returnsInHanded_of_change_sized (C := Try.checked) own started (by kernel_rfl) Try.func8
    (ChangeSpec.witness6 (enc := enc) (C := Try.checked) false ⟨#[], #[.agg #[.slice none 0 0, .slice none 0 0, .slice none 0 0, .slice none 0 0], .int .i64 0, .int .i64 0, .int .i64 0, .int .i64 0], []⟩ 8 (by kernel_rfl) (by kernel_rfl) (by kernel_rfl) (by kernel_rfl)) ?_
  intro W base args ds gs before hval0 hW _ hsz0 _
  have hsz : (DataW.weightsEach Try.prog (Try.f8.params.toList ++ Rows.fleetLoadsSpec.plain.varTypes Try.prog) (ds ++ gs)).all (· ≤ reachBytes) = true := hsz0
  have hval : ∀ (j : Nat) t v, Try.f8.params[j]? = some t → args[j]? = some v → Value.okWide Try.prog W .any base t v := hval0
  clear hsz0 hval0
  have hW' := hW
  obtain ⟨p, q, hA0, hV, rfl, _, _⟩ := hW
  have hA : DataW.TrodAll enc Try.prog W 0 (fun _ => true) true Try.f8.params.toList args.toList ds p := hA0
  rw [Try.params8] at hA hval hsz
  obtain ⟨v0, vs0, d0, ds0, p0, q0, hargs, rfl, rfl, h0, r0⟩ := trodAll_cons hA
  obtain ⟨v1, vs1, d1, ds1, p1, q1, rfl, rfl, rfl, h1, r1⟩ := trodAll_cons r0
  obtain ⟨v2, vs2, d2, ds2, p2, q2, rfl, rfl, rfl, h2, r2⟩ := trodAll_cons r1
  obtain ⟨v3, vs3, d3, ds3, p3, q3, rfl, rfl, rfl, h3, r3⟩ := trodAll_cons r2
  obtain ⟨v4, vs4, d4, ds4, p4, q4, rfl, rfl, rfl, h4, r4⟩ := trodAll_cons r3
  obtain ⟨rfl, rfl, rfl⟩ := trodAll_nil r4
  obtain rfl : args = #[v0, v1, v2, v3, v4] := by cases args; simp_all
  obtain ⟨rfl, rfl⟩ := trodVars_none hV
  have hw0 : ∀ n ∈ d0.weights Try.prog 27, n ≤ reachBytes := by
    intro n hn
    have := List.all_eq_true.1 hsz n (DataW.weights_mem_each (t := 27) (d := d0) (j := 0) rfl rfl n hn)
    simpa using this
  obtain ⟨ts0, ws0, ss0, hs0, hn0⟩ := openFl (hval 0 27 v0 rfl rfl) h0 hw0
  obtain ⟨a1, rfl, rfl, rfl, wf1⟩ := open_int Try.underlying3 (hval 1 3 v1 rfl rfl) h1
  obtain ⟨a2, rfl, rfl, rfl, wf2⟩ := open_int Try.underlying3 (hval 2 3 v2 rfl rfl) h2
  obtain ⟨a3, rfl, rfl, rfl, wf3⟩ := open_int Try.underlying3 (hval 3 3 v3 rfl rfl) h3
  obtain ⟨a4, rfl, rfl, rfl, wf4⟩ := open_int Try.underlying3 (hval 4 3 v4 rfl rfl) h4
  clear hA0
  refine (walk v0 ts0 ws0 ss0 hs0 a1 a2 a3 a4 W hn0 (i64_wf wf1) (i64_wf wf2) (i64_wf wf3) (i64_wf wf4)).mono fun e W' ⟨he, hb⟩ => ?_
  subst he
  refine ⟨_, rfl, post_law laidOut ?_ rfl rfl hW' rfl rfl rfl hb⟩
  intro t ht
  rw [Try.params8] at ht
  have hm : t ∈ [3, 27] := (by decide : ∀ t ∈ (#[27, 3, 3, 3, 3] : Array TypeId).toList, t ∈ [3, 27]) t ht
  have hall : ([3, 27].all fun u => Try.prog.readableRec u && decide (u < Try.prog.types.size)) = true := by kernel_rfl
  have := List.all_eq_true.1 hall t hm
  simpa using this

theorem over : Rows.fleetLoadsRow.holds Try.pinned (OpenSpec.ofChange Rows.fleetLoadsSpec) :=
  OpenClaim.holds_of_wide 8 Try.f8 rfl rfl rfl rfl rfl rfl rfl ⟨rfl, rfl, rfl, rfl, rfl⟩ rfl rfl rfl rfl rfl (by kernel_rfl) Try.func8 (by kernel_rfl)
    (of_decide_eq_true (by kernel_rfl)) (by unfold Func.isWrapper; first | (rw [if_pos (by decide +kernel)]; kernel_rfl) | (rw [if_neg (by decide +kernel)]; exact ⟨rfl, rfl⟩))
    (fun os started H enc _ => lifted os started H enc)

/-- THE STATEMENT. -/
theorem proved : Rows.FleetLoadsSaid :=
  over
#print axioms proved
end Go.Proofs.Ytijdjbkmkopmnaa.fleetLoads
