/-
  Walks: Fits, Clean, Worth of the reference.
-/
import Derived.Test.YtijdjbkmkopmnaaRc
import Derived.Test.YtijdjbkmkopmnaaSb
namespace Go.Proofs.Ytijdjbkmkopmnaa
open Go.RowKit
set_option linter.unusedVariables false
set_option linter.unusedSimpArgs false

set_option maxRecDepth 100000 in
set_option maxHeartbeats 8000000 in
theorem rclean_any {V : Value} {ts : List Ty} {ws : List Wn} {ss : List Sw} {hs : List Wh} {w : World} (hf : Fl w V ts ws ss hs) (p q : Int) :
    Calls Try.prog 15 #[V, .int .i64 p, .int .i64 q] w fun e w' => ∃ A E, e = .returned (.tuple #[.int .i64 A, .int .i64 E]) ∧ Below w.heap.size w w' ∧ CR ts ws ss hs p q A E := by
  obtain ⟨a1, c1, a2, c2, a3, c3, a4, c4, rfl, g1, g2, g3, g4⟩ := hf.shape
  obtain ⟨n, hn⟩ : ∃ n, n = ts.length := ⟨_, rfl⟩
  obtain ⟨m, hm⟩ : ∃ m, m = ws.length := ⟨_, rfl⟩
  obtain ⟨k, hk⟩ : ∃ k, k = ss.length := ⟨_, rfl⟩
  obtain ⟨h, hh⟩ : ∃ h, h = hs.length := ⟨_, rfl⟩
  rw [← hn, ← hm, ← hk, ← hh] at hf ⊢
  obtain ⟨W, hW⟩ : ∃ W, W = w.alloc (.cells #[.slice a1 n c1, .slice a2 m c2, .slice a3 k c3, .slice a4 h c4] 27) := ⟨_, rfl⟩
  have hB : Below w.heap.size w W := by rw [hW]; exact ball (Below.refl w.heap.size w) _
  have hr : W.heap[w.heap.size]? = some (.cells #[.slice a1 n c1, .slice a2 m c2, .slice a3 k c3, .slice a4 h c4] 27 (0, 0)) := by rw [hW]; exact bnew _ _
  have hlh := g4.1
  have hlm := g2.1
  rw [← hh] at hlh
  rw [← hm] at hlm
  obtain ⟨E, hE⟩ : ∃ E, E = chk ts ws ss hs := ⟨_, rfl⟩
  have HC := Lib.hid (rcheck_any (hf.on hB) E hE)
  rw [← hh] at g4
  rw [← hm] at g2
  rw [← hn] at g1
  have HHS := Lib.hid (g4.on hB); have HH := Lib.hid hh; have HM := Lib.hid hm; have HN := Lib.hid hn; have HWS := Lib.hid (g2.on hB); have HTS := Lib.hid (g1.on hB)
  have HW := Lib.hid hW; have HB := Lib.hid hB; have HX := Lib.hid hr; have HE := Lib.hid hE
  obtain ⟨b0, b1, b2, b3⟩ := box4 hr
  clear hf hW hB hr hn hm hk hh g1 g2 g3 g4 hE
  by_cases hE0 : E = 0
  rotate_left
  · have d0 : (E != 0) = true := by simpa using hE0
    have HE0 := Lib.hid hE0
    clear hE0
    go_enter Try.func15, Try.ntmps15
    go_upto_region 1 with (fail)
    rw [← HW.out]
    clear HW
    go_wp2_with fail
    refine HC.out.mono ?_
    rintro e w1 ⟨rfl, hb⟩
    have HZ := Lib.hid (btrans HB.out hb)
    have HX1 := Lib.hid (bon HX.out hb); have HWS1 := Lib.hid (HWS.out.on hb); have HTS1 := Lib.hid (HTS.out.on hb); have HHS1 := Lib.hid (HHS.out.on hb)
    clear hb b0 b1 b2 b3
    obtain ⟨b0, b1, b2, b3⟩ := box4 HX1.out
    go_wp2
    go_ret2
    exact ⟨0, E, rfl, HZ.out, Or.inl ⟨by rw [← HE.out]; exact HE0.out, HE.out, rfl⟩⟩
  subst hE0
  cases hp : rng 0 p 63 with
  | false =>
    have H0 := Lib.hid (within_any 0 p 63)
    rw [hp] at H0
    have HP := Lib.hid hp
    clear hp
    go_enter Try.func15, Try.ntmps15
    go_upto_region 1 with (fail)
    rw [← HW.out]
    clear HW
    go_wp2_with fail
    refine HC.out.mono ?_
    rintro e w1 ⟨rfl, hb⟩
    have HZ := Lib.hid (btrans HB.out hb)
    have HX1 := Lib.hid (bon HX.out hb); have HWS1 := Lib.hid (HWS.out.on hb); have HTS1 := Lib.hid (HTS.out.on hb); have HHS1 := Lib.hid (HHS.out.on hb)
    clear hb b0 b1 b2 b3
    obtain ⟨b0, b1, b2, b3⟩ := box4 HX1.out
    go_wp2_with fail
    refine (H0.out _).mono ?_
    rintro e w' ⟨rfl, rfl⟩
    go_wp2
    go_ret2
    exact ⟨0, 1, rfl, HZ.out, Or.inr (Or.inl ⟨HE.out.symm, by rw [HP.out]; rfl, rfl, rfl⟩)⟩
  | true =>
    have H0 := Lib.hid (within_any 0 p 63)
    rw [hp] at H0
    cases hq : rng 0 q 63 with
    | false =>
      have H1 := Lib.hid (within_any 0 q 63)
      rw [hq] at H1
      have HP := Lib.hid hp; have HQ := Lib.hid hq
      clear hp hq
      go_enter Try.func15, Try.ntmps15
      go_upto_region 1 with (fail)
      rw [← HW.out]
      clear HW
      go_wp2_with fail
      refine HC.out.mono ?_
      rintro e w1 ⟨rfl, hb⟩
      have HZ := Lib.hid (btrans HB.out hb)
      have HX1 := Lib.hid (bon HX.out hb); have HWS1 := Lib.hid (HWS.out.on hb); have HTS1 := Lib.hid (HTS.out.on hb); have HHS1 := Lib.hid (HHS.out.on hb)
      clear hb b0 b1 b2 b3
      obtain ⟨b0, b1, b2, b3⟩ := box4 HX1.out
      go_wp2_with fail
      refine (H0.out _).mono ?_
      rintro e w' ⟨rfl, rfl⟩
      go_wp2_with fail
      refine (H1.out _).mono ?_
      rintro e w' ⟨rfl, rfl⟩
      go_wp2
      go_ret2
      exact ⟨0, 1, rfl, HZ.out, Or.inr (Or.inl ⟨HE.out.symm, by rw [HP.out, HQ.out]; rfl, rfl, rfl⟩)⟩
    | true =>
      have H1 := Lib.hid (within_any 0 q 63)
      rw [hq] at H1
      have HPQ : Hid ((rng 0 p 63 && rng 0 q 63) = true) := Lib.hid (by rw [hp, hq]; rfl)
      clear hp hq
      go_enter Try.func15, Try.ntmps15
      go_upto_region 1 with (fail)
      rw [← HW.out]
      clear HW
      go_wp2_with fail
      refine HC.out.mono ?_
      rintro e w1 ⟨rfl, hb⟩
      have HZ := Lib.hid (btrans HB.out hb)
      have HX1 := Lib.hid (bon HX.out hb); have HWS1 := Lib.hid (HWS.out.on hb); have HTS1 := Lib.hid (HTS.out.on hb); have HHS1 := Lib.hid (HHS.out.on hb)
      clear hb b0 b1 b2 b3
      obtain ⟨b0, b1, b2, b3⟩ := box4 HX1.out
      go_wp2_with fail
      refine (H0.out _).mono ?_
      rintro e w' ⟨rfl, rfl⟩
      go_wp2_with fail
      refine (H1.out _).mono ?_
      rintro e w' ⟨rfl, rfl⟩
      go_wp2
      clear b0 b1 b2 b3
      go_loopw [9] (fun s wr => ∃ k : Nat, k ≤ h ∧ s = .int .i64 (k : Int) ∧ Hid (cln p q (hs.drop k) = cln p q hs) ∧ Hid (Below w1.heap.size w1 wr)) (fun s _ => h - (intOf s).toNat)
      case atStart => exact ⟨0, by omega, rfl, Lib.hid rfl, Lib.hid (Below.refl _ _)⟩
      case round =>
        obtain ⟨k, hk, rfl, HK, HI⟩ := hrel
        obtain ⟨b0, b1, b2, b3⟩ := box4 (bon HX1.out HI.out)
        by_cases hlt : k < h
        rotate_left
        · obtain rfl : k = h := by omega
          have hlt2 : ¬ ((k : Int) < (k : Int)) := by omega
          have hz : cln p q hs = 0 := by rw [← HK.out, HH.out, List.drop_length]; rfl
          have HZ2 := Lib.hid (btrans HZ.out HI.out); have HZZ := Lib.hid hz
          clear hz
          go_wp2
          go_ret2
          exact ⟨0, 0, rfl, HZ2.out, Or.inr (Or.inr ⟨HE.out.symm, HPQ.out, rfl, HZZ.out.symm⟩)⟩
        have hlt2 : (k : Int) < (h : Int) := by omega
        obtain ⟨g, off, ⟨A, B, C⟩, rfl, hg, hx, _, hra, _⟩ := (HHS1.out.on HI.out).pick k (by rw [← HH.out]; exact hlt)
        have e0 : wr.cell? ⟨g, off + k * 3, none⟩ = some (.int .i64 A) := hra 0 _ rfl
        have e1 : wr.cell? ⟨g, off + k * 3 + 1, none⟩ = some (.int .i64 B) := hra 1 _ rfl
        have e2 : wr.cell? ⟨g, off + k * 3 + 2, none⟩ = some (.int .i64 C) := hra 2 _ rfl
        have hst := HK.out
        rw [List.drop_eq_getElem_cons (by have := HH.out; omega)] at hst
        have hxe : hs[k]'(by have := HH.out; omega) = ⟨A, B, C⟩ := (List.getElem?_eq_some_iff.1 hx).2
        rw [hxe] at hst
        rw [cln_cons] at hst
        simp only at hst
        have HST := Lib.hid hst
        have HZ2 := Lib.hid (btrans HZ.out HI.out)
        clear hg hx hra hxe hst HK
        by_cases hA : A = p
        · have d0 : (A == p) = true := by simpa using hA
          by_cases hB : B = q
          · have d1 : (B == q) = true := by simpa using hB
            have HC2 : Hid (C = cln p q hs) := Lib.hid (by rw [← HST.out, if_pos ⟨hA, hB⟩])
            clear hA hB HST
            go_wp2
            go_ret2
            exact ⟨C, 0, rfl, HZ2.out, Or.inr (Or.inr ⟨HE.out.symm, HPQ.out, rfl, HC2.out⟩)⟩
          · have d1 : (B == q) = false := by simpa using hB
            have HK2 : Hid (cln p q (hs.drop (k + 1)) = cln p q hs) := Lib.hid (by rw [← HST.out, if_neg (fun h => hB h.2)])
            clear hA hB HST
            go_wp2
            clear b0 b1 b2 b3 e0 e1 e2
            go_roundw
            case rel => exact ⟨k + 1, by omega, by go_num, HK2, HI⟩
            case measure => simp [intOf]; omega
        · have d0 : (A == p) = false := by simpa using hA
          have HK2 : Hid (cln p q (hs.drop (k + 1)) = cln p q hs) := Lib.hid (by rw [← HST.out, if_neg (fun h => hA h.1)])
          clear hA HST
          go_wp2
          clear b0 b1 b2 b3 e0 e1 e2
          go_roundw
          case rel => exact ⟨k + 1, by omega, by go_num, HK2, HI⟩
          case measure => simp [intOf]; omega
theorem worthV_z {A E a b c d f : Int} (h : (A, E) = worthV a b c d f) : E ≠ 0 → A = 0 := by
  unfold worthV at h
  split at h
  · simp only [Prod.mk.injEq] at h
    exact fun e => absurd h.2 e
  · simp only [Prod.mk.injEq] at h
    exact fun _ => h.1
set_option maxRecDepth 100000 in
set_option maxHeartbeats 8000000 in
theorem rworthq_any {V : Value} {ts : List Ty} {ws : List Wn} {ss : List Sw} {hs : List Wh} {w : World} (hf : Fl w V ts ws ss hs) (wagon at0 : Int) :
    Calls Try.prog 17 #[V, .int .i64 wagon, .int .i64 at0] w fun e w' => ∃ A E, e = .returned (.tuple #[.int .i64 A, .int .i64 E]) ∧ Below w.heap.size w w' ∧ QR ts ws ss hs wagon (fun x y => (A, E) = worthV x.wo x.bu at0 y.li y.fl) E ∧ (E ≠ 0 → A = 0) := by
  obtain ⟨a1, c1, a2, c2, a3, c3, a4, c4, rfl, g1, g2, g3, g4⟩ := hf.shape
  obtain ⟨n, hn⟩ : ∃ n, n = ts.length := ⟨_, rfl⟩
  obtain ⟨m, hm⟩ : ∃ m, m = ws.length := ⟨_, rfl⟩
  obtain ⟨k, hk⟩ : ∃ k, k = ss.length := ⟨_, rfl⟩
  obtain ⟨h, hh⟩ : ∃ h, h = hs.length := ⟨_, rfl⟩
  rw [← hn, ← hm, ← hk, ← hh] at hf ⊢
  obtain ⟨W, hW⟩ : ∃ W, W = w.alloc (.cells #[.slice a1 n c1, .slice a2 m c2, .slice a3 k c3, .slice a4 h c4] 27) := ⟨_, rfl⟩
  have hB : Below w.heap.size w W := by rw [hW]; exact ball (Below.refl w.heap.size w) _
  have hr : W.heap[w.heap.size]? = some (.cells #[.slice a1 n c1, .slice a2 m c2, .slice a3 k c3, .slice a4 h c4] 27 (0, 0)) := by rw [hW]; exact bnew _ _
  have hlh := g4.1
  have hlm := g2.1
  rw [← hh] at hlh
  rw [← hm] at hlm
  obtain ⟨E, hE⟩ : ∃ E, E = chk ts ws ss hs := ⟨_, rfl⟩
  have HC := Lib.hid (rcheck_any (hf.on hB) E hE)
  rw [← hh] at g4
  rw [← hm] at g2
  rw [← hn] at g1
  have HHS := Lib.hid (g4.on hB); have HH := Lib.hid hh; have HM := Lib.hid hm; have HN := Lib.hid hn; have HWS := Lib.hid (g2.on hB); have HTS := Lib.hid (g1.on hB)
  have HW := Lib.hid hW; have HB := Lib.hid hB; have HX := Lib.hid hr; have HE := Lib.hid hE
  obtain ⟨b0, b1, b2, b3⟩ := box4 hr
  clear hf hW hB hr hn hm hk hh g1 g2 g3 g4 hE
  by_cases hE0 : E = 0
  rotate_left
  · have d0 : (E != 0) = true := by simpa using hE0
    have HE0 := Lib.hid hE0
    clear hE0
    go_enter Try.func17, Try.ntmps17
    go_upto_region 1 with (fail)
    rw [← HW.out]
    clear HW
    go_wp2_with fail
    refine HC.out.mono ?_
    rintro e w1 ⟨rfl, hb⟩
    have HZ := Lib.hid (btrans HB.out hb)
    have HX1 := Lib.hid (bon HX.out hb); have HWS1 := Lib.hid (HWS.out.on hb); have HTS1 := Lib.hid (HTS.out.on hb); have HHS1 := Lib.hid (HHS.out.on hb)
    clear hb b0 b1 b2 b3
    obtain ⟨b0, b1, b2, b3⟩ := box4 HX1.out
    go_wp2
    go_ret2
    exact ⟨0, E, rfl, HZ.out, Or.inl ⟨by rw [← HE.out]; exact HE0.out, HE.out⟩, fun _ => rfl⟩
  subst hE0
  have hwr : IntKind.i64.wrap ((m : Int) - 1) = (m : Int) - 1 := wrap_in (by omega) (by omega)
  cases hg0 : rng 0 wagon ((m : Int) - 1) with
  | false =>
    have H0 := Lib.hid (within_any 0 wagon ((m : Int) - 1))
    rw [hg0] at H0
    have HP := Lib.hid hg0
    clear hg0
    go_enter Try.func17, Try.ntmps17
    go_upto_region 1 with (fail)
    rw [← HW.out]
    clear HW
    go_wp2_with fail
    refine HC.out.mono ?_
    rintro e w1 ⟨rfl, hb⟩
    have HZ := Lib.hid (btrans HB.out hb)
    have HX1 := Lib.hid (bon HX.out hb); have HWS1 := Lib.hid (HWS.out.on hb); have HTS1 := Lib.hid (HTS.out.on hb); have HHS1 := Lib.hid (HHS.out.on hb)
    clear hb b0 b1 b2 b3
    obtain ⟨b0, b1, b2, b3⟩ := box4 HX1.out
    go_wp2_with fail
    refine (H0.out _).mono ?_
    rintro e w' ⟨rfl, rfl⟩
    go_wp2
    go_ret2
    exact ⟨0, 90, rfl, HZ.out, Or.inr (Or.inl ⟨HE.out.symm, by rw [← HM.out]; exact HP.out, rfl⟩), fun _ => rfl⟩
  | true =>
  have H0 := Lib.hid (within_any 0 wagon ((m : Int) - 1))
  rw [hg0] at H0
  obtain ⟨i, rfl, him⟩ := rng_nat hg0
  have hv := chk_val HE.out.symm
  obtain ⟨x, hx⟩ : ∃ x, ws[i]? = some x := ⟨_, List.getElem?_eq_getElem (by rw [← HM.out]; exact him)⟩
  have hwok := hv.wok x (List.mem_of_getElem? hx)
  obtain ⟨xty, xow, xho, xbu, xwo⟩ := x
  have hty : rng 0 xty ((ts.length : Int) - 1) = true := by
    unfold wOk at hwok
    simp only [Bool.and_eq_true] at hwok
    exact hwok.1
  obtain ⟨j, rfl, hjn⟩ := rng_nat hty
  obtain ⟨y, hy⟩ : ∃ y, ts[j]? = some y := ⟨_, List.getElem?_eq_getElem hjn⟩
  have hyo : y.ok := HTS.out.2.1 y (List.mem_of_getElem? hy)
  have hn32 : n ≤ 32 := by rw [HN.out]; exact hv.t
  rw [← HN.out] at hjn
  have HXX := Lib.hid hx; have HYY := Lib.hid hy; have HIM := Lib.hid him; have HJN := Lib.hid hjn
  have him2 : (i : Int) < (m : Int) := by omega
  have hjn2 : (j : Int) < (n : Int) := by omega
  clear hg0 hv hx hwok hty hy hjn him
  have HQ : Hid (∀ A E', (A, E') = worthV xwo xbu at0 y.li y.fl → QR ts ws ss hs (i : Int) (fun x y => (A, E') = worthV x.wo x.bu at0 y.li y.fl) E') := Lib.hid (fun A E' h => Or.inr (Or.inr ⟨HE.out.symm, i, j, _, y, rfl, HXX.out, rfl, HYY.out, h⟩))
  cases ha : rng 0 at0 1073741824 with
  | false =>
    have H1 := Lib.hid (within_any 0 at0 1073741824)
    rw [ha] at H1
    have HQ1 := Lib.hid (HQ.out 0 1 (by unfold worthV; rw [if_neg]; intro e; rw [rng_true e.2.2.1] at ha; cases ha))
    clear ha
    go_enter Try.func17, Try.ntmps17
    go_upto_region 1 with (fail)
    rw [← HW.out]
    clear HW
    go_wp2_with fail
    refine HC.out.mono ?_
    rintro e w1 ⟨rfl, hb⟩
    have HZ := Lib.hid (btrans HB.out hb)
    have HX1 := Lib.hid (bon HX.out hb); have HWS1 := Lib.hid (HWS.out.on hb); have HTS1 := Lib.hid (HTS.out.on hb); have HHS1 := Lib.hid (HHS.out.on hb)
    clear hb b0 b1 b2 b3
    obtain ⟨b0, b1, b2, b3⟩ := box4 HX1.out
    go_wp2_with fail
    refine (H0.out _).mono ?_
    rintro e w' ⟨rfl, rfl⟩
    go_wp2_with fail
    refine (H1.out _).mono ?_
    rintro e w' ⟨rfl, rfl⟩
    go_wp2
    go_ret2
    exact ⟨0, 1, rfl, HZ.out, HQ1.out, fun _ => rfl⟩
  | true =>
    have H1 := Lib.hid (within_any 0 at0 1073741824)
    rw [ha] at H1
    clear ha
    go_enter Try.func17, Try.ntmps17
    go_upto_region 1 with (fail)
    rw [← HW.out]
    clear HW
    go_wp2_with fail
    refine HC.out.mono ?_
    rintro e w1 ⟨rfl, hb⟩
    have HZ := Lib.hid (btrans HB.out hb)
    have HX1 := Lib.hid (bon HX.out hb); have HWS1 := Lib.hid (HWS.out.on hb); have HTS1 := Lib.hid (HTS.out.on hb); have HHS1 := Lib.hid (HHS.out.on hb)
    clear hb b0 b1 b2 b3
    obtain ⟨b0, b1, b2, b3⟩ := box4 HX1.out
    go_wp2_with fail
    refine (H0.out _).mono ?_
    rintro e w' ⟨rfl, rfl⟩
    go_wp2_with fail
    refine (H1.out _).mono ?_
    rintro e w' ⟨rfl, rfl⟩
    obtain ⟨gw, ow, x', rfl, hgw, hx', _, hrw, _⟩ := HWS1.out.pick i (by rw [← HM.out]; exact HIM.out)
    rw [HXX.out] at hx'
    cases hx'
    obtain ⟨gt, ot, y', rfl, hgt, hy', _, hrt, _⟩ := HTS1.out.pick j (by rw [← HN.out]; exact HJN.out)
    rw [HYY.out] at hy'
    cases hy'
    have HRW : Hid (w1.rangeAt gw (ow + i * 5) [.int .i64 (j : Int), .int .i64 xow, .int .i64 xho, .int .i64 xbu, .int .i64 xwo]) := Lib.hid hrw
    obtain ⟨ZB, hZB⟩ : ∃ ZB, ZB = w1.heap.size := ⟨_, rfl⟩
    obtain ⟨wx, hwx⟩ : ∃ wx, wx = w1.alloc (.cells #[.int .i64 (j : Int), .int .i64 xow, .int .i64 xho, .int .i64 xbu, .int .i64 xwo] 66) := ⟨_, rfl⟩
    have hbx : Below w1.heap.size w1 wx := by rw [hwx]; exact ball (Below.refl _ _) _
    have hwb : wx.heap[ZB]? = some (.cells #[.int .i64 (j : Int), .int .i64 xow, .int .i64 xho, .int .i64 xbu, .int .i64 xwo] 66 (0, 0)) := by rw [hwx, hZB]; exact bnew _ _
    have hrt2 := rangeAt_kept hrt (hbx.block gt hgt)
    obtain ⟨LI, hLI⟩ : ∃ L, L = y.li := ⟨_, rfl⟩
    obtain ⟨FL, hFL⟩ : ∃ L, L = y.fl := ⟨_, rfl⟩
    rw [← hLI, ← hFL] at HQ
    have h7s : ((wx.drew.cell? ⟨ZB, 0, none⟩ = some (.int .i64 (j : Int)) ∧ wx.drew.cell? ⟨ZB, 3, none⟩ = some (.int .i64 xbu) ∧ wx.drew.cell? ⟨ZB, 4, none⟩ = some (.int .i64 xwo)) ∧ wx.drew.cell? ⟨w.heap.size, 0, none⟩ = some (.slice (some ⟨gt, ot, none⟩) n c1)) ∧ wx.drew.cell? ⟨gt, ot + j * 8 + 6, none⟩ = some (.int .i64 LI) ∧ wx.drew.cell? ⟨gt, ot + j * 8 + 7, none⟩ = some (.int .i64 FL) := by
      refine ⟨⟨⟨?_, ?_, ?_⟩, ?_⟩, ?_, ?_⟩
      · show wx.cell? _ = _; rw [cell_of_row wx _ 0 _ 66 (0, 0) hwb]; rfl
      · show wx.cell? _ = _; rw [cell_of_row wx _ 3 _ 66 (0, 0) hwb]; rfl
      · show wx.cell? _ = _; rw [cell_of_row wx _ 4 _ 66 (0, 0) hwb]; rfl
      · exact (box4 (bon HX1.out hbx)).1
      · rw [hLI]; exact hrt2 6 _ rfl
      · rw [hFL]; exact hrt2 7 _ rfl
    obtain ⟨A, E', hAE⟩ : ∃ A E', (A, E') = worthV xwo xbu at0 LI FL := ⟨_, _, rfl⟩
    have hcw := rworth_any xwo xbu at0 LI FL wx.drew
    rw [← hAE] at hcw
    simp only at hcw
    have HCW := Lib.hid hcw
    have HAZ := Lib.hid (worthV_z hAE)
    have HQ1 := Lib.hid (HQ.out A E' hAE); have HWX := Lib.hid hwx; have HZ2 := Lib.hid (btrans HZ.out hbx).drew; have HZB := Lib.hid hZB
    clear hgw hrw hgt hrt hbx hwb hrt2 hLI hFL hAE hcw hwx hyo
    go_upto_region 9 with (refine wpList_load_mid rfl 66 (.tmp 28) rfl gw (ow + i * 5) rfl [.int .i64 (j : Int), .int .i64 xow, .int .i64 xho, .int .i64 xbu, .int .i64 xwo] _ HRW.out Try.underlying66 rfl (by kernel_rfl) ?_)
    rw [← HWX.out]
    rw [← HZB.out]
    clear b0 b1 b2 b3 hZB
    refine wp_region_held_drew (S := fun w' => ((w'.cell? ⟨ZB, 0, none⟩ = some (.int .i64 (j : Int)) ∧ w'.cell? ⟨ZB, 3, none⟩ = some (.int .i64 xbu) ∧ w'.cell? ⟨ZB, 4, none⟩ = some (.int .i64 xwo)) ∧ w'.cell? ⟨w.heap.size, 0, none⟩ = some (.slice (some ⟨gt, ot, none⟩) n c1)) ∧ w'.cell? ⟨gt, ot + j * 8 + 6, none⟩ = some (.int .i64 LI) ∧ w'.cell? ⟨gt, ot + j * 8 + 7, none⟩ = some (.int .i64 FL)) (by kernel_rfl) h7s (fun hHeld => ?_)
    change wpAnyH _ _ _ _ _ 24 #[false, false, false, false, false, false, false, false, false, false, false, false, false, false, false, false, false, false, false, false, false, false, false, false] _ _
    refine wpAnyH_take (i := 0) (oi := _) (v := .pointer (some ⟨ZB, 4, none⟩)) rfl (by kernel_rfl) (by kernel_rfl) (by kernel_rfl) (fun _ _ _ h => h) (Or.inl ⟨by rfl, fun wx hSw => ?_⟩) (by assumption) ?_
    · go_simp
      try (first | omega | (rw [IntKind.wrap_i64]; omega))
    (try simp only [Act.put, List.setIfInBounds_toArray, List.set_cons_zero, List.set_cons_succ, List.getElem_toArray, List.getElem_cons_zero, List.getElem_cons_succ])
    refine wpAnyH_take (i := 1) (oi := _) (v := .int .i64 xwo) rfl (by kernel_rfl) (by kernel_rfl) (by kernel_rfl) (fun _ _ _ h => h) (Or.inl ⟨by rfl, fun wx hSw => ?_⟩) (by assumption) ?_
    · go_simp
      try (first | omega | (rw [IntKind.wrap_i64]; omega))
    (try simp only [Act.put, List.setIfInBounds_toArray, List.set_cons_zero, List.set_cons_succ, List.getElem_toArray, List.getElem_cons_zero, List.getElem_cons_succ])
    refine wpAnyH_take (i := 2) (oi := _) (v := .pointer (some ⟨ZB, 3, none⟩)) rfl (by kernel_rfl) (by kernel_rfl) (by kernel_rfl) (fun _ _ _ h => h) (Or.inl ⟨by rfl, fun wx hSw => ?_⟩) (by assumption) ?_
    · go_simp
      try (first | omega | (rw [IntKind.wrap_i64]; omega))
    (try simp only [Act.put, List.setIfInBounds_toArray, List.set_cons_zero, List.set_cons_succ, List.getElem_toArray, List.getElem_cons_zero, List.getElem_cons_succ])
    refine wpAnyH_take (i := 3) (oi := _) (v := .int .i64 xbu) rfl (by kernel_rfl) (by kernel_rfl) (by kernel_rfl) (fun _ _ _ h => h) (Or.inl ⟨by rfl, fun wx hSw => ?_⟩) (by assumption) ?_
    · go_simp
      try (first | omega | (rw [IntKind.wrap_i64]; omega))
    (try simp only [Act.put, List.setIfInBounds_toArray, List.set_cons_zero, List.set_cons_succ, List.getElem_toArray, List.getElem_cons_zero, List.getElem_cons_succ])
    refine wpAnyH_take (i := 4) (oi := _) (v := .int .i64 at0) rfl (by kernel_rfl) (by kernel_rfl) (by kernel_rfl) (fun _ _ _ h => h) (Or.inl ⟨by rfl, fun wx hSw => ?_⟩) (by assumption) ?_
    · go_simp
      try (first | omega | (rw [IntKind.wrap_i64]; omega))
    (try simp only [Act.put, List.setIfInBounds_toArray, List.set_cons_zero, List.set_cons_succ, List.getElem_toArray, List.getElem_cons_zero, List.getElem_cons_succ])
    refine wpAnyH_take (i := 5) (oi := _) (v := .pointer (some ⟨w.heap.size, 0, none⟩)) rfl (by kernel_rfl) (by kernel_rfl) (by kernel_rfl) (fun _ _ _ h => h) (Or.inl ⟨by rfl, fun wx hSw => ?_⟩) (by assumption) ?_
    · go_simp
      try (first | omega | (rw [IntKind.wrap_i64]; omega))
    (try simp only [Act.put, List.setIfInBounds_toArray, List.set_cons_zero, List.set_cons_succ, List.getElem_toArray, List.getElem_cons_zero, List.getElem_cons_succ])
    refine wpAnyH_take (i := 6) (oi := _) (v := .slice (some ⟨gt, ot, none⟩) n c1) rfl (by kernel_rfl) (by kernel_rfl) (by kernel_rfl) (fun _ _ _ h => h) (Or.inl ⟨by rfl, fun wx hSw => ?_⟩) (by assumption) ?_
    · go_simp
      try (first | omega | (rw [IntKind.wrap_i64]; omega))
    (try simp only [Act.put, List.setIfInBounds_toArray, List.set_cons_zero, List.set_cons_succ, List.getElem_toArray, List.getElem_cons_zero, List.getElem_cons_succ])
    refine wpAnyH_take (i := 7) (oi := _) (v := .pointer (some ⟨ZB, 0, none⟩)) rfl (by kernel_rfl) (by kernel_rfl) (by kernel_rfl) (fun _ _ _ h => h) (Or.inl ⟨by rfl, fun wx hSw => ?_⟩) (by assumption) ?_
    · go_simp
      try (first | omega | (rw [IntKind.wrap_i64]; omega))
    (try simp only [Act.put, List.setIfInBounds_toArray, List.set_cons_zero, List.set_cons_succ, List.getElem_toArray, List.getElem_cons_zero, List.getElem_cons_succ])
    refine wpAnyH_take (i := 8) (oi := _) (v := .int .i64 (j : Int)) rfl (by kernel_rfl) (by kernel_rfl) (by kernel_rfl) (fun _ _ _ h => h) (Or.inl ⟨by rfl, fun wx hSw => ?_⟩) (by assumption) ?_
    · go_simp
      try (first | omega | (rw [IntKind.wrap_i64]; omega))
    (try simp only [Act.put, List.setIfInBounds_toArray, List.set_cons_zero, List.set_cons_succ, List.getElem_toArray, List.getElem_cons_zero, List.getElem_cons_succ])
    refine wpAnyH_take (i := 9) (oi := _) (v := .pointer (some ⟨gt, ot + j * 8, none⟩)) rfl (by kernel_rfl) (by kernel_rfl) (by kernel_rfl) (fun _ _ _ h => h) (Or.inl ⟨by rfl, fun wx hSw => ?_⟩) (by assumption) ?_
    · go_simp
      try (first | omega | (rw [IntKind.wrap_i64]; omega))
    (try simp only [Act.put, List.setIfInBounds_toArray, List.set_cons_zero, List.set_cons_succ, List.getElem_toArray, List.getElem_cons_zero, List.getElem_cons_succ])
    refine wpAnyH_take (i := 10) (oi := _) (v := .pointer (some ⟨gt, ot + j * 8 + 6, none⟩)) rfl (by kernel_rfl) (by kernel_rfl) (by kernel_rfl) (fun _ _ _ h => h) (Or.inl ⟨by rfl, fun wx hSw => ?_⟩) (by assumption) ?_
    · go_simp
      try (first | omega | (rw [IntKind.wrap_i64]; omega))
    (try simp only [Act.put, List.setIfInBounds_toArray, List.set_cons_zero, List.set_cons_succ, List.getElem_toArray, List.getElem_cons_zero, List.getElem_cons_succ])
    refine wpAnyH_take (i := 11) (oi := _) (v := .int .i64 LI) rfl (by kernel_rfl) (by kernel_rfl) (by kernel_rfl) (fun _ _ _ h => h) (Or.inl ⟨by rfl, fun wx hSw => ?_⟩) (by assumption) ?_
    · go_simp
      try (first | omega | (rw [IntKind.wrap_i64]; omega))
    (try simp only [Act.put, List.setIfInBounds_toArray, List.set_cons_zero, List.set_cons_succ, List.getElem_toArray, List.getElem_cons_zero, List.getElem_cons_succ])
    refine wpAnyH_take (i := 12) (oi := _) (v := .pointer (some ⟨w.heap.size, 0, none⟩)) rfl (by kernel_rfl) (by kernel_rfl) (by kernel_rfl) (fun _ _ _ h => h) (Or.inl ⟨by rfl, fun wx hSw => ?_⟩) (by assumption) ?_
    · go_simp
      try (first | omega | (rw [IntKind.wrap_i64]; omega))
    (try simp only [Act.put, List.setIfInBounds_toArray, List.set_cons_zero, List.set_cons_succ, List.getElem_toArray, List.getElem_cons_zero, List.getElem_cons_succ])
    refine wpAnyH_take (i := 13) (oi := _) (v := .slice (some ⟨gt, ot, none⟩) n c1) rfl (by kernel_rfl) (by kernel_rfl) (by kernel_rfl) (fun _ _ _ h => h) (Or.inl ⟨by rfl, fun wx hSw => ?_⟩) (by assumption) ?_
    · go_simp
      try (first | omega | (rw [IntKind.wrap_i64]; omega))
    (try simp only [Act.put, List.setIfInBounds_toArray, List.set_cons_zero, List.set_cons_succ, List.getElem_toArray, List.getElem_cons_zero, List.getElem_cons_succ])
    refine wpAnyH_take (i := 14) (oi := _) (v := .pointer (some ⟨ZB, 0, none⟩)) rfl (by kernel_rfl) (by kernel_rfl) (by kernel_rfl) (fun _ _ _ h => h) (Or.inl ⟨by rfl, fun wx hSw => ?_⟩) (by assumption) ?_
    · go_simp
      try (first | omega | (rw [IntKind.wrap_i64]; omega))
    (try simp only [Act.put, List.setIfInBounds_toArray, List.set_cons_zero, List.set_cons_succ, List.getElem_toArray, List.getElem_cons_zero, List.getElem_cons_succ])
    refine wpAnyH_take (i := 15) (oi := _) (v := .int .i64 (j : Int)) rfl (by kernel_rfl) (by kernel_rfl) (by kernel_rfl) (fun _ _ _ h => h) (Or.inl ⟨by rfl, fun wx hSw => ?_⟩) (by assumption) ?_
    · go_simp
      try (first | omega | (rw [IntKind.wrap_i64]; omega))
    (try simp only [Act.put, List.setIfInBounds_toArray, List.set_cons_zero, List.set_cons_succ, List.getElem_toArray, List.getElem_cons_zero, List.getElem_cons_succ])
    refine wpAnyH_take (i := 16) (oi := _) (v := .pointer (some ⟨gt, ot + j * 8, none⟩)) rfl (by kernel_rfl) (by kernel_rfl) (by kernel_rfl) (fun _ _ _ h => h) (Or.inl ⟨by rfl, fun wx hSw => ?_⟩) (by assumption) ?_
    · go_simp
      try (first | omega | (rw [IntKind.wrap_i64]; omega))
    (try simp only [Act.put, List.setIfInBounds_toArray, List.set_cons_zero, List.set_cons_succ, List.getElem_toArray, List.getElem_cons_zero, List.getElem_cons_succ])
    refine wpAnyH_take (i := 17) (oi := _) (v := .pointer (some ⟨gt, ot + j * 8 + 7, none⟩)) rfl (by kernel_rfl) (by kernel_rfl) (by kernel_rfl) (fun _ _ _ h => h) (Or.inl ⟨by rfl, fun wx hSw => ?_⟩) (by assumption) ?_
    · go_simp
      try (first | omega | (rw [IntKind.wrap_i64]; omega))
    (try simp only [Act.put, List.setIfInBounds_toArray, List.set_cons_zero, List.set_cons_succ, List.getElem_toArray, List.getElem_cons_zero, List.getElem_cons_succ])
    refine wpAnyH_take (i := 18) (oi := _) (v := .int .i64 FL) rfl (by kernel_rfl) (by kernel_rfl) (by kernel_rfl) (fun _ _ _ h => h) (Or.inl ⟨by rfl, fun wx hSw => ?_⟩) (by assumption) ?_
    · go_simp
      try (first | omega | (rw [IntKind.wrap_i64]; omega))
    (try simp only [Act.put, List.setIfInBounds_toArray, List.set_cons_zero, List.set_cons_succ, List.getElem_toArray, List.getElem_cons_zero, List.getElem_cons_succ])
    refine wpAnyH_ready (rs := [19]) (by kernel_rfl) (by simp) ?_
    refine AllReadyH.cons (o := _) rfl (fun K hK => ?_) AllReadyH.nil
    go_simp
    refine HCW.out.mono ?_
    rintro e v0 ⟨rfl, rfl⟩
    go_wp2_with fail
    refine hK.out _ _ (h7s) (fun hHeld => ?_)
    clear hK K
    (try simp only [Act.put, List.setIfInBounds_toArray, List.set_cons_zero, List.set_cons_succ, List.getElem_toArray, List.getElem_cons_zero, List.getElem_cons_succ])
    refine wpAnyH_take (i := 20) (oi := _) (v := .int .i64 A) rfl (by kernel_rfl) (by kernel_rfl) (by kernel_rfl) (fun _ _ _ h => h) (Or.inl ⟨by rfl, fun wx hSw => ?_⟩) (by assumption) ?_
    · go_simp
      try (first | omega | (rw [IntKind.wrap_i64]; omega))
    (try simp only [Act.put, List.setIfInBounds_toArray, List.set_cons_zero, List.set_cons_succ, List.getElem_toArray, List.getElem_cons_zero, List.getElem_cons_succ])
    refine wpAnyH_take (i := 21) (oi := _) (v := .int .i64 E') rfl (by kernel_rfl) (by kernel_rfl) (by kernel_rfl) (fun _ _ _ h => h) (Or.inl ⟨by rfl, fun wx hSw => ?_⟩) (by assumption) ?_
    · go_simp
      try (first | omega | (rw [IntKind.wrap_i64]; omega))
    (try simp only [Act.put, List.setIfInBounds_toArray, List.set_cons_zero, List.set_cons_succ, List.getElem_toArray, List.getElem_cons_zero, List.getElem_cons_succ])
    refine wpAnyH_take (i := 22) (oi := _) (v := .int .i64 A) rfl (by kernel_rfl) (by kernel_rfl) (by kernel_rfl) (fun _ _ _ h => h) (Or.inl ⟨by rfl, fun wx hSw => ?_⟩) (by assumption) ?_
    · go_simp
      try (first | omega | (rw [IntKind.wrap_i64]; omega))
    (try simp only [Act.put, List.setIfInBounds_toArray, List.set_cons_zero, List.set_cons_succ, List.getElem_toArray, List.getElem_cons_zero, List.getElem_cons_succ])
    refine wpAnyH_take (i := 23) (oi := _) (v := .int .i64 E') rfl (by kernel_rfl) (by kernel_rfl) (by kernel_rfl) (fun _ _ _ h => h) (Or.inl ⟨by rfl, fun wx hSw => ?_⟩) (by assumption) ?_
    · go_simp
      try (first | omega | (rw [IntKind.wrap_i64]; omega))
    (try simp only [Act.put, List.setIfInBounds_toArray, List.set_cons_zero, List.set_cons_succ, List.getElem_toArray, List.getElem_cons_zero, List.getElem_cons_succ])
    refine wpAnyH_done (by kernel_rfl) ?_ _
    clear hHeld
    clear h7s
    go_wp2
    go_ret2
    exact ⟨A, E', rfl, HZ2.out, HQ1.out, HAZ.out⟩
set_option maxRecDepth 100000 in
set_option maxHeartbeats 8000000 in
theorem rfits_any {V : Value} {ts : List Ty} {ws : List Wn} {ss : List Sw} {hs : List Wh} {w : World} (hf : Fl w V ts ws ss hs) (wagon c wt : Int) :
    Calls Try.prog 21 #[V, .int .i64 wagon, .int .i64 c, .int .i64 wt] w fun e w' => ∃ E, e = .returned (.int .i64 E) ∧ Below w.heap.size w w' ∧ QR ts ws ss hs wagon (fun _ y => E = fitE y c wt) E := by
  obtain ⟨a1, c1, a2, c2, a3, c3, a4, c4, rfl, g1, g2, g3, g4⟩ := hf.shape
  obtain ⟨n, hn⟩ : ∃ n, n = ts.length := ⟨_, rfl⟩
  obtain ⟨m, hm⟩ : ∃ m, m = ws.length := ⟨_, rfl⟩
  obtain ⟨k, hk⟩ : ∃ k, k = ss.length := ⟨_, rfl⟩
  obtain ⟨h, hh⟩ : ∃ h, h = hs.length := ⟨_, rfl⟩
  rw [← hn, ← hm, ← hk, ← hh] at hf ⊢
  obtain ⟨W, hW⟩ : ∃ W, W = w.alloc (.cells #[.slice a1 n c1, .slice a2 m c2, .slice a3 k c3, .slice a4 h c4] 27) := ⟨_, rfl⟩
  have hB : Below w.heap.size w W := by rw [hW]; exact ball (Below.refl w.heap.size w) _
  have hr : W.heap[w.heap.size]? = some (.cells #[.slice a1 n c1, .slice a2 m c2, .slice a3 k c3, .slice a4 h c4] 27 (0, 0)) := by rw [hW]; exact bnew _ _
  have hlh := g4.1
  have hlm := g2.1
  rw [← hh] at hlh
  rw [← hm] at hlm
  obtain ⟨E, hE⟩ : ∃ E, E = chk ts ws ss hs := ⟨_, rfl⟩
  have HC := Lib.hid (rcheck_any (hf.on hB) E hE)
  rw [← hh] at g4
  rw [← hm] at g2
  rw [← hn] at g1
  have HHS := Lib.hid (g4.on hB); have HH := Lib.hid hh; have HM := Lib.hid hm; have HN := Lib.hid hn; have HWS := Lib.hid (g2.on hB); have HTS := Lib.hid (g1.on hB)
  have HW := Lib.hid hW; have HB := Lib.hid hB; have HX := Lib.hid hr; have HE := Lib.hid hE
  obtain ⟨b0, b1, b2, b3⟩ := box4 hr
  clear hf hW hB hr hn hm hk hh g1 g2 g3 g4 hE
  by_cases hE0 : E = 0
  rotate_left
  · have d0 : (E != 0) = true := by simpa using hE0
    have HE0 := Lib.hid hE0
    clear hE0
    go_enter Try.func21, Try.ntmps21
    go_upto_region 1 with (fail)
    rw [← HW.out]
    clear HW
    go_wp2_with fail
    refine HC.out.mono ?_
    rintro e w1 ⟨rfl, hb⟩
    have HZ := Lib.hid (btrans HB.out hb)
    have HX1 := Lib.hid (bon HX.out hb); have HWS1 := Lib.hid (HWS.out.on hb); have HTS1 := Lib.hid (HTS.out.on hb); have HHS1 := Lib.hid (HHS.out.on hb)
    clear hb b0 b1 b2 b3
    obtain ⟨b0, b1, b2, b3⟩ := box4 HX1.out
    go_wp2
    go_ret
    exact ⟨E, rfl, HZ.out, Or.inl ⟨by rw [← HE.out]; exact HE0.out, HE.out⟩⟩
  subst hE0
  have hwr : IntKind.i64.wrap ((m : Int) - 1) = (m : Int) - 1 := wrap_in (by omega) (by omega)
  cases hg0 : rng 0 wagon ((m : Int) - 1) with
  | false =>
    have H0 := Lib.hid (within_any 0 wagon ((m : Int) - 1))
    rw [hg0] at H0
    have HP := Lib.hid hg0
    clear hg0
    go_enter Try.func21, Try.ntmps21
    go_upto_region 1 with (fail)
    rw [← HW.out]
    clear HW
    go_wp2_with fail
    refine HC.out.mono ?_
    rintro e w1 ⟨rfl, hb⟩
    have HZ := Lib.hid (btrans HB.out hb)
    have HX1 := Lib.hid (bon HX.out hb); have HWS1 := Lib.hid (HWS.out.on hb); have HTS1 := Lib.hid (HTS.out.on hb); have HHS1 := Lib.hid (HHS.out.on hb)
    clear hb b0 b1 b2 b3
    obtain ⟨b0, b1, b2, b3⟩ := box4 HX1.out
    go_wp2_with fail
    refine (H0.out _).mono ?_
    rintro e w' ⟨rfl, rfl⟩
    go_wp2
    go_ret
    exact ⟨90, rfl, HZ.out, Or.inr (Or.inl ⟨HE.out.symm, by rw [← HM.out]; exact HP.out, rfl⟩)⟩
  | true =>
  have H0 := Lib.hid (within_any 0 wagon ((m : Int) - 1))
  rw [hg0] at H0
  obtain ⟨i, rfl, him⟩ := rng_nat hg0
  have hv := chk_val HE.out.symm
  obtain ⟨x, hx⟩ : ∃ x, ws[i]? = some x := ⟨_, List.getElem?_eq_getElem (by rw [← HM.out]; exact him)⟩
  have hwok := hv.wok x (List.mem_of_getElem? hx)
  obtain ⟨xty, xow, xho, xbu, xwo⟩ := x
  have hty : rng 0 xty ((ts.length : Int) - 1) = true := by
    unfold wOk at hwok
    simp only [Bool.and_eq_true] at hwok
    exact hwok.1
  obtain ⟨j, rfl, hjn⟩ := rng_nat hty
  obtain ⟨y, hy⟩ : ∃ y, ts[j]? = some y := ⟨_, List.getElem?_eq_getElem hjn⟩
  have hyo : y.ok := HTS.out.2.1 y (List.mem_of_getElem? hy)
  have hn32 : n ≤ 32 := by rw [HN.out]; exact hv.t
  rw [← HN.out] at hjn
  have HXX := Lib.hid hx; have HYY := Lib.hid hy; have HIM := Lib.hid him; have HJN := Lib.hid hjn
  have him2 : (i : Int) < (m : Int) := by omega
  have hjn2 : (j : Int) < (n : Int) := by omega
  clear hg0 hv hx hwok hty hy hjn him
  have HQ : Hid (∀ E', E' = fitE y c wt → QR ts ws ss hs (i : Int) (fun _ y => E' = fitE y c wt) E') := Lib.hid (fun E' h => Or.inr (Or.inr ⟨HE.out.symm, i, j, _, y, rfl, HXX.out, rfl, HYY.out, h⟩))
  go_enter Try.func21, Try.ntmps21
  go_upto_region 1 with (fail)
  rw [← HW.out]
  clear HW
  go_wp2_with fail
  refine HC.out.mono ?_
  rintro e w1 ⟨rfl, hb⟩
  have HZ := Lib.hid (btrans HB.out hb)
  have HX1 := Lib.hid (bon HX.out hb); have HWS1 := Lib.hid (HWS.out.on hb); have HTS1 := Lib.hid (HTS.out.on hb); have HHS1 := Lib.hid (HHS.out.on hb)
  clear hb b0 b1 b2 b3
  obtain ⟨b0, b1, b2, b3⟩ := box4 HX1.out
  go_wp2_with fail
  refine (H0.out _).mono ?_
  rintro e w' ⟨rfl, rfl⟩
  obtain ⟨gw, ow, x', rfl, hgw, hx', _, hrw, _⟩ := HWS1.out.pick i (by rw [← HM.out]; exact HIM.out)
  rw [HXX.out] at hx'
  cases hx'
  obtain ⟨gt, ot, y', rfl, hgt, hy', _, hrt, _⟩ := HTS1.out.pick j (by rw [← HN.out]; exact HJN.out)
  rw [HYY.out] at hy'
  cases hy'
  obtain ⟨wz, hwz⟩ : ∃ wz, wz = w1.drew.alloc (.cells Z68 68) := ⟨_, rfl⟩
  obtain ⟨wx, hwx⟩ : ∃ wx, wx = wz.setRow w1.heap.size y.cs.toArray := ⟨_, rfl⟩
  have hZd : w1.drew.heap.size = w1.heap.size := rfl
  have hbz : Below w1.heap.size w1 wz := by rw [hwz]; exact ball (Below.refl w1.heap.size w1).drew _
  have hbx : Below w1.heap.size w1 wx := by rw [hwx]; exact bsetRow hbz (by omega) _
  have hzb : wz.heap[w1.heap.size]? = some (.cells Z68 68 (0, 0)) := by rw [hwz, ← hZd]; exact bnew _ _
  have hxb : wx.heap[w1.heap.size]? = some (.cells y.cs.toArray 68 (0, 0)) := by rw [hwx]; exact setRow_heap _ _ _ _ _ _ hzb
  have HFA : Hid (∀ w', Below w1.heap.size w1 w' → ((w'.cell? ⟨w.heap.size, 0, none⟩ = some (.slice (some ⟨gt, ot, none⟩) n c1) ∧ w'.cell? ⟨w.heap.size, 1, none⟩ = some (.slice (some ⟨gw, ow, none⟩) m c2)) ∧ w'.cell? ⟨gw, ow + i * 5, none⟩ = some (.int .i64 (j : Int))) ∧ w'.rangeAt gt (ot + j * 8) y.cs) := Lib.hid (fun w' hb => by
    obtain ⟨z0, z1, _, _⟩ := box4 (bon HX1.out hb)
    exact ⟨⟨⟨z0, z1⟩, rangeAt_kept hrw (hb.block gw hgw) 0 _ rfl⟩, rangeAt_kept hrt (hb.block gt hgt)⟩)
  have h7s := HFA.out w1.drew (Below.refl w1.heap.size w1).drew
  have h7z := HFA.out wz hbz
  have h7x := HFA.out wx hbx
  have hZ2 := btrans HZ.out hbx
  have HZ2 := Lib.hid hZ2; have HXB := Lib.hid hxb; have HZB := Lib.hid hzb; have HWX := Lib.hid hwx; have HWZ := Lib.hid hwz; have HYO := Lib.hid hyo; have HXX5 := Lib.hid (bon HX1.out hbx); have HZD := Lib.hid hZd
  clear hZ2 hgw hrw hgt hrt hbz hbx hzb hxb hwx hyo hwz hZd
  go_wp2_with fail
  refine wp_region_held_drew (S := fun w' => ((w'.cell? ⟨w.heap.size, 0, none⟩ = some (.slice (some ⟨gt, ot, none⟩) n c1) ∧ w'.cell? ⟨w.heap.size, 1, none⟩ = some (.slice (some ⟨gw, ow, none⟩) m c2)) ∧ w'.cell? ⟨gw, ow + i * 5, none⟩ = some (.int .i64 (j : Int))) ∧ w'.rangeAt gt (ot + j * 8) y.cs) (by kernel_rfl) h7s (fun hHeld => ?_)
  change wpAnyH _ _ _ _ _ 12 #[false, false, false, false, false, false, false, false, false, false, false, false] _ _
  refine wpAnyH_take (i := 0) (oi := _) (v := .pointer (some ⟨w.heap.size, 0, none⟩)) rfl (by kernel_rfl) (by kernel_rfl) (by kernel_rfl) (fun _ _ _ h => h) (Or.inl ⟨by rfl, fun wx hSw => ?_⟩) (by assumption) ?_
  · go_simp
    try (first | omega | (rw [IntKind.wrap_i64]; omega))
  (try simp only [Act.put, List.setIfInBounds_toArray, List.set_cons_zero, List.set_cons_succ, List.getElem_toArray, List.getElem_cons_zero, List.getElem_cons_succ])
  refine wpAnyH_take (i := 1) (oi := _) (v := .slice (some ⟨gt, ot, none⟩) n c1) rfl (by kernel_rfl) (by kernel_rfl) (by kernel_rfl) (fun _ _ _ h => h) (Or.inl ⟨by rfl, fun wx hSw => ?_⟩) (by assumption) ?_
  · go_simp
    try (first | omega | (rw [IntKind.wrap_i64]; omega))
  (try simp only [Act.put, List.setIfInBounds_toArray, List.set_cons_zero, List.set_cons_succ, List.getElem_toArray, List.getElem_cons_zero, List.getElem_cons_succ])
  refine wpAnyH_take (i := 2) (oi := _) (v := .pointer (some ⟨w.heap.size, 1, none⟩)) rfl (by kernel_rfl) (by kernel_rfl) (by kernel_rfl) (fun _ _ _ h => h) (Or.inl ⟨by rfl, fun wx hSw => ?_⟩) (by assumption) ?_
  · go_simp
    try (first | omega | (rw [IntKind.wrap_i64]; omega))
  (try simp only [Act.put, List.setIfInBounds_toArray, List.set_cons_zero, List.set_cons_succ, List.getElem_toArray, List.getElem_cons_zero, List.getElem_cons_succ])
  refine wpAnyH_take (i := 3) (oi := _) (v := .slice (some ⟨gw, ow, none⟩) m c2) rfl (by kernel_rfl) (by kernel_rfl) (by kernel_rfl) (fun _ _ _ h => h) (Or.inl ⟨by rfl, fun wx hSw => ?_⟩) (by assumption) ?_
  · go_simp
    try (first | omega | (rw [IntKind.wrap_i64]; omega))
  (try simp only [Act.put, List.setIfInBounds_toArray, List.set_cons_zero, List.set_cons_succ, List.getElem_toArray, List.getElem_cons_zero, List.getElem_cons_succ])
  refine wpAnyH_take (i := 4) (oi := _) (v := .int .i64 (i : Int)) rfl (by kernel_rfl) (by kernel_rfl) (by kernel_rfl) (fun _ _ _ h => h) (Or.inl ⟨by rfl, fun wx hSw => ?_⟩) (by assumption) ?_
  · go_simp
    try (first | omega | (rw [IntKind.wrap_i64]; omega))
  (try simp only [Act.put, List.setIfInBounds_toArray, List.set_cons_zero, List.set_cons_succ, List.getElem_toArray, List.getElem_cons_zero, List.getElem_cons_succ])
  refine wpAnyH_take (i := 5) (oi := _) (v := .pointer (some ⟨gw, ow + i * 5, none⟩)) rfl (by kernel_rfl) (by kernel_rfl) (by kernel_rfl) (fun _ _ _ h => h) (Or.inl ⟨by rfl, fun wx hSw => ?_⟩) (by assumption) ?_
  · go_simp
    try (first | omega | (rw [IntKind.wrap_i64]; omega))
  (try simp only [Act.put, List.setIfInBounds_toArray, List.set_cons_zero, List.set_cons_succ, List.getElem_toArray, List.getElem_cons_zero, List.getElem_cons_succ])
  refine wpAnyH_take (i := 6) (oi := _) (v := .pointer (some ⟨gw, ow + i * 5, none⟩)) rfl (by kernel_rfl) (by kernel_rfl) (by kernel_rfl) (fun _ _ _ h => h) (Or.inl ⟨by rfl, fun wx hSw => ?_⟩) (by assumption) ?_
  · go_simp
    try (first | omega | (rw [IntKind.wrap_i64]; omega))
  (try simp only [Act.put, List.setIfInBounds_toArray, List.set_cons_zero, List.set_cons_succ, List.getElem_toArray, List.getElem_cons_zero, List.getElem_cons_succ])
  refine wpAnyH_take (i := 7) (oi := _) (v := .int .i64 (j : Int)) rfl (by kernel_rfl) (by kernel_rfl) (by kernel_rfl) (fun _ _ _ h => h) (Or.inl ⟨by rfl, fun wx hSw => ?_⟩) (by assumption) ?_
  · go_simp
    try (first | omega | (rw [IntKind.wrap_i64]; omega))
  (try simp only [Act.put, List.setIfInBounds_toArray, List.set_cons_zero, List.set_cons_succ, List.getElem_toArray, List.getElem_cons_zero, List.getElem_cons_succ])
  refine wpAnyH_take (i := 8) (oi := _) (v := .pointer (some ⟨gt, ot + j * 8, none⟩)) rfl (by kernel_rfl) (by kernel_rfl) (by kernel_rfl) (fun _ _ _ h => h) (Or.inl ⟨by rfl, fun wx hSw => ?_⟩) (by assumption) ?_
  · go_simp
    try (first | omega | (rw [IntKind.wrap_i64]; omega))
  (try simp only [Act.put, List.setIfInBounds_toArray, List.set_cons_zero, List.set_cons_succ, List.getElem_toArray, List.getElem_cons_zero, List.getElem_cons_succ])
  refine wpAnyH_take (i := 9) (oi := _) (v := .agg y.cs.toArray) rfl (by kernel_rfl) (by kernel_rfl) (by kernel_rfl) (fun _ _ _ h => h) (Or.inl ⟨by rfl, fun wx hSw => ?_⟩) (by assumption) ?_
  · exact exec_load_mid 68 (.tmp 31) rfl gt (ot + j * 8) rfl y.cs _ hSw.2 Try.underlying68 rfl (sz68 y)
  (try simp only [Act.put, List.setIfInBounds_toArray, List.set_cons_zero, List.set_cons_succ, List.getElem_toArray, List.getElem_cons_zero, List.getElem_cons_succ])
  refine wpAnyH_ready (rs := [10]) (by kernel_rfl) (by simp) ?_
  refine AllReadyH.cons (o := _) rfl (fun K hK => ?_) AllReadyH.nil
  go_simp
  refine hK.out _ _ ((show _ from (by have h := h7z; rw [HWZ.out] at h; exact h))) (fun hHeld => ?_)
  clear hK K
  (try simp only [Act.put, List.setIfInBounds_toArray, List.set_cons_zero, List.set_cons_succ, List.getElem_toArray, List.getElem_cons_zero, List.getElem_cons_succ])
  refine wpAnyH_ready (rs := [11]) (by kernel_rfl) (by simp) ?_
  refine AllReadyH.cons (o := _) rfl (fun K hK => ?_) AllReadyH.nil
  rw [if_pos (show Region.wanted _ _ = true by rfl)]
  refine wp_store_row 68 (.tmp 10) (.tmp 32) rfl w1.heap.size y.cs.toArray rfl rfl 68 Z68 (by have h := HZB.out; rw [HWZ.out] at h; exact h) (sz68' y) rfl (all68 y) ?_
  refine hK.out _ _ ((show _ from (by have h := h7x; rw [HWX.out, HWZ.out] at h; exact h))) (fun hHeld => ?_)
  clear hK K
  (try simp only [Act.put, List.setIfInBounds_toArray, List.set_cons_zero, List.set_cons_succ, List.getElem_toArray, List.getElem_cons_zero, List.getElem_cons_succ])
  refine wpAnyH_done (by kernel_rfl) ?_ _
  clear hHeld
  have hwe : wx = (w1.alloc (.cells #[.int .i64 0, .int .i64 0, .int .i64 0, .int .i64 0, .int .i64 0, .int .u64 0, .int .i64 0, .int .i64 0] 68)).drew.setRow w1.heap.size y.cs.toArray := by rw [HWX.out, HWZ.out]; rfl
  rw [← hwe]
  clear hwe h7s h7z h7x
  have c0 : wx.cell? ⟨w1.heap.size, 0, none⟩ = some (.int .i64 y.ld) := by rw [cell_of_row _ _ 0 _ 68 (0, 0) HXB.out]; rfl
  have c5 : wx.cell? ⟨w1.heap.size, 5, none⟩ = some (.int .u64 y.cl) := by rw [cell_of_row _ _ 5 _ 68 (0, 0) HXB.out]; rfl
  have hcl := HYO.out
  unfold Ty.ok at hcl
  obtain ⟨C, hC⟩ : ∃ C : Nat, y.cl = (C : Int) := ⟨y.cl.toNat, by omega⟩
  obtain ⟨Y, hY⟩ : ∃ Y, Y = y.ld := ⟨_, rfl⟩
  rw [hC] at c5
  rw [← hY] at c0
  obtain ⟨R, hR⟩ : ∃ R, R = fitE y c wt := ⟨_, rfl⟩
  have hR2 : R = if rng 0 c 63 && (C / 2 ^ c.toNat % 2 == 1 && rng 0 wt Y) then 0 else 91 := by rw [hR]; unfold fitE bit; rw [hC, ← hY]; rfl
  have HRR := Lib.hid hR
  have hC64 : C < 18446744073709551616 := by omega
  clear hcl hC hY hR b0 b1 b2 b3
  cases hB0 : rng 0 c 63 with
  | false =>
    have H1 := Lib.hid (within_any 0 c 63)
    rw [hB0] at H1
    obtain rfl : R = 91 := by rw [hR2, hB0]; rfl
    clear hR2 hB0 c0 c5 hC64
    go_wp2_with fail
    refine (H1.out _).mono ?_
    rintro e w' ⟨rfl, rfl⟩
    go_wp2
    go_ret
    exact ⟨91, rfl, HZ2.out, HQ.out _ HRR.out⟩
  | true =>
    have H1 := Lib.hid (within_any 0 c 63)
    rw [hB0] at H1
    have hc := rng_iff.1 hB0
    obtain ⟨q, rfl⟩ : ∃ q : Nat, c = (q : Int) := ⟨c.toNat, by omega⟩
    obtain ⟨D, hD⟩ : ∃ D, D = C / 2 ^ q := ⟨_, rfl⟩
    have hD2 : (C : Int) / 2 ^ q = (D : Int) := by rw [hD]; simp
    have hmin : min q 64 = q := by omega
    have hand := and_one D (by rw [hD]; exact Nat.lt_of_le_of_lt (Nat.div_le_self _ _) hC64)
    rw [hB0, Int.toNat_natCast, ← hD] at hR2
    have hq0 : (0 : Int) ≤ (q : Int) := by omega
    have hq64 : (q : Int) < 64 := by omega
    clear hB0 hc hD hC64
    rcases Nat.mod_two_eq_zero_or_one D with hb | hb
    · rw [hb] at hand hR2
      obtain rfl : R = 91 := by rw [hR2]; rfl
      clear hR2 hb c0
      go_wp2_with fail
      refine (H1.out _).mono ?_
      rintro e w' ⟨rfl, rfl⟩
      go_wp2
      go_ret
      exact ⟨91, rfl, HZ2.out, HQ.out _ HRR.out⟩
    · rw [hb] at hand hR2
      cases hB1 : rng 0 wt Y with
      | false =>
        have H2 := Lib.hid (within_any 0 wt Y)
        rw [hB1] at H2
        obtain rfl : R = 91 := by rw [hR2, hB1]; rfl
        clear hR2 hb hB1
        go_wp2_with fail
        refine (H1.out _).mono ?_
        rintro e w' ⟨rfl, rfl⟩
        go_wp2_with fail
        refine (H2.out _).mono ?_
        rintro e w' ⟨rfl, rfl⟩
        go_wp2
        go_ret
        exact ⟨91, rfl, HZ2.out, HQ.out _ HRR.out⟩
      | true =>
        have H2 := Lib.hid (within_any 0 wt Y)
        rw [hB1] at H2
        obtain rfl : R = 0 := by rw [hR2, hB1]; rfl
        clear hR2 hb hB1
        go_wp2_with fail
        refine (H1.out _).mono ?_
        rintro e w' ⟨rfl, rfl⟩
        go_wp2_with fail
        refine (H2.out _).mono ?_
        rintro e w' ⟨rfl, rfl⟩
        go_wp2
        go_ret
        exact ⟨0, rfl, HZ2.out, HQ.out _ HRR.out⟩
end Go.Proofs.Ytijdjbkmkopmnaa
