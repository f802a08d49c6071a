/-
  Walks: Given of the reference.
-/
import Derived.Test.YtijdjbkmkopmnaaRd
namespace Go.Proofs.Ytijdjbkmkopmnaa
open Go.RowKit
set_option linter.unusedVariables false
set_option linter.unusedSimpArgs false

/-- The costs of a round in memory. -/
structure GD (w : World) (G : Nat) (wr : World) (D : List Int) : Prop where
  below : Below w.heap.size w wr
  rw : Rw 3 iz wr G D
theorem GD.on {w wr wr' : World} {G : Nat} {D : List Int} (h : GD w G wr D) (hb : Below wr.heap.size wr wr') : GD w G wr' D := ⟨btrans h.below hb, h.rw.on hb⟩
theorem gv_cut {es : List Tr} {f n : Nat} {L : List Nat} (hL : Least es f L) (ho : Oks n es) (hf : f < n) : ∀ k, n + k ≤ 32 → gv f L (n + k) = gv f L n
  | 0, _ => rfl
  | k + 1, h => by
    have ih := gv_cut hL ho hf k (by omega)
    show (if cv L (n + k) < 32000000000 then gv f L (n + k) ++ [⟨f, ((n + k : Nat) : Int), cv L (n + k)⟩] else gv f L (n + k)) = _
    rw [if_neg (fun hU => by have := hL.out ho hf (t := n + k) (by omega) hU; omega)]
    exact ih
theorem rf_start {n f : Nat} {L : List Nat} {es : List Tr} (hL : Least es f L) (hf : f < n) : Rf n f L 0 ((List.replicate n (-1)).set f 0) ∧ nf n L ((List.replicate n (-1)).set f 0) ≤ n := by
  have hl : f < (List.replicate n (-1 : Int)).length := by rw [List.length_replicate]; exact hf
  refine ⟨⟨by rw [List.length_set, List.length_replicate], by rw [dv_set hl, if_pos rfl], fun t ht => ?_⟩, ?_⟩
  · rw [dv_set hl]
    split
    · rename_i e
      subst e
      exact Or.inr ⟨by rw [hL.att.zero]; decide, by rw [hL.att.zero]; decide, by decide⟩
    · exact Or.inl (dv_rep n t)
  · unfold nf
    exact Nat.le_trans List.countP_le_length (by rw [List.length_range]; exact Nat.le_refl _)
theorem rx_neg {x : Tr} {D : List Int} (h : dv D x.a < 0) : rx x D = D := by unfold rx; rw [if_pos h]
theorem rx_set {x : Tr} {D : List Int} (h : ¬ dv D x.a < 0) (h2 : dv D x.b < 0 ∨ dv D x.a + x.c < dv D x.b) : rx x D = D.set x.b (dv D x.a + x.c) := by unfold rx; rw [if_neg h, if_pos h2]
theorem rx_same {x : Tr} {D : List Int} (h : ¬ dv D x.a < 0) (h2 : ¬ (dv D x.b < 0 ∨ dv D x.a + x.c < dv D x.b)) : rx x D = D := by unfold rx; rw [if_neg h, if_neg h2]

set_option maxRecDepth 100000 in
set_option maxHeartbeats 8000000 in
theorem rgiven_any {V : Value} {ts : List Ty} {ws : List Wn} {ss : List Sw} {hs : List Wh} {w : World} (hf : Fl w V ts ws ss hs) (wanted : Int)
    (hleast : chk ts ws ss hs = 0 → ∀ (f : Nat) (es : List Tr), wanted = (f : Int) → f < ts.length → ss = es.map toSw → ∃ L, Least es f L) :
    Calls Try.prog 13 #[V, .int .i64 wanted] w fun e w' => ∃ a kk cc l E, e = .returned (.tuple #[.slice a kk cc, .int .i64 E]) ∧ Below w.heap.size w w' ∧ Ss (fun k => k < w'.heap.size) w' (.slice a kk cc) l ∧ GR ts ws ss hs wanted l E := by
  obtain ⟨a1, c1, a2, c2, a3, c3, a4, c4, rfl, g1, g2, g3, g4⟩ := hf.shape
  obtain ⟨n, hn⟩ : ∃ n, n = ts.length := ⟨_, rfl⟩
  obtain ⟨m, hm⟩ : ∃ m, m = ws.length := ⟨_, rfl⟩
  obtain ⟨k, hk⟩ : ∃ k, k = ss.length := ⟨_, rfl⟩
  obtain ⟨h, hh⟩ : ∃ h, h = hs.length := ⟨_, rfl⟩
  rw [← hn, ← hm, ← hk, ← hh] at hf ⊢
  obtain ⟨W, hW⟩ : ∃ W, W = w.alloc (.cells #[.slice a1 n c1, .slice a2 m c2, .slice a3 k c3, .slice a4 h c4] 27) := ⟨_, rfl⟩
  have hB : Below w.heap.size w W := by rw [hW]; exact ball (Below.refl w.heap.size w) _
  have hr : W.heap[w.heap.size]? = some (.cells #[.slice a1 n c1, .slice a2 m c2, .slice a3 k c3, .slice a4 h c4] 27 (0, 0)) := by rw [hW]; exact bnew _ _
  have hlh := g4.1
  have hlm := g2.1
  rw [← hh] at hlh
  rw [← hm] at hlm
  obtain ⟨E, hE⟩ : ∃ E, E = chk ts ws ss hs := ⟨_, rfl⟩
  have HC := Lib.hid (rcheck_any (hf.on hB) E hE)
  have hln := g1.1
  rw [← hn] at hln
  rw [← hh] at g4
  rw [← hk] at g3
  rw [← hm] at g2
  rw [← hn] at g1
  have HHS := Lib.hid (g4.on hB); have HH := Lib.hid hh; have HM := Lib.hid hm; have HN := Lib.hid hn; have HWS := Lib.hid (g2.on hB); have HTS := Lib.hid (g1.on hB); have HSS := Lib.hid (g3.on hB); have HK := Lib.hid hk; have HLE := Lib.hid hleast
  have HW := Lib.hid hW; have HB := Lib.hid hB; have HX := Lib.hid hr; have HE := Lib.hid hE
  obtain ⟨b0, b1, b2, b3⟩ := box4 hr
  clear hleast hf hW hB hr hn hm hk hh g1 g2 g3 g4 hE
  by_cases hE0 : E = 0
  rotate_left
  · have d0 : (E != 0) = true := by simpa using hE0
    have HE0 := Lib.hid hE0
    clear hE0
    go_enter Try.func13, Try.ntmps13
    go_upto_region 1 with (fail)
    rw [← HW.out]
    clear HW
    go_wp2_with fail
    refine HC.out.mono ?_
    rintro e w1 ⟨rfl, hb⟩
    have HZ := Lib.hid (btrans HB.out hb)
    have HX1 := Lib.hid (bon HX.out hb); have HWS1 := Lib.hid (HWS.out.on hb); have HTS1 := Lib.hid (HTS.out.on hb); have HHS1 := Lib.hid (HHS.out.on hb)
    clear hb b0 b1 b2 b3
    obtain ⟨b0, b1, b2, b3⟩ := box4 HX1.out
    go_wp2
    go_ret2
    exact ⟨none, 0, 0, [], E, rfl, HZ.out, sk_nil _ _ _ _, Or.inl ⟨by rw [← HE.out]; exact HE0.out, HE.out, rfl⟩⟩
  subst hE0
  have hwr : IntKind.i64.wrap ((n : Int) - 1) = (n : Int) - 1 := wrap_in (by omega) (by omega)
  cases hg0 : rng 0 wanted ((n : Int) - 1) with
  | false =>
    have H0 := Lib.hid (within_any 0 wanted ((n : Int) - 1))
    rw [hg0] at H0
    have HP := Lib.hid hg0
    clear hg0
    go_enter Try.func13, Try.ntmps13
    go_upto_region 1 with (fail)
    rw [← HW.out]
    clear HW
    go_wp2_with fail
    refine HC.out.mono ?_
    rintro e w1 ⟨rfl, hb⟩
    have HZ := Lib.hid (btrans HB.out hb)
    have HX1 := Lib.hid (bon HX.out hb); have HSS1 := Lib.hid (HSS.out.on hb); have HTS1 := Lib.hid (HTS.out.on hb); have HHS1 := Lib.hid (HHS.out.on hb)
    clear hb b0 b1 b2 b3
    obtain ⟨b0, b1, b2, b3⟩ := box4 HX1.out
    go_wp2_with fail
    refine (H0.out _).mono ?_
    rintro e w' ⟨rfl, rfl⟩
    go_wp2
    go_ret2
    exact ⟨none, 0, 0, [], 90, rfl, HZ.out, sk_nil _ _ _ _, Or.inr (Or.inl ⟨HE.out.symm, by rw [← HN.out]; exact HP.out, rfl, rfl⟩)⟩
  | true =>
  have H0 := Lib.hid (within_any 0 wanted ((n : Int) - 1))
  rw [hg0] at H0
  obtain ⟨f, rfl, hfn⟩ := rng_nat hg0
  have hv := chk_val HE.out.symm
  obtain ⟨es, hes, ho⟩ := sok_trs hv.sok
  have hn32 : n ≤ 32 := by rw [HN.out]; exact hv.t
  have hke : k = es.length := by rw [HK.out, hes, List.length_map]
  have hk1024 : k ≤ 1024 := by rw [HK.out]; exact hv.s
  obtain ⟨L, hL⟩ := HLE.out HE.out.symm f es rfl (by rw [← HN.out]; exact hfn) hes
  rw [← HN.out] at ho
  have hf2 : (f : Int) < (n : Int) := by omega
  have HES := Lib.hid hes; have HO := Lib.hid ho; have HKE := Lib.hid hke; have HFN := Lib.hid hfn; have HL := Lib.hid hL
  clear hg0 hv hes ho hke hfn hL
  go_enter Try.func13, Try.ntmps13
  go_upto_region 1 with (fail)
  rw [← HW.out]
  clear HW
  go_wp2_with fail
  refine HC.out.mono ?_
  rintro e w1 ⟨rfl, hb⟩
  have HZ := Lib.hid (btrans HB.out hb)
  have HX1 := Lib.hid (bon HX.out hb); have HSS1 := Lib.hid (HSS.out.on hb); have HTS1 := Lib.hid (HTS.out.on hb); have HHS1 := Lib.hid (HHS.out.on hb)
  clear hb b0 b1 b2 b3
  obtain ⟨b0, b1, b2, b3⟩ := box4 HX1.out
  go_wp2_with fail
  refine (H0.out _).mono ?_
  rintro e w' ⟨rfl, rfl⟩
  obtain ⟨G, hG⟩ : ∃ G, G = w1.heap.size := ⟨_, rfl⟩
  obtain ⟨w4, h4⟩ : ∃ w4, w4 = w1.alloc (.cells (madeCells #[.int .i64 0] n) 3) := ⟨_, rfl⟩
  have hmk := made3 w1 n (by omega)
  rw [← hG, ← h4] at hmk
  have HR4 := Lib.hid (And.intro (show Below w1.heap.size w1 w4 by rw [h4]; exact ball (Below.refl _ _) _) (show Rw 3 iz w4 G (List.replicate 0 (-1) ++ List.replicate (n - 0) 0) by rw [h4, hG]; exact rw_made (f := iz) _ n 0)); have HGG := Lib.hid hG
  clear hG h4
  go_wp2
  clear hmk b0 b1 b2 b3
  go_loopw [8] (fun s8 wr => ∃ i : Nat, i ≤ n ∧ s8 = .int .i64 (i : Int) ∧ Hid (Below w1.heap.size w1 wr ∧ Rw 3 iz wr G (List.replicate i (-1) ++ List.replicate (n - i) 0))) (fun s8 _ => n - (intOf s8).toNat)
  case atStart => exact ⟨0, by omega, rfl, HR4⟩
  case round =>
    clear HR4
    obtain ⟨i, hi, rfl, HI⟩ := hrel
    by_cases hlt : i < n
    · have hlt2 : (i : Int) < (n : Int) := by omega
      have c0 : wr.cell? ⟨G, i, none⟩ = some (.int .i64 0) := HI.out.2.cell (rep_get n i (-1) 0 hlt)
      have f0 := HI.out.2.free i
      have h2 := HI.out.2.put i (-1)
      rw [rep_set n i (-1) 0 hlt] at h2
      have HI2 : Hid (Below w1.heap.size w1 (wr.setCell ⟨G, i, none⟩ (.int .i64 (-1))) ∧ Rw 3 iz (wr.setCell ⟨G, i, none⟩ (.int .i64 (-1))) G (List.replicate (i + 1) (-1) ++ List.replicate (n - (i + 1)) 0)) := Lib.hid ⟨Below.setCell HI.out.1 (by rw [HGG.out]; exact Nat.le_refl _) _, h2⟩
      clear h2 HI
      go_wp2
      clear c0 f0
      go_roundw
      case rel => exact ⟨i + 1, by omega, by go_num, HI2⟩
      case measure => simp [intOf]; omega
    obtain rfl : i = n := by omega
    have hlt2 : ¬ ((i : Int) < (i : Int)) := by omega
    have hr0 : Rw 3 iz wr G (List.replicate i (-1)) := by have := HI.out.2; rwa [Nat.sub_self, List.replicate_zero, List.append_nil] at this
    have c0 : wr.cell? ⟨G, f, none⟩ = some (.int .i64 (-1)) := hr0.cell (by rw [List.getElem?_replicate, if_pos HFN.out])
    have f0 := hr0.free f
    have hgd : GD w1 G (wr.setCell ⟨G, f, none⟩ (.int .i64 0)) ((List.replicate i (-1)).set f 0) := ⟨Below.setCell HI.out.1 (by rw [HGG.out]; exact Nat.le_refl _) _, hr0.put f 0⟩
    have HGD := Lib.hid hgd; have HRF := Lib.hid (rf_start HL.out HFN.out)
    clear hgd HI hlt hr0
    go_wp2
    clear c0 f0
    generalize wr.setCell ⟨G, f, none⟩ (.int .i64 0) = w5 at *
    go_loopw [9] (fun s9 wr => ∃ r : Nat, r ≤ i ∧ s9 = .int .i64 (r : Int) ∧ Hid (∃ D, GD w1 G wr D ∧ Rf i f L (r * (k * 1000000000)) D ∧ (nf i L D + r ≤ i ∨ nf i L D = 0))) (fun s9 _ => i - (intOf s9).toNat)
    case atStart => exact ⟨0, by omega, rfl, Lib.hid ⟨_, HGD.out, by rw [Nat.zero_mul]; exact HRF.out.1, Or.inl (by have := HRF.out.2; omega)⟩⟩
    case round =>
      clear HGD HRF
      obtain ⟨r, hr, rfl, HI⟩ := hrel
      obtain ⟨D0, hgd0, hrf0, hnf0⟩ := HI.out
      obtain ⟨b0, b1, b2, b3⟩ := box4 (bon HX1.out hgd0.below)
      by_cases hlt : r < i
      · have hlt2 : (r : Int) < (i : Int) := by omega
        have HRF0 := Lib.hid hrf0; have HNF0 := Lib.hid hnf0; have HGD0 := Lib.hid hgd0
        clear hgd0 hrf0 hnf0 HI
        go_wp2
        clear b0 b1 b2 b3
        go_loopw [10] (fun s10 wr => ∃ j : Nat, j ≤ k ∧ s10 = .int .i64 (j : Int) ∧ Hid (∃ D, GD w1 G wr D ∧ Rk es i f L (r * (k * 1000000000)) D0 j D)) (fun s10 _ => k - (intOf s10).toNat)
        case atStart => exact ⟨0, by omega, rfl, Lib.hid ⟨_, HGD0.out, Rk.start HRF0.out⟩⟩
        case round =>
          clear HGD0
          obtain ⟨j, hj, rfl, HJ⟩ := hrel
          obtain ⟨D, hgd, hrk⟩ := HJ.out
          obtain ⟨b0, b1, b2, b3⟩ := box4 (bon HX1.out hgd.below)
          by_cases hltj : j < k
          rotate_left
          · obtain rfl : j = k := by omega
            have hltj2 : ¬ ((j : Int) < (j : Int)) := by omega
            have HNX : Hid (∃ D, GD w1 G wr D ∧ Rf i f L ((r + 1) * (j * 1000000000)) D ∧ (nf i L D + (r + 1) ≤ i ∨ nf i L D = 0)) := Lib.hid ⟨D, hgd, by rw [Nat.add_mul, Nat.one_mul]; exact hrk.rf, by
              have hke := HKE.out
              have hd := Rk.done (by rw [← hke]; exact hrk) HRF0.out HL.out HO.out HFN.out hn32
              rcases hd with e | e
              · rcases HNF0.out with e2 | e2
                · exact Or.inl (by omega)
                · omega
              · exact Or.inr e⟩
            clear hgd hrk HJ hltj
            go_wp2
            go_roundw
            case rel => exact ⟨r + 1, by omega, by go_num, HNX⟩
            case measure => simp [intOf]; omega
          have hltj2 : (j : Int) < (k : Int) := by omega
          obtain ⟨x, hx⟩ : ∃ x, es[j]? = some x := ⟨_, List.getElem?_eq_getElem (by rw [← HKE.out]; exact hltj)⟩
          obtain ⟨xa, xb, xc⟩ := x
          have hxs : ss[j]? = some ⟨(xa : Int), (xb : Int), (xc : Int)⟩ := by rw [HES.out, List.getElem?_map, hx]; rfl
          have hk3 := HO.out _ (List.mem_of_getElem? hx)
          simp only at hk3
          obtain ⟨gs, os, y, rfl, hgs, hy, _, hra, _⟩ := (HSS1.out.on hgd.below).pick j (by rw [← HK.out]; exact hltj)
          rw [hxs] at hy
          cases hy
          have HRR : Hid (wr.rangeAt gs (os + j * 3) [.int .i64 (xa : Int), .int .i64 (xb : Int), .int .i64 (xc : Int)]) := Lib.hid hra
          obtain ⟨ZB, hZB⟩ : ∃ ZB, ZB = wr.heap.size := ⟨_, rfl⟩
          obtain ⟨wx, hwx⟩ : ∃ wx, wx = wr.alloc (.cells #[.int .i64 (xa : Int), .int .i64 (xb : Int), .int .i64 (xc : Int)] 62) := ⟨_, rfl⟩
          have hbx : Below wr.heap.size wr wx := by rw [hwx]; exact ball (Below.refl _ _) _
          have hwb : wx.heap[ZB]? = some (.cells #[.int .i64 (xa : Int), .int .i64 (xb : Int), .int .i64 (xc : Int)] 62 (0, 0)) := by rw [hwx, hZB]; exact bnew _ _
          have hgx := hgd.on hbx
          have e0 : wx.cell? ⟨ZB, 0, none⟩ = some (.int .i64 (xa : Int)) := by rw [cell_of_row wx _ 0 _ 62 (0, 0) hwb]; rfl
          have e1 : wx.cell? ⟨ZB, 1, none⟩ = some (.int .i64 (xb : Int)) := by rw [cell_of_row wx _ 1 _ 62 (0, 0) hwb]; rfl
          have e2 : wx.cell? ⟨ZB, 2, none⟩ = some (.int .i64 (xc : Int)) := by rw [cell_of_row wx _ 2 _ 62 (0, 0) hwb]; rfl
          have hlen : D.length = i := hrk.rf.len
          have g0 : wx.cell? ⟨G, xa, none⟩ = some (.int .i64 (dv D xa)) := hgx.rw.cell (dv_get (by rw [hlen]; exact hk3.1))
          have g1 : wx.cell? ⟨G, xb, none⟩ = some (.int .i64 (dv D xb)) := hgx.rw.cell (dv_get (by rw [hlen]; exact hk3.2.1))
          have f1 := hgx.rw.free xb
          have xa2 : (xa : Int) < (i : Int) := by omega
          have xb2 : (xb : Int) < (i : Int) := by omega
          have hst := hrk.step HL.out HO.out HFN.out hn32 hx
          have hlow := hrk.rf.low xa hk3.1
          have hlowb := hrk.rf.low xb hk3.2.1
          have hB1 : r * (k * 1000000000) + j * 1000000000 ≤ 40000000000000 := by
            have h1 : r * (k * 1000000000) ≤ 32 * (k * 1000000000) := Nat.mul_le_mul_right _ (by omega)
            omega
          obtain ⟨X, hX⟩ : ∃ X, X = dv D xa := ⟨_, rfl⟩
          obtain ⟨Q, hQ⟩ : ∃ Q, Q = dv D xb := ⟨_, rfl⟩
          rw [← hX] at g0 hlow
          rw [← hQ] at g1 hlowb
          have hXb : -1 ≤ X ∧ X ≤ 40000000000000 := by rcases hlow with e | ⟨_, e, e'⟩ <;> omega
          have u1 : IntKind.i64.wrap (X + (xc : Int)) = X + (xc : Int) := wrap_in (by omega) (by omega)
          have hne : ZB ≠ G := by have := hgd.rw.lt; omega
          have HST := Lib.hid hst; have HGX := Lib.hid hgx; have HXQ := Lib.hid (And.intro hX hQ); have HWX := Lib.hid hwx; have HZB := Lib.hid hZB; have HNE := Lib.hid hne
          clear hgd hrk hx hxs hk3 hgs hra hbx hwb hgx hlen hst hlow hlowb hB1 hX hQ hXb hwx hne HJ hltj
          by_cases hX0 : X < 0
          · have d0 : decide (X < 0) = true := decide_eq_true hX0
            have HN2 : Hid (∃ D, GD w1 G wx D ∧ Rk es i f L (r * (k * 1000000000)) D0 (j + 1) D) := Lib.hid ⟨_, HGX.out, by have := HST.out; rwa [rx_neg (by show dv D xa < 0; rw [← HXQ.out.1]; exact hX0)] at this⟩
            clear hX0 HST f1 g1 u1
            go_upto_region 19 with (refine wpList_load_mid rfl 62 (.tmp 60) rfl gs (os + j * 3) rfl [.int .i64 (xa : Int), .int .i64 (xb : Int), .int .i64 (xc : Int)] _ HRR.out Try.underlying62 rfl (by kernel_rfl) ?_)
            rw [← HWX.out]
            rw [← HZB.out]
            clear b0 b1 b2 b3 hZB
            go_wp2
            clear e0 e1 e2 g0
            go_roundw
            case rel => exact ⟨j + 1, by omega, by go_num, HN2⟩
            case measure => simp [intOf]; omega
          have d0 : decide (X < 0) = false := decide_eq_false hX0
          have HX0 := Lib.hid hX0
          clear hX0
          by_cases hQ0 : Q < 0
          · have q0 : decide (Q < 0) = true := decide_eq_true hQ0
            have HRX : Hid (rx ⟨xa, xb, xc⟩ D = D.set xb (X + (xc : Int))) := Lib.hid (by rw [HXQ.out.1]; exact rx_set (x := ⟨xa, xb, xc⟩) (by show ¬ dv D xa < 0; rw [← HXQ.out.1]; exact HX0.out) (Or.inl (by show dv D xb < 0; rw [← HXQ.out.2]; exact hQ0)))
            clear hQ0
            go_upto_region 19 with (refine wpList_load_mid rfl 62 (.tmp 60) rfl gs (os + j * 3) rfl [.int .i64 (xa : Int), .int .i64 (xb : Int), .int .i64 (xc : Int)] _ HRR.out Try.underlying62 rfl (by kernel_rfl) ?_)
            rw [← HWX.out]
            rw [← HZB.out]
            clear b0 b1 b2 b3 hZB
            go_wp2_with fail
            go_quiet (fail)
            have e1' : (wx.drewN nq).cell? ⟨ZB, 1, none⟩ = some (.int .i64 (xb : Int)) := e1
            have g1' : (wx.drewN nq).cell? ⟨G, xb, none⟩ = some (.int .i64 Q) := g1
            have f1' : (wx.drewN nq).frozen? ⟨G, xb, none⟩ = false := f1
            have HG7 : Hid (∃ D, GD w1 G ((wx.drewN nq).setCell ⟨G, xb, none⟩ (.int .i64 (X + (xc : Int)))) D ∧ Rk es i f L (r * (k * 1000000000)) D0 (j + 1) D) := Lib.hid (by have h := HGX.out.on (bdrewN (Below.refl wx.heap.size wx) nq); exact ⟨_, ⟨Below.setCell h.below (by rw [HGG.out]; exact Nat.le_refl _) _, h.rw.put xb (X + (xc : Int))⟩, by have := HST.out; rwa [HRX.out] at this⟩)
            clear e0 e1 e2 g0 g1 f1 u1 d0
            generalize wx.drewN nq = w7 at *
            go_wp2
            clear e1' g1' f1'
            go_roundw
            case rel => exact ⟨j + 1, by omega, by go_num, HG7⟩
            case measure => simp [intOf]; omega
          have q0 : decide (Q < 0) = false := decide_eq_false hQ0
          have HQ0 := Lib.hid hQ0
          clear hQ0
          by_cases hle : X + (xc : Int) < Q
          · have q1 : decide (X + (xc : Int) < Q) = true := decide_eq_true hle
            have HRX : Hid (rx ⟨xa, xb, xc⟩ D = D.set xb (X + (xc : Int))) := Lib.hid (by rw [HXQ.out.1]; exact rx_set (x := ⟨xa, xb, xc⟩) (by show ¬ dv D xa < 0; rw [← HXQ.out.1]; exact HX0.out) (Or.inr (by show dv D xa + _ < dv D xb; rw [← HXQ.out.1, ← HXQ.out.2]; exact hle)))
            clear hle
            go_upto_region 19 with (refine wpList_load_mid rfl 62 (.tmp 60) rfl gs (os + j * 3) rfl [.int .i64 (xa : Int), .int .i64 (xb : Int), .int .i64 (xc : Int)] _ HRR.out Try.underlying62 rfl (by kernel_rfl) ?_)
            rw [← HWX.out]
            rw [← HZB.out]
            clear b0 b1 b2 b3 hZB
            go_wp2_with fail
            go_quiet (fail)
            have e1' : (wx.drewN nq).cell? ⟨ZB, 1, none⟩ = some (.int .i64 (xb : Int)) := e1
            have g1' : (wx.drewN nq).cell? ⟨G, xb, none⟩ = some (.int .i64 Q) := g1
            have f1' : (wx.drewN nq).frozen? ⟨G, xb, none⟩ = false := f1
            have HG7 : Hid (∃ D, GD w1 G ((wx.drewN nq).setCell ⟨G, xb, none⟩ (.int .i64 (X + (xc : Int)))) D ∧ Rk es i f L (r * (k * 1000000000)) D0 (j + 1) D) := Lib.hid (by have h := HGX.out.on (bdrewN (Below.refl wx.heap.size wx) nq); exact ⟨_, ⟨Below.setCell h.below (by rw [HGG.out]; exact Nat.le_refl _) _, h.rw.put xb (X + (xc : Int))⟩, by have := HST.out; rwa [HRX.out] at this⟩)
            clear e0 e1 e2 g0 g1 f1 u1 d0
            generalize wx.drewN nq = w7 at *
            go_wp2
            clear e1' g1' f1'
            go_roundw
            case rel => exact ⟨j + 1, by omega, by go_num, HG7⟩
            case measure => simp [intOf]; omega
          · have q1 : decide (X + (xc : Int) < Q) = false := decide_eq_false hle
            have HRX : Hid (rx ⟨xa, xb, xc⟩ D = D) := Lib.hid (rx_same (x := ⟨xa, xb, xc⟩) (by show ¬ dv D xa < 0; rw [← HXQ.out.1]; exact HX0.out) (by show ¬ (dv D xb < 0 ∨ dv D xa + _ < dv D xb); rw [← HXQ.out.1, ← HXQ.out.2]; rintro (e | e); exact HQ0.out e; exact hle e))
            clear hle
            have HN2 := Lib.hid (show ∃ D, Rk es i f L (r * (k * 1000000000)) D0 (j + 1) D ∧ GD w1 G wx D from ⟨D, by have := HST.out; rwa [HRX.out] at this, HGX.out⟩)
            go_upto_region 19 with (refine wpList_load_mid rfl 62 (.tmp 60) rfl gs (os + j * 3) rfl [.int .i64 (xa : Int), .int .i64 (xb : Int), .int .i64 (xc : Int)] _ HRR.out Try.underlying62 rfl (by kernel_rfl) ?_)
            rw [← HWX.out]
            rw [← HZB.out]
            clear b0 b1 b2 b3 hZB
            go_wp2_with fail
            go_quiet (fail)
            have e1' : (wx.drewN nq).cell? ⟨ZB, 1, none⟩ = some (.int .i64 (xb : Int)) := e1
            have g1' : (wx.drewN nq).cell? ⟨G, xb, none⟩ = some (.int .i64 Q) := g1
            have f1' : (wx.drewN nq).frozen? ⟨G, xb, none⟩ = false := f1
            have HG7 : Hid (∃ D, GD w1 G (wx.drewN nq) D ∧ Rk es i f L (r * (k * 1000000000)) D0 (j + 1) D) := Lib.hid (by obtain ⟨D', h1, h2⟩ := HN2.out; exact ⟨D', h2.on (bdrewN (Below.refl _ _) _), h1⟩)
            clear e0 e1 e2 g0 g1 f1 u1 d0
            generalize wx.drewN nq = w7 at *
            clear f1'
            go_wp2
            clear e1' g1'
            go_roundw
            case rel => exact ⟨j + 1, by omega, by go_num, HG7⟩
            case measure => simp [intOf]; omega
      obtain rfl : r = i := by omega
      have hlt2 : ¬ ((r : Int) < (r : Int)) := by omega
      have hz : nf r L D0 = 0 := by rcases hnf0 with e | e <;> omega
      have hval : ∀ t, t < r → (cv L t < 32000000000 → dv D0 t = (cv L t : Int)) ∧ (¬ cv L t < 32000000000 → dv D0 t = -1) := fun t ht => ⟨nf_zero hz t ht, fun hU => by
        rcases hrf0.low t ht with e | ⟨e, _⟩
        · exact e
        · exact absurd e hU⟩
      have HVAL := Lib.hid hval; have HGD1 := Lib.hid hgd0; have HLEN := Lib.hid hrf0.len
      have hcut : gv f L 32 = gv f L r := by have := gv_cut HL.out HO.out HFN.out (32 - r) (by omega); rwa [show r + (32 - r) = 32 by omega] at this
      have HCUT := Lib.hid hcut
      obtain ⟨wB, hwB⟩ : ∃ wB, wB = wr := ⟨_, rfl⟩
      subst hwB
      have HZB := Lib.hid (btrans HZ.out hgd0.below)
      clear hz hval hgd0 hrf0 hnf0 hcut HI hlt
      go_wp2
      clear b0 b1 b2 b3
      go_loopg [13, 14] r (fun M s13 s14 wr => ∃ (t kk cc : Nat) (aa : Option Addr), s13 = .slice aa kk cc ∧ s14 = .int .i64 (t : Int) ∧ Hid (M = r - t ∧ t ≤ r ∧ kk = (gv f L t).length ∧ OwS wB.heap.size wr (.slice aa kk cc) (gv f L t) ∧ Below wB.heap.size wB wr))
      case atStart => exact ⟨0, 0, 0, none, rfl, rfl, Lib.hid ⟨rfl, by omega, rfl, ows_nil _ _, Below.refl _ _⟩⟩
      case round =>
        obtain ⟨t, kk, cc, aa, rfl, rfl, HI⟩ := hrel
        obtain ⟨hM, htr, hkk, how, hbel⟩ := HI.out
        by_cases ht : t < r
        · have ht2 : (t : Int) < (r : Int) := by omega
          have c0 : wr.cell? ⟨G, t, none⟩ = some (.int .i64 (dv D0 t)) := (HGD1.out.rw.on hbel).cell (dv_get (by rw [HLEN.out]; exact ht))
          by_cases hU : cv L t < 32000000000
          · rw [(HVAL.out t ht).1 hU] at c0
            obtain ⟨C, hC⟩ : ∃ C, C = cv L t := ⟨_, rfl⟩
            rw [← hC] at c0
            have q0 : decide ((C : Int) ≥ 0) = true := decide_eq_true (by omega)
            have q1 : decide ((0 : Int) ≤ (C : Int)) = true := decide_eq_true (by omega)
            have hgv : gv f L (t + 1) = gv f L t ++ [⟨f, t, C⟩] := by rw [hC]; exact if_pos hU
            obtain ⟨v', w', hrun, how', hgr⟩ := how.push hbel.size ⟨f, t, C⟩ (by have := gv_len f L t; omega)
            rw [← hgv] at how'
            have hbel' : Below wB.heap.size wB w' := hbel.grown hgr hbel.size (fun k hk => how.ge k hk)
            obtain ⟨aa', cc', rfl⟩ := how'.shape
            obtain ⟨kk', hkk'⟩ : ∃ kk', kk' = (gv f L (t + 1)).length := ⟨_, rfl⟩
            rw [← hkk'] at hrun how'
            have HR2 := Lib.hid hrun
            have HI2 : Hid (r - (t + 1) = r - (t + 1) ∧ t + 1 ≤ r ∧ kk' = (gv f L (t + 1)).length ∧ OwS wB.heap.size w' (.slice aa' kk' cc') (gv f L (t + 1)) ∧ Below wB.heap.size wB w') := Lib.hid ⟨rfl, by omega, hkk', how', hbel'⟩
            have HMM : Hid (gk = r - t) := Lib.hid hM
            have HT := Lib.hid ht
            clear hM htr hkk how hbel hC hgv how' hgr hbel' hkk' hrun HI hU ht
            go_wp2_with (at_builtin; refine wp_appS rfl rfl rfl (.tmp 107) (.tmp 115) rfl rfl rfl HR2.out ?_)
            go_roundg (r - (t + 1))
            case measure => have := HMM.out; have := HT.out; omega
            case rel => exact ⟨t + 1, kk', cc', aa', rfl, by go_num, Lib.hid ⟨rfl, HI2.out.2⟩⟩
          · rw [(HVAL.out t ht).2 hU] at c0
            have hgv : gv f L (t + 1) = gv f L t := if_neg hU
            have HI2 : Hid (r - (t + 1) = r - (t + 1) ∧ t + 1 ≤ r ∧ kk = (gv f L (t + 1)).length ∧ OwS wB.heap.size wr (.slice aa kk cc) (gv f L (t + 1)) ∧ Below wB.heap.size wB wr) := Lib.hid ⟨rfl, by omega, by rw [hgv]; exact hkk, by rw [hgv]; exact how, hbel⟩
            have HMM : Hid (gk = r - t) := Lib.hid hM
            have HT := Lib.hid ht
            clear hM htr hkk how hbel hgv HI hU ht
            go_wp2
            go_roundg (r - (t + 1))
            case measure => have := HMM.out; have := HT.out; omega
            case rel => exact ⟨t + 1, kk, cc, aa, rfl, by go_num, Lib.hid ⟨rfl, HI2.out.2⟩⟩
        · obtain rfl : t = r := by omega
          have ht3 : ¬ ((t : Int) < (t : Int)) := by omega
          have hss := how.ss (gv_ok (es := es) (by have := HFN.out; omega) t (by omega)) (by have := gv_len f L t; omega)
          have HSO := Lib.hid hss; have HZ9 := Lib.hid (btrans HZB.out hbel)
          clear hM htr hkk how hbel hss HI ht
          go_wp2
          go_ret2
          exact ⟨aa, kk, cc, gv f L t, 0, rfl, HZ9.out, HSO.out, Or.inr (Or.inr ⟨HE.out.symm, rfl, f, es, L, rfl, by rw [← HN.out]; exact HFN.out, HES.out, by rw [← HN.out]; exact HO.out, HL.out, HCUT.out.symm⟩)⟩
end Go.Proofs.Ytijdjbkmkopmnaa
