/-
  Walks: the reference's Times.
-/
import Derived.Test.YtbeoldklpklbfaaXg
import Derived.Test.YtbeoldklpklbfaaXd
namespace Go.Proofs.Ytbeoldklpklbfaa
open Go.RowKit
set_option linter.unusedVariables false
set_option linter.unusedSimpArgs false

/-- The rounds of the reference in memory. -/
structure IT (w1 : World) (G n : Nat) (es : List Ln) (fn : Nat) (d : Nat → Int) (D0 : List Int) (j b : Nat) (wr : World) (D : List Int) : Prop where
  below : Below w1.heap.size w1 wr
  hc : Hc wr G D
  bf : BF n es fn d D
  le : wsum D ≤ wsum D0
  lt : b = 1 → wsum D < wsum D0
  same : b = 0 → D = D0 ∧ ∀ (i : Nat) (x : Ln), i < j → es[i]? = some x → Clo D0 x
theorem IT.step {w1 wr w9 : World} {G n fn j b : Nat} {es : List Ln} {d : Nat → Int} {D0 D : List Int} {x : Ln} (h : IT w1 G n es fn d D0 j b wr D) (hx : es[j]? = some x) (hn6 : n ≤ 600) (hok : ∀ x ∈ es, x.ok n) (Ds : Dist (wt es) fn d) (hb : Below w1.heap.size w1 w9) (hc : Hc w9 G (d2 D x))
    (b' : Nat) (hb1 : b' = 1 → b = 1 ∨ dv (d2 D x) x.a ≠ dv D x.a ∨ dv (d2 D x) x.b ≠ dv D x.b) (hb0 : b' = 0 → b = 0 ∧ dv (d2 D x) x.a = dv D x.a ∧ dv (d2 D x) x.b = dv D x.b) : IT w1 G n es fn d D0 (j + 1) b' w9 (d2 D x) := by
  obtain ⟨l1, l2, l3, l4⟩ := h.bf.line hn6 hok Ds hx
  refine ⟨hb, hc, l1, Nat.le_trans l2 h.le, fun e => ?_, fun e => ?_⟩
  · rcases hb1 e with e1 | e1
    · exact Nat.lt_of_le_of_lt l2 (h.lt e1)
    · exact Nat.lt_of_lt_of_le (l3 e1) h.le
  · obtain ⟨z0, z1, z2⟩ := hb0 e
    obtain ⟨e1, e2⟩ := l4 z1 z2
    obtain ⟨g1, g2⟩ := h.same z0
    refine ⟨by rw [e1, g1], fun i y hi hy => ?_⟩
    by_cases c : i < j
    · exact g2 i y c hy
    · obtain rfl : i = j := by omega
      rw [hx] at hy
      cases hy
      rw [← g1]; exact e2

set_option maxRecDepth 100000 in
set_option maxHeartbeats 8000000 in
theorem rtimesP_any {V : Value} {ps : List Pc} {eds : List Ed} {w : World} (h : Nw w V ps eds) (f : Int) (hT : chk ps eds = 0 → ∀ (es : List Ln) (fn : Nat), Val ps eds es → f = (fn : Int) → fn < ps.length → ∃ L0, Tm ps.length es fn L0) :
    Calls Try.prog 21 #[V, .int .i64 f] w fun e w' => ∃ (a : Option Addr) (k c : Nat) (L : List Int) (E : Int), e = .returned (.tuple #[.slice a k c, .int .i64 E]) ∧ Below w.heap.size w w' ∧ Hl (fun k => k < w'.heap.size) w' (.slice a k c) L ∧ TR ps eds f L E ∧ (∀ p, -1 ≤ dv L p ∧ dv L p ≤ 60000000) := by
  obtain ⟨va, vc, vb, vd, rfl, h1, h2⟩ := h.shape
  obtain ⟨n, hn⟩ : ∃ n, n = ps.length := ⟨_, rfl⟩
  obtain ⟨m, hm⟩ : ∃ m, m = eds.length := ⟨_, rfl⟩
  rw [← hn, ← hm] at h ⊢
  have HN := Lib.hid hn; have HM := Lib.hid hm
  obtain ⟨W, hW⟩ : ∃ W, W = w.alloc (.cells #[.slice va n vc, .slice vb m vd] 25) := ⟨_, rfl⟩
  have hB : Below w.heap.size w W := by rw [hW]; exact ball (Below.refl w.heap.size w) _
  have e0 : W.heap[w.heap.size]? = some (.cells #[.slice va n vc, .slice vb m vd] 25 (0, 0)) := by rw [hW]; exact bnew _ _
  have hV := h.on hB
  obtain ⟨b0, b1⟩ := box2 e0
  obtain ⟨E, hE⟩ : ∃ E, E = chk ps eds := ⟨_, rfl⟩
  obtain ⟨A1, hA1⟩ : ∃ A, rng 0 f ((ps.length : Int) - 1) = A := ⟨_, rfl⟩
  have HC := Lib.hid (rcheck_any hV E hE)
  have HB := Lib.hid hB; have HX := Lib.hid e0; have HV := Lib.hid hV; have HEE := Lib.hid hE; have HA1 := Lib.hid hA1; have HTT := Lib.hid hT
  clear h h1 h2 hn hm hB e0 hV hE hA1 hT
  by_cases c0 : E = 0
  rotate_left
  · have d0 : (E != 0) = true := by simpa using c0
    have HC0 := Lib.hid c0
    clear c0
    go_enter Try.func21, Try.ntmps21
    go_wp2_with fail
    rw [← hW]
    clear hW
    refine HC.out.mono ?_
    rintro e w1 ⟨rfl, hb⟩
    replace HB := Lib.hid (btrans HB.out hb); replace HV := Lib.hid (HV.out.on hb); replace HX := Lib.hid (bon HX.out hb)
    clear hb b0 b1 HC
    obtain ⟨b0, b1⟩ := box2 HX.out
    go_wp2
    go_ret2
    exact ⟨_, _, _, [], E, rfl, HB.out, hl_nil _ _ _ _, ⟨by unfold cerr; rw [if_neg (by rw [← HEE.out]; exact HC0.out), ← HEE.out], fun _ => rfl, fun h => absurd h HC0.out⟩, fun p => by simp [dv]⟩
  subst c0
  cases A1 with
  | false =>
    go_enter Try.func21, Try.ntmps21
    go_wp2_with fail
    rw [← hW]
    clear hW
    refine HC.out.mono ?_
    rintro e w1 ⟨rfl, hb⟩
    replace HB := Lib.hid (btrans HB.out hb); replace HV := Lib.hid (HV.out.on hb); replace HX := Lib.hid (bon HX.out hb)
    clear hb b0 b1 HC
    obtain ⟨b0, b1⟩ := box2 HX.out
    have Hc := Lib.hid (exists_any HV.out f)
    rw [HA1.out] at Hc
    go_wp2_with fail
    refine Hc.out.mono ?_
    rintro e w2 ⟨rfl, hb⟩
    replace HB := Lib.hid (btrans HB.out hb); replace HV := Lib.hid (HV.out.on hb); replace HX := Lib.hid (bon HX.out hb)
    clear hb b0 b1 Hc
    obtain ⟨b0, b1⟩ := box2 HX.out
    have HF := Lib.hid (cerr_one (l := [f]) HEE.out (by simp) HA1.out)
    go_wp2
    go_ret2
    exact ⟨_, _, _, [], 1, rfl, HB.out, hl_nil _ _ _ _, ⟨HF.out.symm, fun _ => rfl, fun h => by omega⟩, fun p => by simp [dv]⟩
  | true =>
  obtain ⟨fn, rfl, hfn⟩ := val_arg HA1.out
  obtain ⟨es, hval⟩ := chk_val HEE.out.symm
  obtain rfl := hval.1
  have HCE := Lib.hid (val_chk (es := es) HEE.out.symm [(fn : Int)] (fun p hp => by
    simp only [List.mem_cons, List.not_mem_nil, or_false] at hp
    exact ⟨fn, hp, hfn⟩))
  obtain ⟨L0, hL0⟩ := HTT.out HEE.out.symm es fn hval rfl hfn
  have hn512 : n ≤ 512 := by rw [HN.out]; exact hval.2.2.1
  have hm2 : m = es.length := by rw [HM.out, List.length_map]
  have hm2048 : m ≤ 2048 := by rw [hm2]; exact hval.2.2.2
  have hok := hval.2.1
  rw [← HN.out] at hL0 hok
  have hfn2 : (fn : Int) < (n : Int) := by have := HN.out; omega
  have HVAL := Lib.hid hval; have HFN := Lib.hid hfn; have HTM := Lib.hid hL0; have HM2 := Lib.hid hm2; have HOK := Lib.hid hok
  clear hval hfn hL0 hm2 hok HTT
  go_enter Try.func21, Try.ntmps21
  go_wp2_with fail
  rw [← hW]
  clear hW
  refine HC.out.mono ?_
  rintro e w1 ⟨rfl, hb⟩
  replace HB := Lib.hid (btrans HB.out hb); replace HV := Lib.hid (HV.out.on hb); replace HX := Lib.hid (bon HX.out hb)
  clear hb b0 b1 HC
  obtain ⟨b0, b1⟩ := box2 HX.out
  have Hc := Lib.hid (exists_any HV.out (fn : Int))
  rw [HA1.out] at Hc
  go_wp2_with fail
  refine Hc.out.mono ?_
  rintro e w2 ⟨rfl, hb⟩
  replace HB := Lib.hid (btrans HB.out hb); replace HV := Lib.hid (HV.out.on hb); replace HX := Lib.hid (bon HX.out hb)
  clear hb b0 b1 Hc
  obtain ⟨b0, b1⟩ := box2 HX.out
  obtain ⟨G, hG⟩ : ∃ G, G = w2.heap.size := ⟨_, rfl⟩
  obtain ⟨w4, h4⟩ : ∃ w4, w4 = w2.alloc (.cells (madeCells #[.int .i64 0] n) 3) := ⟨_, rfl⟩
  have hmk := run_make_row' (P := Try.prog) 29 3 (.int .i64 0) 8 Try.underlying29 info3' rfl .i64 .i64 n (by omega) (by omega) w2
  rw [← hG, ← h4] at hmk
  have HR4 := Lib.hid (And.intro (show Below w2.heap.size w2 w4 by rw [h4]; exact ball (Below.refl _ _) _) (show Hc w4 G (List.replicate 0 (-1) ++ List.replicate (n - 0) 0) by rw [h4, hG]; exact hc_made _ n)); have HGG := Lib.hid hG
  clear hG h4
  go_wp2
  clear hmk b0 b1
  go_loopw [8] (fun s8 wr => ∃ i : Nat, i ≤ n ∧ s8 = .int .i64 (i : Int) ∧ Hid (Below w2.heap.size w2 wr ∧ Hc wr G (List.replicate i (-1) ++ List.replicate (n - i) 0))) (fun s8 _ => n - (intOf s8).toNat)
  case atStart => exact ⟨0, by omega, rfl, HR4⟩
  case round =>
    clear HR4
    obtain ⟨i, hi, rfl, HI⟩ := hrel
    by_cases hlt : i < n
    · have hlt2 : (i : Int) < (n : Int) := by omega
      have c0 : wr.cell? ⟨G, i, none⟩ = some (.int .i64 0) := HI.out.2.cell (rep_get n i hlt)
      have f0 := HI.out.2.free i
      have h2 := HI.out.2.put i (-1) (by simp; omega)
      rw [rep_set n i hlt] at h2
      have HI2 : Hid (Below w2.heap.size w2 (wr.setCell ⟨G, i, none⟩ (.int .i64 (-1))) ∧ Hc (wr.setCell ⟨G, i, none⟩ (.int .i64 (-1))) G (List.replicate (i + 1) (-1) ++ List.replicate (n - (i + 1)) 0)) := Lib.hid ⟨Below.setCell HI.out.1 (by rw [HGG.out]; exact Nat.le_refl _) _, h2⟩
      clear h2 HI
      go_wp2
      clear c0 f0
      go_roundw
      case rel => exact ⟨i + 1, by omega, by go_num, HI2⟩
      case measure => simp [intOf]; omega
    obtain rfl : i = n := by omega
    have hlt2 : ¬ ((i : Int) < (i : Int)) := by omega
    have hfni : fn < i := by omega
    have hr0 : Hc wr G (List.replicate i (-1)) := by have := HI.out.2; rwa [Nat.sub_self, List.replicate_zero, List.append_nil] at this
    have c0 : wr.cell? ⟨G, fn, none⟩ = some (.int .i64 (-1)) := hr0.cell (by rw [List.getElem?_replicate, if_pos hfni])
    have f0 := hr0.free fn
    have hit : Below w2.heap.size w2 (wr.setCell ⟨G, fn, none⟩ (.int .i64 0)) ∧ Hc (wr.setCell ⟨G, fn, none⟩ (.int .i64 0)) G ((List.replicate i (-1)).set fn 0) := ⟨Below.setCell HI.out.1 (by rw [HGG.out]; exact Nat.le_refl _) _, hr0.put fn 0 (by rw [List.length_replicate]; exact hfni)⟩
    have HIT := Lib.hid hit; have HBF0 := Lib.hid (bf_start HTM.out hfni)
    obtain ⟨DI, hDI⟩ : ∃ DI, DI = (List.replicate i (-1 : Int)).set fn 0 := ⟨_, rfl⟩
    rw [← hDI] at HIT HBF0
    clear hit HI hlt hr0 hDI hfni
    go_wp2
    clear c0 f0
    generalize wr.setCell ⟨G, fn, none⟩ (.int .i64 0) = w5 at *
    go_loopg [9] (2 * wsum DI + 1) (fun M s9 wr => ∃ b : Nat, s9 = .bool (decide (b = 1)) ∧ Hid (b ≤ 1 ∧ ∃ D, M = 2 * wsum D + b ∧ Below w2.heap.size w2 wr ∧ Hc wr G D ∧ BF i es fn (dv L0) D ∧ (b = 0 → D = L0)))
    case atStart => exact ⟨1, rfl, Lib.hid ⟨by omega, _, rfl, HIT.out.1, HIT.out.2, HBF0.out, fun h => by omega⟩⟩
    case round =>
      clear HIT HBF0
      obtain ⟨b, rfl, HI⟩ := hrel
      obtain ⟨hb9, D0, hM, hbel, hcc, hbf, hend⟩ := HI.out
      by_cases hb1 : b = 1
      rotate_left
      · rw [decide_eq_false hb1]
        obtain rfl := hend (by omega)
        have HBZ := Lib.hid (btrans HB.out hbel)
        have hlen : i = D0.length := HTM.out.1.symm
        have hbd : ∀ p, -1 ≤ dv D0 p ∧ dv D0 p ≤ 60000000 := fun p => ⟨hbf.low p, by have := hbf.top p; omega⟩
        have hhl := hcc.hl (c := i) (by omega) (by omega) (fun y hy => by
          obtain ⟨q, hq⟩ := List.getElem?_of_mem hy
          have h1 := dv_some (L := D0) (p := q) (List.getElem?_eq_some_iff.1 hq).1
          rw [hq] at h1
          have h2 := hbd q
          have h3 : y = dv D0 q := by simpa using h1
          unfold I64
          omega)
        rw [← hlen] at hhl
        have HHL := Lib.hid hhl; have HBD := Lib.hid hbd
        clear hM hbel hcc hbf hend HI hb1 hb9 hlen hbd hhl
        go_wp2
        go_ret2
        exact ⟨_, _, _, D0, 0, rfl, HBZ.out, HHL.out, ⟨HCE.out.symm, fun h => absurd rfl h, fun _ => ⟨es, fn, HVAL.out, rfl, HFN.out, by rw [← HN.out]; exact HTM.out⟩⟩, HBD.out⟩
      rw [decide_eq_true hb1]
      have HGK : Hid (gk = 2 * wsum D0 + 1) := Lib.hid (by rw [hM, hb1])
      have HI0 : Hid (IT w2 G i es fn (dv L0) D0 0 0 wr D0) := Lib.hid ⟨hbel, hcc, hbf, Nat.le_refl _, fun h => by omega, fun _ => ⟨rfl, fun i x hi => by omega⟩⟩
      clear hM hbel hcc hbf hend HI hb1 hb9
      go_wp2
      go_loopw [9, 10] (fun s9 s10 wr => ∃ (j b : Nat), j ≤ m ∧ s9 = .bool (decide (b = 1)) ∧ s10 = .int .i64 (j : Int) ∧ Hid (b ≤ 1 ∧ ∃ D, IT w2 G i es fn (dv L0) D0 j b wr D)) (fun _ s10 _ => m - (intOf s10).toNat)
      case atStart => exact ⟨0, 0, by omega, rfl, rfl, Lib.hid ⟨by omega, _, HI0.out⟩⟩
      case round =>
        clear HI0
        obtain ⟨j, b, hj, rfl, rfl, HJ⟩ := hrel
        obtain ⟨hble, D, hit⟩ := HJ.out
        obtain ⟨b0, b1⟩ := box2 (bon HX.out hit.below)
        by_cases hltj : j < m
        rotate_left
        · obtain rfl : j = m := by omega
          have hltj2 : ¬ ((j : Int) < (j : Int)) := by omega
          have HE : Hid (b ≤ 1 ∧ ∃ D', 2 * wsum D + b = 2 * wsum D' + b ∧ Below w2.heap.size w2 wr ∧ Hc wr G D' ∧ BF i es fn (dv L0) D' ∧ (b = 0 → D' = L0)) := Lib.hid ⟨hble, D, rfl, hit.below, hit.hc, hit.bf, fun h => by
            obtain ⟨e, h2⟩ := hit.same h
            refine hit.bf.done HTM.out HOK.out fun q x hx => ?_
            rw [e]
            exact h2 q x (by rw [HM2.out]; exact (List.getElem?_eq_some_iff.1 hx).1) hx⟩
          have hmeas : 2 * wsum D + b < gk := by
            have := HGK.out
            rcases Nat.lt_or_ge b 1 with h | h
            · rw [(hit.same (by omega)).1]; omega
            · have := hit.lt (by omega); omega
          have HMS := Lib.hid hmeas
          clear hble hit HJ HGK hmeas hltj
          go_wp2
          go_roundg (2 * wsum D + b)
          case measure => exact HMS.out
          case rel => exact ⟨b, rfl, HE⟩
        have hltj2 : (j : Int) < (m : Int) := by omega
        obtain ⟨⟨xa, xb, xr, xm, xk⟩, hx⟩ : ∃ x, es[j]? = some x := ⟨_, List.getElem?_eq_getElem (by rw [← HM2.out]; exact hltj)⟩
        have hxs : (es.map Ln.ed)[j]? = some (⟨xa, xb, xr, xm, xk⟩ : Ln).ed := by rw [List.getElem?_map, hx]; rfl
        have ho := HOK.out _ (List.mem_of_getElem? hx)
        unfold Ln.ok at ho
        simp only at ho
        have hvr := HV.out.on hit.below
        obtain ⟨vp, ve, hVe, hp1, hp2⟩ := hvr
        simp only [Value.agg.injEq, Array.mk.injEq, List.cons.injEq, and_true] at hVe
        obtain ⟨rfl, rfl⟩ := hVe
        obtain ⟨g, off, y, rfl, hg, hy, k0, k1, k2, k3, k4, _⟩ := Es.cells hp2 j (by rw [← HM.out]; exact hltj)
        rw [hxs] at hy
        cases hy
        simp only [Ln.ed] at k0 k1 k2 k3 k4
        obtain ⟨ZB, hZB⟩ : ∃ ZB, ZB = wr.heap.size := ⟨_, rfl⟩
        obtain ⟨wx, hwx⟩ : ∃ wx, wx = wr.alloc (.cells #[.int .i64 (xa : Int), .int .i64 (xb : Int), .int .i64 (xr : Int), .int .i64 (xm : Int), .int .i64 (xk : Int)] 45) := ⟨_, rfl⟩
        have hbx : Below wr.heap.size wr wx := by rw [hwx]; exact ball (Below.refl _ _) _
        have hwb : wx.heap[ZB]? = some (.cells #[.int .i64 (xa : Int), .int .i64 (xb : Int), .int .i64 (xr : Int), .int .i64 (xm : Int), .int .i64 (xk : Int)] 45 (0, 0)) := by rw [hwx, hZB]; exact bnew _ _
        have HL5 : Hid (∀ w' : World, w'.heap[ZB]? = wx.heap[ZB]? → w'.cell? ⟨ZB, 0, none⟩ = some (.int .i64 (xa : Int)) ∧ w'.cell? ⟨ZB, 1, none⟩ = some (.int .i64 (xb : Int)) ∧ w'.cell? ⟨ZB, 3, none⟩ = some (.int .i64 (xm : Int))) := Lib.hid (fun w' e => by
          rw [hwb] at e
          exact ⟨by rw [cell_of_row w' _ 0 _ 45 (0, 0) e]; rfl, by rw [cell_of_row w' _ 1 _ 45 (0, 0) e]; rfl, by rw [cell_of_row w' _ 3 _ 45 (0, 0) e]; rfl⟩)
        obtain ⟨e0, e1, e3⟩ := HL5.out wx rfl
        have hcx := hit.hc.on hbx
        have hbw := btrans hit.below hbx
        have hlen := hit.bf.len
        have la : xa < D.length := by omega
        have lb : xb < D.length := by omega
        have g0 := hcx.cell (dv_some la)
        have g1 := hcx.cell (dv_some lb)
        have f0 := hcx.free xa
        have f1 := hcx.free xb
        have hba := hit.bf.low xa; have hta := hit.bf.top xa; have hbb := hit.bf.low xb; have htb := hit.bf.top xb
        obtain ⟨A, hA⟩ : ∃ A, A = dv D xa := ⟨_, rfl⟩
        obtain ⟨B, hB⟩ : ∃ B, B = dv D xb := ⟨_, rfl⟩
        rw [← hA] at g0 hba hta
        rw [← hB] at g1 hbb htb
        have u1 : IntKind.i64.wrap (A + (xm : Int)) = A + (xm : Int) := by rw [IntKind.wrap_i64]; omega
        have u2 : IntKind.i64.wrap (B + (xm : Int)) = B + (xm : Int) := by rw [IntKind.wrap_i64]; omega
        obtain ⟨T1, hT1⟩ : ∃ T1, (if B < 0 then A + (xm : Int) else min B (A + (xm : Int))) = T1 := ⟨_, rfl⟩
        obtain ⟨T2, hT2⟩ : ∃ T2, (if A < 0 then B + (xm : Int) else min A (B + (xm : Int))) = T2 := ⟨_, rfl⟩
        have HC1 := Lib.hid (fun w' => better_any B (A + (xm : Int)) w')
        have HC2 := Lib.hid (fun w' => better_any A (B + (xm : Int)) w')
        rw [hT1] at HC1
        rw [hT2] at HC2
        have xa2 : (xa : Int) < (i : Int) := by omega
        have xb2 : (xb : Int) < (i : Int) := by omega
        have hne : ZB ≠ G := by have := hit.hc.lt; omega
        have hnab : xa ≠ xb := ho.2.2.1
        have HIT := Lib.hid hit; have HXX := Lib.hid hx; have HT1 := Lib.hid hT1; have HT2 := Lib.hid hT2; have HAB := Lib.hid (And.intro hA hB); have HWX := Lib.hid hwx; have HZB := Lib.hid hZB; have HNE := Lib.hid hne; have HNAB := Lib.hid hnab; have HCX := Lib.hid hcx; have HBW := Lib.hid hbw; have HLAB := Lib.hid (And.intro la lb); have HBLE := Lib.hid hble
        have HST : Hid (∀ (w9 : World) (D9 : List Int), d2 D ⟨xa, xb, xr, xm, xk⟩ = D9 → Below w2.heap.size w2 w9 → Hc w9 G D9 → ∀ b', (b' = 1 → b = 1 ∨ dv D9 xa ≠ A ∨ dv D9 xb ≠ B) → (b' = 0 → b = 0 ∧ dv D9 xa = A ∧ dv D9 xb = B) → IT w2 G i es fn (dv L0) D0 (j + 1) b' w9 D9) := Lib.hid (fun w9 D9 e hb hc b' p1 p0 => by
          subst e
          rw [HAB.out.1, HAB.out.2] at p1 p0
          exact HIT.out.step HXX.out (by omega) HOK.out HTM.out.2 hb hc b' p1 p0)
        clear hble hit HJ hx hxs ho hp1 hp2 hg hbx hwb hcx hbw hlen la lb hba hta hbb htb hA hB hT1 hT2 hne hnab hwx hltj
        by_cases cA : 0 ≤ A
        · have dA : decide (A ≥ 0) = true := decide_eq_true (by omega)
          have dA2 : decide ((0 : Int) ≤ A) = true := decide_eq_true (by omega)
          by_cases cB : 0 ≤ B
          · have dB : decide (B ≥ 0) = true := decide_eq_true (by omega)
            have dB2 : decide ((0 : Int) ≤ B) = true := decide_eq_true (by omega)
            have HCA := Lib.hid cA; have HCB := Lib.hid cB
            clear cA cB
            go_upto_region 19 with (fail)
            rw [← HWX.out]
            rw [← HZB.out]
            clear b0 b1 k0 k1 k2 k3 k4 hZB
            go_wp2_with fail
            have h7s := HL5.out wx.drew rfl
            have h7x := HL5.out ((wx.setCell ⟨G, xb, none⟩ (.int .i64 T1)).drew) (heap_setCell_other wx ⟨G, xb, none⟩ ZB _ HNE.out)
            have gd : wx.drew.cell? ⟨G, xb, none⟩ = some (.int .i64 B) := g1
            have fd' : wx.drew.frozen? ⟨G, xb, none⟩ = false := f1
            refine wp_region_held_drew (S := fun w' => w'.cell? ⟨ZB, 0, none⟩ = some (.int .i64 (xa : Int)) ∧ w'.cell? ⟨ZB, 1, none⟩ = some (.int .i64 (xb : Int)) ∧ w'.cell? ⟨ZB, 3, none⟩ = some (.int .i64 (xm : Int))) (by kernel_rfl) h7s (fun hHeld => ?_)
            change wpAnyH _ _ _ _ _ 11 #[false, false, false, false, false, false, false, false, false, false, false] _ _
            refine wpAnyH_take (i := 0) (oi := _) (v := .slice (some ⟨G, 0, none⟩) i i) rfl (by kernel_rfl) (by kernel_rfl) (by kernel_rfl) (fun _ _ _ h => h) (Or.inl ⟨by rfl, fun wx hSw => ?_⟩) (by assumption) ?_
            · go_simp
              try (first | omega | (rw [IntKind.wrap_i64]; omega))
            (try simp only [Act.put, List.setIfInBounds_toArray, List.set_cons_zero, List.set_cons_succ, List.getElem_toArray, List.getElem_cons_zero, List.getElem_cons_succ])
            refine wpAnyH_take (i := 1) (oi := _) (v := .pointer (some ⟨ZB, 1, none⟩)) rfl (by kernel_rfl) (by kernel_rfl) (by kernel_rfl) (fun _ _ _ h => h) (Or.inl ⟨by rfl, fun wx hSw => ?_⟩) (by assumption) ?_
            · go_simp
              try (first | omega | (rw [IntKind.wrap_i64]; omega))
            (try simp only [Act.put, List.setIfInBounds_toArray, List.set_cons_zero, List.set_cons_succ, List.getElem_toArray, List.getElem_cons_zero, List.getElem_cons_succ])
            refine wpAnyH_take (i := 2) (oi := _) (v := .int .i64 (xb : Int)) rfl (by kernel_rfl) (by kernel_rfl) (by kernel_rfl) (fun _ _ _ h => h) (Or.inl ⟨by rfl, fun wx hSw => ?_⟩) (by assumption) ?_
            · go_simp
              try (first | omega | (rw [IntKind.wrap_i64]; omega))
            (try simp only [Act.put, List.setIfInBounds_toArray, List.set_cons_zero, List.set_cons_succ, List.getElem_toArray, List.getElem_cons_zero, List.getElem_cons_succ])
            refine wpAnyH_take (i := 3) (oi := _) (v := .int .i64 B) rfl (by kernel_rfl) (by kernel_rfl) (by kernel_rfl) (fun _ _ _ h => h) (Or.inl ⟨by rfl, fun wx hSw => ?_⟩) (by assumption) ?_
            · go_simp
              try (first | omega | (rw [IntKind.wrap_i64]; omega))
            (try simp only [Act.put, List.setIfInBounds_toArray, List.set_cons_zero, List.set_cons_succ, List.getElem_toArray, List.getElem_cons_zero, List.getElem_cons_succ])
            refine wpAnyH_take (i := 4) (oi := _) (v := .int .i64 A) rfl (by kernel_rfl) (by kernel_rfl) (by kernel_rfl) (fun _ _ _ h => h) (Or.inl ⟨by rfl, fun wx hSw => ?_⟩) (by assumption) ?_
            · go_simp
              try (first | omega | (rw [IntKind.wrap_i64]; omega))
            (try simp only [Act.put, List.setIfInBounds_toArray, List.set_cons_zero, List.set_cons_succ, List.getElem_toArray, List.getElem_cons_zero, List.getElem_cons_succ])
            refine wpAnyH_take (i := 5) (oi := _) (v := .pointer (some ⟨ZB, 3, none⟩)) rfl (by kernel_rfl) (by kernel_rfl) (by kernel_rfl) (fun _ _ _ h => h) (Or.inl ⟨by rfl, fun wx hSw => ?_⟩) (by assumption) ?_
            · go_simp
              try (first | omega | (rw [IntKind.wrap_i64]; omega))
            (try simp only [Act.put, List.setIfInBounds_toArray, List.set_cons_zero, List.set_cons_succ, List.getElem_toArray, List.getElem_cons_zero, List.getElem_cons_succ])
            refine wpAnyH_take (i := 6) (oi := _) (v := .int .i64 (xm : Int)) rfl (by kernel_rfl) (by kernel_rfl) (by kernel_rfl) (fun _ _ _ h => h) (Or.inl ⟨by rfl, fun wx hSw => ?_⟩) (by assumption) ?_
            · go_simp
              try (first | omega | (rw [IntKind.wrap_i64]; omega))
            (try simp only [Act.put, List.setIfInBounds_toArray, List.set_cons_zero, List.set_cons_succ, List.getElem_toArray, List.getElem_cons_zero, List.getElem_cons_succ])
            refine wpAnyH_take (i := 7) (oi := _) (v := .int .i64 (A + (xm : Int))) rfl (by kernel_rfl) (by kernel_rfl) (by kernel_rfl) (fun _ _ _ h => h) (Or.inl ⟨by rfl, fun wx hSw => ?_⟩) (by assumption) ?_
            · go_simp
              try (first | omega | (rw [IntKind.wrap_i64]; omega))
            (try simp only [Act.put, List.setIfInBounds_toArray, List.set_cons_zero, List.set_cons_succ, List.getElem_toArray, List.getElem_cons_zero, List.getElem_cons_succ])
            refine wpAnyH_ready (rs := [8]) (by kernel_rfl) (by simp) ?_
            refine AllReadyH.cons (o := _) rfl (fun K hK => ?_) AllReadyH.nil
            have Hc := Lib.hid (HC1.out wx.drew)
            go_simp
            refine Hc.out.mono ?_
            rintro e v0 ⟨rfl, rfl⟩
            clear Hc
            go_wp2_with fail
            refine hK.out _ _ (h7s) (fun hHeld => ?_)
            clear hK K
            (try simp only [Act.put, List.setIfInBounds_toArray, List.set_cons_zero, List.set_cons_succ, List.getElem_toArray, List.getElem_cons_zero, List.getElem_cons_succ])
            refine wpAnyH_take (i := 9) (oi := _) (v := .pointer (some ⟨G, xb, none⟩)) rfl (by kernel_rfl) (by kernel_rfl) (by kernel_rfl) (fun _ _ _ h => h) (Or.inl ⟨by rfl, fun wx hSw => ?_⟩) (by assumption) ?_
            · go_simp
              try (first | omega | (rw [IntKind.wrap_i64]; omega))
            (try simp only [Act.put, List.setIfInBounds_toArray, List.set_cons_zero, List.set_cons_succ, List.getElem_toArray, List.getElem_cons_zero, List.getElem_cons_succ])
            refine wpAnyH_ready (rs := [10]) (by kernel_rfl) (by simp) ?_
            refine AllReadyH.cons (o := _) rfl (fun K hK => ?_) AllReadyH.nil
            go_simp
            refine hK.out _ _ (h7x) (fun hHeld => ?_)
            clear hK K
            (try simp only [Act.put, List.setIfInBounds_toArray, List.set_cons_zero, List.set_cons_succ, List.getElem_toArray, List.getElem_cons_zero, List.getElem_cons_succ])
            refine wpAnyH_done (by kernel_rfl) ?_ _
            clear hHeld
            have hc8 : Hc ((wx.setCell ⟨G, xb, none⟩ (.int .i64 T1)).drew) G (D.set xb T1) := HCX.out.put xb T1 HLAB.out.2
            have hb8 : Below w2.heap.size w2 ((wx.setCell ⟨G, xb, none⟩ (.int .i64 T1)).drew) := bdrewN (Below.setCell HBW.out (by rw [HGG.out]; exact Nat.le_refl _) _) 1
            have g8 := hc8.cell (i := xa) (x := A) (by rw [List.getElem?_set, if_neg (fun e => HNAB.out e.symm)]; rw [HAB.out.1]; exact dv_some HLAB.out.1)
            have f8 := hc8.free xa
            have HC8 := Lib.hid hc8; have HB8 := Lib.hid hb8; have HL8 : Hid (∀ w' : World, w'.heap[ZB]? = ((wx.setCell ⟨G, xb, none⟩ (.int .i64 T1)).drew).heap[ZB]? → w'.cell? ⟨ZB, 0, none⟩ = some (.int .i64 (xa : Int)) ∧ w'.cell? ⟨ZB, 1, none⟩ = some (.int .i64 (xb : Int)) ∧ w'.cell? ⟨ZB, 3, none⟩ = some (.int .i64 (xm : Int))) := Lib.hid (fun w' e => HL5.out w' (e.trans (heap_setCell_other wx ⟨G, xb, none⟩ ZB _ HNE.out)))
            clear h7s gd fd' e0 e1 e3 g0 g1 f0 f1 hc8 hb8
            obtain ⟨e0, e1, e3⟩ := h7x
            generalize (wx.setCell ⟨G, xb, none⟩ (.int .i64 T1)).drew = w8 at *
            go_wp2_with fail
            have h7s := HL8.out w8.drew rfl
            have h7x := HL8.out ((w8.setCell ⟨G, xa, none⟩ (.int .i64 T2)).drew) (heap_setCell_other w8 ⟨G, xa, none⟩ ZB _ HNE.out)
            have gd : w8.drew.cell? ⟨G, xa, none⟩ = some (.int .i64 A) := g8
            have fd' : w8.drew.frozen? ⟨G, xa, none⟩ = false := f8
            refine wp_region_held_drew (S := fun w' => w'.cell? ⟨ZB, 0, none⟩ = some (.int .i64 (xa : Int)) ∧ w'.cell? ⟨ZB, 1, none⟩ = some (.int .i64 (xb : Int)) ∧ w'.cell? ⟨ZB, 3, none⟩ = some (.int .i64 (xm : Int))) (by kernel_rfl) h7s (fun hHeld => ?_)
            change wpAnyH _ _ _ _ _ 11 #[false, false, false, false, false, false, false, false, false, false, false] _ _
            refine wpAnyH_take (i := 0) (oi := _) (v := .slice (some ⟨G, 0, none⟩) i i) rfl (by kernel_rfl) (by kernel_rfl) (by kernel_rfl) (fun _ _ _ h => h) (Or.inl ⟨by rfl, fun wx hSw => ?_⟩) (by assumption) ?_
            · go_simp
              try (first | omega | (rw [IntKind.wrap_i64]; omega))
            (try simp only [Act.put, List.setIfInBounds_toArray, List.set_cons_zero, List.set_cons_succ, List.getElem_toArray, List.getElem_cons_zero, List.getElem_cons_succ])
            refine wpAnyH_take (i := 1) (oi := _) (v := .pointer (some ⟨ZB, 0, none⟩)) rfl (by kernel_rfl) (by kernel_rfl) (by kernel_rfl) (fun _ _ _ h => h) (Or.inl ⟨by rfl, fun wx hSw => ?_⟩) (by assumption) ?_
            · go_simp
              try (first | omega | (rw [IntKind.wrap_i64]; omega))
            (try simp only [Act.put, List.setIfInBounds_toArray, List.set_cons_zero, List.set_cons_succ, List.getElem_toArray, List.getElem_cons_zero, List.getElem_cons_succ])
            refine wpAnyH_take (i := 2) (oi := _) (v := .int .i64 (xa : Int)) rfl (by kernel_rfl) (by kernel_rfl) (by kernel_rfl) (fun _ _ _ h => h) (Or.inl ⟨by rfl, fun wx hSw => ?_⟩) (by assumption) ?_
            · go_simp
              try (first | omega | (rw [IntKind.wrap_i64]; omega))
            (try simp only [Act.put, List.setIfInBounds_toArray, List.set_cons_zero, List.set_cons_succ, List.getElem_toArray, List.getElem_cons_zero, List.getElem_cons_succ])
            refine wpAnyH_take (i := 3) (oi := _) (v := .int .i64 A) rfl (by kernel_rfl) (by kernel_rfl) (by kernel_rfl) (fun _ _ _ h => h) (Or.inl ⟨by rfl, fun wx hSw => ?_⟩) (by assumption) ?_
            · go_simp
              try (first | omega | (rw [IntKind.wrap_i64]; omega))
            (try simp only [Act.put, List.setIfInBounds_toArray, List.set_cons_zero, List.set_cons_succ, List.getElem_toArray, List.getElem_cons_zero, List.getElem_cons_succ])
            refine wpAnyH_take (i := 4) (oi := _) (v := .int .i64 B) rfl (by kernel_rfl) (by kernel_rfl) (by kernel_rfl) (fun _ _ _ h => h) (Or.inl ⟨by rfl, fun wx hSw => ?_⟩) (by assumption) ?_
            · go_simp
              try (first | omega | (rw [IntKind.wrap_i64]; omega))
            (try simp only [Act.put, List.setIfInBounds_toArray, List.set_cons_zero, List.set_cons_succ, List.getElem_toArray, List.getElem_cons_zero, List.getElem_cons_succ])
            refine wpAnyH_take (i := 5) (oi := _) (v := .pointer (some ⟨ZB, 3, none⟩)) rfl (by kernel_rfl) (by kernel_rfl) (by kernel_rfl) (fun _ _ _ h => h) (Or.inl ⟨by rfl, fun wx hSw => ?_⟩) (by assumption) ?_
            · go_simp
              try (first | omega | (rw [IntKind.wrap_i64]; omega))
            (try simp only [Act.put, List.setIfInBounds_toArray, List.set_cons_zero, List.set_cons_succ, List.getElem_toArray, List.getElem_cons_zero, List.getElem_cons_succ])
            refine wpAnyH_take (i := 6) (oi := _) (v := .int .i64 (xm : Int)) rfl (by kernel_rfl) (by kernel_rfl) (by kernel_rfl) (fun _ _ _ h => h) (Or.inl ⟨by rfl, fun wx hSw => ?_⟩) (by assumption) ?_
            · go_simp
              try (first | omega | (rw [IntKind.wrap_i64]; omega))
            (try simp only [Act.put, List.setIfInBounds_toArray, List.set_cons_zero, List.set_cons_succ, List.getElem_toArray, List.getElem_cons_zero, List.getElem_cons_succ])
            refine wpAnyH_take (i := 7) (oi := _) (v := .int .i64 (B + (xm : Int))) rfl (by kernel_rfl) (by kernel_rfl) (by kernel_rfl) (fun _ _ _ h => h) (Or.inl ⟨by rfl, fun wx hSw => ?_⟩) (by assumption) ?_
            · go_simp
              try (first | omega | (rw [IntKind.wrap_i64]; omega))
            (try simp only [Act.put, List.setIfInBounds_toArray, List.set_cons_zero, List.set_cons_succ, List.getElem_toArray, List.getElem_cons_zero, List.getElem_cons_succ])
            refine wpAnyH_ready (rs := [8]) (by kernel_rfl) (by simp) ?_
            refine AllReadyH.cons (o := _) rfl (fun K hK => ?_) AllReadyH.nil
            have Hc := Lib.hid (HC2.out w8.drew)
            go_simp
            refine Hc.out.mono ?_
            rintro e v0 ⟨rfl, rfl⟩
            clear Hc
            go_wp2_with fail
            refine hK.out _ _ (h7s) (fun hHeld => ?_)
            clear hK K
            (try simp only [Act.put, List.setIfInBounds_toArray, List.set_cons_zero, List.set_cons_succ, List.getElem_toArray, List.getElem_cons_zero, List.getElem_cons_succ])
            refine wpAnyH_take (i := 9) (oi := _) (v := .pointer (some ⟨G, xa, none⟩)) rfl (by kernel_rfl) (by kernel_rfl) (by kernel_rfl) (fun _ _ _ h => h) (Or.inl ⟨by rfl, fun wx hSw => ?_⟩) (by assumption) ?_
            · go_simp
              try (first | omega | (rw [IntKind.wrap_i64]; omega))
            (try simp only [Act.put, List.setIfInBounds_toArray, List.set_cons_zero, List.set_cons_succ, List.getElem_toArray, List.getElem_cons_zero, List.getElem_cons_succ])
            refine wpAnyH_ready (rs := [10]) (by kernel_rfl) (by simp) ?_
            refine AllReadyH.cons (o := _) rfl (fun K hK => ?_) AllReadyH.nil
            go_simp
            refine hK.out _ _ (h7x) (fun hHeld => ?_)
            clear hK K
            (try simp only [Act.put, List.setIfInBounds_toArray, List.set_cons_zero, List.set_cons_succ, List.getElem_toArray, List.getElem_cons_zero, List.getElem_cons_succ])
            refine wpAnyH_done (by kernel_rfl) ?_ _
            clear hHeld
            have HC9 : Hid (Hc ((w8.setCell ⟨G, xa, none⟩ (.int .i64 T2)).drew) G ((D.set xb T1).set xa T2)) := Lib.hid (HC8.out.put xa T2 (by rw [List.length_set]; exact HLAB.out.1))
            have HB9 : Hid (Below w2.heap.size w2 ((w8.setCell ⟨G, xa, none⟩ (.int .i64 T2)).drew)) := Lib.hid (bdrewN (Below.setCell HB8.out (by rw [HGG.out]; exact Nat.le_refl _) _) 1)
            clear h7s gd fd' e0 e1 e3 g8 f8
            obtain ⟨e0, e1, e3⟩ := h7x
            generalize (w8.setCell ⟨G, xa, none⟩ (.int .i64 T2)).drew = w9 at *
            have HS9 := Lib.hid (HST.out (w9) ((D.set xb T1).set xa T2) (by unfold d2 d1; simp only; rw [← HAB.out.1, ← HAB.out.2]; rw [if_pos (show 0 ≤ B by have := HCB.out; omega), if_pos (show 0 ≤ A by have := HCA.out; omega)]; rw [show bt B (A + (xm : Int)) = T1 from HT1.out]; rw [show bt A (B + (xm : Int)) = T2 from HT2.out]) (HB9.out) (HC9.out))
            have hc9 : Hc (w9) G ((D.set xb T1).set xa T2) := HC9.out
            obtain ⟨Va, hVa⟩ : ∃ Va, dv ((D.set xb T1).set xa T2) xa = Va := ⟨_, rfl⟩
            obtain ⟨Vb, hVb⟩ : ∃ Vb, dv ((D.set xb T1).set xa T2) xb = Vb := ⟨_, rfl⟩
            have ga := hc9.cell (dv_some (p := xa) (by rw [List.length_set, List.length_set]; exact HLAB.out.1))
            have gb := hc9.cell (dv_some (p := xb) (by rw [List.length_set, List.length_set]; exact HLAB.out.2))
            rw [hVa] at ga
            rw [hVb] at gb
            have HVV := Lib.hid (And.intro hVa hVb)
            clear hVa hVb hc9
            by_cases hb1 : b = 1
            · rw [decide_eq_true hb1]
              have HB1 := Lib.hid hb1
              clear hb1
              go_wp2
              clear ga gb e0 e1
              go_roundw
              case rel => exact ⟨j + 1, 1, by omega, rfl, by go_num, Lib.hid ⟨by omega, _, HS9.out 1 (fun _ => Or.inl HB1.out) (fun h => by omega)⟩⟩
              case measure => simp [intOf]; omega
            rw [decide_eq_false hb1]
            have HB0 : Hid (b = 0) := Lib.hid (by have := HBLE.out; omega)
            clear hb1
            by_cases ca : Va = A
            rotate_left
            · have da : (Va != A) = true := by simpa using ca
              have HCA := Lib.hid ca
              clear ca
              go_wp2
              clear ga gb e0 e1
              go_roundw
              case rel => exact ⟨j + 1, 1, by omega, rfl, by go_num, Lib.hid ⟨by omega, _, HS9.out 1 (fun _ => Or.inr (Or.inl (by rw [HVV.out.1]; exact HCA.out))) (fun h => by omega)⟩⟩
              case measure => simp [intOf]; omega
            have da : (Va != A) = false := by simpa using ca
            by_cases cb : Vb = B
            rotate_left
            · have db : (Vb != B) = true := by simpa using cb
              have HCB := Lib.hid cb
              clear cb ca
              go_wp2
              clear ga gb e0 e1
              go_roundw
              case rel => exact ⟨j + 1, 1, by omega, rfl, by go_num, Lib.hid ⟨by omega, _, HS9.out 1 (fun _ => Or.inr (Or.inr (by rw [HVV.out.2]; exact HCB.out))) (fun h => by omega)⟩⟩
              case measure => simp [intOf]; omega
            have db : (Vb != B) = false := by simpa using cb
            have HCA := Lib.hid ca; have HCB := Lib.hid cb
            clear ca cb
            go_wp2
            clear ga gb e0 e1
            go_roundw
            case rel => exact ⟨j + 1, 0, by omega, rfl, by go_num, Lib.hid ⟨by omega, _, HS9.out 0 (fun h => by omega) (fun _ => ⟨HB0.out, by rw [HVV.out.1]; exact HCA.out, by rw [HVV.out.2]; exact HCB.out⟩)⟩⟩
            case measure => simp [intOf]; omega
          · have dB : decide (B ≥ 0) = false := decide_eq_false (by omega)
            have dB2 : decide ((0 : Int) ≤ B) = false := decide_eq_false (by omega)
            have HCA := Lib.hid cA; have HCB := Lib.hid cB
            clear cA cB
            go_upto_region 19 with (fail)
            rw [← HWX.out]
            rw [← HZB.out]
            clear b0 b1 k0 k1 k2 k3 k4 hZB
            go_wp2_with fail
            have h7s := HL5.out wx.drew rfl
            have h7x := HL5.out ((wx.setCell ⟨G, xb, none⟩ (.int .i64 T1)).drew) (heap_setCell_other wx ⟨G, xb, none⟩ ZB _ HNE.out)
            have gd : wx.drew.cell? ⟨G, xb, none⟩ = some (.int .i64 B) := g1
            have fd' : wx.drew.frozen? ⟨G, xb, none⟩ = false := f1
            refine wp_region_held_drew (S := fun w' => w'.cell? ⟨ZB, 0, none⟩ = some (.int .i64 (xa : Int)) ∧ w'.cell? ⟨ZB, 1, none⟩ = some (.int .i64 (xb : Int)) ∧ w'.cell? ⟨ZB, 3, none⟩ = some (.int .i64 (xm : Int))) (by kernel_rfl) h7s (fun hHeld => ?_)
            change wpAnyH _ _ _ _ _ 11 #[false, false, false, false, false, false, false, false, false, false, false] _ _
            refine wpAnyH_take (i := 0) (oi := _) (v := .slice (some ⟨G, 0, none⟩) i i) rfl (by kernel_rfl) (by kernel_rfl) (by kernel_rfl) (fun _ _ _ h => h) (Or.inl ⟨by rfl, fun wx hSw => ?_⟩) (by assumption) ?_
            · go_simp
              try (first | omega | (rw [IntKind.wrap_i64]; omega))
            (try simp only [Act.put, List.setIfInBounds_toArray, List.set_cons_zero, List.set_cons_succ, List.getElem_toArray, List.getElem_cons_zero, List.getElem_cons_succ])
            refine wpAnyH_take (i := 1) (oi := _) (v := .pointer (some ⟨ZB, 1, none⟩)) rfl (by kernel_rfl) (by kernel_rfl) (by kernel_rfl) (fun _ _ _ h => h) (Or.inl ⟨by rfl, fun wx hSw => ?_⟩) (by assumption) ?_
            · go_simp
              try (first | omega | (rw [IntKind.wrap_i64]; omega))
            (try simp only [Act.put, List.setIfInBounds_toArray, List.set_cons_zero, List.set_cons_succ, List.getElem_toArray, List.getElem_cons_zero, List.getElem_cons_succ])
            refine wpAnyH_take (i := 2) (oi := _) (v := .int .i64 (xb : Int)) rfl (by kernel_rfl) (by kernel_rfl) (by kernel_rfl) (fun _ _ _ h => h) (Or.inl ⟨by rfl, fun wx hSw => ?_⟩) (by assumption) ?_
            · go_simp
              try (first | omega | (rw [IntKind.wrap_i64]; omega))
            (try simp only [Act.put, List.setIfInBounds_toArray, List.set_cons_zero, List.set_cons_succ, List.getElem_toArray, List.getElem_cons_zero, List.getElem_cons_succ])
            refine wpAnyH_take (i := 3) (oi := _) (v := .int .i64 B) rfl (by kernel_rfl) (by kernel_rfl) (by kernel_rfl) (fun _ _ _ h => h) (Or.inl ⟨by rfl, fun wx hSw => ?_⟩) (by assumption) ?_
            · go_simp
              try (first | omega | (rw [IntKind.wrap_i64]; omega))
            (try simp only [Act.put, List.setIfInBounds_toArray, List.set_cons_zero, List.set_cons_succ, List.getElem_toArray, List.getElem_cons_zero, List.getElem_cons_succ])
            refine wpAnyH_take (i := 4) (oi := _) (v := .int .i64 A) rfl (by kernel_rfl) (by kernel_rfl) (by kernel_rfl) (fun _ _ _ h => h) (Or.inl ⟨by rfl, fun wx hSw => ?_⟩) (by assumption) ?_
            · go_simp
              try (first | omega | (rw [IntKind.wrap_i64]; omega))
            (try simp only [Act.put, List.setIfInBounds_toArray, List.set_cons_zero, List.set_cons_succ, List.getElem_toArray, List.getElem_cons_zero, List.getElem_cons_succ])
            refine wpAnyH_take (i := 5) (oi := _) (v := .pointer (some ⟨ZB, 3, none⟩)) rfl (by kernel_rfl) (by kernel_rfl) (by kernel_rfl) (fun _ _ _ h => h) (Or.inl ⟨by rfl, fun wx hSw => ?_⟩) (by assumption) ?_
            · go_simp
              try (first | omega | (rw [IntKind.wrap_i64]; omega))
            (try simp only [Act.put, List.setIfInBounds_toArray, List.set_cons_zero, List.set_cons_succ, List.getElem_toArray, List.getElem_cons_zero, List.getElem_cons_succ])
            refine wpAnyH_take (i := 6) (oi := _) (v := .int .i64 (xm : Int)) rfl (by kernel_rfl) (by kernel_rfl) (by kernel_rfl) (fun _ _ _ h => h) (Or.inl ⟨by rfl, fun wx hSw => ?_⟩) (by assumption) ?_
            · go_simp
              try (first | omega | (rw [IntKind.wrap_i64]; omega))
            (try simp only [Act.put, List.setIfInBounds_toArray, List.set_cons_zero, List.set_cons_succ, List.getElem_toArray, List.getElem_cons_zero, List.getElem_cons_succ])
            refine wpAnyH_take (i := 7) (oi := _) (v := .int .i64 (A + (xm : Int))) rfl (by kernel_rfl) (by kernel_rfl) (by kernel_rfl) (fun _ _ _ h => h) (Or.inl ⟨by rfl, fun wx hSw => ?_⟩) (by assumption) ?_
            · go_simp
              try (first | omega | (rw [IntKind.wrap_i64]; omega))
            (try simp only [Act.put, List.setIfInBounds_toArray, List.set_cons_zero, List.set_cons_succ, List.getElem_toArray, List.getElem_cons_zero, List.getElem_cons_succ])
            refine wpAnyH_ready (rs := [8]) (by kernel_rfl) (by simp) ?_
            refine AllReadyH.cons (o := _) rfl (fun K hK => ?_) AllReadyH.nil
            have Hc := Lib.hid (HC1.out wx.drew)
            go_simp
            refine Hc.out.mono ?_
            rintro e v0 ⟨rfl, rfl⟩
            clear Hc
            go_wp2_with fail
            refine hK.out _ _ (h7s) (fun hHeld => ?_)
            clear hK K
            (try simp only [Act.put, List.setIfInBounds_toArray, List.set_cons_zero, List.set_cons_succ, List.getElem_toArray, List.getElem_cons_zero, List.getElem_cons_succ])
            refine wpAnyH_take (i := 9) (oi := _) (v := .pointer (some ⟨G, xb, none⟩)) rfl (by kernel_rfl) (by kernel_rfl) (by kernel_rfl) (fun _ _ _ h => h) (Or.inl ⟨by rfl, fun wx hSw => ?_⟩) (by assumption) ?_
            · go_simp
              try (first | omega | (rw [IntKind.wrap_i64]; omega))
            (try simp only [Act.put, List.setIfInBounds_toArray, List.set_cons_zero, List.set_cons_succ, List.getElem_toArray, List.getElem_cons_zero, List.getElem_cons_succ])
            refine wpAnyH_ready (rs := [10]) (by kernel_rfl) (by simp) ?_
            refine AllReadyH.cons (o := _) rfl (fun K hK => ?_) AllReadyH.nil
            go_simp
            refine hK.out _ _ (h7x) (fun hHeld => ?_)
            clear hK K
            (try simp only [Act.put, List.setIfInBounds_toArray, List.set_cons_zero, List.set_cons_succ, List.getElem_toArray, List.getElem_cons_zero, List.getElem_cons_succ])
            refine wpAnyH_done (by kernel_rfl) ?_ _
            clear hHeld
            have hc8 : Hc ((wx.setCell ⟨G, xb, none⟩ (.int .i64 T1)).drew) G (D.set xb T1) := HCX.out.put xb T1 HLAB.out.2
            have hb8 : Below w2.heap.size w2 ((wx.setCell ⟨G, xb, none⟩ (.int .i64 T1)).drew) := bdrewN (Below.setCell HBW.out (by rw [HGG.out]; exact Nat.le_refl _) _) 1
            have g8 := hc8.cell (i := xa) (x := A) (by rw [List.getElem?_set, if_neg (fun e => HNAB.out e.symm)]; rw [HAB.out.1]; exact dv_some HLAB.out.1)
            have f8 := hc8.free xa
            have HC8 := Lib.hid hc8; have HB8 := Lib.hid hb8; have HL8 : Hid (∀ w' : World, w'.heap[ZB]? = ((wx.setCell ⟨G, xb, none⟩ (.int .i64 T1)).drew).heap[ZB]? → w'.cell? ⟨ZB, 0, none⟩ = some (.int .i64 (xa : Int)) ∧ w'.cell? ⟨ZB, 1, none⟩ = some (.int .i64 (xb : Int)) ∧ w'.cell? ⟨ZB, 3, none⟩ = some (.int .i64 (xm : Int))) := Lib.hid (fun w' e => HL5.out w' (e.trans (heap_setCell_other wx ⟨G, xb, none⟩ ZB _ HNE.out)))
            clear h7s gd fd' e0 e1 e3 g0 g1 f0 f1 hc8 hb8
            obtain ⟨e0, e1, e3⟩ := h7x
            generalize (wx.setCell ⟨G, xb, none⟩ (.int .i64 T1)).drew = w8 at *
            clear g8 f8
            have HS9 := Lib.hid (HST.out (w8) (D.set xb T1) (by unfold d2 d1; simp only; rw [← HAB.out.1, ← HAB.out.2]; rw [if_neg (show ¬ (0 ≤ B) by have := HCB.out; omega), if_pos (show 0 ≤ A by have := HCA.out; omega)]; rw [show bt B (A + (xm : Int)) = T1 from HT1.out]) (HB8.out) (HC8.out))
            have hc9 : Hc (w8) G (D.set xb T1) := HC8.out
            obtain ⟨Va, hVa⟩ : ∃ Va, dv (D.set xb T1) xa = Va := ⟨_, rfl⟩
            obtain ⟨Vb, hVb⟩ : ∃ Vb, dv (D.set xb T1) xb = Vb := ⟨_, rfl⟩
            have ga := hc9.cell (dv_some (p := xa) (by rw [List.length_set]; exact HLAB.out.1))
            have gb := hc9.cell (dv_some (p := xb) (by rw [List.length_set]; exact HLAB.out.2))
            rw [hVa] at ga
            rw [hVb] at gb
            have HVV := Lib.hid (And.intro hVa hVb)
            clear hVa hVb hc9
            by_cases hb1 : b = 1
            · rw [decide_eq_true hb1]
              have HB1 := Lib.hid hb1
              clear hb1
              go_wp2
              clear ga gb e0 e1
              go_roundw
              case rel => exact ⟨j + 1, 1, by omega, rfl, by go_num, Lib.hid ⟨by omega, _, HS9.out 1 (fun _ => Or.inl HB1.out) (fun h => by omega)⟩⟩
              case measure => simp [intOf]; omega
            rw [decide_eq_false hb1]
            have HB0 : Hid (b = 0) := Lib.hid (by have := HBLE.out; omega)
            clear hb1
            by_cases ca : Va = A
            rotate_left
            · have da : (Va != A) = true := by simpa using ca
              have HCA := Lib.hid ca
              clear ca
              go_wp2
              clear ga gb e0 e1
              go_roundw
              case rel => exact ⟨j + 1, 1, by omega, rfl, by go_num, Lib.hid ⟨by omega, _, HS9.out 1 (fun _ => Or.inr (Or.inl (by rw [HVV.out.1]; exact HCA.out))) (fun h => by omega)⟩⟩
              case measure => simp [intOf]; omega
            have da : (Va != A) = false := by simpa using ca
            by_cases cb : Vb = B
            rotate_left
            · have db : (Vb != B) = true := by simpa using cb
              have HCB := Lib.hid cb
              clear cb ca
              go_wp2
              clear ga gb e0 e1
              go_roundw
              case rel => exact ⟨j + 1, 1, by omega, rfl, by go_num, Lib.hid ⟨by omega, _, HS9.out 1 (fun _ => Or.inr (Or.inr (by rw [HVV.out.2]; exact HCB.out))) (fun h => by omega)⟩⟩
              case measure => simp [intOf]; omega
            have db : (Vb != B) = false := by simpa using cb
            have HCA := Lib.hid ca; have HCB := Lib.hid cb
            clear ca cb
            go_wp2
            clear ga gb e0 e1
            go_roundw
            case rel => exact ⟨j + 1, 0, by omega, rfl, by go_num, Lib.hid ⟨by omega, _, HS9.out 0 (fun h => by omega) (fun _ => ⟨HB0.out, by rw [HVV.out.1]; exact HCA.out, by rw [HVV.out.2]; exact HCB.out⟩)⟩⟩
            case measure => simp [intOf]; omega
        · have dA : decide (A ≥ 0) = false := decide_eq_false (by omega)
          have dA2 : decide ((0 : Int) ≤ A) = false := decide_eq_false (by omega)
          by_cases cB : 0 ≤ B
          · have dB : decide (B ≥ 0) = true := decide_eq_true (by omega)
            have dB2 : decide ((0 : Int) ≤ B) = true := decide_eq_true (by omega)
            have HCA := Lib.hid cA; have HCB := Lib.hid cB
            clear cA cB
            go_upto_region 19 with (fail)
            rw [← HWX.out]
            rw [← HZB.out]
            clear b0 b1 k0 k1 k2 k3 k4 hZB
            go_wp2_with fail
            have h7s := HL5.out wx.drew rfl
            have h7x := HL5.out ((wx.setCell ⟨G, xa, none⟩ (.int .i64 T2)).drew) (heap_setCell_other wx ⟨G, xa, none⟩ ZB _ HNE.out)
            have gd : wx.drew.cell? ⟨G, xa, none⟩ = some (.int .i64 A) := g0
            have fd' : wx.drew.frozen? ⟨G, xa, none⟩ = false := f0
            refine wp_region_held_drew (S := fun w' => w'.cell? ⟨ZB, 0, none⟩ = some (.int .i64 (xa : Int)) ∧ w'.cell? ⟨ZB, 1, none⟩ = some (.int .i64 (xb : Int)) ∧ w'.cell? ⟨ZB, 3, none⟩ = some (.int .i64 (xm : Int))) (by kernel_rfl) h7s (fun hHeld => ?_)
            change wpAnyH _ _ _ _ _ 11 #[false, false, false, false, false, false, false, false, false, false, false] _ _
            refine wpAnyH_take (i := 0) (oi := _) (v := .slice (some ⟨G, 0, none⟩) i i) rfl (by kernel_rfl) (by kernel_rfl) (by kernel_rfl) (fun _ _ _ h => h) (Or.inl ⟨by rfl, fun wx hSw => ?_⟩) (by assumption) ?_
            · go_simp
              try (first | omega | (rw [IntKind.wrap_i64]; omega))
            (try simp only [Act.put, List.setIfInBounds_toArray, List.set_cons_zero, List.set_cons_succ, List.getElem_toArray, List.getElem_cons_zero, List.getElem_cons_succ])
            refine wpAnyH_take (i := 1) (oi := _) (v := .pointer (some ⟨ZB, 0, none⟩)) rfl (by kernel_rfl) (by kernel_rfl) (by kernel_rfl) (fun _ _ _ h => h) (Or.inl ⟨by rfl, fun wx hSw => ?_⟩) (by assumption) ?_
            · go_simp
              try (first | omega | (rw [IntKind.wrap_i64]; omega))
            (try simp only [Act.put, List.setIfInBounds_toArray, List.set_cons_zero, List.set_cons_succ, List.getElem_toArray, List.getElem_cons_zero, List.getElem_cons_succ])
            refine wpAnyH_take (i := 2) (oi := _) (v := .int .i64 (xa : Int)) rfl (by kernel_rfl) (by kernel_rfl) (by kernel_rfl) (fun _ _ _ h => h) (Or.inl ⟨by rfl, fun wx hSw => ?_⟩) (by assumption) ?_
            · go_simp
              try (first | omega | (rw [IntKind.wrap_i64]; omega))
            (try simp only [Act.put, List.setIfInBounds_toArray, List.set_cons_zero, List.set_cons_succ, List.getElem_toArray, List.getElem_cons_zero, List.getElem_cons_succ])
            refine wpAnyH_take (i := 3) (oi := _) (v := .int .i64 A) rfl (by kernel_rfl) (by kernel_rfl) (by kernel_rfl) (fun _ _ _ h => h) (Or.inl ⟨by rfl, fun wx hSw => ?_⟩) (by assumption) ?_
            · go_simp
              try (first | omega | (rw [IntKind.wrap_i64]; omega))
            (try simp only [Act.put, List.setIfInBounds_toArray, List.set_cons_zero, List.set_cons_succ, List.getElem_toArray, List.getElem_cons_zero, List.getElem_cons_succ])
            refine wpAnyH_take (i := 4) (oi := _) (v := .int .i64 B) rfl (by kernel_rfl) (by kernel_rfl) (by kernel_rfl) (fun _ _ _ h => h) (Or.inl ⟨by rfl, fun wx hSw => ?_⟩) (by assumption) ?_
            · go_simp
              try (first | omega | (rw [IntKind.wrap_i64]; omega))
            (try simp only [Act.put, List.setIfInBounds_toArray, List.set_cons_zero, List.set_cons_succ, List.getElem_toArray, List.getElem_cons_zero, List.getElem_cons_succ])
            refine wpAnyH_take (i := 5) (oi := _) (v := .pointer (some ⟨ZB, 3, none⟩)) rfl (by kernel_rfl) (by kernel_rfl) (by kernel_rfl) (fun _ _ _ h => h) (Or.inl ⟨by rfl, fun wx hSw => ?_⟩) (by assumption) ?_
            · go_simp
              try (first | omega | (rw [IntKind.wrap_i64]; omega))
            (try simp only [Act.put, List.setIfInBounds_toArray, List.set_cons_zero, List.set_cons_succ, List.getElem_toArray, List.getElem_cons_zero, List.getElem_cons_succ])
            refine wpAnyH_take (i := 6) (oi := _) (v := .int .i64 (xm : Int)) rfl (by kernel_rfl) (by kernel_rfl) (by kernel_rfl) (fun _ _ _ h => h) (Or.inl ⟨by rfl, fun wx hSw => ?_⟩) (by assumption) ?_
            · go_simp
              try (first | omega | (rw [IntKind.wrap_i64]; omega))
            (try simp only [Act.put, List.setIfInBounds_toArray, List.set_cons_zero, List.set_cons_succ, List.getElem_toArray, List.getElem_cons_zero, List.getElem_cons_succ])
            refine wpAnyH_take (i := 7) (oi := _) (v := .int .i64 (B + (xm : Int))) rfl (by kernel_rfl) (by kernel_rfl) (by kernel_rfl) (fun _ _ _ h => h) (Or.inl ⟨by rfl, fun wx hSw => ?_⟩) (by assumption) ?_
            · go_simp
              try (first | omega | (rw [IntKind.wrap_i64]; omega))
            (try simp only [Act.put, List.setIfInBounds_toArray, List.set_cons_zero, List.set_cons_succ, List.getElem_toArray, List.getElem_cons_zero, List.getElem_cons_succ])
            refine wpAnyH_ready (rs := [8]) (by kernel_rfl) (by simp) ?_
            refine AllReadyH.cons (o := _) rfl (fun K hK => ?_) AllReadyH.nil
            have Hc := Lib.hid (HC2.out wx.drew)
            go_simp
            refine Hc.out.mono ?_
            rintro e v0 ⟨rfl, rfl⟩
            clear Hc
            go_wp2_with fail
            refine hK.out _ _ (h7s) (fun hHeld => ?_)
            clear hK K
            (try simp only [Act.put, List.setIfInBounds_toArray, List.set_cons_zero, List.set_cons_succ, List.getElem_toArray, List.getElem_cons_zero, List.getElem_cons_succ])
            refine wpAnyH_take (i := 9) (oi := _) (v := .pointer (some ⟨G, xa, none⟩)) rfl (by kernel_rfl) (by kernel_rfl) (by kernel_rfl) (fun _ _ _ h => h) (Or.inl ⟨by rfl, fun wx hSw => ?_⟩) (by assumption) ?_
            · go_simp
              try (first | omega | (rw [IntKind.wrap_i64]; omega))
            (try simp only [Act.put, List.setIfInBounds_toArray, List.set_cons_zero, List.set_cons_succ, List.getElem_toArray, List.getElem_cons_zero, List.getElem_cons_succ])
            refine wpAnyH_ready (rs := [10]) (by kernel_rfl) (by simp) ?_
            refine AllReadyH.cons (o := _) rfl (fun K hK => ?_) AllReadyH.nil
            go_simp
            refine hK.out _ _ (h7x) (fun hHeld => ?_)
            clear hK K
            (try simp only [Act.put, List.setIfInBounds_toArray, List.set_cons_zero, List.set_cons_succ, List.getElem_toArray, List.getElem_cons_zero, List.getElem_cons_succ])
            refine wpAnyH_done (by kernel_rfl) ?_ _
            clear hHeld
            have HC9 : Hid (Hc ((wx.setCell ⟨G, xa, none⟩ (.int .i64 T2)).drew) G ((D).set xa T2)) := Lib.hid (HCX.out.put xa T2 (by exact HLAB.out.1))
            have HB9 : Hid (Below w2.heap.size w2 ((wx.setCell ⟨G, xa, none⟩ (.int .i64 T2)).drew)) := Lib.hid (bdrewN (Below.setCell HBW.out (by rw [HGG.out]; exact Nat.le_refl _) _) 1)
            clear h7s gd fd' e0 e1 e3 g0 g1 f0 f1
            obtain ⟨e0, e1, e3⟩ := h7x
            generalize (wx.setCell ⟨G, xa, none⟩ (.int .i64 T2)).drew = w9 at *
            have HS9 := Lib.hid (HST.out (w9) ((D).set xa T2) (by unfold d2 d1; simp only; rw [← HAB.out.1, ← HAB.out.2]; rw [if_pos (show 0 ≤ B by have := HCB.out; omega), if_neg (show ¬ (0 ≤ A) by have := HCA.out; omega)]; rw [show bt A (B + (xm : Int)) = T2 from HT2.out]) (HB9.out) (HC9.out))
            have hc9 : Hc (w9) G ((D).set xa T2) := HC9.out
            obtain ⟨Va, hVa⟩ : ∃ Va, dv ((D).set xa T2) xa = Va := ⟨_, rfl⟩
            obtain ⟨Vb, hVb⟩ : ∃ Vb, dv ((D).set xa T2) xb = Vb := ⟨_, rfl⟩
            have ga := hc9.cell (dv_some (p := xa) (by rw [List.length_set]; exact HLAB.out.1))
            have gb := hc9.cell (dv_some (p := xb) (by rw [List.length_set]; exact HLAB.out.2))
            rw [hVa] at ga
            rw [hVb] at gb
            have HVV := Lib.hid (And.intro hVa hVb)
            clear hVa hVb hc9
            by_cases hb1 : b = 1
            · rw [decide_eq_true hb1]
              have HB1 := Lib.hid hb1
              clear hb1
              go_wp2
              clear ga gb e0 e1
              go_roundw
              case rel => exact ⟨j + 1, 1, by omega, rfl, by go_num, Lib.hid ⟨by omega, _, HS9.out 1 (fun _ => Or.inl HB1.out) (fun h => by omega)⟩⟩
              case measure => simp [intOf]; omega
            rw [decide_eq_false hb1]
            have HB0 : Hid (b = 0) := Lib.hid (by have := HBLE.out; omega)
            clear hb1
            by_cases ca : Va = A
            rotate_left
            · have da : (Va != A) = true := by simpa using ca
              have HCA := Lib.hid ca
              clear ca
              go_wp2
              clear ga gb e0 e1
              go_roundw
              case rel => exact ⟨j + 1, 1, by omega, rfl, by go_num, Lib.hid ⟨by omega, _, HS9.out 1 (fun _ => Or.inr (Or.inl (by rw [HVV.out.1]; exact HCA.out))) (fun h => by omega)⟩⟩
              case measure => simp [intOf]; omega
            have da : (Va != A) = false := by simpa using ca
            by_cases cb : Vb = B
            rotate_left
            · have db : (Vb != B) = true := by simpa using cb
              have HCB := Lib.hid cb
              clear cb ca
              go_wp2
              clear ga gb e0 e1
              go_roundw
              case rel => exact ⟨j + 1, 1, by omega, rfl, by go_num, Lib.hid ⟨by omega, _, HS9.out 1 (fun _ => Or.inr (Or.inr (by rw [HVV.out.2]; exact HCB.out))) (fun h => by omega)⟩⟩
              case measure => simp [intOf]; omega
            have db : (Vb != B) = false := by simpa using cb
            have HCA := Lib.hid ca; have HCB := Lib.hid cb
            clear ca cb
            go_wp2
            clear ga gb e0 e1
            go_roundw
            case rel => exact ⟨j + 1, 0, by omega, rfl, by go_num, Lib.hid ⟨by omega, _, HS9.out 0 (fun h => by omega) (fun _ => ⟨HB0.out, by rw [HVV.out.1]; exact HCA.out, by rw [HVV.out.2]; exact HCB.out⟩)⟩⟩
            case measure => simp [intOf]; omega
          · have dB : decide (B ≥ 0) = false := decide_eq_false (by omega)
            have dB2 : decide ((0 : Int) ≤ B) = false := decide_eq_false (by omega)
            have HCA := Lib.hid cA; have HCB := Lib.hid cB
            clear cA cB
            have HS9 := Lib.hid (HST.out wx D (by unfold d2 d1; simp only; rw [← HAB.out.1, ← HAB.out.2]; rw [if_neg (show ¬ (0 ≤ B) by have := HCB.out; omega), if_neg (show ¬ (0 ≤ A) by have := HCA.out; omega)]) HBW.out HCX.out)
            clear f0 f1
            have qA : (A != A) = false := by simp
            have qB : (B != B) = false := by simp
            by_cases hb1 : b = 1
            · rw [decide_eq_true hb1]
              have HB1 := Lib.hid hb1
              clear hb1
              go_upto_region 19 with (fail)
              rw [← HWX.out]
              rw [← HZB.out]
              clear b0 b1 k0 k1 k2 k3 k4 hZB
              go_wp2
              clear g0 g1 e0 e1
              go_roundw
              case rel => exact ⟨j + 1, 1, by omega, rfl, by go_num, Lib.hid ⟨by omega, _, HS9.out 1 (fun _ => Or.inl HB1.out) (fun h => by omega)⟩⟩
              case measure => simp [intOf]; omega
            rw [decide_eq_false hb1]
            have HB0 : Hid (b = 0) := Lib.hid (by have := HBLE.out; omega)
            clear hb1
            go_upto_region 19 with (fail)
            rw [← HWX.out]
            rw [← HZB.out]
            clear b0 b1 k0 k1 k2 k3 k4 hZB
            go_wp2
            clear g0 g1 e0 e1
            go_roundw
            case rel => exact ⟨j + 1, 0, by omega, rfl, by go_num, Lib.hid ⟨by omega, _, HS9.out 0 (fun h => by omega) (fun _ => ⟨HB0.out, HAB.out.1.symm, HAB.out.2.symm⟩)⟩⟩
            case measure => simp [intOf]; omega
end Go.Proofs.Ytbeoldklpklbfaa
