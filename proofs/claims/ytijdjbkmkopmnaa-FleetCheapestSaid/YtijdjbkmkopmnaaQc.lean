/-
  The statement 'Rows.FleetCheapestSaid': for all arguments the law returns true; the arguments read as they did.
-/
import Derived.Test.YtijdjbkmkopmnaaFr
import Derived.Test.YtijdjbkmkopmnaaMk
namespace Go.Proofs.Ytijdjbkmkopmnaa.fleetCheapest
open Go.ChangeShapes Go.WideShapes Go.ChangeAt Go.RowKit
set_option linter.unusedVariables false
set_option linter.unusedSimpArgs false

theorem gr_ok {ts : List Ty} {ws : List Wn} {ss : List Sw} {hs : List Wh} {wanted : Int} {l : List Sw} {E : Int} (h : GR ts ws ss hs wanted l E) (hE : E = 0) :
    chk ts ws ss hs = 0 ∧ ∃ (f : Nat) (es : List Tr) (L : List Nat), wanted = (f : Int) ∧ f < ts.length ∧ ss = es.map toSw ∧ Oks ts.length es ∧ Least es f L ∧ l = gv f L 32 := by
  rcases h with ⟨a, b, _⟩ | ⟨_, _, b, _⟩ | ⟨a, _, r⟩
  · exact absurd (b.symm.trans hE) a
  · omega
  · exact ⟨a, r⟩
theorem gr_bad {ts : List Ty} {ws : List Wn} {ss : List Sw} {hs : List Wh} {wanted : Int} {l : List Sw} {E : Int} (h : GR ts ws ss hs wanted l E) (hE : E ≠ 0) : l = [] := by
  rcases h with ⟨_, _, b⟩ | ⟨_, _, _, b⟩ | ⟨_, e, _⟩
  · exact b
  · exact b
  · exact absurd e hE
theorem gv_sorted (f : Nat) (L : List Nat) : ∀ k, (gv f L k).Pairwise (fun a b => a.gi < b.gi)
  | 0 => List.Pairwise.nil
  | k + 1 => by
    have ih := gv_sorted f L k
    unfold gv
    split
    · rw [List.pairwise_append]
      refine ⟨ih, List.pairwise_singleton _ _, fun a ha b hb => ?_⟩
      obtain ⟨t, h1, _, rfl⟩ := gv_mem.1 ha
      rw [List.mem_singleton] at hb
      subst hb
      simp only
      omega
    · exact ih
theorem gv_lt {f : Nat} {L : List Nat} {k i j : Nat} {x y : Sw} (hi : (gv f L k)[i]? = some x) (hj : (gv f L k)[j]? = some y) (h : i < j) : x.gi < y.gi := by
  obtain ⟨h1, e1⟩ := List.getElem?_eq_some_iff.1 hi
  obtain ⟨h2, e2⟩ := List.getElem?_eq_some_iff.1 hj
  have := List.pairwise_iff_getElem.1 (gv_sorted f L k) i j h1 h2 h
  rw [e1, e2] at this
  exact this
/-- The costs laid out by type, behind the first j results. -/
structure CD (w : World) (G n : Nat) (L : List Nat) (l : List Sw) (j : Nat) (La : Int) (wr : World) (D : List Int) : Prop where
  below : Below w.heap.size w wr
  rw : Rw 3 iz wr G D
  len : D.length = n
  val : ∀ p, p < n → dv D p = -1 ∨ dv D p = cv L p ∧ cv L p < 32000000000
  done : ∀ (j' : Nat) (z : Sw), j' < j → l[j']? = some z → dv D z.gi.toNat = z.co
  next : ∀ (j' : Nat) (z : Sw), j ≤ j' → l[j']? = some z → La < z.gi
theorem CD.start {w wr : World} {G n f : Nat} {L : List Nat} {l : List Sw} (hb : Below w.heap.size w wr) (h : Rw 3 iz wr G (List.replicate n (-1))) (hl : l = gv f L 32) : CD w G n L l 0 (-1) wr (List.replicate n (-1)) :=
  ⟨hb, h, List.length_replicate, fun p _ => Or.inl (dv_rep n p), fun j' z hj => by omega, fun j' z _ hz => by
    obtain ⟨t, _, _, rfl⟩ := gv_mem.1 (hl ▸ List.mem_of_getElem? hz)
    simp only
    omega⟩
theorem CD.step {w wr : World} {G n f q j P : Nat} {L : List Nat} {l : List Sw} {La : Int} {D : List Int} (h : CD w G n L l j La wr D) (hG : w.heap.size ≤ G) (hl : l = gv f L 32) (hz : l[j]? = some ⟨(f : Int), (q : Int), (P : Int)⟩) (hq : q < n) (hP : P = cv L q) (hU : cv L q < 32000000000) :
    CD w G n L l (j + 1) (q : Int) (wr.setCell ⟨G, q, none⟩ (.int .i64 (P : Int))) (D.set q (P : Int)) := by
  have hqD : q < D.length := by rw [h.len]; exact hq
  refine ⟨Below.setCell h.below hG _, h.rw.put q (P : Int), by rw [List.length_set]; exact h.len, fun p hp => ?_, fun j' z hj hz' => ?_, fun j' z hj hz' => ?_⟩
  · rw [dv_set hqD]
    split
    · rename_i e; subst e; exact Or.inr ⟨by rw [hP], hU⟩
    · exact h.val p hp
  · rw [dv_set hqD]
    by_cases e : j' < j
    · have h1 := h.done j' z e hz'
      rw [hl] at hz hz'
      have h2 := gv_lt hz' hz e
      simp only at h2
      obtain ⟨t, _, _, rfl⟩ := gv_mem.1 (List.mem_of_getElem? hz')
      simp only at h1 h2 ⊢
      rw [if_neg (by omega)]
      exact h1
    · obtain rfl : j' = j := by omega
      rw [hz] at hz'
      cases hz'
      simp
  · rw [hl] at hz hz'
    have := gv_lt hz hz' (by omega)
    exact this
/-- All costs are laid out. -/
theorem CD.all {w wr : World} {G n f kk : Nat} {L : List Nat} {l : List Sw} {La : Int} {D : List Int} {es : List Tr} (h : CD w G n L l kk La wr D) (hk : kk = l.length) (hl : l = gv f L 32) (hL : Least es f L) (hn : n ≤ 32) :
    ∀ p, p < n → (cv L p < 32000000000 → dv D p = (cv L p : Int)) ∧ (¬ cv L p < 32000000000 → dv D p = -1) := by
  intro p hp
  constructor
  · intro hU
    obtain ⟨j, hj⟩ := List.getElem?_of_mem (show (⟨f, p, cv L p⟩ : Sw) ∈ l by rw [hl]; exact gv_mem.2 ⟨p, by omega, hU, rfl⟩)
    have := h.done j _ (by rw [hk]; exact (List.getElem?_eq_some_iff.1 hj).1) hj
    simpa using this
  · intro hU
    rcases h.val p hp with e | ⟨_, e⟩
    · exact e
    · exact absurd e hU
/-- The types that swaps lead to, behind the first k swaps. -/
structure RD (w : World) (G n f : Nat) (L : List Nat) (es : List Tr) (k : Nat) (wr : World) (R : List Bool) : Prop where
  below : Below w.heap.size w wr
  rw : Rw 4 bz wr G R
  len : R.length = n
  top : ∀ p, p < n → bv R p = true → cv L p < 32000000000
  own : bv R f = true
  done : ∀ (j : Nat) (x : Tr), j < k → es[j]? = some x → cv L x.a < 32000000000 → cv L x.b = cv L x.a + x.c → bv R x.b = true
theorem RD.on {w wr wr' : World} {G n f k : Nat} {L : List Nat} {es : List Tr} {R : List Bool} (h : RD w G n f L es k wr R) (hb : Below wr.heap.size wr wr') : RD w G n f L es k wr' R :=
  ⟨btrans h.below hb, h.rw.on hb, h.len, h.top, h.own, h.done⟩
theorem RD.put {w wr : World} {G n f k : Nat} {L : List Nat} {es : List Tr} {R : List Bool} {x : Tr} (h : RD w G n f L es k wr R) (hG : w.heap.size ≤ G) (hx : es[k]? = some x) (hb : x.b < n) (V : Bool) (h1 : bv R x.b = true → V = true) (h2 : V = true → cv L x.b < 32000000000) (h3 : cv L x.a < 32000000000 → cv L x.b = cv L x.a + x.c → V = true) :
    RD w G n f L es (k + 1) (wr.setCell ⟨G, x.b, none⟩ (.bool V)) (R.set x.b V) := by
  have hbR : x.b < R.length := by rw [h.len]; exact hb
  refine ⟨Below.setCell h.below hG _, h.rw.put x.b V, by rw [List.length_set]; exact h.len, fun p hp => ?_, ?_, fun j y hj hy e1 e2 => ?_⟩
  · rw [bv_set hbR]
    split
    · rename_i e; subst e; exact h2
    · exact h.top p hp
  · rw [bv_set hbR]
    split
    · rename_i e; subst e; exact h1 h.own
    · exact h.own
  · rw [bv_set hbR]
    by_cases e : j < k
    · split
      · rename_i eb; exact h1 (by rw [eb]; exact h.done j y e hy e1 e2)
      · exact h.done j y e hy e1 e2
    · obtain rfl : j = k := by omega
      rw [hx] at hy
      cases hy
      rw [if_pos rfl]
      exact h3 e1 e2
theorem RD.skip {w wr : World} {G n f k : Nat} {L : List Nat} {es : List Tr} {R : List Bool} {x : Tr} (h : RD w G n f L es k wr R) (hx : es[k]? = some x) (hU : ¬ cv L x.a < 32000000000) : RD w G n f L es (k + 1) wr R :=
  ⟨h.below, h.rw, h.len, h.top, h.own, fun j y hj hy e1 e2 => by
    by_cases e : j < k
    · exact h.done j y e hy e1 e2
    · obtain rfl : j = k := by omega
      rw [hx] at hy
      cases hy
      exact absurd e1 hU⟩
theorem RD.all {w wr : World} {G n f k : Nat} {L : List Nat} {es : List Tr} {R : List Bool} (h : RD w G n f L es k wr R) (hk : k = es.length) (hL : Least es f L) (hn : n ≤ 32) : ∀ p, p < n → cv L p < 32000000000 → bv R p = true := by
  intro p hp hU
  have hc : Ch es f p (cv L p) := by rcases hL.att.att p (by omega) with e | ⟨_, e⟩; omega; exact e
  generalize hd : cv L p = d at hc
  cases hc with
  | nil => exact h.own
  | @cons v d x h1 h2 h3 =>
    obtain ⟨j, hj⟩ := List.getElem?_of_mem h2
    have hle := hL.le h1
    have hfx := hL.fx x h2
    rw [h3] at hfx
    refine h.done j x (by rw [hk]; exact (List.getElem?_eq_some_iff.1 hj).1) hj (by rw [h3]; omega) (by rw [h3]; omega)

set_option maxRecDepth 100000 in
set_option maxHeartbeats 8000000 in
theorem walk (V0 : Value) (ts0 : List Ty) (ws0 : List Wn) (ss0 : List Sw) (hs0 : List Wh) (a1 : Int) (w : World) (h0 : Fl w V0 ts0 ws0 ss0 hs0) (h1 : I64 a1) :
    Calls Try.prog 5 #[V0, .int .i64 a1] w fun e w' => e = .returned (.bool true) ∧ Below w.heap.size w w' := by
  obtain ⟨A1, c1, A2, c2, A3, c3, A4, c4, rfl, gg1, gg2, gg3, gg4⟩ := h0.shape
  obtain ⟨n, hn⟩ : ∃ n, n = ts0.length := ⟨_, rfl⟩
  obtain ⟨m, hm⟩ : ∃ m, m = ws0.length := ⟨_, rfl⟩
  obtain ⟨k, hk⟩ : ∃ k, k = ss0.length := ⟨_, rfl⟩
  obtain ⟨h, hh⟩ : ∃ h, h = hs0.length := ⟨_, rfl⟩
  rw [← hn, ← hm, ← hk, ← hh] at h0 ⊢
  have HN := Lib.hid hn; have HM := Lib.hid hm; have HK := Lib.hid hk; have HH := Lib.hid hh
  obtain ⟨W, hW⟩ : ∃ W, W = w.alloc (.cells #[.slice A1 n c1, .slice A2 m c2, .slice A3 k c3, .slice A4 h c4] 27) := ⟨_, rfl⟩
  have hB : Below w.heap.size w W := by rw [hW]; exact ball (Below.refl w.heap.size w) _
  have e0 : W.heap[w.heap.size]? = some (.cells #[.slice A1 n c1, .slice A2 m c2, .slice A3 k c3, .slice A4 h c4] 27 (0, 0)) := by rw [hW]; exact bnew _ _
  have HV := Lib.hid (h0.on hB); have HB := Lib.hid hB; have HX := Lib.hid e0; have HW := Lib.hid hW
  obtain ⟨b0, b1, b2, b3⟩ := box4 e0
  clear h0 gg1 gg2 gg3 gg4 hn hm hk hh hB e0 hW
  obtain ⟨S, hS⟩ : ∃ S, fewB ts0.length ws0.length ss0.length hs0.length = S := ⟨_, rfl⟩
  have HS := Lib.hid hS
  clear hS
  cases S with
  | false =>
    have Hc := Lib.hid (sane_true W)
    go_enter Try.func5, Try.ntmps5
    go_upto_region 1 with (fail)
    rw [← HW.out]
    clear HW
    go_wp2_with fail
    refine Hc.out.mono ?_
    rintro e w1 ⟨rfl, hb⟩
    replace HB := Lib.hid (btrans HB.out hb); replace HV := Lib.hid (HV.out.on hb); replace HX := Lib.hid (bon HX.out hb)
    clear hb b0 b1 b2 b3 Hc
    obtain ⟨b0, b1, b2, b3⟩ := box4 HX.out
    have Hc := Lib.hid (few_any HV.out)
    rw [HS.out] at Hc
    go_wp2_with fail
    refine Hc.out.mono ?_
    rintro e w2 ⟨rfl, hb⟩
    replace HB := Lib.hid (btrans HB.out hb); replace HV := Lib.hid (HV.out.on hb); replace HX := Lib.hid (bon HX.out hb)
    clear hb b0 b1 b2 b3 Hc
    obtain ⟨b0, b1, b2, b3⟩ := box4 HX.out
    go_wp2
    go_ret
    exact ⟨rfl, HB.out⟩
  | true =>
    have Hc := Lib.hid (sane_true W)
    go_enter Try.func5, Try.ntmps5
    go_upto_region 1 with (fail)
    rw [← HW.out]
    clear HW
    go_wp2_with fail
    refine Hc.out.mono ?_
    rintro e w1 ⟨rfl, hb⟩
    replace HB := Lib.hid (btrans HB.out hb); replace HV := Lib.hid (HV.out.on hb); replace HX := Lib.hid (bon HX.out hb)
    clear hb b0 b1 b2 b3 Hc
    obtain ⟨b0, b1, b2, b3⟩ := box4 HX.out
    have Hc := Lib.hid (few_any HV.out)
    rw [HS.out] at Hc
    go_wp2_with fail
    refine Hc.out.mono ?_
    rintro e w2 ⟨rfl, hb⟩
    replace HB := Lib.hid (btrans HB.out hb); replace HV := Lib.hid (HV.out.on hb); replace HX := Lib.hid (bon HX.out hb)
    clear hb b0 b1 b2 b3 Hc
    obtain ⟨b0, b1, b2, b3⟩ := box4 HX.out
    have Hc := Lib.hid (given_any HV.out a1)
    go_wp2_with fail
    refine Hc.out.mono ?_
    rintro e w3 ⟨A, kk, cc, l, E, rfl, hb, hss, hgr⟩
    replace HB := Lib.hid (btrans HB.out hb); replace HV := Lib.hid (HV.out.on hb); replace HX := Lib.hid (bon HX.out hb)
    have HLL := Lib.hid hss
    have HG := Lib.hid hgr
    clear hb b0 b1 b2 b3 Hc hss hgr
    obtain ⟨b0, b1, b2, b3⟩ := box4 HX.out
    obtain ⟨A', c', hsh⟩ := HLL.out.shape
    simp only [Value.slice.injEq] at hsh
    obtain ⟨z1, hkk, z2⟩ := hsh
    clear z1 z2
    by_cases hE : E = 0
    rotate_left
    · have d0 : (E != 0) = true := by simpa using hE
      have hk0 : kk = 0 := by rw [hkk, gr_bad HG.out hE]; rfl
      have d1 : ((kk : Int) == 0) = true := by simp; omega
      clear hE hkk hk0
      go_wp2
      go_ret
      exact ⟨rfl, HB.out⟩
    have d0 : (E != 0) = false := by simpa using hE
    obtain ⟨hchk, f, es, L, rfl, hf, hes, ho, hL, hl⟩ := gr_ok HG.out hE
    have hn32 : n ≤ 32 := by rw [HN.out]; exact (chk_val hchk).t
    have hk32 : kk ≤ 32 := by rw [hkk, hl]; exact gv_len f L 32
    have hkes : k = es.length := by rw [HK.out, hes, List.length_map]
    have hk1024 : k ≤ 1024 := by rw [HK.out]; exact (chk_val hchk).s
    rw [← HN.out] at hf ho
    have hUf : cv L f < 32000000000 := by rw [hL.att.zero]; decide
    obtain ⟨G, hG⟩ : ∃ G, G = w3.heap.size := ⟨_, rfl⟩
    obtain ⟨w4, h4⟩ : ∃ w4, w4 = w3.alloc (.cells (madeCells #[.int .i64 0] n) 3) := ⟨_, rfl⟩
    have hmk := made3 w3 n (by omega)
    rw [← hG, ← h4] at hmk
    have hb4 : Below w3.heap.size w3 w4 := by rw [h4]; exact ball (Below.refl _ _) _
    have hr4 : Rw 3 iz w4 G (List.replicate 0 (-1) ++ List.replicate (n - 0) 0) := by rw [h4, hG]; exact rw_made (f := iz) _ n 0
    have HR4 := Lib.hid (And.intro hb4 hr4); have HGG := Lib.hid hG
    have HES := Lib.hid hes; have HO := Lib.hid ho; have HL := Lib.hid hL; have HLQ := Lib.hid hl; have HKK := Lib.hid hkk; have HKE := Lib.hid hkes; have HFU := Lib.hid hUf
    have hfn : (f : Int) < (n : Int) := by omega
    have HF := Lib.hid hf
    clear hE hchk hf hes ho hL hl hkk HG hG h4 hb4 hr4 hkes hUf
    go_wp2
    clear d0 hmk b0 b1 b2 b3
    go_loopw [8] (fun s8 wr => ∃ i : Nat, i ≤ n ∧ s8 = .int .i64 (i : Int) ∧ Hid (Below w3.heap.size w3 wr ∧ Rw 3 iz wr G (List.replicate i (-1) ++ List.replicate (n - i) 0))) (fun s8 _ => n - (intOf s8).toNat)
    case atStart => exact ⟨0, by omega, rfl, HR4⟩
    case round =>
      clear HR4
      obtain ⟨i, hi, rfl, HI⟩ := hrel
      by_cases hlt : i < n
      · have hlt2 : (i : Int) < (n : Int) := by omega
        have c0 : wr.cell? ⟨G, i, none⟩ = some (.int .i64 0) := HI.out.2.cell (rep_get n i (-1) 0 hlt)
        have f0 := HI.out.2.free i
        have h2 := HI.out.2.put i (-1)
        rw [rep_set n i (-1) 0 hlt] at h2
        have HI2 : Hid (Below w3.heap.size w3 (wr.setCell ⟨G, i, none⟩ (.int .i64 (-1))) ∧ Rw 3 iz (wr.setCell ⟨G, i, none⟩ (.int .i64 (-1))) G (List.replicate (i + 1) (-1) ++ List.replicate (n - (i + 1)) 0)) := Lib.hid ⟨Below.setCell HI.out.1 (by rw [HGG.out]; exact Nat.le_refl _) _, h2⟩
        clear h2 HI
        go_wp2
        clear c0 f0
        go_roundw
        case rel => exact ⟨i + 1, by omega, by go_num, HI2⟩
        case measure => simp [intOf]; omega
      obtain rfl : i = n := by omega
      have hlt2 : ¬ ((i : Int) < (i : Int)) := by omega
      have hcd0 : CD w3 G i L l 0 (-1) wr (List.replicate i (-1)) := CD.start HI.out.1 (by have := HI.out.2; rwa [Nat.sub_self, List.replicate_zero, List.append_nil] at this) HLQ.out
      have HCD := Lib.hid hcd0
      clear hcd0 HI hlt
      go_wp2
      go_loopw [9, 10] (fun s9 s10 wr => ∃ (j : Nat) (La : Int), j ≤ kk ∧ s9 = .int .i64 La ∧ s10 = .int .i64 (j : Int) ∧ Hid (∃ D, CD w3 G i L l j La wr D)) (fun _ s10 _ => kk - (intOf s10).toNat)
      case atStart => exact ⟨0, -1, by omega, rfl, rfl, Lib.hid ⟨_, HCD.out⟩⟩
      case round =>
        clear HCD
        obtain ⟨j, La, hj, rfl, rfl, HJ⟩ := hrel
        by_cases hlt3 : j < kk
        · have hlt4 : (j : Int) < (kk : Int) := by omega
          obtain ⟨D, hD⟩ := HJ.out
          obtain ⟨g, off, x, rfl, hg, hx, _, hra, _⟩ := (HLL.out.on hD.below).pick j (by rw [← HKK.out]; exact hlt3)
          obtain ⟨q, q1, q2, hxq⟩ := gv_mem.1 (show x ∈ gv f L 32 by rw [← HLQ.out]; exact List.mem_of_getElem? hx)
          subst hxq
          have hqn : q < i := HL.out.out HO.out HF.out q1 q2
          obtain ⟨P, hP⟩ : ∃ P, P = cv L q := ⟨_, rfl⟩
          rw [← hP] at hx hra
          have hla := hD.next j _ (Nat.le_refl _) hx
          have e0 : wr.cell? ⟨g, off + j * 3, none⟩ = some (.int .i64 (f : Int)) := hra 0 _ rfl
          have e1 : wr.cell? ⟨g, off + j * 3 + 1, none⟩ = some (.int .i64 (q : Int)) := hra 1 _ rfl
          have e2 : wr.cell? ⟨g, off + j * 3 + 2, none⟩ = some (.int .i64 (P : Int)) := hra 2 _ rfl
          have c0 : wr.cell? ⟨G, q, none⟩ = some (.int .i64 (dv D q)) := hD.rw.cell (dv_get (by rw [hD.len]; exact hqn))
          have f0 := hD.rw.free q
          obtain ⟨X, hX⟩ : ∃ X, X = dv D q := ⟨_, rfl⟩
          rw [← hX] at c0
          have HJ2 : Hid (∃ D, CD w3 G i L l (j + 1) (q : Int) (wr.setCell ⟨G, q, none⟩ (.int .i64 (P : Int))) D) := Lib.hid ⟨_, hD.step (by rw [HGG.out]; exact Nat.le_refl _) HLQ.out hx hqn hP q2⟩
          have d1 : decide ((q : Int) ≤ La) = false := decide_eq_false (by simp only at hla; omega)
          have d2 : decide ((q : Int) ≥ (i : Int)) = false := decide_eq_false (by omega)
          have d3 : decide (i ≤ q) = false := decide_eq_false (by omega)
          have d4 : decide ((P : Int) < 0) = false := decide_eq_false (by omega)
          have d5 : ((f : Int) != (f : Int)) = false := by simp
          have hqi : (q : Int) < (i : Int) := by omega
          clear hD hg hx hra q1 q2 hqn hP hla hX HJ hlt3
          go_wp2
          clear c0 f0 e0 e1 e2 d1 d2 d3 d4 d5
          go_roundw
          case rel => exact ⟨j + 1, q, by omega, rfl, by go_num, HJ2⟩
          case measure => simp [intOf]; omega
        obtain rfl : j = kk := by omega
        have hlt4 : ¬ ((j : Int) < (j : Int)) := by omega
        obtain ⟨D, hD⟩ := HJ.out
        have hall := hD.all HKK.out HLQ.out HL.out hn32
        have c0 : wr.cell? ⟨G, f, none⟩ = some (.int .i64 0) := by
          have := hD.rw.cell (dv_get (p := f) (by rw [hD.len]; exact HF.out))
          rw [(hall f HF.out).1 HFU.out, HL.out.att.zero] at this
          exact this
        have d0 : decide ((f : Int) < 0) = false := decide_eq_false (by omega)
        have d1 : decide ((f : Int) ≥ (i : Int)) = false := decide_eq_false (by omega)
        have d2 : decide (i ≤ f) = false := decide_eq_false (by omega)
        have HALL := Lib.hid hall
        have HBJ := Lib.hid hD.below; have HRJ := Lib.hid hD.rw; have HLJ := Lib.hid hD.len
        obtain ⟨wB, hwB⟩ : ∃ wB, wB = wr := ⟨_, rfl⟩
        subst hwB
        obtain ⟨H, hH⟩ : ∃ H, H = wB.heap.size := ⟨_, rfl⟩
        obtain ⟨w5, h5⟩ : ∃ w5, w5 = wB.alloc (.cells (madeCells #[.bool false] i) 4) := ⟨_, rfl⟩
        have hmk := made4 wB i (by omega)
        rw [← hH, ← h5] at hmk
        have hb5 : Below wB.heap.size wB w5 := by rw [h5]; exact ball (Below.refl _ _) _
        have hr5 : Rw 4 bz w5 H (List.replicate i false) := by rw [h5, hH]; exact rw_made (f := bz) _ i false
        have c5 : w5.cell? ⟨H, f, none⟩ = some (.bool false) := hr5.cell (by rw [List.getElem?_replicate, if_pos HF.out])
        have f5 := hr5.free f
        have hrd : RD wB H i f L es 0 (w5.setCell ⟨H, f, none⟩ (.bool true)) ((List.replicate i false).set f true) := by
          have hfl : f < (List.replicate i false).length := by rw [List.length_replicate]; exact HF.out
          refine ⟨Below.setCell hb5 (by rw [hH]; exact Nat.le_refl _) _, hr5.put f true, by rw [List.length_set, List.length_replicate], fun p hp hv => ?_, by rw [bv_set hfl, if_pos rfl], fun j x hj => by omega⟩
          rw [bv_set hfl] at hv
          split at hv
          · rename_i e; subst e; exact HFU.out
          · rw [bv_rep] at hv; cases hv
        have HRD := Lib.hid hrd; have HHH := Lib.hid hH
        have HX5 := Lib.hid (bon HX.out hD.below); have HV5 := Lib.hid (HV.out.on hD.below)
        have hx6 := box4 (bon HX5.out hrd.below)
        clear hD hall HJ hH h5 hb5 hr5 hrd hlt3 hx6
        go_wp2
        clear hmk c0 c5 f5 d0 d1 d2
        generalize w5.setCell ⟨H, f, none⟩ (.bool true) = w6 at *
        go_loopw [12, 13] (fun s12 s13 wy => ∃ (q pb : Nat), q ≤ k ∧ s12 = .bool (decide (pb = 1)) ∧ s13 = .int .i64 (q : Int) ∧ Hid (∃ R, RD wB H i f L es q wy R)) (fun _ s13 _ => k - (intOf s13).toNat)
        case atStart => exact ⟨0, 1, by omega, rfl, rfl, Lib.hid ⟨_, HRD.out⟩⟩
        case round =>
          clear HRD
          obtain ⟨q, pb, hq, rfl, rfl, HQ⟩ := hrel
          obtain ⟨PB, hPB⟩ : ∃ PB, PB = decide (pb = 1) := ⟨_, rfl⟩
          rw [← hPB]
          have HPB := Lib.hid hPB
          clear hPB
          obtain ⟨R, hR⟩ := HQ.out
          obtain ⟨b0, b1, b2, b3⟩ := box4 (bon HX5.out hR.below)
          by_cases hlt5 : q < k
          · have hlt6 : (q : Int) < (k : Int) := by omega
            obtain ⟨x, hx⟩ : ∃ x, es[q]? = some x := ⟨_, List.getElem?_eq_getElem (by rw [← HKE.out]; exact hlt5)⟩
            obtain ⟨xa, xb, xc⟩ := x
            have hxs : ss0[q]? = some ⟨(xa : Int), (xb : Int), (xc : Int)⟩ := by rw [HES.out, List.getElem?_map, hx]; rfl
            have hk3 := HO.out _ (List.mem_of_getElem? hx)
            simp only at hk3
            obtain ⟨vt, vw, vs, vh, hVe, t1, t2, t3, t4⟩ := HV5.out
            simp only [Value.agg.injEq, Array.mk.injEq, List.cons.injEq, and_true] at hVe
            obtain ⟨rfl, rfl, rfl, rfl⟩ := hVe
            obtain ⟨gs, os, y, rfl, hgs, hy, _, hra, _⟩ := (t3.on hR.below).pick q (by rw [← HK.out]; exact hlt5)
            rw [hxs] at hy
            cases hy
            have HRR : Hid (wr.rangeAt gs (os + q * 3) [.int .i64 (xa : Int), .int .i64 (xb : Int), .int .i64 (xc : Int)]) := Lib.hid hra
            obtain ⟨ZB, hZB⟩ : ∃ ZB, ZB = wr.heap.size := ⟨_, rfl⟩
            obtain ⟨wx, hwx⟩ : ∃ wx, wx = wr.alloc (.cells #[.int .i64 (xa : Int), .int .i64 (xb : Int), .int .i64 (xc : Int)] 62) := ⟨_, rfl⟩
            have hbx : Below wr.heap.size wr wx := by rw [hwx]; exact ball (Below.refl _ _) _
            have hwb : wx.heap[ZB]? = some (.cells #[.int .i64 (xa : Int), .int .i64 (xb : Int), .int .i64 (xc : Int)] 62 (0, 0)) := by rw [hwx, hZB]; exact bnew _ _
            have hR7 := hR.on hbx
            have hD7 := HRJ.out.on hR7.below
            have e0 : wx.cell? ⟨ZB, 0, none⟩ = some (.int .i64 (xa : Int)) := by rw [cell_of_row wx _ 0 _ 62 (0, 0) hwb]; rfl
            have e1 : wx.cell? ⟨ZB, 1, none⟩ = some (.int .i64 (xb : Int)) := by rw [cell_of_row wx _ 1 _ 62 (0, 0) hwb]; rfl
            have e2 : wx.cell? ⟨ZB, 2, none⟩ = some (.int .i64 (xc : Int)) := by rw [cell_of_row wx _ 2 _ 62 (0, 0) hwb]; rfl
            have g0 : wx.cell? ⟨G, xa, none⟩ = some (.int .i64 (dv D xa)) := hD7.cell (dv_get (by rw [HLJ.out]; exact hk3.1))
            have g1 : wx.cell? ⟨G, xb, none⟩ = some (.int .i64 (dv D xb)) := hD7.cell (dv_get (by rw [HLJ.out]; exact hk3.2.1))
            have d0 : decide ((xa : Int) < 0) = false := decide_eq_false (by omega)
            have d1 : decide ((xa : Int) ≥ (i : Int)) = false := decide_eq_false (by omega)
            have d2 : decide (i ≤ xa) = false := decide_eq_false (by omega)
            have d3 : decide ((xb : Int) < 0) = false := decide_eq_false (by omega)
            have d4 : decide ((xb : Int) ≥ (i : Int)) = false := decide_eq_false (by omega)
            have d5 : decide (i ≤ xb) = false := decide_eq_false (by omega)
            have xa2 : (xa : Int) < (i : Int) := by omega
            have xb2 : (xb : Int) < (i : Int) := by omega
            have hHlt : H < wr.heap.size := hR.rw.lt
            have hGlt : G < H := by rw [HHH.out]; exact HRJ.out.lt
            have HWX := Lib.hid hwx; have HZB := Lib.hid hZB; have HLT := Lib.hid (And.intro hHlt hGlt)
            by_cases hU : cv L xa < 32000000000
            rotate_left
            · rw [(HALL.out xa hk3.1).2 hU] at g0
              have HQ2 : Hid (∃ R, RD wB H i f L es (q + 1) wx R) := Lib.hid ⟨_, hR7.skip hx hU⟩
              have hpb : PB = decide (pb = 1) := HPB.out
              clear hR hx hxs hk3 t1 t2 t3 t4 hgs hra hwx hbx hwb hR7 hD7 g1 hU hHlt hGlt HQ hlt5
              go_upto_region 30 with (refine wpList_load_mid rfl 62 (.tmp 130) rfl gs (os + q * 3) rfl [.int .i64 (xa : Int), .int .i64 (xb : Int), .int .i64 (xc : Int)] _ HRR.out Try.underlying62 rfl (by kernel_rfl) ?_)
              rw [← HWX.out]
              rw [← HZB.out]
              clear b0 b1 b2 b3 hZB
              go_wp2
              go_roundw
              case rel => exact ⟨q + 1, pb, by omega, rfl, by go_num, HQ2⟩
              case measure => simp [intOf]; omega
            have hcha : Ch es f xa (cv L xa) := by rcases HL.out.att.att xa (by omega) with e | ⟨_, e⟩; omega; exact e
            have hfx := HL.out.fx _ (List.mem_of_getElem? hx)
            have hUb : cv L xb < 32000000000 := HL.out.reach HO.out HF.out hn32 (Ch.cons ⟨xa, xb, xc⟩ hcha (List.mem_of_getElem? hx) rfl)
            rw [(HALL.out xa hk3.1).1 hU] at g0
            rw [(HALL.out xb hk3.2.1).1 hUb] at g1
            obtain ⟨P, hP⟩ : ∃ P, P = cv L xa := ⟨_, rfl⟩
            obtain ⟨M, hM⟩ : ∃ M, M = cv L xb := ⟨_, rfl⟩
            simp only at hfx
            rw [← hP] at g0
            rw [← hM] at g1
            have u1 : IntKind.i64.wrap ((P : Int) + (xc : Int)) = (P : Int) + (xc : Int) := wrap_in (by omega) (by omega)
            have k0 : decide ((P : Int) < 0) = false := decide_eq_false (by omega)
            have k1 : decide ((M : Int) < 0) = false := decide_eq_false (by omega)
            have k2 : decide ((M : Int) > (P : Int) + (xc : Int)) = false := decide_eq_false (by omega)
            have k3 : decide ((P : Int) + (xc : Int) < (M : Int)) = false := decide_eq_false (by omega)
            have HXX := Lib.hid hx; have HPM := Lib.hid (And.intro hP hM); have HU := Lib.hid (And.intro hU hUb); have HK3 := Lib.hid hk3; have HR7 := Lib.hid hR7
            clear hR hx hxs hk3 t1 t2 t3 t4 hgs hra hwx hbx hwb hR7 hD7 hU hHlt hGlt HQ hlt5 hcha hfx hUb hP hM
            go_upto_region 30 with (refine wpList_load_mid rfl 62 (.tmp 130) rfl gs (os + q * 3) rfl [.int .i64 (xa : Int), .int .i64 (xb : Int), .int .i64 (xc : Int)] _ HRR.out Try.underlying62 rfl (by kernel_rfl) ?_)
            rw [← HWX.out]
            rw [← HZB.out]
            clear b0 b1 b2 b3 hZB
            go_wp2_with fail
            go_quiet (fail)
            have e1' : (wx.drewN nq).cell? ⟨ZB, 1, none⟩ = some (.int .i64 (xb : Int)) := e1
            have e2' : (wx.drewN nq).cell? ⟨ZB, 2, none⟩ = some (.int .i64 (xc : Int)) := e2
            have g1' : (wx.drewN nq).cell? ⟨G, xb, none⟩ = some (.int .i64 (M : Int)) := g1
            have HR8 : Hid (RD wB H i f L es q (wx.drewN nq) R) := Lib.hid (HR7.out.on (bdrewN (Below.refl _ _) _))
            clear e0 e1 e2 g0 g1 u1 k0 d0 d1 d2 d3 d4 d5 HWX HR7
            generalize wx.drewN nq = w7 at *
            go_wp2_with fail
            clear k1 k2 k3
            have r0 : w7.drew.cell? ⟨H, xb, none⟩ = some (.bool (bv R xb)) := HR8.out.rw.cell (bv_get (by rw [HR8.out.len]; exact HK3.out.2.1))
            have f0 : w7.drew.frozen? ⟨H, xb, none⟩ = false := HR8.out.rw.free xb
            have h7s : w7.drew.cell? ⟨ZB, 1, none⟩ = some (.int .i64 (xb : Int)) ∧ w7.drew.cell? ⟨G, xb, none⟩ = some (.int .i64 (M : Int)) := ⟨e1', g1'⟩
            have H2S := Lib.hid e2'
            have HRB : Hid (∀ V : Bool, (bv R xb = true → V = true) → (M = P + xc → V = true) → ∃ R, RD wB H i f L es (q + 1) ((w7.setCell ⟨H, xb, none⟩ (.bool V)).drew) R) := Lib.hid (fun V v1 v2 => ⟨_, (HR8.out.on (bdrewN (Below.refl _ _) 1)).put (by rw [HHH.out]; exact Nat.le_refl _) HXX.out HK3.out.2.1 V v1 (fun _ => HU.out.2) (fun _ e => v2 (by rw [HPM.out.1, HPM.out.2]; exact e))⟩)
            have HS18 : Hid (∀ V : Bool, ((w7.setCell ⟨H, xb, none⟩ (.bool V)).drew).cell? ⟨ZB, 1, none⟩ = some (.int .i64 (xb : Int)) ∧ ((w7.setCell ⟨H, xb, none⟩ (.bool V)).drew).cell? ⟨G, xb, none⟩ = some (.int .i64 (M : Int))) := Lib.hid (fun V => by
              have := HZB.out
              have := HLT.out
              exact ⟨(World.cell?_of_block (w := w7.drew) (a := ⟨ZB, 1, none⟩) (heap_setCell_other w7.drew ⟨H, xb, none⟩ ZB _ (by show ZB ≠ H; omega))).trans e1', (World.cell?_of_block (w := w7.drew) (a := ⟨G, xb, none⟩) (heap_setCell_other w7.drew ⟨H, xb, none⟩ G _ (by show G ≠ H; omega))).trans g1'⟩)
            have H2T : Hid (∀ V : Bool, ((w7.setCell ⟨H, xb, none⟩ (.bool V)).drew).cell? ⟨ZB, 2, none⟩ = some (.int .i64 (xc : Int))) := Lib.hid (fun V => by
              have := HZB.out
              have := HLT.out
              exact (World.cell?_of_block (w := w7.drew) (a := ⟨ZB, 2, none⟩) (heap_setCell_other w7.drew ⟨H, xb, none⟩ ZB _ (by show ZB ≠ H; omega))).trans e2')
            clear e1' e2' g1' HR8
            obtain ⟨bb, hbb⟩ : ∃ bb, bb = bv R xb := ⟨_, rfl⟩
            rw [← hbb] at r0
            have HBB := Lib.hid hbb
            clear hbb
            cases bb with
            | true =>
              refine wp_region_held_drew (S := fun w' => w'.cell? ⟨ZB, 1, none⟩ = some (.int .i64 (xb : Int)) ∧ w'.cell? ⟨G, xb, none⟩ = some (.int .i64 (M : Int))) (by kernel_rfl) h7s (fun hHeld => ?_)
              change wpAnyH _ _ _ _ _ 19 #[false, false, false, false, false, false, false, false, false, false, false, false, false, false, false, false, false, false, false] _ _
              refine wpAnyH_take (i := 0) (oi := _) (v := .slice (some ⟨H, 0, none⟩) i i) rfl (by kernel_rfl) (by kernel_rfl) (by kernel_rfl) (fun _ _ _ h => h) (Or.inl ⟨by rfl, fun wx hSw => ?_⟩) (by assumption) ?_
              · go_simp
                try (first | omega | (rw [IntKind.wrap_i64]; omega))
              (try simp only [Act.put, List.setIfInBounds_toArray, List.set_cons_zero, List.set_cons_succ, List.getElem_toArray, List.getElem_cons_zero, List.getElem_cons_succ])
              refine wpAnyH_take (i := 1) (oi := _) (v := .pointer (some ⟨ZB, 1, none⟩)) rfl (by kernel_rfl) (by kernel_rfl) (by kernel_rfl) (fun _ _ _ h => h) (Or.inl ⟨by rfl, fun wx hSw => ?_⟩) (by assumption) ?_
              · go_simp
                try (first | omega | (rw [IntKind.wrap_i64]; omega))
              (try simp only [Act.put, List.setIfInBounds_toArray, List.set_cons_zero, List.set_cons_succ, List.getElem_toArray, List.getElem_cons_zero, List.getElem_cons_succ])
              refine wpAnyH_take (i := 2) (oi := _) (v := .int .i64 (xb : Int)) rfl (by kernel_rfl) (by kernel_rfl) (by kernel_rfl) (fun _ _ _ h => h) (Or.inl ⟨by rfl, fun wx hSw => ?_⟩) (by assumption) ?_
              · go_simp
                try (first | omega | (rw [IntKind.wrap_i64]; omega))
              (try simp only [Act.put, List.setIfInBounds_toArray, List.set_cons_zero, List.set_cons_succ, List.getElem_toArray, List.getElem_cons_zero, List.getElem_cons_succ])
              refine wpAnyH_take (i := 3) (oi := _) (v := .slice (some ⟨H, 0, none⟩) i i) rfl (by kernel_rfl) (by kernel_rfl) (by kernel_rfl) (fun _ _ _ h => h) (Or.inl ⟨by rfl, fun wx hSw => ?_⟩) (by assumption) ?_
              · go_simp
                try (first | omega | (rw [IntKind.wrap_i64]; omega))
              (try simp only [Act.put, List.setIfInBounds_toArray, List.set_cons_zero, List.set_cons_succ, List.getElem_toArray, List.getElem_cons_zero, List.getElem_cons_succ])
              refine wpAnyH_take (i := 4) (oi := _) (v := .pointer (some ⟨ZB, 1, none⟩)) rfl (by kernel_rfl) (by kernel_rfl) (by kernel_rfl) (fun _ _ _ h => h) (Or.inl ⟨by rfl, fun wx hSw => ?_⟩) (by assumption) ?_
              · go_simp
                try (first | omega | (rw [IntKind.wrap_i64]; omega))
              (try simp only [Act.put, List.setIfInBounds_toArray, List.set_cons_zero, List.set_cons_succ, List.getElem_toArray, List.getElem_cons_zero, List.getElem_cons_succ])
              refine wpAnyH_take (i := 5) (oi := _) (v := .int .i64 (xb : Int)) rfl (by kernel_rfl) (by kernel_rfl) (by kernel_rfl) (fun _ _ _ h => h) (Or.inl ⟨by rfl, fun wx hSw => ?_⟩) (by assumption) ?_
              · go_simp
                try (first | omega | (rw [IntKind.wrap_i64]; omega))
              (try simp only [Act.put, List.setIfInBounds_toArray, List.set_cons_zero, List.set_cons_succ, List.getElem_toArray, List.getElem_cons_zero, List.getElem_cons_succ])
              refine wpAnyH_take (i := 6) (oi := _) (v := .pointer (some ⟨H, xb, none⟩)) rfl (by kernel_rfl) (by kernel_rfl) (by kernel_rfl) (fun _ _ _ h => h) (Or.inl ⟨by rfl, fun wx hSw => ?_⟩) (by assumption) ?_
              · go_simp
                try (first | omega | (rw [IntKind.wrap_i64]; omega))
              (try simp only [Act.put, List.setIfInBounds_toArray, List.set_cons_zero, List.set_cons_succ, List.getElem_toArray, List.getElem_cons_zero, List.getElem_cons_succ])
              refine wpAnyH_ready (rs := [7]) (by kernel_rfl) (by simp) ?_
              refine AllReadyH.cons (o := _) rfl (fun K hK => ?_) AllReadyH.nil
              go_simp
              refine hK.out _ _ (hHeld) (fun hHeld => ?_)
              clear hK K
              (try simp only [Act.put, List.setIfInBounds_toArray, List.set_cons_zero, List.set_cons_succ, List.getElem_toArray, List.getElem_cons_zero, List.getElem_cons_succ])
              refine wpAnyH_take (i := 8) (oi := _) (v := .bool true) rfl (by kernel_rfl) (by kernel_rfl) (by kernel_rfl) (fun _ _ _ h => h) (Or.inl ⟨by rfl, fun wx hSw => ?_⟩) (by assumption) ?_
              · go_simp
                try (first | omega | (rw [IntKind.wrap_i64]; omega))
              (try simp only [Act.put, List.setIfInBounds_toArray, List.set_cons_zero, List.set_cons_succ, List.getElem_toArray, List.getElem_cons_zero, List.getElem_cons_succ])
              refine wpAnyH_take (i := 9) (oi := _) (v := undef) rfl (by kernel_rfl) (by kernel_rfl) (by kernel_rfl) (fun _ _ _ h => h) (Or.inr ⟨by rfl, rfl⟩) (by assumption) ?_
              (try simp only [Act.put, List.setIfInBounds_toArray, List.set_cons_zero, List.set_cons_succ, List.getElem_toArray, List.getElem_cons_zero, List.getElem_cons_succ])
              refine wpAnyH_take (i := 10) (oi := _) (v := undef) rfl (by kernel_rfl) (by kernel_rfl) (by kernel_rfl) (fun _ _ _ h => h) (Or.inr ⟨by rfl, rfl⟩) (by assumption) ?_
              (try simp only [Act.put, List.setIfInBounds_toArray, List.set_cons_zero, List.set_cons_succ, List.getElem_toArray, List.getElem_cons_zero, List.getElem_cons_succ])
              refine wpAnyH_take (i := 11) (oi := _) (v := undef) rfl (by kernel_rfl) (by kernel_rfl) (by kernel_rfl) (fun _ _ _ h => h) (Or.inr ⟨by rfl, rfl⟩) (by assumption) ?_
              (try simp only [Act.put, List.setIfInBounds_toArray, List.set_cons_zero, List.set_cons_succ, List.getElem_toArray, List.getElem_cons_zero, List.getElem_cons_succ])
              refine wpAnyH_take (i := 12) (oi := _) (v := undef) rfl (by kernel_rfl) (by kernel_rfl) (by kernel_rfl) (fun _ _ _ h => h) (Or.inr ⟨by rfl, rfl⟩) (by assumption) ?_
              (try simp only [Act.put, List.setIfInBounds_toArray, List.set_cons_zero, List.set_cons_succ, List.getElem_toArray, List.getElem_cons_zero, List.getElem_cons_succ])
              refine wpAnyH_take (i := 13) (oi := _) (v := undef) rfl (by kernel_rfl) (by kernel_rfl) (by kernel_rfl) (fun _ _ _ h => h) (Or.inr ⟨by rfl, rfl⟩) (by assumption) ?_
              (try simp only [Act.put, List.setIfInBounds_toArray, List.set_cons_zero, List.set_cons_succ, List.getElem_toArray, List.getElem_cons_zero, List.getElem_cons_succ])
              refine wpAnyH_take (i := 14) (oi := _) (v := undef) rfl (by kernel_rfl) (by kernel_rfl) (by kernel_rfl) (fun _ _ _ h => h) (Or.inr ⟨by rfl, rfl⟩) (by assumption) ?_
              (try simp only [Act.put, List.setIfInBounds_toArray, List.set_cons_zero, List.set_cons_succ, List.getElem_toArray, List.getElem_cons_zero, List.getElem_cons_succ])
              refine wpAnyH_take (i := 15) (oi := _) (v := undef) rfl (by kernel_rfl) (by kernel_rfl) (by kernel_rfl) (fun _ _ _ h => h) (Or.inr ⟨by rfl, rfl⟩) (by assumption) ?_
              (try simp only [Act.put, List.setIfInBounds_toArray, List.set_cons_zero, List.set_cons_succ, List.getElem_toArray, List.getElem_cons_zero, List.getElem_cons_succ])
              refine wpAnyH_take (i := 16) (oi := _) (v := .bool true) rfl (by kernel_rfl) (by kernel_rfl) (by kernel_rfl) (fun _ _ _ h => h) (Or.inl ⟨by rfl, fun wx hSw => ?_⟩) (by assumption) ?_
              · go_simp
                try (first | omega | (rw [IntKind.wrap_i64]; omega))
              (try simp only [Act.put, List.setIfInBounds_toArray, List.set_cons_zero, List.set_cons_succ, List.getElem_toArray, List.getElem_cons_zero, List.getElem_cons_succ])
              refine wpAnyH_take (i := 17) (oi := _) (v := .pointer (some ⟨H, xb, none⟩)) rfl (by kernel_rfl) (by kernel_rfl) (by kernel_rfl) (fun _ _ _ h => h) (Or.inl ⟨by rfl, fun wx hSw => ?_⟩) (by assumption) ?_
              · go_simp
                try (first | omega | (rw [IntKind.wrap_i64]; omega))
              (try simp only [Act.put, List.setIfInBounds_toArray, List.set_cons_zero, List.set_cons_succ, List.getElem_toArray, List.getElem_cons_zero, List.getElem_cons_succ])
              refine wpAnyH_ready (rs := [18]) (by kernel_rfl) (by simp) ?_
              refine AllReadyH.cons (o := _) rfl (fun K hK => ?_) AllReadyH.nil
              go_simp
              refine hK.out _ _ (HS18.out true) (fun hHeld => ?_)
              clear hK K
              (try simp only [Act.put, List.setIfInBounds_toArray, List.set_cons_zero, List.set_cons_succ, List.getElem_toArray, List.getElem_cons_zero, List.getElem_cons_succ])
              refine wpAnyH_done (by kernel_rfl) ?_ _
              clear hHeld
              clear h7s r0 f0
              have HQ9 : Hid (∃ R, RD wB H i f L es (q + 1) ((w7.setCell ⟨H, xb, none⟩ (.bool true)).drew) R) := Lib.hid (HRB.out true (fun _ => rfl) (fun _ => rfl))
              have e2 := H2T.out true
              clear HRB HS18 H2T
              generalize (w7.setCell ⟨H, xb, none⟩ (.bool true)).drew = w9 at *
              cases PB with
              | false =>
                go_wp2
                go_roundw
                case rel => exact ⟨q + 1, 0, by omega, rfl, by go_num, HQ9⟩
                case measure => simp [intOf]; omega
              | true =>
                by_cases hc0 : 0 < xc
                · have m0 : decide ((0 : Int) < (xc : Int)) = true := decide_eq_true (by omega)
                  have m1 : decide (0 < xc) = true := decide_eq_true hc0
                  have m2 : decide ((xc : Int) > 0) = true := decide_eq_true (by omega)
                  clear hc0
                  go_wp2
                  go_roundw
                  case rel => exact ⟨q + 1, 1, by omega, rfl, by go_num, HQ9⟩
                  case measure => simp [intOf]; omega
                · have m0 : decide ((0 : Int) < (xc : Int)) = false := decide_eq_false (by omega)
                  have m1 : decide (0 < xc) = false := decide_eq_false hc0
                  have m2 : decide ((xc : Int) > 0) = false := decide_eq_false (by omega)
                  clear hc0
                  go_wp2
                  go_roundw
                  case rel => exact ⟨q + 1, 0, by omega, rfl, by go_num, HQ9⟩
                  case measure => simp [intOf]; omega
            | false =>
              by_cases hme : M = P + xc
              · have m5 : ((M : Int) == (P : Int) + (xc : Int)) = true := by simp; omega
                clear hme
                refine wp_region_held_drew (S := fun w' => w'.cell? ⟨ZB, 1, none⟩ = some (.int .i64 (xb : Int)) ∧ w'.cell? ⟨G, xb, none⟩ = some (.int .i64 (M : Int))) (by kernel_rfl) h7s (fun hHeld => ?_)
                change wpAnyH _ _ _ _ _ 19 #[false, false, false, false, false, false, false, false, false, false, false, false, false, false, false, false, false, false, false] _ _
                refine wpAnyH_take (i := 0) (oi := _) (v := .slice (some ⟨H, 0, none⟩) i i) rfl (by kernel_rfl) (by kernel_rfl) (by kernel_rfl) (fun _ _ _ h => h) (Or.inl ⟨by rfl, fun wx hSw => ?_⟩) (by assumption) ?_
                · go_simp
                  try (first | omega | (rw [IntKind.wrap_i64]; omega))
                (try simp only [Act.put, List.setIfInBounds_toArray, List.set_cons_zero, List.set_cons_succ, List.getElem_toArray, List.getElem_cons_zero, List.getElem_cons_succ])
                refine wpAnyH_take (i := 1) (oi := _) (v := .pointer (some ⟨ZB, 1, none⟩)) rfl (by kernel_rfl) (by kernel_rfl) (by kernel_rfl) (fun _ _ _ h => h) (Or.inl ⟨by rfl, fun wx hSw => ?_⟩) (by assumption) ?_
                · go_simp
                  try (first | omega | (rw [IntKind.wrap_i64]; omega))
                (try simp only [Act.put, List.setIfInBounds_toArray, List.set_cons_zero, List.set_cons_succ, List.getElem_toArray, List.getElem_cons_zero, List.getElem_cons_succ])
                refine wpAnyH_take (i := 2) (oi := _) (v := .int .i64 (xb : Int)) rfl (by kernel_rfl) (by kernel_rfl) (by kernel_rfl) (fun _ _ _ h => h) (Or.inl ⟨by rfl, fun wx hSw => ?_⟩) (by assumption) ?_
                · go_simp
                  try (first | omega | (rw [IntKind.wrap_i64]; omega))
                (try simp only [Act.put, List.setIfInBounds_toArray, List.set_cons_zero, List.set_cons_succ, List.getElem_toArray, List.getElem_cons_zero, List.getElem_cons_succ])
                refine wpAnyH_take (i := 3) (oi := _) (v := .slice (some ⟨H, 0, none⟩) i i) rfl (by kernel_rfl) (by kernel_rfl) (by kernel_rfl) (fun _ _ _ h => h) (Or.inl ⟨by rfl, fun wx hSw => ?_⟩) (by assumption) ?_
                · go_simp
                  try (first | omega | (rw [IntKind.wrap_i64]; omega))
                (try simp only [Act.put, List.setIfInBounds_toArray, List.set_cons_zero, List.set_cons_succ, List.getElem_toArray, List.getElem_cons_zero, List.getElem_cons_succ])
                refine wpAnyH_take (i := 4) (oi := _) (v := .pointer (some ⟨ZB, 1, none⟩)) rfl (by kernel_rfl) (by kernel_rfl) (by kernel_rfl) (fun _ _ _ h => h) (Or.inl ⟨by rfl, fun wx hSw => ?_⟩) (by assumption) ?_
                · go_simp
                  try (first | omega | (rw [IntKind.wrap_i64]; omega))
                (try simp only [Act.put, List.setIfInBounds_toArray, List.set_cons_zero, List.set_cons_succ, List.getElem_toArray, List.getElem_cons_zero, List.getElem_cons_succ])
                refine wpAnyH_take (i := 5) (oi := _) (v := .int .i64 (xb : Int)) rfl (by kernel_rfl) (by kernel_rfl) (by kernel_rfl) (fun _ _ _ h => h) (Or.inl ⟨by rfl, fun wx hSw => ?_⟩) (by assumption) ?_
                · go_simp
                  try (first | omega | (rw [IntKind.wrap_i64]; omega))
                (try simp only [Act.put, List.setIfInBounds_toArray, List.set_cons_zero, List.set_cons_succ, List.getElem_toArray, List.getElem_cons_zero, List.getElem_cons_succ])
                refine wpAnyH_take (i := 6) (oi := _) (v := .pointer (some ⟨H, xb, none⟩)) rfl (by kernel_rfl) (by kernel_rfl) (by kernel_rfl) (fun _ _ _ h => h) (Or.inl ⟨by rfl, fun wx hSw => ?_⟩) (by assumption) ?_
                · go_simp
                  try (first | omega | (rw [IntKind.wrap_i64]; omega))
                (try simp only [Act.put, List.setIfInBounds_toArray, List.set_cons_zero, List.set_cons_succ, List.getElem_toArray, List.getElem_cons_zero, List.getElem_cons_succ])
                refine wpAnyH_ready (rs := [7]) (by kernel_rfl) (by simp) ?_
                refine AllReadyH.cons (o := _) rfl (fun K hK => ?_) AllReadyH.nil
                go_simp
                refine hK.out _ _ (hHeld) (fun hHeld => ?_)
                clear hK K
                (try simp only [Act.put, List.setIfInBounds_toArray, List.set_cons_zero, List.set_cons_succ, List.getElem_toArray, List.getElem_cons_zero, List.getElem_cons_succ])
                refine wpAnyH_take (i := 8) (oi := _) (v := .bool false) rfl (by kernel_rfl) (by kernel_rfl) (by kernel_rfl) (fun _ _ _ h => h) (Or.inl ⟨by rfl, fun wx hSw => ?_⟩) (by assumption) ?_
                · go_simp
                  try (first | omega | (rw [IntKind.wrap_i64]; omega))
                (try simp only [Act.put, List.setIfInBounds_toArray, List.set_cons_zero, List.set_cons_succ, List.getElem_toArray, List.getElem_cons_zero, List.getElem_cons_succ])
                refine wpAnyH_take (i := 9) (oi := _) (v := .slice (some ⟨G, 0, none⟩) i i) rfl (by kernel_rfl) (by kernel_rfl) (by kernel_rfl) (fun _ _ _ h => h) (Or.inl ⟨by rfl, fun wx hSw => ?_⟩) (by assumption) ?_
                · go_simp
                  try (first | omega | (rw [IntKind.wrap_i64]; omega))
                (try simp only [Act.put, List.setIfInBounds_toArray, List.set_cons_zero, List.set_cons_succ, List.getElem_toArray, List.getElem_cons_zero, List.getElem_cons_succ])
                refine wpAnyH_take (i := 10) (oi := _) (v := .pointer (some ⟨ZB, 1, none⟩)) rfl (by kernel_rfl) (by kernel_rfl) (by kernel_rfl) (fun _ _ _ h => h) (Or.inl ⟨by rfl, fun wx hSw => ?_⟩) (by assumption) ?_
                · go_simp
                  try (first | omega | (rw [IntKind.wrap_i64]; omega))
                (try simp only [Act.put, List.setIfInBounds_toArray, List.set_cons_zero, List.set_cons_succ, List.getElem_toArray, List.getElem_cons_zero, List.getElem_cons_succ])
                refine wpAnyH_take (i := 11) (oi := _) (v := .int .i64 (xb : Int)) rfl (by kernel_rfl) (by kernel_rfl) (by kernel_rfl) (fun _ _ _ h => h) (Or.inl ⟨by rfl, fun wx hSw => ?_⟩) (by assumption) ?_
                · go_simp
                  try (first | omega | (rw [IntKind.wrap_i64]; omega))
                (try simp only [Act.put, List.setIfInBounds_toArray, List.set_cons_zero, List.set_cons_succ, List.getElem_toArray, List.getElem_cons_zero, List.getElem_cons_succ])
                refine wpAnyH_take (i := 12) (oi := _) (v := .pointer (some ⟨G, xb, none⟩)) rfl (by kernel_rfl) (by kernel_rfl) (by kernel_rfl) (fun _ _ _ h => h) (Or.inl ⟨by rfl, fun wx hSw => ?_⟩) (by assumption) ?_
                · go_simp
                  try (first | omega | (rw [IntKind.wrap_i64]; omega))
                (try simp only [Act.put, List.setIfInBounds_toArray, List.set_cons_zero, List.set_cons_succ, List.getElem_toArray, List.getElem_cons_zero, List.getElem_cons_succ])
                refine wpAnyH_take (i := 13) (oi := _) (v := .int .i64 (M : Int)) rfl (by kernel_rfl) (by kernel_rfl) (by kernel_rfl) (fun _ _ _ h => h) (Or.inl ⟨by rfl, fun wx hSw => ?_⟩) (by assumption) ?_
                · go_simp
                  try (first | omega | (rw [IntKind.wrap_i64]; omega))
                (try simp only [Act.put, List.setIfInBounds_toArray, List.set_cons_zero, List.set_cons_succ, List.getElem_toArray, List.getElem_cons_zero, List.getElem_cons_succ])
                refine wpAnyH_take (i := 14) (oi := _) (v := .int .i64 ((P : Int) + (xc : Int))) rfl (by kernel_rfl) (by kernel_rfl) (by kernel_rfl) (fun _ _ _ h => h) (Or.inl ⟨by rfl, fun wx hSw => ?_⟩) (by assumption) ?_
                · go_simp
                  try (first | omega | (rw [IntKind.wrap_i64]; omega))
                (try simp only [Act.put, List.setIfInBounds_toArray, List.set_cons_zero, List.set_cons_succ, List.getElem_toArray, List.getElem_cons_zero, List.getElem_cons_succ])
                refine wpAnyH_take (i := 15) (oi := _) (v := .bool true) rfl (by kernel_rfl) (by kernel_rfl) (by kernel_rfl) (fun _ _ _ h => h) (Or.inl ⟨by rfl, fun wx hSw => ?_⟩) (by assumption) ?_
                · go_simp
                  try (first | omega | (rw [IntKind.wrap_i64]; omega))
                (try simp only [Act.put, List.setIfInBounds_toArray, List.set_cons_zero, List.set_cons_succ, List.getElem_toArray, List.getElem_cons_zero, List.getElem_cons_succ])
                refine wpAnyH_take (i := 16) (oi := _) (v := .bool true) rfl (by kernel_rfl) (by kernel_rfl) (by kernel_rfl) (fun _ _ _ h => h) (Or.inl ⟨by rfl, fun wx hSw => ?_⟩) (by assumption) ?_
                · go_simp
                  try (first | omega | (rw [IntKind.wrap_i64]; omega))
                (try simp only [Act.put, List.setIfInBounds_toArray, List.set_cons_zero, List.set_cons_succ, List.getElem_toArray, List.getElem_cons_zero, List.getElem_cons_succ])
                refine wpAnyH_take (i := 17) (oi := _) (v := .pointer (some ⟨H, xb, none⟩)) rfl (by kernel_rfl) (by kernel_rfl) (by kernel_rfl) (fun _ _ _ h => h) (Or.inl ⟨by rfl, fun wx hSw => ?_⟩) (by assumption) ?_
                · go_simp
                  try (first | omega | (rw [IntKind.wrap_i64]; omega))
                (try simp only [Act.put, List.setIfInBounds_toArray, List.set_cons_zero, List.set_cons_succ, List.getElem_toArray, List.getElem_cons_zero, List.getElem_cons_succ])
                refine wpAnyH_ready (rs := [18]) (by kernel_rfl) (by simp) ?_
                refine AllReadyH.cons (o := _) rfl (fun K hK => ?_) AllReadyH.nil
                go_simp
                refine hK.out _ _ (HS18.out true) (fun hHeld => ?_)
                clear hK K
                (try simp only [Act.put, List.setIfInBounds_toArray, List.set_cons_zero, List.set_cons_succ, List.getElem_toArray, List.getElem_cons_zero, List.getElem_cons_succ])
                refine wpAnyH_done (by kernel_rfl) ?_ _
                clear hHeld
                clear h7s r0 f0
                have HQ9 : Hid (∃ R, RD wB H i f L es (q + 1) ((w7.setCell ⟨H, xb, none⟩ (.bool true)).drew) R) := Lib.hid (HRB.out true (fun _ => rfl) (fun _ => rfl))
                have e2 := H2T.out true
                clear HRB HS18 H2T
                generalize (w7.setCell ⟨H, xb, none⟩ (.bool true)).drew = w9 at *
                cases PB with
                | false =>
                  go_wp2
                  go_roundw
                  case rel => exact ⟨q + 1, 0, by omega, rfl, by go_num, HQ9⟩
                  case measure => simp [intOf]; omega
                | true =>
                  by_cases hc0 : 0 < xc
                  · have m0 : decide ((0 : Int) < (xc : Int)) = true := decide_eq_true (by omega)
                    have m1 : decide (0 < xc) = true := decide_eq_true hc0
                    have m2 : decide ((xc : Int) > 0) = true := decide_eq_true (by omega)
                    clear hc0
                    go_wp2
                    go_roundw
                    case rel => exact ⟨q + 1, 1, by omega, rfl, by go_num, HQ9⟩
                    case measure => simp [intOf]; omega
                  · have m0 : decide ((0 : Int) < (xc : Int)) = false := decide_eq_false (by omega)
                    have m1 : decide (0 < xc) = false := decide_eq_false hc0
                    have m2 : decide ((xc : Int) > 0) = false := decide_eq_false (by omega)
                    clear hc0
                    go_wp2
                    go_roundw
                    case rel => exact ⟨q + 1, 0, by omega, rfl, by go_num, HQ9⟩
                    case measure => simp [intOf]; omega
              · have m5 : ((M : Int) == (P : Int) + (xc : Int)) = false := by simp; omega
                have HNE := Lib.hid hme
                clear hme
                refine wp_region_held_drew (S := fun w' => w'.cell? ⟨ZB, 1, none⟩ = some (.int .i64 (xb : Int)) ∧ w'.cell? ⟨G, xb, none⟩ = some (.int .i64 (M : Int))) (by kernel_rfl) h7s (fun hHeld => ?_)
                change wpAnyH _ _ _ _ _ 19 #[false, false, false, false, false, false, false, false, false, false, false, false, false, false, false, false, false, false, false] _ _
                refine wpAnyH_take (i := 0) (oi := _) (v := .slice (some ⟨H, 0, none⟩) i i) rfl (by kernel_rfl) (by kernel_rfl) (by kernel_rfl) (fun _ _ _ h => h) (Or.inl ⟨by rfl, fun wx hSw => ?_⟩) (by assumption) ?_
                · go_simp
                  try (first | omega | (rw [IntKind.wrap_i64]; omega))
                (try simp only [Act.put, List.setIfInBounds_toArray, List.set_cons_zero, List.set_cons_succ, List.getElem_toArray, List.getElem_cons_zero, List.getElem_cons_succ])
                refine wpAnyH_take (i := 1) (oi := _) (v := .pointer (some ⟨ZB, 1, none⟩)) rfl (by kernel_rfl) (by kernel_rfl) (by kernel_rfl) (fun _ _ _ h => h) (Or.inl ⟨by rfl, fun wx hSw => ?_⟩) (by assumption) ?_
                · go_simp
                  try (first | omega | (rw [IntKind.wrap_i64]; omega))
                (try simp only [Act.put, List.setIfInBounds_toArray, List.set_cons_zero, List.set_cons_succ, List.getElem_toArray, List.getElem_cons_zero, List.getElem_cons_succ])
                refine wpAnyH_take (i := 2) (oi := _) (v := .int .i64 (xb : Int)) rfl (by kernel_rfl) (by kernel_rfl) (by kernel_rfl) (fun _ _ _ h => h) (Or.inl ⟨by rfl, fun wx hSw => ?_⟩) (by assumption) ?_
                · go_simp
                  try (first | omega | (rw [IntKind.wrap_i64]; omega))
                (try simp only [Act.put, List.setIfInBounds_toArray, List.set_cons_zero, List.set_cons_succ, List.getElem_toArray, List.getElem_cons_zero, List.getElem_cons_succ])
                refine wpAnyH_take (i := 3) (oi := _) (v := .slice (some ⟨H, 0, none⟩) i i) rfl (by kernel_rfl) (by kernel_rfl) (by kernel_rfl) (fun _ _ _ h => h) (Or.inl ⟨by rfl, fun wx hSw => ?_⟩) (by assumption) ?_
                · go_simp
                  try (first | omega | (rw [IntKind.wrap_i64]; omega))
                (try simp only [Act.put, List.setIfInBounds_toArray, List.set_cons_zero, List.set_cons_succ, List.getElem_toArray, List.getElem_cons_zero, List.getElem_cons_succ])
                refine wpAnyH_take (i := 4) (oi := _) (v := .pointer (some ⟨ZB, 1, none⟩)) rfl (by kernel_rfl) (by kernel_rfl) (by kernel_rfl) (fun _ _ _ h => h) (Or.inl ⟨by rfl, fun wx hSw => ?_⟩) (by assumption) ?_
                · go_simp
                  try (first | omega | (rw [IntKind.wrap_i64]; omega))
                (try simp only [Act.put, List.setIfInBounds_toArray, List.set_cons_zero, List.set_cons_succ, List.getElem_toArray, List.getElem_cons_zero, List.getElem_cons_succ])
                refine wpAnyH_take (i := 5) (oi := _) (v := .int .i64 (xb : Int)) rfl (by kernel_rfl) (by kernel_rfl) (by kernel_rfl) (fun _ _ _ h => h) (Or.inl ⟨by rfl, fun wx hSw => ?_⟩) (by assumption) ?_
                · go_simp
                  try (first | omega | (rw [IntKind.wrap_i64]; omega))
                (try simp only [Act.put, List.setIfInBounds_toArray, List.set_cons_zero, List.set_cons_succ, List.getElem_toArray, List.getElem_cons_zero, List.getElem_cons_succ])
                refine wpAnyH_take (i := 6) (oi := _) (v := .pointer (some ⟨H, xb, none⟩)) rfl (by kernel_rfl) (by kernel_rfl) (by kernel_rfl) (fun _ _ _ h => h) (Or.inl ⟨by rfl, fun wx hSw => ?_⟩) (by assumption) ?_
                · go_simp
                  try (first | omega | (rw [IntKind.wrap_i64]; omega))
                (try simp only [Act.put, List.setIfInBounds_toArray, List.set_cons_zero, List.set_cons_succ, List.getElem_toArray, List.getElem_cons_zero, List.getElem_cons_succ])
                refine wpAnyH_ready (rs := [7]) (by kernel_rfl) (by simp) ?_
                refine AllReadyH.cons (o := _) rfl (fun K hK => ?_) AllReadyH.nil
                go_simp
                refine hK.out _ _ (hHeld) (fun hHeld => ?_)
                clear hK K
                (try simp only [Act.put, List.setIfInBounds_toArray, List.set_cons_zero, List.set_cons_succ, List.getElem_toArray, List.getElem_cons_zero, List.getElem_cons_succ])
                refine wpAnyH_take (i := 8) (oi := _) (v := .bool false) rfl (by kernel_rfl) (by kernel_rfl) (by kernel_rfl) (fun _ _ _ h => h) (Or.inl ⟨by rfl, fun wx hSw => ?_⟩) (by assumption) ?_
                · go_simp
                  try (first | omega | (rw [IntKind.wrap_i64]; omega))
                (try simp only [Act.put, List.setIfInBounds_toArray, List.set_cons_zero, List.set_cons_succ, List.getElem_toArray, List.getElem_cons_zero, List.getElem_cons_succ])
                refine wpAnyH_take (i := 9) (oi := _) (v := .slice (some ⟨G, 0, none⟩) i i) rfl (by kernel_rfl) (by kernel_rfl) (by kernel_rfl) (fun _ _ _ h => h) (Or.inl ⟨by rfl, fun wx hSw => ?_⟩) (by assumption) ?_
                · go_simp
                  try (first | omega | (rw [IntKind.wrap_i64]; omega))
                (try simp only [Act.put, List.setIfInBounds_toArray, List.set_cons_zero, List.set_cons_succ, List.getElem_toArray, List.getElem_cons_zero, List.getElem_cons_succ])
                refine wpAnyH_take (i := 10) (oi := _) (v := .pointer (some ⟨ZB, 1, none⟩)) rfl (by kernel_rfl) (by kernel_rfl) (by kernel_rfl) (fun _ _ _ h => h) (Or.inl ⟨by rfl, fun wx hSw => ?_⟩) (by assumption) ?_
                · go_simp
                  try (first | omega | (rw [IntKind.wrap_i64]; omega))
                (try simp only [Act.put, List.setIfInBounds_toArray, List.set_cons_zero, List.set_cons_succ, List.getElem_toArray, List.getElem_cons_zero, List.getElem_cons_succ])
                refine wpAnyH_take (i := 11) (oi := _) (v := .int .i64 (xb : Int)) rfl (by kernel_rfl) (by kernel_rfl) (by kernel_rfl) (fun _ _ _ h => h) (Or.inl ⟨by rfl, fun wx hSw => ?_⟩) (by assumption) ?_
                · go_simp
                  try (first | omega | (rw [IntKind.wrap_i64]; omega))
                (try simp only [Act.put, List.setIfInBounds_toArray, List.set_cons_zero, List.set_cons_succ, List.getElem_toArray, List.getElem_cons_zero, List.getElem_cons_succ])
                refine wpAnyH_take (i := 12) (oi := _) (v := .pointer (some ⟨G, xb, none⟩)) rfl (by kernel_rfl) (by kernel_rfl) (by kernel_rfl) (fun _ _ _ h => h) (Or.inl ⟨by rfl, fun wx hSw => ?_⟩) (by assumption) ?_
                · go_simp
                  try (first | omega | (rw [IntKind.wrap_i64]; omega))
                (try simp only [Act.put, List.setIfInBounds_toArray, List.set_cons_zero, List.set_cons_succ, List.getElem_toArray, List.getElem_cons_zero, List.getElem_cons_succ])
                refine wpAnyH_take (i := 13) (oi := _) (v := .int .i64 (M : Int)) rfl (by kernel_rfl) (by kernel_rfl) (by kernel_rfl) (fun _ _ _ h => h) (Or.inl ⟨by rfl, fun wx hSw => ?_⟩) (by assumption) ?_
                · go_simp
                  try (first | omega | (rw [IntKind.wrap_i64]; omega))
                (try simp only [Act.put, List.setIfInBounds_toArray, List.set_cons_zero, List.set_cons_succ, List.getElem_toArray, List.getElem_cons_zero, List.getElem_cons_succ])
                refine wpAnyH_take (i := 14) (oi := _) (v := .int .i64 ((P : Int) + (xc : Int))) rfl (by kernel_rfl) (by kernel_rfl) (by kernel_rfl) (fun _ _ _ h => h) (Or.inl ⟨by rfl, fun wx hSw => ?_⟩) (by assumption) ?_
                · go_simp
                  try (first | omega | (rw [IntKind.wrap_i64]; omega))
                (try simp only [Act.put, List.setIfInBounds_toArray, List.set_cons_zero, List.set_cons_succ, List.getElem_toArray, List.getElem_cons_zero, List.getElem_cons_succ])
                refine wpAnyH_take (i := 15) (oi := _) (v := .bool false) rfl (by kernel_rfl) (by kernel_rfl) (by kernel_rfl) (fun _ _ _ h => h) (Or.inl ⟨by rfl, fun wx hSw => ?_⟩) (by assumption) ?_
                · go_simp
                  try (first | omega | (rw [IntKind.wrap_i64]; omega))
                (try simp only [Act.put, List.setIfInBounds_toArray, List.set_cons_zero, List.set_cons_succ, List.getElem_toArray, List.getElem_cons_zero, List.getElem_cons_succ])
                refine wpAnyH_take (i := 16) (oi := _) (v := .bool false) rfl (by kernel_rfl) (by kernel_rfl) (by kernel_rfl) (fun _ _ _ h => h) (Or.inl ⟨by rfl, fun wx hSw => ?_⟩) (by assumption) ?_
                · go_simp
                  try (first | omega | (rw [IntKind.wrap_i64]; omega))
                (try simp only [Act.put, List.setIfInBounds_toArray, List.set_cons_zero, List.set_cons_succ, List.getElem_toArray, List.getElem_cons_zero, List.getElem_cons_succ])
                refine wpAnyH_take (i := 17) (oi := _) (v := .pointer (some ⟨H, xb, none⟩)) rfl (by kernel_rfl) (by kernel_rfl) (by kernel_rfl) (fun _ _ _ h => h) (Or.inl ⟨by rfl, fun wx hSw => ?_⟩) (by assumption) ?_
                · go_simp
                  try (first | omega | (rw [IntKind.wrap_i64]; omega))
                (try simp only [Act.put, List.setIfInBounds_toArray, List.set_cons_zero, List.set_cons_succ, List.getElem_toArray, List.getElem_cons_zero, List.getElem_cons_succ])
                refine wpAnyH_ready (rs := [18]) (by kernel_rfl) (by simp) ?_
                refine AllReadyH.cons (o := _) rfl (fun K hK => ?_) AllReadyH.nil
                go_simp
                refine hK.out _ _ (HS18.out false) (fun hHeld => ?_)
                clear hK K
                (try simp only [Act.put, List.setIfInBounds_toArray, List.set_cons_zero, List.set_cons_succ, List.getElem_toArray, List.getElem_cons_zero, List.getElem_cons_succ])
                refine wpAnyH_done (by kernel_rfl) ?_ _
                clear hHeld
                clear h7s r0 f0
                have HQ9 : Hid (∃ R, RD wB H i f L es (q + 1) ((w7.setCell ⟨H, xb, none⟩ (.bool false)).drew) R) := Lib.hid (HRB.out false (fun e => by have := HBB.out; rw [e] at this; cases this) (fun e => absurd e HNE.out))
                have e2 := H2T.out false
                clear HRB HS18 H2T
                generalize (w7.setCell ⟨H, xb, none⟩ (.bool false)).drew = w9 at *
                cases PB with
                | false =>
                  go_wp2
                  go_roundw
                  case rel => exact ⟨q + 1, 0, by omega, rfl, by go_num, HQ9⟩
                  case measure => simp [intOf]; omega
                | true =>
                  by_cases hc0 : 0 < xc
                  · have m0 : decide ((0 : Int) < (xc : Int)) = true := decide_eq_true (by omega)
                    have m1 : decide (0 < xc) = true := decide_eq_true hc0
                    have m2 : decide ((xc : Int) > 0) = true := decide_eq_true (by omega)
                    clear hc0
                    go_wp2
                    go_roundw
                    case rel => exact ⟨q + 1, 1, by omega, rfl, by go_num, HQ9⟩
                    case measure => simp [intOf]; omega
                  · have m0 : decide ((0 : Int) < (xc : Int)) = false := decide_eq_false (by omega)
                    have m1 : decide (0 < xc) = false := decide_eq_false hc0
                    have m2 : decide ((xc : Int) > 0) = false := decide_eq_false (by omega)
                    clear hc0
                    go_wp2
                    go_roundw
                    case rel => exact ⟨q + 1, 0, by omega, rfl, by go_num, HQ9⟩
                    case measure => simp [intOf]; omega
          obtain rfl : q = k := by omega
          have hlt6 : ¬ ((q : Int) < (q : Int)) := by omega
          have hrall := hR.all HKE.out HL.out hn32
          have HRA := Lib.hid (And.intro hrall hR.top)
          have HRW := Lib.hid hR.rw; have HRL := Lib.hid hR.len
          have HDW := Lib.hid (HRJ.out.on hR.below)
          have HBQ := Lib.hid (btrans HB.out (btrans HBJ.out hR.below))
          clear hrall hR HQ hlt5 HPB
          go_wp2
          clear b0 b1 b2 b3
          go_loopw [16] (fun s16 wz => ∃ p : Nat, p ≤ i ∧ s16 = .int .i64 (p : Int) ∧ Hid (Below wr.heap.size wr wz)) (fun s16 _ => i - (intOf s16).toNat)
          case atStart => exact ⟨0, by omega, rfl, Lib.hid (Below.refl _ _)⟩
          case round =>
            obtain ⟨p, hp, rfl, HP⟩ := hrel
            by_cases hlt7 : p < i
            rotate_left
            · obtain rfl : p = i := by omega
              have hlt8 : ¬ ((p : Int) < (p : Int)) := by omega
              have HZ := Lib.hid (btrans HBQ.out HP.out)
              go_wp2
              go_ret
              exact ⟨rfl, HZ.out⟩
            have hlt8 : (p : Int) < (i : Int) := by omega
            have r0 : wr.cell? ⟨H, p, none⟩ = some (.bool (bv R p)) := (HRW.out.on HP.out).cell (bv_get (by rw [HRL.out]; exact hlt7))
            have g0 : wr.cell? ⟨G, p, none⟩ = some (.int .i64 (dv D p)) := (HDW.out.on HP.out).cell (dv_get (by rw [HLJ.out]; exact hlt7))
            by_cases hU : cv L p < 32000000000
            · rw [HRA.out.1 p hlt7 hU] at r0
              rw [(HALL.out p hlt7).1 hU] at g0
              obtain ⟨P, hP⟩ : ∃ P, P = cv L p := ⟨_, rfl⟩
              rw [← hP] at g0
              have d0 : decide ((P : Int) ≥ 0) = true := decide_eq_true (by omega)
              have d1 : decide ((0 : Int) ≤ (P : Int)) = true := decide_eq_true (by omega)
              clear hP hU
              cases PB with
              | false =>
                go_wp2_with fail
                go_quiet (fail)
                have HP2 := Lib.hid (bdrewN HP.out nq)
                clear r0 g0
                generalize wr.drewN nq = w7 at *
                go_wp2
                go_roundw
                case rel => exact ⟨p + 1, by omega, by go_num, HP2⟩
                case measure => simp [intOf]; omega
              | true =>
                go_wp2_with fail
                go_quiet (fail)
                have HP2 := Lib.hid (bdrewN HP.out nq)
                clear r0 g0
                generalize wr.drewN nq = w7 at *
                go_wp2
                go_roundw
                case rel => exact ⟨p + 1, by omega, by go_num, HP2⟩
                case measure => simp [intOf]; omega
            · have hz : bv R p = false := by
                cases h : bv R p
                · rfl
                · exact absurd (HRA.out.2 p hlt7 h) hU
              rw [hz] at r0
              rw [(HALL.out p hlt7).2 hU] at g0
              clear hz hU
              cases PB with
              | false =>
                go_wp2_with fail
                go_quiet (fail)
                have HP2 := Lib.hid (bdrewN HP.out nq)
                clear r0 g0
                generalize wr.drewN nq = w7 at *
                go_wp2
                go_roundw
                case rel => exact ⟨p + 1, by omega, by go_num, HP2⟩
                case measure => simp [intOf]; omega
              | true =>
                go_wp2_with fail
                go_quiet (fail)
                have HP2 := Lib.hid (bdrewN HP.out nq)
                clear r0 g0
                generalize wr.drewN nq = w7 at *
                go_wp2
                go_roundw
                case rel => exact ⟨p + 1, by omega, by go_num, HP2⟩
                case measure => simp [intOf]; omega

set_option maxRecDepth 100000 in
theorem lifted (os : Os) (started : os.Started) (H : Type) (enc : TypeId × Value → H) :
    ReturnsInHanded {} Try.checked os 5 .any (Rows.fleetCheapestSpec.pre6 enc Try.prog Try.f5 Rows.fleetCheapestRow.domain false) (Rows.fleetCheapestSpec.post enc Try.prog Try.f5 false true false false) := by
  refine returnsInHanded_of_change_sized (C := Try.checked) own started (by kernel_rfl) Try.func5
    (ChangeSpec.witness6 (enc := enc) (C := Try.checked) false ⟨#[], #[.agg #[.slice none 0 0, .slice none 0 0, .slice none 0 0, .slice none 0 0], .int .i64 0], []⟩ 8 (by kernel_rfl) (by kernel_rfl) (by kernel_rfl) (by kernel_rfl)) ?_
  intro W base args ds gs before hval0 hW _ hsz0 _
  have hsz : (DataW.weightsEach Try.prog (Try.f5.params.toList ++ Rows.fleetCheapestSpec.plain.varTypes Try.prog) (ds ++ gs)).all (· ≤ reachBytes) = true := hsz0
  have hval : ∀ (j : Nat) t v, Try.f5.params[j]? = some t → args[j]? = some v → Value.okWide Try.prog W .any base t v := hval0
  clear hsz0 hval0
  have hW' := hW
  obtain ⟨p, q, hA0, hV, rfl, _, _⟩ := hW
  have hA : DataW.TrodAll enc Try.prog W 0 (fun _ => true) true Try.f5.params.toList args.toList ds p := hA0
  rw [Try.params5] at hA hval hsz
  obtain ⟨v0, vs0, d0, ds0, p0, q0, hargs, rfl, rfl, h0, r0⟩ := trodAll_cons hA
  obtain ⟨v1, vs1, d1, ds1, p1, q1, rfl, rfl, rfl, h1, r1⟩ := trodAll_cons r0
  obtain ⟨rfl, rfl, rfl⟩ := trodAll_nil r1
  obtain rfl : args = #[v0, v1] := by cases args; simp_all
  obtain ⟨rfl, rfl⟩ := trodVars_none hV
  have hw0 : ∀ n ∈ d0.weights Try.prog 27, n ≤ reachBytes := by
    intro n hn
    have := List.all_eq_true.1 hsz n (DataW.weights_mem_each (t := 27) (d := d0) (j := 0) rfl rfl n hn)
    simpa using this
  obtain ⟨ts0, ws0, ss0, hs0, hn0⟩ := openFl (hval 0 27 v0 rfl rfl) h0 hw0
  obtain ⟨a1, rfl, rfl, rfl, wf1⟩ := open_int Try.underlying3 (hval 1 3 v1 rfl rfl) h1
  clear hA0
  refine (walk v0 ts0 ws0 ss0 hs0 a1 W hn0 (i64_wf wf1)).mono fun e W' ⟨he, hb⟩ => ?_
  subst he
  refine ⟨_, rfl, post_law laidOut ?_ rfl rfl hW' rfl rfl rfl hb⟩
  intro t ht
  rw [Try.params5] at ht
  have hm : t ∈ [3, 27] := (by decide : ∀ t ∈ (#[27, 3] : Array TypeId).toList, t ∈ [3, 27]) t ht
  have hall : ([3, 27].all fun u => Try.prog.readableRec u && decide (u < Try.prog.types.size)) = true := by kernel_rfl
  have := List.all_eq_true.1 hall t hm
  simpa using this

theorem over : Rows.fleetCheapestRow.holds Try.pinned (OpenSpec.ofChange Rows.fleetCheapestSpec) :=
  OpenClaim.holds_of_wide 5 Try.f5 rfl rfl rfl rfl rfl rfl rfl ⟨rfl, rfl, rfl, rfl, rfl⟩ rfl rfl rfl rfl rfl (by kernel_rfl) Try.func5 (by kernel_rfl)
    (of_decide_eq_true (by kernel_rfl)) (by unfold Func.isWrapper; first | (rw [if_pos (by decide +kernel)]; kernel_rfl) | (rw [if_neg (by decide +kernel)]; exact ⟨rfl, rfl⟩))
    (fun os started H enc _ => lifted os started H enc)

/-- THE STATEMENT. -/
theorem proved : Rows.FleetCheapestSaid :=
  over
#print axioms proved
end Go.Proofs.Ytijdjbkmkopmnaa.fleetCheapest
