/-
  Walks: Shares.
-/
import Derived.Test.YtbeoldklpklbfaaOc
namespace Go.Proofs.Ytbeoldklpklbfaa
open Go.RowKit
set_option linter.unusedVariables false
set_option linter.unusedSimpArgs false


/-- The state of Shares. -/
structure SQ (w2 : World) (gb : Array Value) (es : List Ln) (P : List Nat) (j : Nat) (wr : World) : Prop where
  below : Below w2.heap.size w2 wr
  box : wr.heap[w2.heap.size]? = some (.cells gb 63 (0, 0))
  km : KA wr (w2.heap.size + 1) 69 (fun r => .int .i64 (kmf es P r j : Nat))
  us : KA wr (w2.heap.size + 1 + 1) 70 (fun r => .bool (usf es P r j))
  ok : ∀ i, i < j → rln es P i ≠ none
theorem sq_start (w2 : World) (gb : Array Value) (es : List Ln) (P : List Nat) : SQ w2 gb es P 0 (((w2.alloc (.cells gb 63)).alloc (.cells #[.int .i64 0, .int .i64 0, .int .i64 0, .int .i64 0, .int .i64 0, .int .i64 0, .int .i64 0, .int .i64 0, .int .i64 0, .int .i64 0, .int .i64 0, .int .i64 0, .int .i64 0, .int .i64 0, .int .i64 0, .int .i64 0] 69)).alloc (.cells #[.bool false, .bool false, .bool false, .bool false, .bool false, .bool false, .bool false, .bool false, .bool false, .bool false, .bool false, .bool false, .bool false, .bool false, .bool false, .bool false] 70)) := by
  have hk1 := ka_lit (w2.alloc (.cells gb 63)) 69 (.int .i64 0)
  have hk2 := ka_lit ((w2.alloc (.cells gb 63)).alloc (.cells #[.int .i64 0, .int .i64 0, .int .i64 0, .int .i64 0, .int .i64 0, .int .i64 0, .int .i64 0, .int .i64 0, .int .i64 0, .int .i64 0, .int .i64 0, .int .i64 0, .int .i64 0, .int .i64 0, .int .i64 0, .int .i64 0] 69)) 70 (.bool false)
  rw [World.size_alloc] at hk1
  rw [World.size_alloc, World.size_alloc] at hk2
  exact ⟨ball (ball (ball (Below.refl _ _) _) _) _, bal (bal (bnew _ _) _) _, hk1.on (ball (Below.refl _ _) _), hk2, fun i hi => by omega⟩
theorem kmf_next {es : List Ln} {P : List Nat} {j jj r : Nat} {y : Ln} (hr : rln es P j = some jj) (hy : es[jj]? = some y) : kmf es P r (j + 1) = kmf es P r j + if y.r = r then y.k else 0 := by
  rw [kmf, hr]
  simp only [lx_get hy]
theorem usf_next {es : List Ln} {P : List Nat} {j jj r : Nat} {y : Ln} (hr : rln es P j = some jj) (hy : es[jj]? = some y) : usf es P r (j + 1) = (usf es P r j || decide (y.r = r)) := by
  rw [usf, hr]
  simp only [lx_get hy]
theorem SQ.next {w2 wr : World} {gb : Array Value} {es : List Ln} {P : List Nat} {j jj rr xk : Nat} {y : Ln} {KV : Int} (h : SQ w2 gb es P j wr) (hr : rln es P j = some jj) (hy : es[jj]? = some y) (h1 : rr = y.r) (h2 : xk = y.k) (h16 : rr < 16) (hK : KV = (kmf es P rr j : Nat)) :
    SQ w2 gb es P (j + 1) ((wr.setCell ⟨w2.heap.size + 1, rr, none⟩ (.int .i64 (KV + (xk : Int)))).setCell ⟨w2.heap.size + 1 + 1, rr, none⟩ (.bool true)) := by
  have hlx := lx_get hy
  have hK3 : KA (wr.setCell ⟨w2.heap.size + 1, rr, none⟩ (.int .i64 (KV + (xk : Int)))) (w2.heap.size + 1) 69 (fun r => .int .i64 (kmf es P r (j + 1) : Nat)) := (h.km.put h16 (.int .i64 (KV + (xk : Int)))).same (fun r hr' => by
    show (if r = rr then _ else _) = _
    rw [kmf_next hr hy]
    by_cases e : r = rr
    · rw [if_pos e, if_pos (by omega), e, ← h2, hK]; congr 1
    · rw [if_neg e, if_neg (by omega)]; rfl)
  have hU3 := h.us.other ⟨w2.heap.size + 1, rr, none⟩ (.int .i64 (KV + (xk : Int))) (by simp)
  have hU4 : KA ((wr.setCell ⟨w2.heap.size + 1, rr, none⟩ (.int .i64 (KV + (xk : Int)))).setCell ⟨w2.heap.size + 1 + 1, rr, none⟩ (.bool true)) (w2.heap.size + 1 + 1) 70 (fun r => .bool (usf es P r (j + 1))) := (hU3.put h16 (.bool true)).same (fun r hr' => by
    show (if r = rr then _ else _) = _
    rw [usf_next hr hy]
    by_cases e : r = rr
    · rw [if_pos e, decide_eq_true (by omega), Bool.or_true]
    · rw [if_neg e, decide_eq_false (by omega), Bool.or_false])
  refine ⟨Below.setCell (Below.setCell h.below (show w2.heap.size ≤ w2.heap.size + 1 by omega) _) (show w2.heap.size ≤ w2.heap.size + 1 + 1 by omega) _,
    (heap_setCell_other _ ⟨w2.heap.size + 1 + 1, rr, none⟩ _ _ (by show w2.heap.size ≠ w2.heap.size + 1 + 1; omega)).trans ((heap_setCell_other _ ⟨w2.heap.size + 1, rr, none⟩ _ _ (by show w2.heap.size ≠ w2.heap.size + 1; omega)).trans h.box), hK3.other ⟨w2.heap.size + 1 + 1, rr, none⟩ (.bool true) (by simp), hU4, fun i hi => ?_⟩
  by_cases e : i = j
  · rw [e, hr]; simp
  · exact h.ok i (by omega)
theorem SQ.on {w2 wr w' : World} {gb : Array Value} {es : List Ln} {P : List Nat} {j : Nat} (h : SQ w2 gb es P j wr) (hb : Below wr.heap.size wr w') : SQ w2 gb es P j w' :=
  ⟨btrans h.below hb, bon h.box hb, h.km.on hb, h.us.on hb, h.ok⟩
theorem SQ.uc {w2 wr : World} {gb : Array Value} {es : List Ln} {P : List Nat} {j rr : Nat} (h : SQ w2 gb es P j wr) (v : Value) (h16 : rr < 16) : (wr.setCell ⟨w2.heap.size + 1, rr, none⟩ v).cell? ⟨w2.heap.size + 1 + 1, rr, none⟩ = some (.bool (usf es P rr j)) ∧ (wr.setCell ⟨w2.heap.size + 1, rr, none⟩ v).frozen? ⟨w2.heap.size + 1 + 1, rr, none⟩ = false :=
  ⟨(h.us.other ⟨w2.heap.size + 1, rr, none⟩ v (by simp)).cell h16, (h.us.other ⟨w2.heap.size + 1, rr, none⟩ v (by simp)).free rr⟩


set_option maxRecDepth 100000 in
set_option maxHeartbeats 8000000 in
theorem sharesP_any {V u : Value} {ps : List Pc} {eds : List Ed} {route : List Int} {w : World} (h : Nw w V ps eds) (hu : Hl (fun k => k < w.heap.size) w u route) (hrl : route.length ≤ 100000) :
    Calls Try.prog 19 #[V, u] w fun e w' => ∃ (ad : Option Addr) (k c : Nat) (S : List Sh) (E : Int), e = .returned (.tuple #[.slice ad k c, .int .i64 E]) ∧ Below w.heap.size w w' ∧ Ss (fun k => k < w'.heap.size) w' (.slice ad k c) S ∧ HR ps eds route S E := by
  obtain ⟨va, vc, vb, vd, rfl, h1, h2⟩ := h.shape
  obtain ⟨n, hn⟩ : ∃ n, n = ps.length := ⟨_, rfl⟩
  obtain ⟨m, hm⟩ : ∃ m, m = eds.length := ⟨_, rfl⟩
  rw [← hn, ← hm] at h ⊢
  have HN := Lib.hid hn; have HM := Lib.hid hm
  obtain ⟨W, hW⟩ : ∃ W, W = w.alloc (.cells #[.slice va n vc, .slice vb m vd] 25) := ⟨_, rfl⟩
  have hB : Below w.heap.size w W := by rw [hW]; exact ball (Below.refl w.heap.size w) _
  have e0 : W.heap[w.heap.size]? = some (.cells #[.slice va n vc, .slice vb m vd] 25 (0, 0)) := by rw [hW]; exact bnew _ _
  have hV := h.on hB
  obtain ⟨b0, b1⟩ := box2 e0
  obtain ⟨ua, uc, rfl⟩ := hu.shape
  obtain ⟨rl, hrl2⟩ : ∃ rl, rl = route.length := ⟨_, rfl⟩
  rw [← hrl2] at hu hrl ⊢
  obtain ⟨E, hE⟩ : ∃ E, E = cerr ps eds route := ⟨_, rfl⟩
  have hes := h2.on hB
  rw [← hm] at hes
  have HES := Lib.hid hes
  have HC := Lib.hid (ccall_any hV (hu.on hB) E hE)
  have HB := Lib.hid hB; have HE0 := Lib.hid e0; have HV := Lib.hid hV; have HEE := Lib.hid hE; have HU := Lib.hid (hu.on hB); have HRL := Lib.hid hrl2
  clear h h1 h2 hn hm hB e0 hV hE hu hrl2 hes
  by_cases c0 : E = 0
  · subst c0
    obtain ⟨hc, hp⟩ := cerr_zero HEE.out.symm
    obtain ⟨es, hval⟩ := chk_val hc
    obtain ⟨P, rfl, hPn⟩ := plc_nat hp
    rw [ints_length] at HRL
    have HGR := Lib.hid (fun (w' : World) (hb : Below W.heap.size W w') => graph_any (n := n) (by have := HV.out.on hb; rw [hval.1] at this; exact this) HN.out.symm (by have := hval.2.2.1; have := HN.out; omega) (by have := hval.2.2.2; omega) (by rw [HN.out]; exact hval.2.1))
    have HVAL := Lib.hid hval; have HPN := Lib.hid hPn
    have hn512 : n ≤ 512 := by have := HN.out; have := hval.2.2.1; omega
    have hmes : m = es.length := by have := HM.out; rw [this, hval.1, List.length_map]
    have HMES := Lib.hid hmes
    have hm2 : m ≤ 2048 := by have := hval.2.2.2; omega
    clear hc hp hval hPn hmes
    go_enter Try.func19, Try.ntmps19
    go_wp2_with fail
    rw [← hW]
    clear hW
    refine HC.out.mono ?_
    rintro e w1 ⟨rfl, hb⟩
    have HG := Lib.hid (HGR.out w1 hb)
    have HB1 := Lib.hid hb
    obtain ⟨d0, d1⟩ := box2 (bon HE0.out hb)
    clear hb b0 b1 HC HGR
    go_wp2_with fail
    refine HG.out.mono ?_
    rintro e w2 ⟨ea, en, ec, B, G, rfl, hb2, hgr⟩
    have hbW2 := btrans HB1.out hb2
    obtain ⟨NN, hMM⟩ := hgr.M
    have hL0 := Lib.hid (sq_start w2 #[.slice ea en ec, .map (some B), .slice (some ⟨G, 0, none⟩) n n] es P)
    have HW2 := Lib.hid hbW2; have HGR := Lib.hid hgr; have HMM := Lib.hid hMM
    clear hbW2 hb2 hgr hMM d0 d1 HG HB1
    go_wp2
    go_loopg [4, 9] rl (fun M s4 s wr => ∃ j i : Nat, s4 = .slice none 0 0 ∧ s = .int .i64 (i : Int) ∧ Hid (i = j + 1 ∧ M = rl - j ∧ (j = 0 ∨ j + 1 ≤ rl) ∧ SQ w2 #[.slice ea en ec, .map (some B), .slice (some ⟨G, 0, none⟩) n n] es P j wr))
    case atStart => exact ⟨0, 1, rfl, rfl, Lib.hid ⟨rfl, by omega, Or.inl rfl, hL0.out⟩⟩
    case round =>
      clear hL0
      obtain ⟨j, i, rfl, rfl, HJ⟩ := hrel
      by_cases hlt : i < rl
      · have hij := HJ.out.1
        have HIJ := Lib.hid hij
        have hlt2 : (i : Int) < (rl : Int) := by omega
        have hlt3 : (j : Int) < (rl : Int) := by omega
        have hw1 : IntKind.i64.wrap ((i : Int) - 1) = (j : Int) := by rw [show (i : Int) - 1 = (j : Int) by omega]; exact wrap_in (by omega) (by omega)
        obtain ⟨hij0, hM, hjl, hsq⟩ := HJ.out
        have hbl := hsq.below
        have hgb := hsq.box
        have hblW := btrans HW2.out hbl
        obtain ⟨p, hp⟩ : ∃ p, P[j]? = some p := ⟨_, List.getElem?_eq_getElem (by have := HRL.out; omega)⟩
        obtain ⟨q, hq⟩ : ∃ q, P[j + 1]? = some q := ⟨_, List.getElem?_eq_getElem (by have := HRL.out; omega)⟩
        have hpn := HPN.out p (List.mem_of_getElem? hp)
        have hqn := HPN.out q (List.mem_of_getElem? hq)
        have hHl := HU.out.on hblW
        obtain ⟨g, off, x, rfl, hg, hx, hxi, c0, hcap⟩ := hHl.pick j (by rw [ints_length, ← HRL.out]; omega)
        have hxp : x = (p : Int) := by rw [ints_get, hp] at hx; exact (Option.some.inj hx).symm
        subst hxp
        have c1 := (hHl.at (k := j + 1) (x := (q : Int)) (by rw [ints_get, hq]; rfl)).2.1
        rw [← hij] at c1
        have hpd : P.getD j 0 = p := by rw [List.getD_eq_getElem?_getD, hp]; rfl
        have hqd : P.getD (j + 1) 0 = q := by rw [List.getD_eq_getElem?_getD, hq]; rfl
        have hrl3 : rln es P j = fd es p q := by unfold rln; rw [hpd, hqd]
        obtain ⟨c, hlk, hcc⟩ := (HMM.out.on (hbl.drew)).ok (p := p) (q := q) (by have := HN.out; omega) (by have := HN.out; omega)
        obtain ⟨g0, g1, g2⟩ := box3 hgb
        clear hM hjl hp hq hg hx hxi hcap hpd hqd hij hij0
        cases hfd : fd es p q with
        | none =>
          rw [hfd] at hlk hrl3
          have hlk2 : (Instr.lookup 60 (.map (some B)) (.agg #[.int .i64 (p : Int), .int .i64 (q : Int)]) true).run Try.prog wr.drew = .ok (.tuple #[.int .i64 c, .bool false]) wr.drew := hlk
          have HF : Hid (Below w.heap.size w wr.drew ∧ ∃ i, i + 1 < P.length ∧ rln es P i = none) := Lib.hid ⟨(btrans HB.out hblW).drew, j, by have := HRL.out; have := HIJ.out; omega, hrl3⟩
          clear hlk hcc hfd hrl3 hbl hgb hsq hblW hHl HJ
          go_upto_region 10 with (fail)
          refine wp_region_still_lit (by kernel_rfl) (by kernel_rfl) ?_
          repeat still_step
          refine wpStill_nil ?_
          go_wp2
          go_ret2
          exact ⟨_, _, _, [], 80, rfl, HF.out.1, sk_nil _ _ _ _, Or.inr ⟨HEE.out.symm, es, P, HVAL.out, rfl, HPN.out, Or.inl ⟨HF.out.2, rfl, rfl⟩⟩⟩
        | some jj =>
          rw [hfd] at hlk hrl3
          obtain rfl := hcc jj hfd
          have hlk2 : (Instr.lookup 60 (.map (some B)) (.agg #[.int .i64 (p : Int), .int .i64 (q : Int)]) true).run Try.prog wr.drew = .ok (.tuple #[.int .i64 (jj : Int), .bool true]) wr.drew := hlk
          obtain ⟨y, hy⟩ : ∃ y, es[jj]? = some y := ⟨_, List.getElem?_eq_getElem (fd_lt hfd)⟩
          have hyo := HVAL.out.2.1 y (List.mem_of_getElem? hy)
          have hjm : jj < m := by have := HMES.out; have := fd_lt hfd; omega
          have hjm2 : (jj : Int) < (m : Int) := by omega
          obtain ⟨g5, off5, z, rfl, hg5, hz, z0, z1, z2, z3, z4, hcap5⟩ := Es.cells HES.out jj (by rw [← HM.out]; exact hjm)
          have hzy : z = y.ed := by
            rw [HVAL.out.1, List.getElem?_map, hy] at hz
            exact (Option.some.inj hz).symm
          subst hzy
          obtain ⟨rr, hrr⟩ : ∃ rr, rr = y.r := ⟨_, rfl⟩
          obtain ⟨xk, hxk⟩ : ∃ xk, xk = y.k := ⟨_, rfl⟩
          have hrr16 : rr < 16 := by unfold Ln.ok at hyo; omega
          have hxkb : xk ≤ 10000 := by unfold Ln.ok at hyo; omega
          have z2' : wr.cell? ⟨g5, off5 + jj * 5 + 2, none⟩ = some (.int .i64 (rr : Int)) := by rw [hrr]; exact (hblW.cell (p := ⟨g5, off5 + jj * 5 + 2, none⟩) hg5).trans z2
          have z4' : wr.cell? ⟨g5, off5 + jj * 5 + 4, none⟩ = some (.int .i64 (xk : Int)) := by rw [hxk]; exact (hblW.cell (p := ⟨g5, off5 + jj * 5 + 4, none⟩) hg5).trans z4
          obtain ⟨b0, b1⟩ := box2 (bon HE0.out hblW)
          have kc := hsq.km.cell hrr16
          have kf := hsq.km.free rr
          have hkb := kmf_le HVAL.out.2.1 P rr j
          obtain ⟨KV, hKV⟩ : ∃ KV : Int, KV = (kmf es P rr j : Nat) := ⟨_, rfl⟩
          rw [← hKV] at kc
          have hwk : IntKind.i64.wrap (KV + (xk : Int)) = KV + (xk : Int) := wrap_in (by omega) (by omega)
          have hrr2 : (rr : Int) < 16 := by omega
          have hst : wr.drew.drew.cell? ⟨w.heap.size, 1, none⟩ = some (.slice (some ⟨g5, off5, none⟩) m vd) ∧ wr.drew.drew.cell? ⟨g5, off5 + jj * 5 + 4, none⟩ = some (.int .i64 (xk : Int)) := ⟨b1, z4'⟩
          have HST := Lib.hid hst
          obtain ⟨uc, uf⟩ := hsq.uc (.int .i64 (KV + (xk : Int))) hrr16
          have HF := Lib.hid ((hsq.next hrl3 hy hrr hxk hrr16 hKV).on (Below.refl _ _).drew.drew)
          have hsz2 := HW2.out.size
          have hbw := blt HE0.out
          have hs2 : (wr.setCell ⟨w2.heap.size + 1, rr, none⟩ (.int .i64 (KV + (xk : Int)))).drew.drew.cell? ⟨w.heap.size, 1, none⟩ = some (.slice (some ⟨g5, off5, none⟩) m vd) ∧ (wr.setCell ⟨w2.heap.size + 1, rr, none⟩ (.int .i64 (KV + (xk : Int)))).drew.drew.cell? ⟨g5, off5 + jj * 5 + 4, none⟩ = some (.int .i64 (xk : Int)) :=
            ⟨(World.cell?_of_block (w := wr) (heap_setCell_other wr ⟨w2.heap.size + 1, rr, none⟩ _ _ (by show w.heap.size ≠ w2.heap.size + 1; omega))).trans b1, (World.cell?_of_block (w := wr) (heap_setCell_other wr ⟨w2.heap.size + 1, rr, none⟩ _ _ (by show g5 ≠ w2.heap.size + 1; omega))).trans z4'⟩
          have HS14 := Lib.hid hs2
          clear hs2 hsz2 hbw
          have hsh : wr.drew.drew.cell? ⟨w2.heap.size + 1, rr, none⟩ = some (.int .i64 KV) := kc
          have hms : rl - (j + 1) < gk := by have := HJ.out.2.1; have := HIJ.out; omega
          obtain ⟨ub, hub⟩ : ∃ ub, ub = usf es P rr j := ⟨_, rfl⟩
          rw [← hub] at uc
          clear hlk hcc hfd hrl3 hbl hgb hsq hblW hHl HJ hy hyo hg5 hz z0 z1 z2 z3 z4 hcap5 hrr hxk hkb hKV hst hjm hub
          go_upto_region 10 with (fail)
          refine wp_region_still_lit (by kernel_rfl) (by kernel_rfl) ?_
          repeat still_step
          refine wpStill_nil ?_
          clear hlk2 c0 c1 g0 g1 g2
          go_upto_region 14 with (fail)
          refine wp_region_held_drew (S := fun w' => w'.cell? ⟨w.heap.size, 1, none⟩ = some (.slice (some ⟨g5, off5, none⟩) m vd) ∧ w'.cell? ⟨g5, off5 + jj * 5 + 4, none⟩ = some (.int .i64 (xk : Int))) (by kernel_rfl) HST.out (fun hHeld => ?_)
          change wpAnyH _ _ _ _ _ 12 #[false, false, false, false, false, false, false, false, false, false, false, false] _ _
          refine wpAnyH_take (i := 0) (oi := _) (v := .int .i64 (rr : Int)) rfl (by kernel_rfl) (by kernel_rfl) (by kernel_rfl) (fun _ _ _ h => h) (Or.inl ⟨by rfl, fun wx hSw => ?_⟩) (by assumption) ?_
          · go_simp
            try (first | omega | (rw [IntKind.wrap_i64]; omega))
          (try simp only [Act.put, List.setIfInBounds_toArray, List.set_cons_zero, List.set_cons_succ, List.getElem_toArray, List.getElem_cons_zero, List.getElem_cons_succ])
          refine wpAnyH_take (i := 1) (oi := _) (v := .pointer (some ⟨w2.heap.size + 1, rr, none⟩)) rfl (by kernel_rfl) (by kernel_rfl) (by kernel_rfl) (fun _ _ _ h => h) (Or.inl ⟨by rfl, fun wx hSw => ?_⟩) (by assumption) ?_
          · go_simp
            try (first | omega | (rw [IntKind.wrap_i64]; omega))
          (try simp only [Act.put, List.setIfInBounds_toArray, List.set_cons_zero, List.set_cons_succ, List.getElem_toArray, List.getElem_cons_zero, List.getElem_cons_succ])
          refine wpAnyH_take (i := 3) (oi := _) (v := .pointer (some ⟨w.heap.size, 1, none⟩)) rfl (by kernel_rfl) (by kernel_rfl) (by kernel_rfl) (fun _ _ _ h => h) (Or.inl ⟨by rfl, fun wx hSw => ?_⟩) (by assumption) ?_
          · go_simp
            try (first | omega | (rw [IntKind.wrap_i64]; omega))
          (try simp only [Act.put, List.setIfInBounds_toArray, List.set_cons_zero, List.set_cons_succ, List.getElem_toArray, List.getElem_cons_zero, List.getElem_cons_succ])
          refine wpAnyH_take (i := 4) (oi := _) (v := .slice (some ⟨g5, off5, none⟩) m vd) rfl (by kernel_rfl) (by kernel_rfl) (by kernel_rfl) (fun _ _ _ h => h) (Or.inl ⟨by rfl, fun wx hSw => ?_⟩) (by assumption) ?_
          · go_simp
            try (first | omega | (rw [IntKind.wrap_i64]; omega))
          (try simp only [Act.put, List.setIfInBounds_toArray, List.set_cons_zero, List.set_cons_succ, List.getElem_toArray, List.getElem_cons_zero, List.getElem_cons_succ])
          refine wpAnyH_take (i := 5) (oi := _) (v := .int .i64 (jj : Int)) rfl (by kernel_rfl) (by kernel_rfl) (by kernel_rfl) (fun _ _ _ h => h) (Or.inl ⟨by rfl, fun wx hSw => ?_⟩) (by assumption) ?_
          · go_simp
            try (first | omega | (rw [IntKind.wrap_i64]; omega))
          (try simp only [Act.put, List.setIfInBounds_toArray, List.set_cons_zero, List.set_cons_succ, List.getElem_toArray, List.getElem_cons_zero, List.getElem_cons_succ])
          refine wpAnyH_take (i := 6) (oi := _) (v := .pointer (some ⟨g5, off5 + jj * 5, none⟩)) rfl (by kernel_rfl) (by kernel_rfl) (by kernel_rfl) (fun _ _ _ h => h) (Or.inl ⟨by rfl, fun wx hSw => ?_⟩) (by assumption) ?_
          · go_simp
            try (first | omega | (rw [IntKind.wrap_i64]; omega))
          (try simp only [Act.put, List.setIfInBounds_toArray, List.set_cons_zero, List.set_cons_succ, List.getElem_toArray, List.getElem_cons_zero, List.getElem_cons_succ])
          refine wpAnyH_take (i := 7) (oi := _) (v := .pointer (some ⟨g5, off5 + jj * 5 + 4, none⟩)) rfl (by kernel_rfl) (by kernel_rfl) (by kernel_rfl) (fun _ _ _ h => h) (Or.inl ⟨by rfl, fun wx hSw => ?_⟩) (by assumption) ?_
          · go_simp
            try (first | omega | (rw [IntKind.wrap_i64]; omega))
          (try simp only [Act.put, List.setIfInBounds_toArray, List.set_cons_zero, List.set_cons_succ, List.getElem_toArray, List.getElem_cons_zero, List.getElem_cons_succ])
          refine wpAnyH_take (i := 8) (oi := _) (v := .int .i64 (xk : Int)) rfl (by kernel_rfl) (by kernel_rfl) (by kernel_rfl) (fun _ _ _ h => h) (Or.inl ⟨by rfl, fun wx hSw => ?_⟩) (by assumption) ?_
          · go_simp
            try (first | omega | (rw [IntKind.wrap_i64]; omega))
          (try simp only [Act.put, List.setIfInBounds_toArray, List.set_cons_zero, List.set_cons_succ, List.getElem_toArray, List.getElem_cons_zero, List.getElem_cons_succ])
          refine wpAnyH_ready (rs := [2]) (by kernel_rfl) (by simp) ?_
          refine AllReadyH.cons (o := _) rfl (fun K hK => ?_) AllReadyH.nil
          go_simp
          refine hK.out _ _ (hHeld) (fun hHeld => ?_)
          clear hK K
          (try simp only [Act.put, List.setIfInBounds_toArray, List.set_cons_zero, List.set_cons_succ, List.getElem_toArray, List.getElem_cons_zero, List.getElem_cons_succ])
          refine wpAnyH_take (i := 9) (oi := _) (v := .int .i64 (KV + (xk : Int))) rfl (by kernel_rfl) (by kernel_rfl) (by kernel_rfl) (fun _ _ _ h => h) (Or.inl ⟨by rfl, fun wx hSw => ?_⟩) (by assumption) ?_
          · go_simp
            try (first | omega | (rw [IntKind.wrap_i64]; omega))
          (try simp only [Act.put, List.setIfInBounds_toArray, List.set_cons_zero, List.set_cons_succ, List.getElem_toArray, List.getElem_cons_zero, List.getElem_cons_succ])
          refine wpAnyH_take (i := 10) (oi := _) (v := .pointer (some ⟨w2.heap.size + 1, rr, none⟩)) rfl (by kernel_rfl) (by kernel_rfl) (by kernel_rfl) (fun _ _ _ h => h) (Or.inl ⟨by rfl, fun wx hSw => ?_⟩) (by assumption) ?_
          · go_simp
            try (first | omega | (rw [IntKind.wrap_i64]; omega))
          (try simp only [Act.put, List.setIfInBounds_toArray, List.set_cons_zero, List.set_cons_succ, List.getElem_toArray, List.getElem_cons_zero, List.getElem_cons_succ])
          refine wpAnyH_ready (rs := [11]) (by kernel_rfl) (by simp) ?_
          refine AllReadyH.cons (o := _) rfl (fun K hK => ?_) AllReadyH.nil
          go_simp
          refine hK.out _ _ (HS14.out) (fun hHeld => ?_)
          clear hK K
          (try simp only [Act.put, List.setIfInBounds_toArray, List.set_cons_zero, List.set_cons_succ, List.getElem_toArray, List.getElem_cons_zero, List.getElem_cons_succ])
          refine wpAnyH_done (by kernel_rfl) ?_ _
          clear hsh z2' z4' b0 b1 kc kf hHeld
          go_wp2
          clear uc uf
          go_roundg (rl - (j + 1))
          case measure => exact hms
          case rel => exact ⟨j + 1, i + 1, rfl, by go_num, Lib.hid ⟨by rw [HIJ.out], rfl, Or.inr (by have := HIJ.out; omega), HF.out⟩⟩
      · have hlt2 : ¬ ((i : Int) < (rl : Int)) := by omega
        obtain ⟨hij, hM, hjl, hsq⟩ := HJ.out
        obtain ⟨mm, hmm⟩ : ∃ mm, mm = P.length - 1 := ⟨_, rfl⟩
        have hjm : j = mm := by have := HRL.out; omega
        subst hjm
        clear hij hM
        have HSQ := Lib.hid hsq; have HMM2 := Lib.hid hmm
        have hbW := Lib.hid (btrans HB.out (btrans HW2.out hsq.below))
        have hjb : j ≤ 100000 := by have := HRL.out; omega
        clear hjl hsq HJ hmm
        have HS0 : Hid (0 = (shr es P j 0).length ∧ OwS wr.heap.size wr (.slice none 0 0) (shr es P j 0) ∧ Below wr.heap.size wr wr) := Lib.hid ⟨rfl, ows_nil _ _, Below.refl _ _⟩
        obtain ⟨W7, hW7⟩ : ∃ W7, W7 = wr := ⟨_, rfl⟩
        subst hW7
        go_wp2
        go_loopg [4, 65] 16 (fun M s4 s65 wr => ∃ (r kk cc : Nat) (aa : Option Addr), s4 = .slice aa kk cc ∧ s65 = .int .i64 (r : Int) ∧ Hid (M = 16 - r ∧ r ≤ 16 ∧ kk = (shr es P j r).length ∧ OwS W7.heap.size wr (.slice aa kk cc) (shr es P j r) ∧ Below W7.heap.size W7 wr))
        case atStart => exact ⟨0, _, _, _, rfl, rfl, Lib.hid ⟨rfl, by omega, HS0.out⟩⟩
        case round =>
          clear HS0
          obtain ⟨r, kk, cc, aa, rfl, rfl, HR⟩ := hrel
          by_cases hr : r < 16
          · have hr2 : (r : Int) < 16 := by omega
            obtain ⟨hM, _, hkk, how, hbl⟩ := HR.out
            have kc := (HSQ.out.km.on hbl).cell hr
            have uc := (HSQ.out.us.on hbl).cell hr
            have hlen := shr_len es P j r
            have hms : 16 - (r + 1) < gk := by omega
            cases hu : usf es P r j with
            | false =>
              rw [hu] at uc
              have he : shr es P j (r + 1) = shr es P j r := by conv => lhs; unfold shr; rw [hu]; simp
              have HF := Lib.hid (And.intro hkk (And.intro how hbl))
              rw [← he] at HF
              clear hM hkk how hbl hu he HR hlen
              go_wp2
              clear kc uc
              go_roundg (16 - (r + 1))
              case measure => exact hms
              case rel => exact ⟨r + 1, _, _, _, rfl, by go_num, Lib.hid ⟨rfl, by omega, HF.out⟩⟩
            | true =>
              rw [hu] at uc
              have he : shr es P j (r + 1) = shr es P j r ++ [⟨r, kmf es P r j⟩] := by conv => lhs; unfold shr; rw [hu]; simp
              obtain ⟨v', w8, hr8, ho8, hg8⟩ := how.push hbl.size ⟨r, (kmf es P r j : Nat)⟩ (by omega)
              rw [← he] at ho8
              obtain ⟨a8, c8, rfl⟩ := ho8.shape
              have hk8 : (shr es P j (r + 1)).length = kk + 1 := by rw [he, List.length_append, ← hkk]; rfl
              have hb8 : Below W7.heap.size W7 w8 := hbl.grown hg8 hbl.size (fun k hk => (World.ownsRow.lt how k hk).1)
              rw [hk8] at ho8 hr8
              obtain ⟨KV, hKV⟩ : ∃ KV : Int, KV = (kmf es P r j : Nat) := ⟨_, rfl⟩
              rw [← hKV] at kc hr8
              have HF := Lib.hid (And.intro hk8.symm (And.intro ho8 hb8))
              have HR8 := Lib.hid hr8
              clear hM hkk how hbl hu he HR hlen ho8 hg8 hk8 hb8 hr8 hKV
              go_wp2_with (first | (at_builtin; refine wp_appS rfl rfl rfl (.tmp 71) (.tmp 77) rfl rfl rfl HR8.out ?_))
              clear kc uc
              go_roundg (16 - (r + 1))
              case measure => exact hms
              case rel => exact ⟨r + 1, _, _, _, rfl, by go_num, Lib.hid ⟨rfl, by omega, HF.out⟩⟩
          · obtain ⟨hM, hr16, hkk, how, hbl⟩ := HR.out
            obtain rfl : r = 16 := by omega
            have hr2 : ¬ (((16 : Nat) : Int) < 16) := by omega
            have hmem := shr_mem HVAL.out.2.1 P j 16
            have hss := how.ss (fun s hs => by
              have := hmem s hs
              exact ⟨⟨by omega, by omega⟩, ⟨by omega, by omega⟩⟩) (by have := shr_len es P j 16; omega)
            have HF := Lib.hid (And.intro (btrans hbW.out hbl) hss)
            have HKK := Lib.hid hkk
            clear hM hkk how hbl HR hmem hss
            go_wp2
            go_ret2
            exact ⟨_, _, _, _, 0, rfl, HF.out.1, HF.out.2, Or.inr ⟨HEE.out.symm, es, P, HVAL.out, rfl, HPN.out, Or.inr ⟨fun i hi => HSQ.out.ok i (by have := HMM2.out; omega), rfl, by rw [HMM2.out]⟩⟩⟩
  · have d0 : (E != 0) = true := by simpa using c0
    have HC0 := Lib.hid c0
    clear c0
    go_enter Try.func19, Try.ntmps19
    go_wp2_with fail
    rw [← hW]
    clear hW
    refine HC.out.mono ?_
    rintro e w1 ⟨rfl, hb⟩
    have HB1 := Lib.hid (btrans HB.out hb)
    clear hb b0 b1 HC HV
    go_wp2
    go_ret2
    exact ⟨_, _, _, [], E, rfl, HB1.out, sk_nil _ _ _ _, Or.inl ⟨by rw [← HEE.out]; exact HC0.out, HEE.out, rfl⟩⟩
end Go.Proofs.Ytbeoldklpklbfaa
