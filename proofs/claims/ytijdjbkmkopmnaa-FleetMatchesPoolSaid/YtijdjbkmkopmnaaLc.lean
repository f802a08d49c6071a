/-
  Walks: Given of the program.
-/
import Derived.Test.YtijdjbkmkopmnaaLb
namespace Go.Proofs.Ytijdjbkmkopmnaa
open Go.RowKit
set_option linter.unusedVariables false
set_option linter.unusedSimpArgs false

/-- A fleet of valid parts. -/
theorem fst0_pos : ∀ {l : List Int}, fst0 l = 0 → ∀ x ∈ l, x = 0
  | [], _, x, h => by simp at h
  | y :: l, h, x, hx => by
    unfold fst0 at h
    split at h
    · rename_i e
      rcases List.mem_cons.1 hx with rfl | hx
      · exact e
      · exact fst0_pos h x hx
    · exact absurd h (by assumption)
structure FV (ts : List Ty) (ws : List Wn) (ss : List Sw) (hs : List Wh) : Prop where
  t : ts.length ≤ 32
  w : ws.length ≤ 4096
  s : ss.length ≤ 1024
  h : hs.length ≤ 4096
  tok : ∀ x ∈ ts, tOk x = true
  wok : ∀ x ∈ ws, wOk ts.length x = true
  sok : ∀ x ∈ ss, sOk ts.length x = true
  hok : hgo (fun _ _ => false) hs = true
theorem chk_val {ts : List Ty} {ws : List Wn} {ss : List Sw} {hs : List Wh} (h : chk ts ws ss hs = 0) : FV ts ws ss hs := by
  have h0 := fst0_pos h
  simp only [List.mem_cons, List.not_mem_nil, or_false, forall_eq_or_imp, forall_eq, ite_eq_left_iff, decide_eq_true_eq] at h0
  obtain ⟨h1, h2, h3, h4, h5, h6, h7, h8⟩ := h0
  have g1 : (ts.length : Int) ≤ 32 := Classical.byContradiction fun e => absurd (h1 e) (by decide)
  have g2 : (ws.length : Int) ≤ 4096 := Classical.byContradiction fun e => absurd (h2 e) (by decide)
  have g3 : (ss.length : Int) ≤ 1024 := Classical.byContradiction fun e => absurd (h3 e) (by decide)
  have g4 : (hs.length : Int) ≤ 4096 := Classical.byContradiction fun e => absurd (h4 e) (by decide)
  have g5 : ts.all tOk = true := Classical.byContradiction fun e => absurd (h5 e) (by decide)
  have g6 : ws.all (wOk ts.length) = true := Classical.byContradiction fun e => absurd (h6 e) (by decide)
  have g7 : ss.all (sOk ts.length) = true := Classical.byContradiction fun e => absurd (h7 e) (by decide)
  have g8 : hgo (fun _ _ => false) hs = true := Classical.byContradiction fun e => absurd (h8 e) (by decide)
  exact ⟨by omega, by omega, by omega, by omega, List.all_eq_true.1 g5, List.all_eq_true.1 g6, List.all_eq_true.1 g7, g8⟩
theorem sok_tr {n : Nat} {x : Sw} (h : sOk n x = true) : ∃ t : Tr, x = toSw t ∧ t.a < n ∧ t.b < n ∧ t.c ≤ 1000000000 ∧ t.a ≠ t.b := by
  unfold sOk at h
  simp only [Bool.and_eq_true] at h
  obtain ⟨h1, h2, h3, h4⟩ := h
  have g1 := rng_iff.1 h1; have g2 := rng_iff.1 h2; have g4 := rng_iff.1 h4
  have g3 : x.wa ≠ x.gi := by simpa using h3
  obtain ⟨a, b, c⟩ := x
  simp only at g1 g2 g3 g4
  refine ⟨⟨a.toNat, b.toNat, c.toNat⟩, ?_, by simp only; omega, by simp only; omega, by simp only; omega, by simp only; omega⟩
  unfold toSw
  simp only [Sw.mk.injEq]
  omega
theorem sok_trs {n : Nat} : ∀ {ss : List Sw}, (∀ x ∈ ss, sOk n x = true) → ∃ es : List Tr, ss = es.map toSw ∧ Oks n es
  | [], _ => ⟨[], rfl, fun x hx => by simp at hx⟩
  | x :: ss, h => by
    obtain ⟨t, rfl, h1, h2, h3, _⟩ := sok_tr (h x (by simp))
    obtain ⟨es, rfl, ho⟩ := sok_trs (ss := ss) (fun y hy => h y (by simp [hy]))
    refine ⟨t :: es, rfl, fun y hy => ?_⟩
    rcases List.mem_cons.1 hy with rfl | hy
    · exact ⟨h1, h2, h3⟩
    · exact ho y hy
/-- The types below k that may be supplied. -/
def gv (f : Nat) (L : List Nat) : Nat → List Sw
  | 0 => []
  | k + 1 => if cv L k < 32000000000 then gv f L k ++ [⟨f, k, cv L k⟩] else gv f L k
theorem gv_len (f : Nat) (L : List Nat) : ∀ k, (gv f L k).length ≤ k
  | 0 => Nat.le_refl _
  | k + 1 => by
    have := gv_len f L k
    unfold gv
    split
    · rw [List.length_append]; simp; omega
    · omega
theorem gv_mem {f : Nat} {L : List Nat} : ∀ {k : Nat} {s : Sw}, s ∈ gv f L k ↔ ∃ t, t < k ∧ cv L t < 32000000000 ∧ s = ⟨f, t, cv L t⟩
  | 0, s => by simp [gv]
  | k + 1, s => by
    unfold gv
    split
    · rename_i hc
      rw [List.mem_append, gv_mem, List.mem_singleton]
      constructor
      · rintro (⟨t, h1, h2, h3⟩ | rfl)
        · exact ⟨t, by omega, h2, h3⟩
        · exact ⟨k, by omega, hc, rfl⟩
      · rintro ⟨t, h1, h2, h3⟩
        by_cases e : t = k
        · subst e; exact Or.inr h3
        · exact Or.inl ⟨t, by omega, h2, h3⟩
    · rename_i hc
      rw [gv_mem]
      constructor
      · rintro ⟨t, h1, h2, h3⟩; exact ⟨t, by omega, h2, h3⟩
      · rintro ⟨t, h1, h2, h3⟩
        by_cases e : t = k
        · subst e; exact absurd h2 hc
        · exact ⟨t, by omega, h2, h3⟩
theorem gv_ok {es : List Tr} {f : Nat} {L : List Nat} (hf : f < 32) (k : Nat) (hk : k ≤ 32) : ∀ s ∈ gv f L k, s.ok := by
  intro s hs
  obtain ⟨t, h1, h2, rfl⟩ := gv_mem.1 hs
  unfold Sw.ok I64
  simp only
  omega
/-- What Given answers: the list l and the error E. -/
def GR (ts : List Ty) (ws : List Wn) (ss : List Sw) (hs : List Wh) (wanted : Int) (l : List Sw) (E : Int) : Prop :=
  (chk ts ws ss hs ≠ 0 ∧ E = chk ts ws ss hs ∧ l = []) ∨
  (chk ts ws ss hs = 0 ∧ rng 0 wanted ((ts.length : Int) - 1) = false ∧ E = 90 ∧ l = []) ∨
  (chk ts ws ss hs = 0 ∧ E = 0 ∧ ∃ (f : Nat) (es : List Tr) (L : List Nat), wanted = (f : Int) ∧ f < ts.length ∧ ss = es.map toSw ∧ Oks ts.length es ∧ Least es f L ∧ l = gv f L 32)
theorem rng_nat {n : Nat} {a : Int} (h : rng 0 a ((n : Int) - 1) = true) : ∃ q : Nat, a = (q : Int) ∧ q < n := by
  have := rng_iff.1 h
  exact ⟨a.toNat, by omega, by omega⟩

set_option maxRecDepth 100000 in
set_option maxHeartbeats 8000000 in
theorem given_any {V : Value} {ts : List Ty} {ws : List Wn} {ss : List Sw} {hs : List Wh} {w : World} (hf : Fl w V ts ws ss hs) (wanted : Int) :
    Calls Try.prog 12 #[V, .int .i64 wanted] w fun e w' => ∃ a kk cc l E, e = .returned (.tuple #[.slice a kk cc, .int .i64 E]) ∧ Below w.heap.size w w' ∧ Ss (fun k => k < w'.heap.size) w' (.slice a kk cc) l ∧ GR ts ws ss hs wanted l E := by
  obtain ⟨a1, c1, a2, c2, a3, c3, a4, c4, rfl, g1, g2, g3, g4⟩ := hf.shape
  have hlt := g1.1
  obtain ⟨n, hn⟩ : ∃ n, n = ts.length := ⟨_, rfl⟩
  obtain ⟨m, hm⟩ : ∃ m, m = ws.length := ⟨_, rfl⟩
  obtain ⟨k, hk⟩ : ∃ k, k = ss.length := ⟨_, rfl⟩
  obtain ⟨h, hh⟩ : ∃ h, h = hs.length := ⟨_, rfl⟩
  rw [← hn] at hlt
  rw [← hn, ← hm, ← hk, ← hh] at hf ⊢
  rw [← hk] at g3
  obtain ⟨W, hW⟩ : ∃ W, W = w.alloc (.cells #[.slice a1 n c1, .slice a2 m c2, .slice a3 k c3, .slice a4 h c4] 27) := ⟨_, rfl⟩
  have hB : Below w.heap.size w W := by rw [hW]; exact ball (Below.refl w.heap.size w) _
  have hr : W.heap[w.heap.size]? = some (.cells #[.slice a1 n c1, .slice a2 m c2, .slice a3 k c3, .slice a4 h c4] 27 (0, 0)) := by rw [hW]; exact bnew _ _
  obtain ⟨E, hE⟩ : ∃ E, E = chk ts ws ss hs := ⟨_, rfl⟩
  have HC := Lib.hid (check_any (hf.on hB) E hE)
  have HW := Lib.hid hW; have HB := Lib.hid hB; have HX := Lib.hid hr; have HN := Lib.hid hn; have HK := Lib.hid hk; have HE := Lib.hid hE
  have HSS := Lib.hid (g3.on hB)
  obtain ⟨b0, b1, b2, b3⟩ := box4 hr
  clear hf hW hB hr hn hm hk hh g1 g2 g3 g4 hE
  by_cases hE0 : E = 0
  rotate_left
  · have d0 : (E != 0) = true := by simpa using hE0
    have HE0 := Lib.hid hE0
    clear hE0
    go_enter Try.func12, Try.ntmps12
    go_upto_region 1 with (fail)
    rw [← HW.out]
    clear HW
    go_wp2_with fail
    refine HC.out.mono ?_
    rintro e w1 ⟨rfl, hb⟩
    have HZ := Lib.hid (btrans HB.out hb)
    clear hb b0 b1 b2 b3
    go_wp2
    go_ret2
    exact ⟨none, 0, 0, [], E, rfl, HZ.out, sk_nil _ _ _ _, Or.inl ⟨by rw [← HE.out]; exact HE0.out, HE.out, rfl⟩⟩
  subst hE0
  cases hR : rng 0 wanted ((n : Int) - 1) with
  | false =>
    have HT := Lib.hid (fun w => isTypeB_any (a1 := a1) (a2 := a2) (a3 := a3) (a4 := a4) (n := n) (c1 := c1) (m := m) (c2 := c2) (k := k) (c3 := c3) (h := h) (c4 := c4) wanted hlt w)
    rw [hR] at HT
    have HR := Lib.hid hR
    clear hR
    go_enter Try.func12, Try.ntmps12
    go_upto_region 1 with (fail)
    rw [← HW.out]
    clear HW
    go_wp2_with fail
    refine HC.out.mono ?_
    rintro e w1 ⟨rfl, hb⟩
    have HB1 := Lib.hid (btrans HB.out hb)
    clear b0 b1 b2 b3
    obtain ⟨b0, b1, b2, b3⟩ := box4 (bon HX.out hb)
    clear hb
    go_wp2_with fail
    refine (HT.out _).mono ?_
    rintro e w2 ⟨rfl, hb⟩
    have HZ := Lib.hid (btrans HB1.out hb)
    clear hb b0 b1 b2 b3
    go_wp2
    go_ret2
    exact ⟨none, 0, 0, [], 90, rfl, HZ.out, sk_nil _ _ _ _, Or.inr (Or.inl ⟨HE.out.symm, by rw [← HN.out]; exact HR.out, rfl, rfl⟩)⟩
  | true =>
    have HT := Lib.hid (fun w => isTypeB_any (a1 := a1) (a2 := a2) (a3 := a3) (a4 := a4) (n := n) (c1 := c1) (m := m) (c2 := c2) (k := k) (c3 := c3) (h := h) (c4 := c4) wanted hlt w)
    rw [hR] at HT
    obtain ⟨f, rfl, hfn⟩ := rng_nat hR
    have hv := chk_val HE.out.symm
    obtain ⟨es, hes, ho⟩ := sok_trs hv.sok
    have hn32 : n ≤ 32 := by rw [HN.out]; exact hv.t
    have hke : k = es.length := by rw [HK.out, hes, List.length_map]
    have HES := Lib.hid hes; have HO := Lib.hid ho; have HKE := Lib.hid hke; have HN32 := Lib.hid hn32; have HFN := Lib.hid hfn
    clear hR hv hes ho hke hn32 hfn hlt
    go_enter Try.func12, Try.ntmps12
    go_upto_region 1 with (fail)
    rw [← HW.out]
    clear HW
    go_wp2_with fail
    refine HC.out.mono ?_
    rintro e w1 ⟨rfl, hb⟩
    have HB1 := Lib.hid hb
    clear b0 b1 b2 b3
    obtain ⟨b0, b1, b2, b3⟩ := box4 (bon HX.out hb)
    clear hb
    go_wp2_with fail
    refine (HT.out _).mono ?_
    rintro e w2 ⟨rfl, hb⟩
    have HB2 := Lib.hid (btrans HB1.out hb)
    clear hb b0 b1 b2 b3
    obtain ⟨b0, b1, b2, b3⟩ := box4 (bon HX.out HB2.out)
    have HCO := Lib.hid (costs_any (nT := n) (f := f) (es := es) HKE.out (by rw [← HES.out]; exact HSS.out.on HB2.out) (by rw [HN.out]; exact HO.out) HFN.out HN32.out)
    go_wp2_with fail
    refine HCO.out.mono ?_
    rintro e w3 ⟨L, rfl, hb, hle⟩
    have HB3 := Lib.hid (btrans HB.out (btrans HB2.out hb)); have HLE := Lib.hid hle
    have hL := hle.att.len
    obtain ⟨arr, harr⟩ : ∃ arr, arr = (L.map iv).toArray := ⟨_, rfl⟩
    rw [← harr]
    have HARR := Lib.hid harr; have HLL := Lib.hid hL
    clear hb hle hL harr b0 b1 b2 b3 HCO
    go_wp2
    go_loopg [4, 21] 32 (fun M s4 s21 wr => ∃ (t kk cc : Nat) (aa : Option Addr), s4 = .slice aa kk cc ∧ s21 = .int .i64 (t : Int) ∧ Hid (M = 32 - t ∧ t ≤ 32 ∧ kk = (gv f L t).length ∧ OwS w3.heap.size wr (.slice aa kk cc) (gv f L t) ∧ Below w3.heap.size w3 wr))
    case atStart => exact ⟨0, 0, 0, none, rfl, rfl, Lib.hid ⟨rfl, by omega, rfl, ows_nil _ _, Below.refl _ _⟩⟩
    case round =>
      obtain ⟨t, kk, cc, aa, rfl, rfl, HI⟩ := hrel
      by_cases ht : t < 32
      · have ht2 : (t : Int) < 32 := by omega
        have hidx := idx82 HLL.out ht wr
        rw [← HARR.out] at hidx
        obtain ⟨hM, ht32, hkk, how, hbel⟩ := HI.out
        have hHM := Lib.hid hM
        have hcl := cv_lt HLE.out.att ht
        obtain ⟨C, hC⟩ : ∃ C, C = cv L t := ⟨_, rfl⟩
        rw [← hC] at hidx hcl
        by_cases hc : C < 32000000000
        · have hc2 : (C : Int) < 32000000000 := by omega
          have hgv : gv f L (t + 1) = gv f L t ++ [⟨f, t, C⟩] := by rw [hC]; exact if_pos (by rw [← hC]; exact hc)
          obtain ⟨v', w', hrun, how', hgr⟩ := how.push hbel.size ⟨f, t, C⟩ (by have := gv_len f L t; omega)
          rw [← hgv] at how'
          have hbel' : Below w3.heap.size w3 w' := hbel.grown hgr hbel.size (fun k hk => how.ge k hk)
          obtain ⟨aa', cc', rfl⟩ := how'.shape
          obtain ⟨kk', hkk'⟩ : ∃ kk', kk' = (gv f L (t + 1)).length := ⟨_, rfl⟩
          rw [← hkk'] at hrun how'
          have HR2 := Lib.hid hrun
          have HI2 : Hid (32 - (t + 1) = 32 - (t + 1) ∧ t + 1 ≤ 32 ∧ kk' = (gv f L (t + 1)).length ∧ OwS w3.heap.size w' (.slice aa' kk' cc') (gv f L (t + 1)) ∧ Below w3.heap.size w3 w') := Lib.hid ⟨rfl, by omega, hkk', how', hbel'⟩
          have HMM : Hid (gk = 32 - t) := Lib.hid hM
          clear hM ht32 hkk how hbel hcl hC hgv how' hgr hbel' hkk' hrun HI hc
          go_wp2_with (refine wp_appS rfl rfl rfl (.tmp 27) (.tmp 32) rfl rfl rfl HR2.out ?_)
          go_roundg (32 - (t + 1))
          case measure => have := HMM.out; omega
          case rel => exact ⟨t + 1, kk', cc', aa', rfl, by go_num, Lib.hid ⟨rfl, HI2.out.2⟩⟩
        · have hc2 : ¬ ((C : Int) < 32000000000) := by omega
          have hgv : gv f L (t + 1) = gv f L t := if_neg (by rw [← hC]; exact hc)
          have HI2 : Hid (32 - (t + 1) = 32 - (t + 1) ∧ t + 1 ≤ 32 ∧ kk = (gv f L (t + 1)).length ∧ OwS w3.heap.size wr (.slice aa kk cc) (gv f L (t + 1)) ∧ Below w3.heap.size w3 wr) := Lib.hid ⟨rfl, by omega, by rw [hgv]; exact hkk, by rw [hgv]; exact how, hbel⟩
          have HMM : Hid (gk = 32 - t) := Lib.hid hM
          clear hM ht32 hkk how hbel hcl hC hgv HI hc
          go_wp2
          go_roundg (32 - (t + 1))
          case measure => have := HMM.out; omega
          case rel => exact ⟨t + 1, kk, cc, aa, rfl, by go_num, Lib.hid ⟨rfl, HI2.out.2⟩⟩
      · obtain ⟨hM, ht32, hkk, how, hbel⟩ := HI.out
        obtain rfl : t = 32 := by omega
        have ht3 : ¬ (((32 : Nat) : Int) < 32) := by omega
        have hss := how.ss (gv_ok (es := es) (by have := HFN.out; have := HN32.out; omega) 32 (by omega)) (by have := gv_len f L 32; omega)
        have HSO := Lib.hid hss; have HZ := Lib.hid (btrans HB3.out hbel)
        clear hM ht32 hkk how hbel hss HI
        go_wp2
        go_ret2
        exact ⟨aa, kk, cc, gv f L 32, 0, rfl, HZ.out, HSO.out, Or.inr (Or.inr ⟨HE.out.symm, rfl, f, es, L, rfl, by rw [← HN.out]; exact HFN.out, HES.out, HO.out, HLE.out, rfl⟩)⟩
end Go.Proofs.Ytijdjbkmkopmnaa
