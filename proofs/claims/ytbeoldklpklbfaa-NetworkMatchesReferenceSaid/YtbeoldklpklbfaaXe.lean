/-
  Improving times line by line ends at the least times.
-/
import Derived.Test.YtbeoldklpklbfaaVa
namespace Go.Proofs.Ytbeoldklpklbfaa
set_option linter.unusedVariables false
set_option linter.unusedSimpArgs false

/-- The lesser of two times, where less than 0 stands for none. -/
def bt (a b : Int) : Int := if a < 0 then b else min a b
/-- The time behind a line of m minutes, where the other end has the time a. -/
def rlx (a b m : Int) : Int := if a ≥ 0 then bt b (a + m) else b
def wv (x : Int) : Nat := if x < 0 then 1000000000 else x.toNat
def wsum : List Int → Nat
  | [] => 0
  | x :: l => wv x + wsum l
theorem wsum_set {t : Int} : ∀ {L : List Int} {p : Nat} {y : Int}, L[p]? = some y → wsum (L.set p t) + wv y = wsum L + wv t
  | [], p, y, h => by simp at h
  | x :: l, 0, y, h => by
    simp only [List.getElem?_cons_zero, Option.some.injEq] at h
    subst h
    show wv t + wsum l + wv x = wv x + wsum l + wv t
    omega
  | x :: l, p + 1, y, h => by
    have := wsum_set (t := t) (L := l) (p := p) (y := y) (by simpa using h)
    show wv x + wsum (l.set p t) + wv y = wv x + wsum l + wv t
    omega
/-- What the rounds keep: L is above the least times d, and within bounds. -/
structure BF (n : Nat) (es : List Ln) (f : Nat) (d : Nat → Int) (L : List Int) : Prop where
  len : L.length = n
  zero : dv L f = 0
  low : ∀ p, -1 ≤ dv L p
  above : ∀ p, 0 ≤ dv L p → 0 ≤ d p ∧ d p ≤ dv L p
  top : ∀ p, dv L p + 100000 * (cneg L : Int) ≤ 100000 * (n : Int)
theorem bt_le {a b : Int} (hb : 0 ≤ b) : 0 ≤ bt a b ∧ bt a b ≤ b ∧ (0 ≤ a → bt a b ≤ a) ∧ (bt a b = a ∨ bt a b = b) := by
  unfold bt
  split <;> omega
/-- One end of a line improved. -/
theorem BF.one {n : Nat} {es : List Ln} {f : Nat} {d : Nat → Int} {L : List Int} (hn6 : n ≤ 600) (h : BF n es f d L) (hok : ∀ x ∈ es, x.ok n) (D : Dist (wt es) f d) {i : Nat} {x : Ln} (hx : es[i]? = some x) {p q : Nat} (hj : jn x p q) (hp0 : 0 ≤ dv L p) :
    BF n es f d (L.set q (bt (dv L q) (dv L p + x.m))) ∧ wsum (L.set q (bt (dv L q) (dv L p + x.m))) ≤ wsum L ∧ (bt (dv L q) (dv L p + x.m) ≠ dv L q → wsum (L.set q (bt (dv L q) (dv L p + x.m))) < wsum L) := by
  have ho := hok x (List.mem_of_getElem? hx)
  unfold Ln.ok at ho
  have hjn := hj
  unfold jn at hjn
  have hpn : p < n := by omega
  have hqn : q < n := by omega
  have hqL : q < L.length := by rw [h.len]; exact hqn
  obtain ⟨m, hm, hw⟩ := wt_line hx hj
  obtain ⟨a1, a2⟩ := h.above p hp0
  obtain ⟨e1, e2⟩ := D.edge _ _ _ hw a1
  have hb := bt_le (a := dv L q) (b := dv L p + x.m) (by omega)
  obtain ⟨t, ht⟩ : ∃ t, t = bt (dv L q) (dv L p + x.m) := ⟨_, rfl⟩
  rw [← ht] at hb ⊢
  have hsum := wsum_set (t := t) (dv_some hqL)
  have hlow := h.low q
  have htp := h.top p
  have htq := h.top q
  have hcl := cneg_le L
  have hbig : t ≤ 0 + 100000 * (n : Int) + 100000 ∧ 0 ≤ t := by omega
  have hcn : dv L q < 0 ∧ cneg (L.set q t) + 1 = cneg L ∨ 0 ≤ dv L q ∧ cneg (L.set q t) = cneg L := by
    by_cases c : dv L q < 0
    · exact Or.inl ⟨c, cneg_set hb.1 hqL c⟩
    · exact Or.inr ⟨by omega, cneg_same hb.1 (by omega)⟩
  refine ⟨⟨by rw [List.length_set]; exact h.len, ?_, fun r => ?_, fun r hr => ?_, fun r => ?_⟩, ?_, fun hne => ?_⟩
  · by_cases e : f = q
    · subst e
      have := h.zero
      rw [dv_set_same t hqL]
      have := D.zero
      omega
    · rw [dv_set_other t e]; exact h.zero
  · by_cases e : r = q
    · subst e; rw [dv_set_same t hqL]; omega
    · rw [dv_set_other t e]; exact h.low r
  · by_cases e : r = q
    · subst e
      rw [dv_set_same t hqL]
      refine ⟨e1, ?_⟩
      rcases hb.2.2.2 with e9 | e9
      · by_cases c : 0 ≤ dv L r
        · have := h.above r c; omega
        · omega
      · omega
    · rw [dv_set_other t e] at hr ⊢; exact h.above r hr
  · have htr := h.top r
    by_cases e : r = q
    · subst e
      rw [dv_set_same t hqL]
      omega
    · rw [dv_set_other t e]; omega
  · unfold wv at hsum
    by_cases c : dv L q < 0
    · rw [if_pos c, if_neg (by omega)] at hsum
      omega
    · rw [if_neg c, if_neg (by omega)] at hsum; omega
  · unfold wv at hsum
    by_cases c : dv L q < 0
    · rw [if_pos c, if_neg (by omega)] at hsum; omega
    · rw [if_neg c, if_neg (by omega)] at hsum; omega
/-- Where no line improves a time, the times are the least. -/
theorem BF.done {n : Nat} {es : List Ln} {f : Nat} {L L0 : List Int} (h : BF n es f (dv L0) L) (T : Tm n es f L0) (hok : ∀ x ∈ es, x.ok n)
    (hc : ∀ (i : Nat) (x : Ln), es[i]? = some x → (0 ≤ dv L x.a → 0 ≤ dv L x.b ∧ dv L x.b ≤ dv L x.a + x.m) ∧ (0 ≤ dv L x.b → 0 ≤ dv L x.a ∧ dv L x.a ≤ dv L x.b + x.m)) : L = L0 := by
  have G := wt_wt hok
  have edge : ∀ p q m, wt es p q = some m → 0 ≤ dv L p → 0 ≤ dv L q ∧ dv L q ≤ dv L p + m := by
    intro p q m hw h0
    obtain ⟨i, hi, hm⟩ := wt_some hw
    obtain ⟨x, hx, hj⟩ := fd_line hi
    rw [mi_get hx] at hm
    have := hc i x hx
    unfold jn at hj
    rcases hj with ⟨e1, e2⟩ | ⟨e1, e2⟩
    · rw [e1, e2] at this; have := this.1 h0; omega
    · rw [e1, e2] at this; have := this.2 h0; omega
  have walk : ∀ {p q t : Nat}, Wk (wt es) p q t → 0 ≤ dv L p → 0 ≤ dv L q ∧ dv L q ≤ dv L p + t := by
    intro p q t hk
    induction hk with
    | nil => intro h0; omega
    | cons hw _ ih => intro h0; have h1 := edge _ _ _ hw h0; have := ih h1.1; omega
  refine dv_ext (by rw [h.len, T.1]) fun p => ?_
  have hlow := h.low p
  have hlow2 := T.2.low p
  by_cases c : 0 ≤ dv L0 p
  · have hk := dist_wk T.2 (fun p q m e => (G.pos e).1) (dv L0 p).toNat p (by omega)
    have h1 := walk hk (by rw [h.zero]; omega)
    rw [h.zero] at h1
    have := h.above p h1.1
    omega
  · by_cases e : 0 ≤ dv L p
    · have := h.above p e; omega
    · omega
end Go.Proofs.Ytbeoldklpklbfaa
