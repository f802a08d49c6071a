/-
  Plain: weighted graphs, least times, walks.
-/
set_option linter.unusedVariables false
set_option linter.unusedSimpArgs false
namespace Go.Proofs.Ytbeoldklpklbfaa

/-- A graph by its weights. -/
structure Wt (n : Nat) (wt : Nat → Nat → Option Nat) : Prop where
  pos : ∀ {p q m}, wt p q = some m → 1 ≤ m ∧ m ≤ 100000
  ne : ∀ {p q m}, wt p q = some m → p ≠ q
  lt : ∀ {p q m}, wt p q = some m → p < n ∧ q < n
  symm : ∀ p q, wt p q = wt q p

/-- d are the least times from f. -/
structure Dist (wt : Nat → Nat → Option Nat) (f : Nat) (d : Nat → Int) : Prop where
  zero : d f = 0
  low : ∀ p, -1 ≤ d p
  edge : ∀ p q m, wt p q = some m → 0 ≤ d p → 0 ≤ d q ∧ d q ≤ d p + m
  att : ∀ p, 0 ≤ d p → p = f ∨ ∃ q m, wt q p = some m ∧ 0 ≤ d q ∧ d q + m = d p

theorem dist_le {wt wt' : Nat → Nat → Option Nat} {f : Nat} {d d' : Nat → Int} (h : Dist wt f d) (h' : Dist wt' f d') (hp : ∀ p q m, wt p q = some m → 1 ≤ m)
    (sub : ∀ p q m, wt p q = some m → ∃ m', m' ≤ m ∧ wt' p q = some m') : ∀ (k : Nat) (p : Nat), d p = (k : Int) → 0 ≤ d' p ∧ d' p ≤ d p := by
  intro k
  induction k using Nat.strongRecOn with
  | _ k ih =>
    intro p hk
    rcases h.att p (by omega) with rfl | ⟨q, m, hq, h0, he⟩
    · rw [h'.zero]; omega
    · have h1 := hp _ _ _ hq
      obtain ⟨m', hm, hw⟩ := sub _ _ _ hq
      obtain ⟨j, hj⟩ := Int.eq_ofNat_of_zero_le h0
      have := ih j (by omega) q hj
      have := h'.edge _ _ _ hw this.1
      omega
theorem dist_sub {wt wt' : Nat → Nat → Option Nat} {f : Nat} {d d' : Nat → Int} (h : Dist wt f d) (h' : Dist wt' f d') (hp : ∀ p q m, wt p q = some m → 1 ≤ m)
    (sub : ∀ p q m, wt p q = some m → ∃ m', m' ≤ m ∧ wt' p q = some m') (p : Nat) (h0 : 0 ≤ d p) : 0 ≤ d' p ∧ d' p ≤ d p := by
  obtain ⟨k, hk⟩ := Int.eq_ofNat_of_zero_le h0
  exact dist_le h h' hp sub k p hk
theorem dist_one {n : Nat} {wt : Nat → Nat → Option Nat} {f : Nat} {d d' : Nat → Int} (G : Wt n wt) (h : Dist wt f d) (h' : Dist wt f d') (p : Nat) : d p = d' p := by
  have s : ∀ p q m, wt p q = some m → ∃ m', m' ≤ m ∧ wt p q = some m' := fun p q m e => ⟨m, Nat.le_refl _, e⟩
  have hp : ∀ p q m, wt p q = some m → 1 ≤ m := fun p q m e => (G.pos e).1
  have l1 := h.low p
  have l2 := h'.low p
  by_cases h0 : 0 ≤ d p
  · have := dist_sub h h' hp s p h0
    have := dist_sub h' h hp s p this.1
    omega
  · by_cases h1 : 0 ≤ d' p
    · have := dist_sub h' h hp s p h1
      omega
    · omega

/-- A walk from p to q that takes t. -/
inductive Wk (wt : Nat → Nat → Option Nat) : Nat → Nat → Nat → Prop
  | nil (p : Nat) : Wk wt p p 0
  | cons {p q r m t : Nat} : wt p q = some m → Wk wt q r t → Wk wt p r (m + t)
theorem Wk.trans {wt : Nat → Nat → Option Nat} {p q r s t : Nat} (h : Wk wt p q s) (k : Wk wt q r t) : Wk wt p r (s + t) := by
  induction h with
  | nil => simpa using k
  | cons h _ ih => rw [Nat.add_assoc]; exact .cons h (ih k)
theorem Wk.symm {n : Nat} {wt : Nat → Nat → Option Nat} (G : Wt n wt) {p q t : Nat} (h : Wk wt p q t) : Wk wt q p t := by
  induction h with
  | nil => exact .nil _
  | @cons p q r m t h _ ih =>
    have := ih.trans (.cons (by rw [G.symm]; exact h) (.nil p))
    rw [Nat.add_zero, Nat.add_comm] at this
    exact this
theorem wk_le {wt : Nat → Nat → Option Nat} {f p q t : Nat} {d : Nat → Int} (h : Dist wt f d) (k : Wk wt p q t) : 0 ≤ d p → 0 ≤ d q ∧ d q ≤ d p + t := by
  induction k with
  | nil => intro h0; omega
  | cons e _ ih =>
    intro h0
    have := h.edge _ _ _ e h0
    have := ih this.1
    omega
theorem dist_wk {wt : Nat → Nat → Option Nat} {f : Nat} {d : Nat → Int} (h : Dist wt f d) (hp : ∀ p q m, wt p q = some m → 1 ≤ m) : ∀ (k p : Nat), d p = (k : Int) → Wk wt f p k := by
  intro k
  induction k using Nat.strongRecOn with
  | _ k ih =>
    intro p hk
    rcases h.att p (by omega) with rfl | ⟨q, m, hq, h0, he⟩
    · have := h.zero
      obtain rfl : k = 0 := by omega
      exact .nil _
    · have h1 := hp _ _ _ hq
      obtain ⟨j, hj⟩ := Int.eq_ofNat_of_zero_le h0
      have := (ih j (by omega) q hj).trans (.cons hq (.nil p))
      rwa [show j + (m + 0) = k by omega] at this
/-- The times between two places, seen from either. -/
theorem dist_symm {n : Nat} {wt : Nat → Nat → Option Nat} {a b : Nat} {d d' : Nat → Int} (G : Wt n wt) (h : Dist wt a d) (h' : Dist wt b d') : d b = d' a := by
  have hp : ∀ p q m, wt p q = some m → 1 ≤ m := fun p q m e => (G.pos e).1
  have l1 := h.low b
  have l2 := h'.low a
  have z1 := h.zero
  have z2 := h'.zero
  have A : ∀ {a b : Nat} {d d' : Nat → Int}, Dist wt a d → Dist wt b d' → 0 ≤ d b → 0 ≤ d' a ∧ d' a ≤ d b := by
    intro a b d d' h h' h0
    obtain ⟨k, hk⟩ := Int.eq_ofNat_of_zero_le h0
    have := wk_le h' ((dist_wk h hp k b hk).symm G) (by rw [h'.zero]; omega)
    rw [h'.zero] at this
    omega
  by_cases h0 : 0 ≤ d b
  · have := A h h' h0
    have := A h' h this.1
    omega
  · by_cases h1 : 0 ≤ d' a
    · have := A h' h h1
      omega
    · omega
theorem dist_tri {n : Nat} {wt : Nat → Nat → Option Nat} {a c b : Nat} {d d' : Nat → Int} (G : Wt n wt) (h : Dist wt a d) (h' : Dist wt c d') (h0 : 0 ≤ d c) (h1 : 0 ≤ d' b) : 0 ≤ d b ∧ d b ≤ d c + d' b := by
  have hp : ∀ p q m, wt p q = some m → 1 ≤ m := fun p q m e => (G.pos e).1
  obtain ⟨k, hk⟩ := Int.eq_ofNat_of_zero_le h1
  have := wk_le h (dist_wk h' hp k b hk) h0
  omega
theorem dist_eq_zero {n : Nat} {wt : Nat → Nat → Option Nat} {a b : Nat} {d : Nat → Int} (G : Wt n wt) (h : Dist wt a d) : d b = 0 ↔ a = b := by
  constructor
  · intro h0
    rcases h.att b (by omega) with rfl | ⟨q, m, hq, h1, he⟩
    · rfl
    · have := (G.pos hq).1
      omega
  · rintro rfl
    exact h.zero

/-- The search from the nearest: d the times, W the places that wait. -/
structure Dj (wt : Nat → Nat → Option Nat) (f : Nat) (d : Nat → Int) (W : List Nat) : Prop where
  nd : W.Nodup
  wait : ∀ p ∈ W, 0 ≤ d p
  zero : d f = 0
  low : ∀ p, -1 ≤ d p
  edge : ∀ p, p ∉ W → 0 ≤ d p → ∀ q m, wt p q = some m → 0 ≤ d q ∧ d q ≤ d p + m
  att : ∀ p, 0 ≤ d p → p = f ∨ ∃ q m, q ∉ W ∧ wt q p = some m ∧ 0 ≤ d q ∧ d q + m = d p
  ord : ∀ p, p ∉ W → 0 ≤ d p → ∀ q ∈ W, d p ≤ d q
theorem Dj.done {wt : Nat → Nat → Option Nat} {f : Nat} {d : Nat → Int} (h : Dj wt f d []) : Dist wt f d :=
  ⟨h.zero, h.low, fun p q m e h0 => h.edge p (by simp) h0 q m e, fun p h0 => (h.att p h0).imp id fun ⟨q, m, _, a, b, c⟩ => ⟨q, m, a, b, c⟩⟩
theorem dj_start (wt : Nat → Nat → Option Nat) (f : Nat) (d : Nat → Int) (h0 : d f = 0) (h1 : ∀ p, p ≠ f → d p = -1) : Dj wt f d [f] := by
  have hn : ∀ p, 0 ≤ d p → p = f := by
    intro p hp
    by_cases e : p = f
    · exact e
    · have := h1 p e; omega
  refine ⟨by simp, fun p hp => ?_, h0, fun p => ?_, fun p hp h2 => ?_, fun p h2 => Or.inl (hn p h2), fun p hp h2 => ?_⟩
  · simp only [List.mem_singleton] at hp; rw [hp, h0]; omega
  · by_cases e : p = f
    · rw [e, h0]; omega
    · rw [h1 p e]; omega
  · exact absurd (hn p h2) (by simpa using hp)
  · exact absurd (hn p h2) (by simpa using hp)
/-- The place a is taken; of its neighbours those in R are seen. -/
structure Dq (wt : Nat → Nat → Option Nat) (f a : Nat) (t : Int) (R : List Nat) (d : Nat → Int) (W : List Nat) : Prop where
  na : a ∉ W
  da : d a = t
  d0 : 0 ≤ t
  nd : W.Nodup
  wait : ∀ p ∈ W, t ≤ d p
  zero : d f = 0
  low : ∀ p, -1 ≤ d p
  edge : ∀ p, p ∉ W → p ≠ a → 0 ≤ d p → ∀ q m, wt p q = some m → 0 ≤ d q ∧ d q ≤ d p + m
  edga : ∀ q ∈ R, ∀ m, wt a q = some m → 0 ≤ d q ∧ d q ≤ t + m
  att : ∀ p, 0 ≤ d p → p = f ∨ ∃ q m, q ∉ W ∧ wt q p = some m ∧ 0 ≤ d q ∧ d q + m = d p
  ord : ∀ p, p ∉ W → 0 ≤ d p → d p ≤ t
theorem Dj.take {wt : Nat → Nat → Option Nat} {f : Nat} {d : Nat → Int} {W W' : List Nat} (h : Dj wt f d W) {a : Nat} (ha : a ∈ W) (hmin : ∀ p ∈ W, d a ≤ d p) (hW : ∀ p, p ∈ W' ↔ p ∈ W ∧ p ≠ a) (hnd : W'.Nodup) : Dq wt f a (d a) [] d W' := by
  have hc : ∀ p, p ∉ W' → p = a ∨ p ∉ W := by
    intro p hp
    by_cases e : p = a
    · exact Or.inl e
    · exact Or.inr fun hm => hp ((hW p).2 ⟨hm, e⟩)
  refine ⟨fun hm => ((hW a).1 hm).2 rfl, rfl, h.wait a ha, hnd, fun p hp => hmin p ((hW p).1 hp).1, h.zero, h.low, fun p hp he h0 => ?_, by simp, fun p h0 => ?_, fun p hp h0 => ?_⟩
  · rcases hc p hp with e | e
    · exact absurd e he
    · exact h.edge p e h0
  · refine (h.att p h0).imp id fun ⟨q, m, a1, a2⟩ => ⟨q, m, fun hm => a1 ((hW q).1 hm).1, a2⟩
  · rcases hc p hp with e | e
    · rw [e]; exact Int.le_refl _
    · exact h.ord p e h0 a ha
theorem Dq.done {wt : Nat → Nat → Option Nat} {f a : Nat} {t : Int} {R : List Nat} {d : Nat → Int} {W : List Nat} (h : Dq wt f a t R d W) (hR : ∀ q m, wt a q = some m → q ∈ R) : Dj wt f d W := by
  refine ⟨h.nd, fun p hp => ?_, h.zero, h.low, fun p hp h0 q m e => ?_, h.att, fun p hp h0 q hq => ?_⟩
  · have := h.wait p hp; have := h.d0; omega
  · by_cases e' : p = a
    · subst e'
      rw [h.da]
      exact h.edga q (hR q m e) m e
    · exact h.edge p hp e' h0 q m e
  · have := h.ord p hp h0; have := h.wait q hq; omega
/-- The neighbour q is new. -/
theorem Dq.add {n : Nat} {wt : Nat → Nat → Option Nat} {f a : Nat} {t : Int} {R : List Nat} {d d' : Nat → Int} {W : List Nat} (G : Wt n wt) (h : Dq wt f a t R d W) {q m : Nat} (e : wt a q = some m) (hq : d q < 0)
    (h1 : d' q = t + m) (h2 : ∀ p, p ≠ q → d' p = d p) : Dq wt f a t (R ++ [q]) d' (W ++ [q]) := by
  have hm := G.pos e
  have hne := G.ne e
  have h0 := h.d0
  have hqW : q ∉ W := fun hw => by have := h.wait q hw; omega
  have hfq : f ≠ q := by rintro rfl; have := h.zero; omega
  have keep : ∀ p, 0 ≤ d p → d' p = d p := fun p hp => h2 p (by rintro rfl; omega)
  refine ⟨?_, ?_, h0, ?_, ?_, ?_, ?_, ?_, ?_, ?_, ?_⟩
  · simp only [List.mem_append, List.mem_singleton, not_or]; exact ⟨h.na, hne⟩
  · rw [h2 a hne]; exact h.da
  · rw [List.nodup_append]
    refine ⟨h.nd, by simp, ?_⟩
    intro x hx y hy
    simp only [List.mem_singleton] at hy
    rintro rfl
    exact hqW (hy ▸ hx)
  · intro p hp
    rcases List.mem_append.1 hp with hp | hp
    · have := h.wait p hp
      rw [keep p (by omega)]; exact this
    · simp only [List.mem_singleton] at hp
      rw [hp, h1]; omega
  · rw [h2 f hfq]; exact h.zero
  · intro p
    by_cases e : p = q
    · rw [e, h1]; omega
    · rw [h2 p e]; exact h.low p
  · intro p hp hpa hp0 r k hr
    have hpq : p ≠ q := by rintro rfl; exact hp (by simp)
    rw [h2 p hpq] at hp0 ⊢
    have := h.edge p (fun hw => hp (by simp [hw])) hpa hp0 r k hr
    rw [keep r this.1]; exact this
  · intro r hr k hk
    rcases List.mem_append.1 hr with hr | hr
    · have := h.edga r hr k hk
      rw [keep r this.1]; exact this
    · simp only [List.mem_singleton] at hr
      subst hr
      rw [e] at hk
      cases hk
      rw [h1]; omega
  · intro p hp
    by_cases epq : p = q
    · subst epq
      refine Or.inr ⟨a, m, ?_, e, ?_, ?_⟩
      · simp only [List.mem_append, List.mem_singleton, not_or]; exact ⟨h.na, hne⟩
      · rw [h2 a hne, h.da]; omega
      · rw [h2 a hne, h.da, h1]
    · rw [h2 p epq] at hp ⊢
      refine (h.att p hp).imp id fun ⟨r, k, b1, b2, b3, b4⟩ => ⟨r, k, ?_, b2, ?_, ?_⟩
      · simp only [List.mem_append, List.mem_singleton, not_or]
        exact ⟨b1, by rintro rfl; omega⟩
      · rw [keep r b3]; exact b3
      · rw [keep r b3]; exact b4
  · intro p hp hp0
    have hpq : p ≠ q := by rintro rfl; exact hp (by simp)
    rw [h2 p hpq] at hp0 ⊢
    exact h.ord p (fun hw => hp (by simp [hw])) hp0
/-- The way to q is shorter. -/
theorem Dq.less {n : Nat} {wt : Nat → Nat → Option Nat} {f a : Nat} {t : Int} {R : List Nat} {d d' : Nat → Int} {W : List Nat} (G : Wt n wt) (h : Dq wt f a t R d W) {q m : Nat} (e : wt a q = some m) (hq : 0 ≤ d q) (hl : t + m < d q)
    (h1 : d' q = t + m) (h2 : ∀ p, p ≠ q → d' p = d p) : Dq wt f a t (R ++ [q]) d' W := by
  have hm := G.pos e
  have hne := G.ne e
  have h0 := h.d0
  have hqW : q ∈ W := by
    by_cases hw : q ∈ W
    · exact hw
    · have := h.ord q hw hq; omega
  have hfq : f ≠ q := by rintro rfl; have := h.zero; omega
  have le : ∀ p, 0 ≤ d p → 0 ≤ d' p ∧ d' p ≤ d p := by
    intro p hp
    by_cases e : p = q
    · subst e; omega
    · rw [h2 p e]; omega
  refine ⟨h.na, ?_, h0, h.nd, ?_, ?_, ?_, ?_, ?_, ?_, ?_⟩
  · rw [h2 a hne]; exact h.da
  · intro p hp
    by_cases e : p = q
    · rw [e, h1]; omega
    · rw [h2 p e]; exact h.wait p hp
  · rw [h2 f hfq]; exact h.zero
  · intro p
    by_cases e : p = q
    · rw [e, h1]; omega
    · rw [h2 p e]; exact h.low p
  · intro p hp hpa hp0 r k hr
    have hpq : p ≠ q := by rintro rfl; exact hp hqW
    rw [h2 p hpq] at hp0 ⊢
    have := h.edge p hp hpa hp0 r k hr
    have := le r this.1
    omega
  · intro r hr k hk
    rcases List.mem_append.1 hr with hr | hr
    · have := h.edga r hr k hk
      have := le r this.1
      omega
    · simp only [List.mem_singleton] at hr
      subst hr
      rw [e] at hk
      cases hk
      rw [h1]; omega
  · intro p hp
    by_cases epq : p = q
    · subst epq
      refine Or.inr ⟨a, m, h.na, e, ?_, ?_⟩
      · rw [h2 a hne, h.da]; omega
      · rw [h2 a hne, h.da, h1]
    · rw [h2 p epq] at hp ⊢
      refine (h.att p hp).imp id fun ⟨r, k, b1, b2, b3, b4⟩ => ⟨r, k, b1, b2, ?_, ?_⟩
      · rw [h2 r (by rintro rfl; exact b1 hqW)]; exact b3
      · rw [h2 r (by rintro rfl; exact b1 hqW)]; exact b4
  · intro p hp hp0
    have hpq : p ≠ q := by rintro rfl; exact hp hqW
    rw [h2 p hpq] at hp0 ⊢
    exact h.ord p hp hp0
theorem Dq.same {wt : Nat → Nat → Option Nat} {f a : Nat} {t : Int} {R : List Nat} {d : Nat → Int} {W : List Nat} (h : Dq wt f a t R d W) {q m : Nat} (e : wt a q = some m) (hq : 0 ≤ d q) (hl : d q ≤ t + m) : Dq wt f a t (R ++ [q]) d W := by
  refine ⟨h.na, h.da, h.d0, h.nd, h.wait, h.zero, h.low, h.edge, fun r hr k hk => ?_, h.att, h.ord⟩
  rcases List.mem_append.1 hr with hr | hr
  · exact h.edga r hr k hk
  · simp only [List.mem_singleton] at hr
    subst hr
    rw [e] at hk
    cases hk
    exact ⟨hq, hl⟩
end Go.Proofs.Ytbeoldklpklbfaa
