/-
  Costs of chains of swaps: what the least costs are.
-/
namespace Go.Proofs.Ytijdjbkmkopmnaa
set_option linter.unusedVariables false
set_option linter.unusedSimpArgs false

/-- A swap: wanted, given, cost. -/
structure Tr where
  a : Nat
  b : Nat
  c : Nat
/-- A chain of swaps from f to a type, at a cost. -/
inductive Ch (es : List Tr) (f : Nat) : Nat → Nat → Prop
  | nil : Ch es f f 0
  | cons {v d : Nat} (x : Tr) : Ch es f v d → x ∈ es → x.a = v → Ch es f x.b (d + x.c)
theorem Ch.trans {es : List Tr} {f g : Nat} {d : Nat} (h : Ch es f g d) : ∀ {t k : Nat}, Ch es g t k → Ch es f t (d + k) := by
  intro t k hk
  induction hk with
  | nil => exact h
  | cons x h1 h2 h3 ih => rw [← Nat.add_assoc]; exact Ch.cons x ih h2 h3
/-- All swaps connect types below n, at costs up to 10^9. -/
def Oks (n : Nat) (es : List Tr) : Prop := ∀ x ∈ es, x.a < n ∧ x.b < n ∧ x.c ≤ 1000000000
theorem Ch.lt {es : List Tr} {f n t d : Nat} (h : Ch es f t d) (ho : Oks n es) (hf : f < n) : t < n := by
  cases h with
  | nil => exact hf
  | cons x _ h2 _ => exact (ho x h2).2.1
def cv (L : List Nat) (t : Nat) : Nat := L.getD t 0
/-- Each cost below 32000000000 is that of a chain. -/
structure Att (es : List Tr) (f : Nat) (L : List Nat) : Prop where
  len : L.length = 32
  zero : cv L f = 0
  att : ∀ t, t < 32 → cv L t = 32000000000 ∨ cv L t < 32000000000 ∧ Ch es f t (cv L t)
/-- No swap makes a cost less. -/
def Fx (es : List Tr) (L : List Nat) : Prop := ∀ x ∈ es, cv L x.b ≤ cv L x.a + x.c
/-- The least costs. -/
structure Least (es : List Tr) (f : Nat) (L : List Nat) : Prop where
  att : Att es f L
  fx : Fx es L
theorem Least.le {es : List Tr} {f : Nat} {L : List Nat} (h : Least es f L) {t d : Nat} (hc : Ch es f t d) : cv L t ≤ d := by
  induction hc with
  | nil => rw [h.att.zero]; exact Nat.le_refl _
  | cons x h1 h2 h3 ih => have := h.fx x h2; rw [h3] at this; omega
theorem countP_lt {α : Type} {p q : α → Bool} : ∀ {l : List α}, (∀ x ∈ l, p x = true → q x = true) → (∃ x ∈ l, q x = true ∧ p x = false) → l.countP p < l.countP q
  | [], _, h => by obtain ⟨x, hx, _⟩ := h; simp at hx
  | y :: l, h, hx => by
    have hle : l.countP p ≤ l.countP q := List.countP_mono_left (fun x hx => h x (by simp [hx]))
    obtain ⟨x, hm, h1, h2⟩ := hx
    rw [List.countP_cons, List.countP_cons]
    rcases List.mem_cons.1 hm with rfl | hm
    · rw [h1, h2]; simp; omega
    · have ih := countP_lt (l := l) (fun x hx => h x (by simp [hx])) ⟨x, hm, h1, h2⟩
      have := h y (by simp)
      cases hp : p y <;> cases hq : q y <;> simp_all <;> omega
/-- Along a chain at a least cost: near each amount below it lies a cost. -/
theorem Least.near {es : List Tr} {f n : Nat} {L : List Nat} (h : Least es f L) (ho : Oks n es) (hf : f < n) {t d : Nat} (hc : Ch es f t d) (ht : cv L t = d) : ∀ x, x ≤ d → ∃ s, s < n ∧ cv L s ≤ x ∧ x < cv L s + 1000000000 := by
  induction hc with
  | nil => intro x hx; exact ⟨f, hf, by omega, by omega⟩
  | @cons v d x h1 h2 h3 ih =>
    intro y hy
    have hl := h.le h1
    have he := h.fx x h2
    rw [h3] at he
    have hk := (ho x h2)
    by_cases hyd : y ≤ d
    · exact ih (by omega) y hyd
    · by_cases hz : y < d + 1000000000
      · exact ⟨v, h1.lt ho hf, by omega, by omega⟩
      · exact ⟨x.b, hk.2.1, by omega, by omega⟩
/-- Whatever is reached by a chain has a cost below 32000000000. -/
theorem Least.reach {es : List Tr} {f n : Nat} {L : List Nat} (h : Least es f L) (ho : Oks n es) (hf : f < n) (hn : n ≤ 32) {t d : Nat} (hc : Ch es f t d) : cv L t < 32000000000 := by
  induction hc with
  | nil => rw [h.att.zero]; decide
  | @cons v d x h1 h2 h3 ih =>
    have hk := ho x h2
    have he := h.fx x h2
    rw [h3] at he
    refine Nat.lt_of_not_le fun hU => ?_
    have hx64 : x.b < 32 := by omega
    have hxU : cv L x.b = 32000000000 := by
      rcases h.att.att x.b hx64 with e | ⟨e, _⟩
      · exact e
      · omega
    have hv : Ch es f v (cv L v) := by
      rcases h.att.att v (by have := h1.lt ho hf; omega) with e | ⟨_, e⟩
      · omega
      · exact e
    have hnear := h.near ho hf hv rfl
    have hcnt : ∀ m, m ≤ 31 → m + 1 ≤ (List.range 32).countP (fun t => decide (cv L t ≤ m * 1000000000)) := by
      intro m
      induction m with
      | zero =>
        intro _
        refine List.countP_pos_iff.2 ⟨f, ?_, ?_⟩
        · rw [List.mem_range]; omega
        · rw [h.att.zero]; simp
      | succ m ihm =>
        intro hm
        have h0 := ihm (by omega)
        obtain ⟨s, hs, hs1, hs2⟩ := hnear ((m + 1) * 1000000000) (by omega)
        refine Nat.lt_of_le_of_lt h0 (countP_lt (fun y _ hy => ?_) ⟨s, List.mem_range.2 (Nat.lt_of_lt_of_le hs hn), ?_, ?_⟩)
        · exact decide_eq_true (Nat.le_trans (of_decide_eq_true hy) (Nat.mul_le_mul_right _ (Nat.le_succ m)))
        · exact decide_eq_true (by omega)
        · exact decide_eq_false (by omega)
    have h63 := hcnt 31 (Nat.le_refl _)
    have hlt : (List.range 32).countP (fun t => decide (cv L t ≤ 31 * 1000000000)) < (List.range 32).countP (fun _ => true) :=
      countP_lt (fun _ _ _ => rfl) ⟨x.b, by rw [List.mem_range]; exact hx64, rfl, decide_eq_false (by omega)⟩
    have htot : (List.range 32).countP (fun _ => true) = 32 := (List.countP_eq_length.2 (fun _ _ => rfl)).trans List.length_range
    omega
theorem Least.out {es : List Tr} {f n : Nat} {L : List Nat} (h : Least es f L) (ho : Oks n es) (hf : f < n) {t : Nat} (ht : t < 32) (hU : cv L t < 32000000000) : t < n := by
  rcases h.att.att t ht with e | ⟨_, e⟩
  · omega
  · exact e.lt ho hf
theorem Least.one {es : List Tr} {f : Nat} {L M : List Nat} (h : Least es f L) (k : Least es f M) : L = M := by
  have hle : ∀ {L M : List Nat}, Least es f L → Least es f M → ∀ t, t < 32 → cv L t ≤ cv M t := by
    intro L M h k t ht
    rcases k.att.att t ht with e | ⟨_, e⟩
    · rcases h.att.att t ht with e2 | ⟨e2, _⟩ <;> omega
    · exact h.le e
  refine List.ext_getElem (by rw [h.att.len, k.att.len]) fun t h1 h2 => ?_
  have ht : t < 32 := by have := h.att.len; omega
  have a := hle h k t ht
  have b := hle k h t ht
  have e1 : cv L t = L[t] := by unfold cv; rw [List.getD_eq_getElem?_getD, List.getElem?_eq_getElem h1]; rfl
  have e2 : cv M t = M[t] := by unfold cv; rw [List.getD_eq_getElem?_getD, List.getElem?_eq_getElem h2]; rfl
  omega
/-- One swap taken into account. -/
def rl (x : Tr) (L : List Nat) : List Nat := if cv L x.a + x.c < cv L x.b then L.set x.b (cv L x.a + x.c) else L
theorem cv_set {L : List Nat} {p t v : Nat} (hp : p < L.length) : cv (L.set p v) t = if p = t then v else cv L t := by
  unfold cv
  rw [List.getD_eq_getElem?_getD, List.getD_eq_getElem?_getD, List.getElem?_set]
  by_cases e : p = t
  · subst e; simp [hp]
  · rw [if_neg e, if_neg e]
def lsum : List Nat → Nat
  | [] => 0
  | x :: l => x + lsum l
theorem lsum_set {v : Nat} : ∀ {L : List Nat} {p : Nat}, p < L.length → lsum (L.set p v) + cv L p = lsum L + v
  | [], p, h => by simp at h
  | x :: l, 0, h => by show v + lsum l + x = x + lsum l + v; omega
  | x :: l, p + 1, h => by
    have := lsum_set (v := v) (L := l) (p := p) (by simpa using h)
    have e : cv (x :: l) (p + 1) = cv l p := by unfold cv; simp
    rw [e]
    show x + lsum (l.set p v) + cv l p = x + lsum l + v
    omega
theorem Att.rl {es : List Tr} {f n : Nat} {L : List Nat} (h : Att es f L) (ho : Oks n es) (hn : n ≤ 32) {x : Tr} (hx : x ∈ es) : Att es f (rl x L) ∧ (cv L x.a + x.c < cv L x.b → lsum (rl x L) < lsum L) ∧ lsum (rl x L) ≤ lsum L ∧ (∀ t, t < 32 → cv (rl x L) t ≤ cv L t) := by
  have hk := ho x hx
  have hl := h.len
  unfold Go.Proofs.Ytijdjbkmkopmnaa.rl
  split
  · rename_i hc
    have hb : x.b < L.length := by omega
    have hs := lsum_set (v := cv L x.a + x.c) hb
    have hcU : cv L x.b ≤ 32000000000 := by rcases h.att x.b (by omega) with e | ⟨e, _⟩ <;> omega
    have haU : cv L x.a < 32000000000 := by omega
    have hch : Ch es f x.a (cv L x.a) := by rcases h.att x.a (by omega) with e | ⟨_, e⟩; omega; exact e
    have hfb : x.b ≠ f := by intro e; rw [e, h.zero] at hc; omega
    refine ⟨⟨by rw [List.length_set]; exact hl, ?_, fun t ht => ?_⟩, fun _ => by omega, by omega, fun t ht => ?_⟩
    · rw [cv_set hb, if_neg hfb]; exact h.zero
    · rw [cv_set hb]
      split
      · rename_i e; subst e; exact Or.inr ⟨by omega, Ch.cons x hch hx rfl⟩
      · exact h.att t ht
    · rw [cv_set hb]
      split
      · rename_i e; subst e; omega
      · exact Nat.le_refl _
  · exact ⟨h, fun e => by omega, Nat.le_refl _, fun t _ => Nat.le_refl _⟩
/-- The costs at the beginning. -/
def L0 (f : Nat) : List Nat := (List.replicate 32 32000000000).set f 0
theorem att0 (es : List Tr) {f : Nat} (hf : f < 32) : Att es f (L0 f) := by
  have hl : (List.replicate 32 32000000000).length = 32 := List.length_replicate
  refine ⟨by unfold L0; rw [List.length_set, hl], ?_, fun t ht => ?_⟩
  · unfold L0; rw [cv_set (by omega), if_pos rfl]
  · unfold L0
    rw [cv_set (by omega)]
    split
    · rename_i e; subst e; exact Or.inr ⟨by decide, Ch.nil⟩
    · refine Or.inl ?_
      unfold cv
      rw [List.getD_eq_getElem?_getD, List.getElem?_replicate, if_pos ht]; rfl

/-- The reference's rounds: costs where -1 stands for none. -/
def dv (D : List Int) (t : Nat) : Int := D.getD t (-1)
def rx (x : Tr) (D : List Int) : List Int :=
  if dv D x.a < 0 then D else if dv D x.b < 0 ∨ dv D x.a + x.c < dv D x.b then D.set x.b (dv D x.a + x.c) else D
theorem dv_set {D : List Int} {p t : Nat} {v : Int} (hp : p < D.length) : dv (D.set p v) t = if p = t then v else dv D t := by
  unfold dv
  rw [List.getD_eq_getElem?_getD, List.getD_eq_getElem?_getD, List.getElem?_set]
  by_cases e : p = t
  · subst e; simp [hp]
  · rw [if_neg e, if_neg e]
/-- What the rounds keep. -/
structure Rf (n f : Nat) (L : List Nat) (B : Nat) (D : List Int) : Prop where
  len : D.length = n
  zero : dv D f = 0
  low : ∀ t, t < n → dv D t = -1 ∨ cv L t < 32000000000 ∧ (cv L t : Int) ≤ dv D t ∧ dv D t ≤ (B : Int)
/-- Final. -/
def fin (L : List Nat) (D : List Int) (t : Nat) : Prop := dv D t = (cv L t : Int)
theorem Rf.up {n f B B' : Nat} {L : List Nat} {D : List Int} (h : Rf n f L B D) (hB : B ≤ B') : Rf n f L B' D := ⟨h.len, h.zero, fun t ht => by rcases h.low t ht with e | ⟨a, b, c⟩; exact Or.inl e; exact Or.inr ⟨a, b, by omega⟩⟩
theorem Rf.rx {es : List Tr} {n f B : Nat} {L : List Nat} {D : List Int} (h : Rf n f L B D) (hL : Least es f L) (ho : Oks n es) (hf : f < n) (hn : n ≤ 32) {x : Tr} (hx : x ∈ es) :
    Rf n f L (B + 1000000000) (rx x D) ∧ (∀ t, t < n → fin L D t → fin L (rx x D) t) ∧ (fin L D x.a → cv L x.a < 32000000000 → cv L x.b = cv L x.a + x.c → fin L (rx x D) x.b) := by
  have hk := ho x hx
  unfold Go.Proofs.Ytijdjbkmkopmnaa.rx
  rcases h.low x.a hk.1 with ea | ⟨ea, ea2, ea3⟩
  · rw [if_pos (by omega)]
    exact ⟨h.up (by omega), fun t _ e => e, fun e _ _ => by unfold fin at e; omega⟩
  · rw [if_neg (by omega)]
    have hfx := hL.fx x hx
    have hcha : Ch es f x.a (cv L x.a) := by rcases hL.att.att x.a (by omega) with e | ⟨_, e⟩; omega; exact e
    have hUb : cv L x.b < 32000000000 := hL.reach ho hf hn (Ch.cons x hcha hx rfl)
    have hb : x.b < D.length := by rw [h.len]; exact hk.2.1
    split
    · rename_i hc
      refine ⟨⟨by rw [List.length_set]; exact h.len, ?_, fun t ht => ?_⟩, fun t ht e => ?_, fun e e1 e2 => ?_⟩
      · rw [dv_set hb]
        split
        · rename_i e
          rw [e, h.zero] at hc
          omega
        · exact h.zero
      · rw [dv_set hb]
        split
        · rename_i e
          subst e
          exact Or.inr ⟨hUb, by omega, by omega⟩
        · exact (h.up (by omega)).low t ht
      · unfold fin at e ⊢
        rw [dv_set hb]
        split
        · rename_i e2; subst e2; omega
        · exact e
      · unfold fin at e ⊢
        rw [dv_set hb, if_pos rfl]
        omega
    · rename_i hc
      refine ⟨h.up (by omega), fun t _ e => e, fun e e1 e2 => ?_⟩
      unfold fin at e ⊢
      rcases h.low x.b hk.2.1 with eb | ⟨_, eb, _⟩ <;> omega
/-- How many types are not final. -/
def nf (n : Nat) (L : List Nat) (D : List Int) : Nat := (List.range n).countP (fun t => decide (cv L t < 32000000000 ∧ dv D t ≠ (cv L t : Int)))
theorem nf_zero {n : Nat} {L : List Nat} {D : List Int} (h : nf n L D = 0) : ∀ t, t < n → cv L t < 32000000000 → dv D t = (cv L t : Int) := by
  intro t ht hU
  have := List.countP_eq_zero.1 h t (by rw [List.mem_range]; exact ht)
  simp only [decide_eq_true_eq] at this
  refine Classical.byContradiction fun hc => this ⟨hU, hc⟩
/-- Unless all are final, a swap leads tightly from a final type to one that is not. -/
theorem tight {es : List Tr} {n f : Nat} {L : List Nat} {D : List Int} {B : Nat} (h : Rf n f L B D) (hL : Least es f L) (ho : Oks n es) (hf : f < n) : ∀ {t d : Nat}, Ch es f t d → cv L t = d → cv L t < 32000000000 → dv D t ≠ (cv L t : Int) →
    ∃ x ∈ es, fin L D x.a ∧ cv L x.a < 32000000000 ∧ cv L x.b = cv L x.a + x.c ∧ cv L x.b < 32000000000 ∧ dv D x.b ≠ (cv L x.b : Int) := by
  intro t d hc
  induction hc with
  | nil => intro h1 h2 h3; rw [h.zero, h1] at h3; exact absurd rfl h3
  | @cons v d x h1 h2 h3 ih =>
    intro e1 e2 e3
    have hl := hL.le h1
    have hfx := hL.fx x h2
    rw [h3] at hfx
    by_cases hv : dv D v = (cv L v : Int)
    · exact ⟨x, h2, by rw [h3]; exact hv, by rw [h3]; omega, by rw [h3]; omega, e2, e3⟩
    · exact ih (by omega) (by omega) hv
/-- A round: what is known behind its first k swaps. -/
structure Rk (es : List Tr) (n f : Nat) (L : List Nat) (B : Nat) (D0 : List Int) (k : Nat) (D : List Int) : Prop where
  rf : Rf n f L (B + k * 1000000000) D
  old : ∀ t, t < n → fin L D0 t → fin L D t
  new : ∀ j x, j < k → es[j]? = some x → fin L D0 x.a → cv L x.a < 32000000000 → cv L x.b = cv L x.a + x.c → fin L D x.b
theorem Rk.start {es : List Tr} {n f : Nat} {L : List Nat} {D0 : List Int} {B : Nat} (h : Rf n f L B D0) : Rk es n f L B D0 0 D0 := ⟨h.up (by omega), fun t _ e => e, fun j x hj => by omega⟩
theorem Rk.step {es : List Tr} {n f : Nat} {L : List Nat} {D0 D : List Int} {k B : Nat} (h : Rk es n f L B D0 k D) (hL : Least es f L) (ho : Oks n es) (hf : f < n) (hn : n ≤ 32) {x : Tr} (hx : es[k]? = some x) : Rk es n f L B D0 (k + 1) (rx x D) := by
  obtain ⟨h1, h2, h3⟩ := h.rf.rx hL ho hf hn (List.mem_of_getElem? hx)
  refine ⟨h1.up (by omega), fun t ht e => h2 t ht (h.old t ht e), fun j y hj hy e1 e2 e3 => ?_⟩
  by_cases hjk : j < k
  · exact h2 _ (ho y (List.mem_of_getElem? hy)).2.1 (h.new j y hjk hy e1 e2 e3)
  · obtain rfl : j = k := by omega
    rw [hx] at hy
    cases hy
    exact h3 (h.old _ (ho x (List.mem_of_getElem? hx)).1 e1) e2 e3
theorem Rk.done {es : List Tr} {n f : Nat} {L : List Nat} {D0 D : List Int} {B : Nat} (h : Rk es n f L B D0 es.length D) (h0 : Rf n f L B D0) (hL : Least es f L) (ho : Oks n es) (hf : f < n) (hn : n ≤ 32) : nf n L D + 1 ≤ nf n L D0 ∨ nf n L D = 0 := by
  by_cases hz : nf n L D0 = 0
  · refine Or.inr (List.countP_eq_zero.2 fun t ht => ?_)
    rw [List.mem_range] at ht
    simp only [decide_eq_true_eq]
    exact fun ⟨h1, h2⟩ => h2 (h.old t ht (nf_zero hz t ht h1))
  · obtain ⟨t, ht, hp⟩ := List.countP_pos_iff.1 (Nat.pos_of_ne_zero hz)
    rw [List.mem_range] at ht
    simp only [decide_eq_true_eq] at hp
    have hch : Ch es f t (cv L t) := by rcases hL.att.att t (by omega) with e | ⟨_, e⟩; omega; exact e
    obtain ⟨x, hx, g1, g2, g3, g4, g5⟩ := tight h0 hL ho hf hch rfl hp.1 hp.2
    obtain ⟨j, hj⟩ := List.getElem?_of_mem hx
    have hfin := h.new j x (List.getElem?_eq_some_iff.1 hj).1 hj g1 g2 g3
    refine Or.inl (countP_lt (fun y hy e => ?_) ⟨x.b, by rw [List.mem_range]; exact (ho x hx).2.1, decide_eq_true ⟨g4, g5⟩, decide_eq_false fun e => e.2 hfin⟩)
    rw [List.mem_range] at hy
    simp only [decide_eq_true_eq] at e ⊢
    exact ⟨e.1, fun e2 => e.2 (h.old y hy e2)⟩
end Go.Proofs.Ytijdjbkmkopmnaa
