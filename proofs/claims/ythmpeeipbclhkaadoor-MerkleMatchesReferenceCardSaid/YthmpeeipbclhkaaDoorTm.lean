/-
  Trees over lists of digests: plain definitions and their laws, nothing of the program. D is the type of digests, pd the digest of padding, par that of a node with two children.
-/
namespace Go.Proofs.YthmpeeipbclhkaaDoor

section
variable {D : Type} (par : D → D → D) (pd : D)

/-- Node k at level j. -/
def nd (l : List D) : Nat → Nat → D
  | 0, k => l.getD k pd
  | j + 1, k => par (nd l j (2 * k)) (nd l j (2 * k + 1))

/-- The nodes behind all elements. -/
def bh : Nat → D
  | 0 => pd
  | j + 1 => par (bh j) (bh j)

/-- The next row. -/
def up (r : List D) (b : D) : List D := (List.range ((r.length + 1) / 2)).map fun i => par (r.getD (2 * i) b) (r.getD (2 * i + 1) b)

/-- The row at level j. -/
def rows (l : List D) : Nat → List D
  | 0 => l
  | j + 1 => up par (rows l j) (bh par pd j)

theorem up_length (r : List D) (b : D) : (up par r b).length = (r.length + 1) / 2 := by simp [up]

theorem up_getD (r : List D) (b : D) (i : Nat) : (up par r b).getD i (par b b) = par (r.getD (2 * i) b) (r.getD (2 * i + 1) b) := by
  unfold up
  rw [List.getD_eq_getElem?_getD, List.getElem?_map]
  by_cases h : i < (r.length + 1) / 2
  · rw [List.getElem?_range h]; rfl
  · rw [List.getElem?_eq_none (by simpa using h)]
    simp only [Option.map_none, Option.getD_none]
    rw [List.getD_eq_getElem?_getD, List.getD_eq_getElem?_getD, List.getElem?_eq_none (by omega), List.getElem?_eq_none (by omega)]
    rfl

theorem rows_getD (l : List D) (j : Nat) : ∀ k, (rows par pd l j).getD k (bh par pd j) = nd par pd l j k := by
  induction j with
  | zero => intro k; rfl
  | succ j ih =>
    intro k
    show (up par (rows par pd l j) (bh par pd j)).getD k (par (bh par pd j) (bh par pd j)) = _
    rw [up_getD, ih, ih]
    rfl

theorem nd_behind (l : List D) (j : Nat) : ∀ k, l.length ≤ k * 2 ^ j → nd par pd l j k = bh par pd j := by
  induction j with
  | zero =>
    intro k h
    show l.getD k pd = pd
    rw [List.getD_eq_getElem?_getD, List.getElem?_eq_none (by simpa using h)]
    rfl
  | succ j ih =>
    intro k h
    have e : k * 2 ^ (j + 1) = 2 * k * 2 ^ j := by rw [Nat.pow_succ, Nat.mul_comm (2 ^ j) 2, ← Nat.mul_assoc, Nat.mul_comm k 2]
    rw [e] at h
    show par _ _ = par _ _
    rw [ih (2 * k) h, ih (2 * k + 1) (Nat.le_trans h (Nat.mul_le_mul_right _ (by omega)))]

/-- A node depends on the leaves below it alone. -/
theorem nd_local (l m : List D) (j : Nat) : ∀ k k', (∀ t, t < 2 ^ j → l.getD (k * 2 ^ j + t) pd = m.getD (k' * 2 ^ j + t) pd) → nd par pd l j k = nd par pd m j k' := by
  induction j with
  | zero =>
    intro k k' h
    have := h 0 (by simp)
    show l.getD k pd = m.getD k' pd
    simpa using this
  | succ j ih =>
    intro k k' h
    have e : ∀ k, k * 2 ^ (j + 1) = 2 * k * 2 ^ j := fun k => by rw [Nat.pow_succ, Nat.mul_comm (2 ^ j) 2, ← Nat.mul_assoc, Nat.mul_comm k 2]
    have e2 : (2 : Nat) ^ (j + 1) = 2 ^ j + 2 ^ j := by rw [Nat.pow_succ]; omega
    show par _ _ = par _ _
    congr 1
    · apply ih
      intro t ht
      have := h t (by omega)
      rw [e, e] at this
      exact this
    · apply ih
      intro t ht
      have := h (2 ^ j + t) (by omega)
      rw [e, e] at this
      rw [Nat.add_mul, Nat.add_mul, Nat.one_mul, Nat.add_assoc, Nat.add_assoc]
      exact this

/-- The leaves of one node, cut out. -/
def cut (l : List D) (j k : Nat) : List D := (l.take ((k + 1) * 2 ^ j)).drop (k * 2 ^ j)

theorem cut_getD (l : List D) (j k t : Nat) (ht : t < 2 ^ j) : (cut l j k).getD t pd = l.getD (k * 2 ^ j + t) pd := by
  unfold cut
  rw [List.getD_eq_getElem?_getD, List.getD_eq_getElem?_getD, List.getElem?_drop, List.getElem?_take]
  have : k * 2 ^ j + t < (k + 1) * 2 ^ j := by rw [Nat.add_mul, Nat.one_mul]; omega
  rw [if_pos this]

theorem nd_cut (l : List D) (j k : Nat) : nd par pd (cut l j k) j 0 = nd par pd l j k := by
  apply nd_local
  intro t ht
  rw [Nat.zero_mul, Nat.zero_add]
  exact cut_getD pd l j k t ht

theorem rows_cut (l : List D) (j k : Nat) : (rows par pd (cut l j k) j).getD 0 (bh par pd j) = nd par pd l j k := by
  rw [rows_getD, nd_cut]

theorem rows_length (l : List D) (j : Nat) : (rows par pd l j).length = (l.length + (2 ^ j - 1)) / 2 ^ j := by
  induction j with
  | zero => simp [rows]
  | succ j ih =>
    show (up par _ _).length = _
    rw [up_length, ih]
    have hp : 0 < 2 ^ j := Nat.pos_of_ne_zero (by simp)
    rw [Nat.pow_succ]
    generalize 2 ^ j = p at *
    rw [← Nat.div_div_eq_div_mul]
    have h3 : (l.length + (p * 2 - 1)) / p = (l.length + (p - 1)) / p + 1 := by
      have : l.length + (p * 2 - 1) = l.length + (p - 1) + p := by omega
      rw [this, Nat.add_div_right _ hp]
    rw [h3]

/-- The nodes on the way up from leaf i, by its siblings. -/
def climb : Nat → D → List D → D
  | _, x, [] => x
  | i, x, s :: p => climb (i / 2) (if i % 2 = 0 then par x s else par s x) p

/-- The sibling's number. -/
def sib (k : Nat) : Nat := if k % 2 = 0 then k + 1 else k - 1

/-- d siblings from level j on. -/
def sibs (l : List D) : Nat → Nat → Nat → List D
  | _, _, 0 => []
  | j, i, d + 1 => nd par pd l j (sib i) :: sibs l (j + 1) (i / 2) d

theorem sibs_length (l : List D) (d : Nat) : ∀ j i, (sibs par pd l j i d).length = d := by
  induction d with
  | zero => intro j i; rfl
  | succ d ih => intro j i; show (_ :: _ : List D).length = _; rw [List.length_cons, ih]

theorem nd_up (l : List D) (j i : Nat) : nd par pd l (j + 1) (i / 2) = if i % 2 = 0 then par (nd par pd l j i) (nd par pd l j (sib i)) else par (nd par pd l j (sib i)) (nd par pd l j i) := by
  show par (nd par pd l j (2 * (i / 2))) (nd par pd l j (2 * (i / 2) + 1)) = _
  by_cases h : i % 2 = 0
  · rw [if_pos h]
    unfold sib
    rw [if_pos h]
    have e : 2 * (i / 2) = i := by omega
    rw [e]
  · rw [if_neg h]
    unfold sib
    rw [if_neg h]
    have e : 2 * (i / 2) = i - 1 := by omega
    rw [e]
    have e2 : i - 1 + 1 = i := by omega
    rw [e2]

theorem climb_sibs (l : List D) (d : Nat) : ∀ j i, climb par i (nd par pd l j i) (sibs par pd l j i d) = nd par pd l (j + d) (i / 2 ^ d) := by
  induction d with
  | zero => intro j i; simp [sibs, climb]
  | succ d ih =>
    intro j i
    show climb par (i / 2) (if i % 2 = 0 then par (nd par pd l j i) (nd par pd l j (sib i)) else par (nd par pd l j (sib i)) (nd par pd l j i)) (sibs par pd l (j + 1) (i / 2) d) = _
    rw [← nd_up, ih]
    have e1 : j + 1 + d = j + (d + 1) := by omega
    have e2 : i / 2 / 2 ^ d = i / 2 ^ (d + 1) := by rw [Nat.div_div_eq_div_mul, Nat.pow_succ, Nat.mul_comm]
    rw [e1, e2]

theorem sibs_get (l : List D) (d : Nat) : ∀ j i t, t < d → (sibs par pd l j i d)[t]? = some (nd par pd l (j + t) (sib (i / 2 ^ t))) := by
  induction d with
  | zero => intro j i t h; omega
  | succ d ih =>
    intro j i t h
    cases t with
    | zero => simp [sibs]
    | succ t =>
      show (_ :: sibs par pd l (j + 1) (i / 2) d)[t + 1]? = _
      rw [List.getElem?_cons_succ, ih (j + 1) (i / 2) t (by omega)]
      have e1 : j + 1 + t = j + (t + 1) := by omega
      have e2 : i / 2 / 2 ^ t = i / 2 ^ (t + 1) := by rw [Nat.div_div_eq_div_mul, Nat.pow_succ, Nat.mul_comm]
      rw [e1, e2]

end

/-- The least d with 2^d >= n. -/
def dpt (n : Nat) : Nat := if n ≤ 1 then 0 else Nat.log2 (n - 1) + 1

theorem dpt_ge (n : Nat) : n ≤ 2 ^ dpt n := by
  unfold dpt
  by_cases h : n ≤ 1
  · rw [if_pos h]; simpa using h
  · rw [if_neg h]
    have := Nat.lt_log2_self (n := n - 1)
    omega

theorem dpt_least (n d : Nat) (h : n ≤ 2 ^ d) : dpt n ≤ d := by
  unfold dpt
  by_cases h1 : n ≤ 1
  · rw [if_pos h1]; omega
  · rw [if_neg h1]
    have : Nat.log2 (n - 1) < d := (Nat.log2_lt (by omega)).2 (by omega)
    omega

theorem dpt_eq (n d : Nat) (h1 : n ≤ 2 ^ d) (h2 : ∀ e, e < d → 2 ^ e < n) : dpt n = d := by
  have a := dpt_least n d h1
  rcases Nat.lt_or_ge (dpt n) d with h | h
  · have := h2 _ h
    have := dpt_ge n
    omega
  · omega

theorem dpt_mono {n m : Nat} (h : n ≤ m) : dpt n ≤ dpt m := dpt_least n _ (Nat.le_trans h (dpt_ge m))
theorem dpt_le16 {n : Nat} (h : n ≤ 65536) : dpt n ≤ 16 := dpt_least n 16 (by simpa using h)
theorem dpt_le6 {n : Nat} (h : n ≤ 64) : dpt n ≤ 6 := dpt_least n 6 (by simpa using h)

section
variable {D : Type} [DecidableEq D] (par : D → D → D) (pd : D) (a b : List D)

/-- Equal nodes with different children at node k of level j or below. -/
def col : Nat → Nat → Bool
  | 0, _ => false
  | j + 1, k => (decide (nd par pd a (j + 1) k = nd par pd b (j + 1) k) && !(decide (nd par pd a j (2 * k) = nd par pd b j (2 * k)) && decide (nd par pd a j (2 * k + 1) = nd par pd b j (2 * k + 1)))) || (col j (2 * k) || col j (2 * k + 1))

theorem half (w j k : Nat) (h : w / 2 ^ (j + 1) = k) : w / 2 ^ j = 2 * k ∨ w / 2 ^ j = 2 * k + 1 := by
  rw [Nat.pow_succ, ← Nat.div_div_eq_div_mul] at h
  omega

theorem div_of (j k t : Nat) (ht : t < 2 ^ j) : (k * 2 ^ j + t) / 2 ^ j = k := by
  have hp : 0 < 2 ^ j := by omega
  rw [Nat.add_comm, Nat.add_mul_div_right _ _ hp, Nat.div_eq_of_lt ht, Nat.zero_add]

omit [DecidableEq D] in
/-- Different nodes have different leaves. -/
theorem nd_diff (j k : Nat) (h : nd par pd a j k ≠ nd par pd b j k) : ∃ w, w / 2 ^ j = k ∧ a.getD w pd ≠ b.getD w pd := by
  apply Classical.byContradiction
  intro hn
  apply h
  apply nd_local
  intro t ht
  apply Classical.byContradiction
  intro hd
  exact hn ⟨k * 2 ^ j + t, div_of j k t ht, hd⟩

/-- Equal nodes over different leaves. -/
theorem col_eq (j : Nat) : ∀ k w, nd par pd a j k = nd par pd b j k → w / 2 ^ j = k → a.getD w pd ≠ b.getD w pd → col par pd a b j k = true := by
  induction j with
  | zero =>
    intro k w he hw hd
    simp at hw
    subst hw
    exact absurd he hd
  | succ j ih =>
    intro k w he hw hd
    unfold col
    rw [Bool.or_eq_true]
    by_cases hl : nd par pd a j (2 * k) = nd par pd b j (2 * k)
    · by_cases hr : nd par pd a j (2 * k + 1) = nd par pd b j (2 * k + 1)
      · right
        rw [Bool.or_eq_true]
        rcases half w j k hw with h | h
        · exact Or.inl (ih _ w hl h hd)
        · exact Or.inr (ih _ w hr h hd)
      · left
        simp [he, hr]
    · left
      simp [he, hl]

/-- The way down. -/
def dsc : Nat → Nat → Nat
  | 0, k => k
  | j + 1, k => if nd par pd a j (2 * k) = nd par pd b j (2 * k) then dsc j (2 * k + 1) else dsc j (2 * k)

theorem dsc_first (w : Nat) (hw : a.getD w pd ≠ b.getD w pd) (hf : ∀ v, v < w → a.getD v pd = b.getD v pd) (j : Nat) :
    ∀ k, nd par pd a j k ≠ nd par pd b j k → w / 2 ^ j = k → dsc par pd a b j k = w ∨ col par pd a b j k = true := by
  induction j with
  | zero =>
    intro k _ hk
    left
    simp at hk
    exact hk.symm
  | succ j ih =>
    intro k hne hk
    unfold dsc col
    by_cases hl : nd par pd a j (2 * k) = nd par pd b j (2 * k)
    · rw [if_pos hl]
      rcases half w j k hk with h | h
      · right
        rw [col_eq par pd a b j (2 * k) w hl h hw]
        simp
      · have hr : nd par pd a j (2 * k + 1) ≠ nd par pd b j (2 * k + 1) := by
          intro hr
          apply hne
          show par _ _ = par _ _
          rw [hl, hr]
        rcases ih _ hr h with h1 | h1
        · exact Or.inl h1
        · right; rw [h1]; simp
    · rw [if_neg hl]
      obtain ⟨v, hv, hvd⟩ := nd_diff par pd a b j (2 * k) hl
      have hwv : w ≤ v := Nat.le_of_not_lt fun hlt => hvd (hf v hlt)
      have h : w / 2 ^ j = 2 * k := by
        have := Nat.div_le_div_right (c := 2 ^ j) hwv
        rcases half w j k hk with h | h
        · exact h
        · omega
      rcases ih _ hl h with h1 | h1
      · exact Or.inl h1
      · right; rw [h1]; simp

/-- The nodes on the way down differ. -/
theorem dsc_ne (j k : Nat) (hne : nd par pd a (j + 1) k ≠ nd par pd b (j + 1) k) : nd par pd a j (if nd par pd a j (2 * k) = nd par pd b j (2 * k) then 2 * k + 1 else 2 * k) ≠ nd par pd b j (if nd par pd a j (2 * k) = nd par pd b j (2 * k) then 2 * k + 1 else 2 * k) := by
  by_cases hl : nd par pd a j (2 * k) = nd par pd b j (2 * k)
  · rw [if_pos hl]
    intro hr
    apply hne
    show par _ _ = par _ _
    rw [hl, hr]
  · rw [if_neg hl]; exact hl

end


end Go.Proofs.YthmpeeipbclhkaaDoor
