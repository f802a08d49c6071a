/-
  Plain: lines, the line of two neighbours, weights.
-/
import Derived.Test.YtbeoldklpklbfaaPl
set_option linter.unusedVariables false
set_option linter.unusedSimpArgs false
namespace Go.Proofs.Ytbeoldklpklbfaa

/-- A line of a valid network. -/
structure Ln where
  a : Nat
  b : Nat
  r : Nat
  m : Nat
  k : Nat
def Ln.ok (n : Nat) (x : Ln) : Prop := x.a < n ∧ x.b < n ∧ x.a ≠ x.b ∧ x.r < 16 ∧ 1 ≤ x.m ∧ x.m ≤ 100000 ∧ x.k ≤ 10000
def jn (x : Ln) (p q : Nat) : Prop := x.a = p ∧ x.b = q ∨ x.a = q ∧ x.b = p
instance (x : Ln) (p q : Nat) : Decidable (jn x p q) := by unfold jn; exact inferInstance
theorem jn_symm (x : Ln) (p q : Nat) : jn x p q ↔ jn x q p := by unfold jn; omega
/-- The minutes of line i. -/
def mi (es : List Ln) (i : Nat) : Nat := (es[i]?.map Ln.m).getD 0
theorem mi_get {es : List Ln} {i : Nat} {x : Ln} (h : es[i]? = some x) : mi es i = x.m := by unfold mi; rw [h]; rfl
/-- The line of two neighbours among the first k. -/
def fnd (es : List Ln) (p q : Nat) : Nat → Option Nat
  | 0 => none
  | k + 1 => match es[k]? with
    | none => fnd es p q k
    | some x => if jn x p q then (match fnd es p q k with
        | none => some k
        | some j => if x.m < mi es j then some k else some j) else fnd es p q k
theorem fnd_symm (es : List Ln) (p q : Nat) : ∀ k, fnd es p q k = fnd es q p k
  | 0 => rfl
  | k + 1 => by
    unfold fnd
    rw [fnd_symm es p q k]
    split
    · rfl
    · rename_i x _
      by_cases h : jn x p q
      · rw [if_pos h, if_pos ((jn_symm x p q).1 h)]
      · rw [if_neg h, if_neg (fun h' => h ((jn_symm x p q).2 h'))]
theorem fnd_next {es : List Ln} {p q k : Nat} {x : Ln} (h : es[k]? = some x) : fnd es p q (k + 1) = if jn x p q then (match fnd es p q k with
        | none => some k
        | some j => if x.m < mi es j then some k else some j) else fnd es p q k := by
  rw [fnd]; simp only [h]
theorem fnd_out {es : List Ln} {p q k : Nat} {x : Ln} (h : es[k]? = some x) (hj : ¬ jn x p q) : fnd es p q (k + 1) = fnd es p q k := by rw [fnd_next h, if_neg hj]
theorem fnd_new {es : List Ln} {p q k : Nat} {x : Ln} (h : es[k]? = some x) (hj : jn x p q) (h0 : fnd es p q k = none) : fnd es p q (k + 1) = some k := by rw [fnd_next h, if_pos hj, h0]
theorem fnd_less {es : List Ln} {p q k j : Nat} {x : Ln} (h : es[k]? = some x) (hj : jn x p q) (h0 : fnd es p q k = some j) (hl : x.m < mi es j) : fnd es p q (k + 1) = some k := by rw [fnd_next h, if_pos hj, h0]; exact if_pos hl
theorem fnd_keep {es : List Ln} {p q k j : Nat} {x : Ln} (h : es[k]? = some x) (hj : jn x p q) (h0 : fnd es p q k = some j) (hl : ¬ x.m < mi es j) : fnd es p q (k + 1) = some j := by rw [fnd_next h, if_pos hj, h0]; exact if_neg hl
theorem fnd_some {es : List Ln} {p q : Nat} : ∀ {k i}, fnd es p q k = some i → i < k ∧ (∃ x, es[i]? = some x ∧ jn x p q) ∧ ∀ j y, j < k → es[j]? = some y → jn y p q → mi es i ≤ y.m
  | 0, i, h => by simp [fnd] at h
  | k + 1, i, h => by
    rw [fnd] at h
    split at h
    · rename_i hn
      obtain ⟨h1, h2, h3⟩ := fnd_some h
      refine ⟨by omega, h2, fun j y hj hy hp => ?_⟩
      by_cases e : j = k
      · rw [e, hn] at hy; cases hy
      · exact h3 j y (by omega) hy hp
    · rename_i x hx
      split at h
      · rename_i hjn
        split at h
        · rename_i h0
          cases h
          refine ⟨by omega, ⟨x, hx, hjn⟩, fun j y hj hy hp => ?_⟩
          rw [mi_get hx]
          by_cases e : j = k
          · rw [e, hx] at hy; cases hy; exact Nat.le_refl _
          · exact absurd hp (fnd_none h0 j y (by omega) hy)
        · rename_i j0 h0
          obtain ⟨h1, h2, h3⟩ := fnd_some h0
          split at h
          · rename_i hl
            cases h
            refine ⟨by omega, ⟨x, hx, hjn⟩, fun j y hj hy hp => ?_⟩
            rw [mi_get hx]
            by_cases e : j = k
            · rw [e, hx] at hy; cases hy; exact Nat.le_refl _
            · have := h3 j y (by omega) hy hp; omega
          · rename_i hl
            cases h
            refine ⟨by omega, h2, fun j y hj hy hp => ?_⟩
            by_cases e : j = k
            · rw [e, hx] at hy; cases hy; omega
            · exact h3 j y (by omega) hy hp
      · rename_i hjn
        obtain ⟨h1, h2, h3⟩ := fnd_some h
        refine ⟨by omega, h2, fun j y hj hy hp => ?_⟩
        by_cases e : j = k
        · rw [e, hx] at hy; cases hy; exact absurd hp hjn
        · exact h3 j y (by omega) hy hp
where
  fnd_none {es : List Ln} {p q : Nat} : ∀ {k}, fnd es p q k = none → ∀ j y, j < k → es[j]? = some y → ¬ jn y p q
  | 0, _, j, y, hj, _ => by omega
  | k + 1, h, j, y, hj, hy => by
    rw [fnd] at h
    split at h
    · rename_i hn
      by_cases e : j = k
      · rw [e, hn] at hy; cases hy
      · exact fnd_none h j y (by omega) hy
    · rename_i x hx
      split at h
      · split at h
        · cases h
        · split at h <;> cases h
      · rename_i hjn
        by_cases e : j = k
        · rw [e, hx] at hy; cases hy; exact hjn
        · exact fnd_none h j y (by omega) hy

/-- The line of two neighbours. -/
def fd (es : List Ln) (p q : Nat) : Option Nat := fnd es p q es.length
/-- The minutes of the line of two neighbours. -/
def wt (es : List Ln) (p q : Nat) : Option Nat := (fd es p q).map (mi es)
theorem fd_symm (es : List Ln) (p q : Nat) : fd es p q = fd es q p := fnd_symm es p q _
theorem wt_some {es : List Ln} {p q m : Nat} (h : wt es p q = some m) : ∃ i, fd es p q = some i ∧ mi es i = m := Option.map_eq_some_iff.1 h
theorem wt_of {es : List Ln} {p q i : Nat} (h : fd es p q = some i) : wt es p q = some (mi es i) := by unfold wt; rw [h]; rfl
theorem wt_none {es : List Ln} {p q : Nat} (h : fd es p q = none) : wt es p q = none := by unfold wt; rw [h]; rfl
theorem fd_lt {es : List Ln} {p q i : Nat} (h : fd es p q = some i) : i < es.length := (fnd_some h).1
theorem fd_line {es : List Ln} {p q i : Nat} (h : fd es p q = some i) : ∃ x, es[i]? = some x ∧ jn x p q := (fnd_some h).2.1
/-- A line between two places is at least as slow as theirs. -/
theorem wt_line {es : List Ln} {p q i : Nat} {x : Ln} (hx : es[i]? = some x) (hj : jn x p q) : ∃ m, m ≤ x.m ∧ wt es p q = some m := by
  cases h : fd es p q with
  | none => exact absurd hj (fnd_some.fnd_none h i x (List.getElem?_eq_some_iff.1 hx).1 hx)
  | some j => exact ⟨mi es j, (fnd_some h).2.2 i x (List.getElem?_eq_some_iff.1 hx).1 hx hj, wt_of h⟩
theorem wt_wt {n : Nat} {es : List Ln} (h : ∀ x ∈ es, x.ok n) : Wt n (wt es) := by
  have key : ∀ {p q m}, wt es p q = some m → ∃ x ∈ es, x.m = m ∧ jn x p q := by
    intro p q m hw
    obtain ⟨i, hi, hm⟩ := wt_some hw
    obtain ⟨x, hx, hj⟩ := fd_line hi
    exact ⟨x, List.mem_of_getElem? hx, by rw [← hm, mi_get hx], hj⟩
  refine ⟨fun hw => ?_, fun hw => ?_, fun hw => ?_, fun p q => by unfold wt; rw [fd_symm]⟩
  · obtain ⟨x, hx, e, _⟩ := key hw
    have := h x hx
    unfold Ln.ok at this
    omega
  · obtain ⟨x, hx, _, e⟩ := key hw
    have := h x hx
    unfold Ln.ok at this
    unfold jn at e
    omega
  · obtain ⟨x, hx, _, e⟩ := key hw
    have := h x hx
    unfold Ln.ok at this
    unfold jn at e
    omega
/-- The times as a function. -/
def dv (L : List Int) (p : Nat) : Int := L[p]?.getD (-1)
theorem dv_get {L : List Int} {p : Nat} {x : Int} (h : L[p]? = some x) : dv L p = x := by unfold dv; rw [h]; rfl
theorem dv_out {L : List Int} {p : Nat} (h : L.length ≤ p) : dv L p = -1 := by unfold dv; rw [List.getElem?_eq_none h]; rfl
theorem dv_lt {L : List Int} {p : Nat} (h : 0 ≤ dv L p) : p < L.length := by
  rcases Nat.lt_or_ge p L.length with h1 | h1
  · exact h1
  · rw [dv_out h1] at h; omega
theorem dv_some {L : List Int} {p : Nat} (h : p < L.length) : L[p]? = some (dv L p) := by
  unfold dv
  rw [List.getElem?_eq_getElem h]
  rfl
theorem dv_set_same {L : List Int} {p : Nat} (t : Int) (h : p < L.length) : dv (L.set p t) p = t := by unfold dv; rw [List.getElem?_set, if_pos rfl, if_pos h]; rfl
theorem dv_set_other {L : List Int} {p q : Nat} (t : Int) (h : q ≠ p) : dv (L.set p t) q = dv L q := by unfold dv; rw [List.getElem?_set, if_neg (fun e => h e.symm)]
theorem dv_ext {L M : List Int} (hl : L.length = M.length) (h : ∀ p, dv L p = dv M p) : L = M := by
  refine List.ext_getElem? fun p => ?_
  rcases Nat.lt_or_ge p L.length with h1 | h1
  · rw [dv_some h1, dv_some (by omega), h p]
  · rw [List.getElem?_eq_none h1, List.getElem?_eq_none (by omega)]
/-- L are the least times from f in a network of n places. -/
def Tm (n : Nat) (es : List Ln) (f : Nat) (L : List Int) : Prop := L.length = n ∧ Dist (wt es) f (dv L)
theorem tm_one {n : Nat} {es : List Ln} {f : Nat} {L M : List Int} (h : ∀ x ∈ es, x.ok n) (hL : Tm n es f L) (hM : Tm n es f M) : L = M :=
  dv_ext (by rw [hL.1, hM.1]) (fun p => dist_one (wt_wt h) hL.2 hM.2 p)
/-- How many are negative. -/
def cneg : List Int → Nat
  | [] => 0
  | x :: t => (if x < 0 then 1 else 0) + cneg t
theorem cneg_le : ∀ L, cneg L ≤ L.length
  | [] => Nat.le_refl _
  | x :: t => by have := cneg_le t; simp only [cneg, List.length_cons]; split <;> omega
theorem cneg_set {t : Int} (ht : 0 ≤ t) : ∀ {L : List Int} {p : Nat}, p < L.length → dv L p < 0 → cneg (L.set p t) + 1 = cneg L
  | [], p, h, _ => by simp at h
  | x :: L, 0, _, h => by
    have hx : x < 0 := h
    simp only [List.set_cons_zero, cneg, if_pos hx, if_neg (by omega : ¬ t < 0)]
    omega
  | x :: L, p + 1, h, hd => by
    have := cneg_set ht (L := L) (p := p) (by simpa using h) (by unfold dv at hd ⊢; simpa using hd)
    simp only [List.set_cons_succ, cneg]
    omega
theorem cneg_same {t : Int} (ht : 0 ≤ t) : ∀ {L : List Int} {p : Nat}, 0 ≤ dv L p → cneg (L.set p t) = cneg L
  | [], p, h => by simp [cneg]
  | x :: L, 0, h => by
    have hx : 0 ≤ x := h
    simp only [List.set_cons_zero, cneg, if_neg (by omega : ¬ x < 0), if_neg (by omega : ¬ t < 0)]
  | x :: L, p + 1, hd => by
    have := cneg_same ht (L := L) (p := p) (by unfold dv at hd ⊢; simpa using hd)
    simp only [List.set_cons_succ, cneg]
    omega
theorem cneg_rep : ∀ n, cneg (List.replicate n (-1)) = n
  | 0 => rfl
  | n + 1 => by
    rw [List.replicate_succ, cneg, cneg_rep n]
    simp only [if_pos (by omega : (-1 : Int) < 0)]
    omega
end Go.Proofs.Ytbeoldklpklbfaa
