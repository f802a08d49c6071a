/-
  A walk that takes the least time does not precede the route.
-/
import Derived.Test.YtbeoldklpklbfaaRm
namespace Go.Proofs.Ytbeoldklpklbfaa
set_option linter.unusedVariables false
set_option linter.unusedSimpArgs false

theorem rt_nx {es : List Ln} {L : List Int} {b a : Nat} {P : List Nat} (h : Rt es L b a P) : P[0]? = some a ∧ ∀ (i x y : Nat), P[i]? = some x → P[i + 1]? = some y → NX es L x (y : Int) := by
  induction h with
  | stop => exact ⟨rfl, fun i x y _ h2 => by simp at h2⟩
  | @step a q P hne hn _ ih =>
    refine ⟨rfl, fun i x y h1 h2 => ?_⟩
    cases i with
    | zero =>
      rw [List.getElem?_cons_succ, ih.1] at h2
      cases h1; cases h2
      exact hn
    | succ i => exact ih.2 i x y h1 h2
/-- The time from place i of the walk. -/
def di (L l : List Int) (i : Nat) : Int := dv L (l.getD i 0).toNat
theorem di_get {L l : List Int} {i a : Nat} (h : l[i]? = some (a : Int)) : di L l i = dv L a := by
  unfold di
  rw [List.getD_eq_getElem?_getD, h]
  rfl
section
variable {n : Nat} {es : List Ln} {L l : List Int} {b : Nat}
theorem hop_wt {i j : Nat} (h : hop n es l i j) : ∃ p q : Nat, l[i]? = some (p : Int) ∧ l[i + 1]? = some (q : Int) ∧ p < n ∧ q < n ∧ wt es p q = some (mi es j) := by
  obtain ⟨p, q, h1, h2, h3, h4, h5⟩ := h
  exact ⟨p, q, h1, h2, h3, h4, wt_of h5⟩
theorem hop_step (G : Wt n (wt es)) (D : Dist (wt es) b (dv L)) {i j : Nat} (h : hop n es l i j) (h0 : 0 ≤ di L l (i + 1)) : 0 ≤ di L l i ∧ sm es l i + di L l i ≤ sm es l (i + 1) + di L l (i + 1) := by
  have hs := sm_next h
  obtain ⟨p, q, h1, h2, h3, h4, h5⟩ := hop_wt h
  rw [di_get h1, di_get h2] at *
  have := D.edge q p _ (by rw [G.symm q p]; exact h5) h0
  exact ⟨this.1, by rw [hs]; omega⟩
theorem walk_down (G : Wt n (wt es)) (D : Dist (wt es) b (dv L)) {k : Nat} (hl : l.length = k + 1) (hh : ∀ i, i + 1 < l.length → ∃ j, hop n es l i j) (hz : di L l k = 0) : ∀ c i, i + c = k → 0 ≤ di L l i ∧ sm es l i + di L l i ≤ sm es l k
  | 0, i, h => by
    obtain rfl : i = k := by omega
    rw [hz]; omega
  | c + 1, i, h => by
    have ih := walk_down G D hl hh hz c (i + 1) (by omega)
    obtain ⟨j, hj⟩ := hh i (by omega)
    have := hop_step G D hj ih.1
    exact ⟨this.1, by omega⟩
theorem walk_up (G : Wt n (wt es)) (D : Dist (wt es) b (dv L)) {k : Nat} (hl : l.length = k + 1) (hh : ∀ i, i + 1 < l.length → ∃ j, hop n es l i j) (hz : di L l k = 0) : ∀ i, i ≤ k → di L l 0 ≤ sm es l i + di L l i
  | 0, _ => by
    have e : sm es l 0 = 0 := rfl
    omega
  | i + 1, h => by
    have ih := walk_up G D hl hh hz i (by omega)
    obtain ⟨j, hj⟩ := hh i (by omega)
    have h0 := (walk_down G D hl hh hz (k - (i + 1)) (i + 1) (by omega)).1
    have := hop_step G D hj h0
    omega
/-- The route is no later than a walk that takes its time, where they part. -/
theorem least (G : Wt n (wt es)) (D : Dist (wt es) b (dv L)) {k : Nat} (hl : l.length = k + 1) (hh : ∀ i, i + 1 < l.length → ∃ j, hop n es l i j) (hz : di L l k = 0) (hS : sm es l k = di L l 0)
    {a : Nat} {P : List Nat} (hR : Rt es L b a P) (h0 : l[0]? = some (a : Int)) {i y : Nat} {x : Int} (hx : l[i]? = some x) (hy : P[i]? = some y) (hp : ∀ j, j < i → l[j]? = (ints P)[j]?) : (y : Int) ≤ x := by
  cases i with
  | zero =>
    rw [h0] at hx
    rw [(rt_nx hR).1] at hy
    cases hx; cases hy
    exact Int.le_refl _
  | succ i =>
    have hi : i + 1 < l.length := (List.getElem?_eq_some_iff.1 hx).1
    obtain ⟨j, hj⟩ := hh i hi
    have hs := sm_next hj
    obtain ⟨p, q, h1, h2, h3, h4, h5⟩ := hop_wt hj
    rw [hx] at h2
    obtain rfl := Option.some.inj h2
    have hpp : P[i]? = some p := by
      have := hp i (by omega)
      rw [h1, ints_get] at this
      cases hP : P[i]? with
      | none => rw [hP] at this; cases this
      | some z => rw [hP] at this; have := Option.some.inj this; rw [show z = p by have := Int.ofNat_inj.1 this; omega]
    have u1 := walk_up G D hl hh hz i (by omega)
    have d1 := (walk_down G D hl hh hz (k - i) i (by omega)).2
    have u2 := walk_up G D hl hh hz (i + 1) (by omega)
    have d2 := (walk_down G D hl hh hz (k - (i + 1)) (i + 1) (by omega)).2
    have e1 : di L l i = dv L p := di_get h1
    have e2 : di L l (i + 1) = dv L q := di_get hx
    rcases (rt_nx hR).2 i p y hpp hy with ⟨h, _⟩ | ⟨q', h, _, hmin⟩
    · omega
    · have := hmin q ⟨_, h5, by omega⟩
      omega
/-- Where they do not part, they are equally long. -/
theorem same_len (G : Wt n (wt es)) (D : Dist (wt es) b (dv L)) {k : Nat} (hl : l.length = k + 1) (hh : ∀ i, i + 1 < l.length → ∃ j, hop n es l i j) (hz : l[k]? = some (b : Int)) (hS : sm es l k = di L l 0)
    {a : Nat} {P : List Nat} (hF : RF n es L b a P) {i : Nat} (hi : i = l.length ∨ i = P.length) (hil : i ≤ l.length) (hip : i ≤ P.length) (hp : ∀ j, j < i → l[j]? = (ints P)[j]?) : P.length = l.length := by
  have hz0 : di L l k = 0 := by rw [di_get hz, D.zero]
  have hpos := hF.pos
  by_cases e : P.length = l.length
  · exact e
  exfalso
  rcases hi with rfl | rfl
  · have h1 := hp k (by omega)
    rw [hz, ints_get] at h1
    cases hP : P[k]? with
    | none => rw [hP] at h1; cases h1
    | some z =>
      rw [hP] at h1
      have hzb : b = z := Int.ofNat_inj.1 (Option.some.inj h1)
      exact hF.ne hF.last hP (by omega) hzb
  · obtain ⟨r, hr⟩ : ∃ r, P.length = r + 1 := ⟨P.length - 1, by omega⟩
    have h1 := hp r (by omega)
    have hl2 := hF.last
    rw [hr, Nat.add_sub_cancel] at hl2
    rw [ints_get, hl2] at h1
    obtain ⟨j, hj⟩ := hh r (by omega)
    have hs := sm_next hj
    obtain ⟨p, q, g1, g2, _, _, g5⟩ := hop_wt hj
    have hm := (G.pos g5).1
    have u1 := walk_up G D hl hh hz0 r (by omega)
    have u2 := walk_down G D hl hh hz0 (k - (r + 1)) (r + 1) (by omega)
    have e1 : di L l r = 0 := by rw [di_get (a := b) h1, D.zero]
    omega
/-- A walk is a list of places, and there is a route. -/
theorem walk_time (G : Wt n (wt es)) (D : Dist (wt es) b (dv L)) {k : Nat} (hl : l.length = k + 1) (hh : ∀ i, i + 1 < l.length → ∃ j, hop n es l i j) (hz : l[k]? = some (b : Int)) : 0 ≤ di L l 0 ∧ di L l 0 ≤ sm es l k := by
  have hz0 : di L l k = 0 := by rw [di_get hz, D.zero]
  have h := walk_down G D hl hh hz0 k 0 (by omega)
  have e : sm es l 0 = 0 := rfl
  exact ⟨h.1, by omega⟩
theorem walk_last {k : Nat} (hl : l.length = k + 1) (hh : ∀ i, i + 1 < l.length → ∃ j, hop n es l i j) (h0 : ∃ a : Nat, l[0]? = some (a : Int) ∧ a < n) : ∃ b : Nat, l[k]? = some (b : Int) ∧ b < n := by
  cases k with
  | zero => exact h0
  | succ k =>
    obtain ⟨j, hj⟩ := hh k (by omega)
    obtain ⟨p, q, _, h2, _, h4, _⟩ := hj
    exact ⟨q, h2, h4⟩
end
end Go.Proofs.Ytbeoldklpklbfaa
