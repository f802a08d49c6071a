/-
  Plain definitions: the exact parts, the remainders, the order of the indices, the parts. No program.
-/
import Derived.Test.YtempnbchiofghaaGreatDoorPa
namespace Go.Proofs.YtempnbchiofghaaGreatDoor
set_option linter.unusedVariables false
set_option linter.unusedSimpArgs false

theorem getD_in (ws : List Int) (j : Nat) (h : j < ws.length) : ws.getD j 0 = ws[j] := by rw [List.getD_eq_getElem?_getD, List.getElem?_eq_getElem h]; rfl
theorem getD_out (ws : List Int) (j : Nat) (h : ws.length ≤ j) : ws.getD j 0 = 0 := by rw [List.getD_eq_getElem?_getD, List.getElem?_eq_none h]; rfl

/-- The exact part of weight j, rounded down, and its remainder. -/
def qf (t W : Int) (ws : List Int) (j : Nat) : Int := t * ws.getD j 0 / W
def rf (t W : Int) (ws : List Int) (j : Nat) : Int := t * ws.getD j 0 % W
/-- i comes before j. -/
def bef (r : Nat → Int) (i j : Nat) : Prop := r j < r i ∨ (r i = r j ∧ i < j)
theorem bef_irrefl (r : Nat → Int) (i : Nat) : ¬ bef r i i := by unfold bef; omega
theorem bef_trans {r : Nat → Int} {i j k : Nat} (h : bef r i j) (h2 : bef r j k) : bef r i k := by unfold bef at *; omega
theorem bef_asymm {r : Nat → Int} {i j : Nat} (h : bef r i j) (h2 : bef r j i) : False := by unfold bef at *; omega
theorem bef_total (r : Nat → Int) {i j : Nat} (h : i ≠ j) : bef r i j ∨ bef r j i := by unfold bef; omega
/-- The indices below n, in order. -/
structure IsOrd (r : Nat → Int) (n : Nat) (ord : List Nat) : Prop where
  perm : ord.Perm (List.range n)
  sorted : ord.Pairwise (bef r)
theorem IsOrd.unique {r : Nat → Int} {n : Nat} {o1 o2 : List Nat} (h1 : IsOrd r n o1) (h2 : IsOrd r n o2) : o1 = o2 :=
  List.Perm.eq_of_pairwise (le := bef r) (fun a b _ _ h k => (bef_asymm h k).elim) h1.sorted h2.sorted (h1.perm.trans h2.perm.symm)
theorem IsOrd.length {r : Nat → Int} {n : Nat} {o : List Nat} (h : IsOrd r n o) : o.length = n := by rw [h.perm.length_eq, List.length_range]
theorem IsOrd.lt {r : Nat → Int} {n : Nat} {o : List Nat} (h : IsOrd r n o) {j : Nat} (hj : j ∈ o) : j < n := List.mem_range.1 (h.perm.mem_iff.1 hj)
theorem IsOrd.mem {r : Nat → Int} {n : Nat} {o : List Nat} (h : IsOrd r n o) {j : Nat} (hj : j < n) : j ∈ o := h.perm.mem_iff.2 (List.mem_range.2 hj)
theorem IsOrd.nodup {r : Nat → Int} {n : Nat} {o : List Nat} (h : IsOrd r n o) : o.Nodup := h.perm.nodup_iff.2 List.nodup_range
/-- Whoever is among the first m comes before everybody else. -/
theorem IsOrd.split {r : Nat → Int} {n m : Nat} {o : List Nat} (h : IsOrd r n o) {a b : Nat} (ha : a ∈ o.take m) (hb : b < n) (hn : b ∉ o.take m) : bef r a b := by
  have hb2 := h.mem hb
  rw [← List.take_append_drop m o] at hb2
  have hb3 : b ∈ o.drop m := by
    rcases List.mem_append.1 hb2 with k | k
    · exact absurd k hn
    · exact k
  have hs := h.sorted
  rw [← List.take_append_drop m o, List.pairwise_append] at hs
  exact hs.2.2 a ha b hb3
/-- The m-th is the first of those that are not among the first m. -/
theorem IsOrd.next {r : Nat → Int} {n m : Nat} {o : List Nat} (h : IsOrd r n o) (hm : m < n) {b : Nat} (hb : b < n) (hn : b ∉ o.take m) (hmin : ∀ i, i < n → i ∉ o.take m → ¬ bef r i b) : o.take (m + 1) = o.take m ++ [b] := by
  have hl := h.length
  have e : o.take (m + 1) = o.take m ++ [o[m]'(by omega)] := by
    rw [List.take_add_one, List.getElem?_eq_getElem (by omega)]
    rfl
  rw [e]
  have hnd := h.nodup
  have hc : o[m]'(by omega) ∉ o.take m := by
    intro hc
    obtain ⟨i, hi, he⟩ := List.getElem_of_mem hc
    rw [List.length_take] at hi
    rw [List.getElem_take] at he
    have := (List.nodup_iff_pairwise_ne.1 hnd)
    rw [List.pairwise_iff_getElem] at this
    exact this i m (by omega) (by omega) (by omega) he
  by_cases hbc : o[m]'(by omega) = b
  · rw [hbc]
  · exfalso
    have h1 : o[m]'(by omega) ∈ o.take (m + 1) := by rw [e]; exact List.mem_append_right _ (List.mem_singleton_self _)
    have h2 : b ∉ o.take (m + 1) := by
      rw [e]
      simp only [List.mem_append, List.mem_singleton, not_or]
      exact ⟨hn, fun hx => hbc hx.symm⟩
    exact hmin _ (h.lt (List.getElem_mem _)) hc (h.split h1 hb h2)

/-- The sum of f over the indices below n. -/
def sig (f : Nat → Int) : Nat → Int
  | 0 => 0
  | n + 1 => sig f n + f n
theorem sig_nonneg {f : Nat → Int} : ∀ n, (∀ j, j < n → 0 ≤ f j) → 0 ≤ sig f n
  | 0, _ => Int.le_refl 0
  | n + 1, h => Int.add_nonneg (sig_nonneg n fun j hj => h j (by omega)) (h n (by omega))
theorem sig_add (f g : Nat → Int) : ∀ n, sig (fun j => f j + g j) n = sig f n + sig g n
  | 0 => rfl
  | n + 1 => by simp only [sig]; rw [sig_add f g n]; omega
theorem sig_mul (c : Int) (f : Nat → Int) : ∀ n, sig (fun j => c * f j) n = c * sig f n
  | 0 => (Int.mul_zero c).symm
  | n + 1 => by simp only [sig]; rw [sig_mul c f n, Int.mul_add]
theorem sig_congr {f g : Nat → Int} : ∀ n, (∀ j, j < n → f j = g j) → sig f n = sig g n
  | 0, _ => rfl
  | n + 1, h => by simp only [sig]; rw [sig_congr n fun j hj => h j (by omega), h n (by omega)]
theorem sig_le {f : Nat → Int} {c : Int} : ∀ n, (∀ j, j < n → f j ≤ c) → sig f n ≤ c * (n : Int)
  | 0, _ => by simp [sig]
  | n + 1, h => by
    have h1 := sig_le n fun j hj => h j (Nat.lt_succ_of_lt hj)
    have h2 := h n (by omega)
    have e : c * ((n + 1 : Nat) : Int) = c * (n : Int) + c := by rw [Int.natCast_add, Int.mul_add]; simp
    simp only [sig]
    omega
theorem sig_take (ws : List Int) : ∀ n, n ≤ ws.length → sig (fun j => ws.getD j 0) n = (ws.take n).sum
  | 0, _ => by simp [sig]
  | n + 1, h => by
    simp only [sig]
    rw [sig_take ws n (by omega), List.take_add_one, List.getElem?_eq_getElem (by omega), getD_in ws n (by omega), List.sum_append]
    simp only [Option.toList, List.sum_cons, List.sum_nil, Int.add_zero]
theorem sig_list (ws : List Int) : sig (fun j => ws.getD j 0) ws.length = ws.sum := by rw [sig_take ws _ (Nat.le_refl _), List.take_length]

/-- Valid weights. -/
structure WOk (W : Int) (ws : List Int) : Prop where
  rng : ∀ x ∈ ws, 0 ≤ x ∧ x ≤ 9007199254740992
  sum : ws.sum = W
  pos : 0 < W
  len : ws.length ≤ 256
theorem WOk.at {W : Int} {ws : List Int} (h : WOk W ws) (j : Nat) : 0 ≤ ws.getD j 0 ∧ ws.getD j 0 ≤ 9007199254740992 := by
  rcases Nat.lt_or_ge j ws.length with hj | hj
  · rw [getD_in ws j hj]
    exact h.rng _ (List.getElem_mem hj)
  · rw [getD_out ws j hj]
    omega
theorem sum_ge (l : List Int) (h : ∀ x ∈ l, 0 ≤ x) : ∀ x ∈ l, x ≤ l.sum := by
  induction l with
  | nil => intro x hx; cases hx
  | cons a t ih =>
    intro x hx
    have h0 : 0 ≤ t.sum := by
      clear ih hx
      induction t with
      | nil => simp
      | cons b s ih2 =>
        rw [List.sum_cons]
        have := ih2 (fun y hy => h y (by simp at hy ⊢; rcases hy with hy | hy <;> simp [hy]))
        have := h b (by simp)
        omega
    rw [List.sum_cons]
    have ha := h a (by simp)
    rcases List.mem_cons.1 hx with rfl | hx
    · omega
    · have := ih (fun y hy => h y (by simp [hy])) x hx
      omega
theorem WOk.le {W : Int} {ws : List Int} (h : WOk W ws) (j : Nat) : ws.getD j 0 ≤ W := by
  rcases Nat.lt_or_ge j ws.length with hj | hj
  · rw [getD_in ws j hj, ← h.sum]
    exact sum_ge ws (fun x hx => (h.rng x hx).1) _ (List.getElem_mem hj)
  · rw [getD_out ws j hj]
    have := h.pos
    omega
theorem WOk.most {W : Int} {ws : List Int} (h : WOk W ws) : W ≤ 2305843009213693952 := by
  have h1 := sig_le (f := fun j => ws.getD j 0) (c := 9007199254740992) ws.length (fun j _ => (h.at j).2)
  rw [sig_list, h.sum] at h1
  have := h.len
  omega

theorem qr_eq (t W : Int) (ws : List Int) (j : Nat) : W * qf t W ws j + rf t W ws j = t * ws.getD j 0 := Int.mul_ediv_add_emod _ _
theorem rf_bnd {t W : Int} {ws : List Int} (h : WOk W ws) (j : Nat) : 0 ≤ rf t W ws j ∧ rf t W ws j < W := ⟨Int.emod_nonneg _ (by have := h.pos; omega), Int.emod_lt_of_pos _ h.pos⟩
theorem qf_bnd {t W : Int} {ws : List Int} (h : WOk W ws) (ht : 0 ≤ t) (j : Nat) : 0 ≤ qf t W ws j ∧ qf t W ws j ≤ t := by
  have h1 : 0 ≤ t * ws.getD j 0 := Int.mul_nonneg ht (h.at j).1
  have h2 : t * ws.getD j 0 ≤ t * W := Int.mul_le_mul_of_nonneg_left (h.le j) ht
  refine ⟨Int.ediv_nonneg h1 (by have := h.pos; omega), ?_⟩
  refine Int.le_trans (Int.ediv_le_ediv h.pos h2) ?_
  rw [Int.mul_ediv_cancel _ (by have := h.pos; omega)]
  exact Int.le_refl t
/-- What is left after n parts. -/
def lf (t W : Int) (ws : List Int) (n : Nat) : Int := t - sig (qf t W ws) n
theorem lf_all {t W : Int} {ws : List Int} (h : WOk W ws) : W * lf t W ws ws.length = sig (rf t W ws) ws.length := by
  have h1 := sig_add (fun j => W * qf t W ws j) (rf t W ws) ws.length
  rw [sig_congr (g := fun j => t * ws.getD j 0) ws.length (fun j _ => qr_eq t W ws j), sig_mul, sig_mul, sig_list, h.sum] at h1
  unfold lf
  rw [Int.mul_sub, Int.mul_comm W t]
  omega
/-- What is left is a number of units that is less than the number of weights. -/
theorem lf_bnd {t W : Int} {ws : List Int} (h : WOk W ws) : 0 ≤ lf t W ws ws.length ∧ lf t W ws ws.length ≤ (ws.length : Int) := by
  have h1 := lf_all (t := t) h
  have h2 := sig_nonneg ws.length (fun j _ => (rf_bnd (t := t) h j).1)
  have h3 := sig_le (c := W) ws.length (fun j _ => Int.le_of_lt (rf_bnd (t := t) h j).2)
  rw [← h1] at h2 h3
  have hp := h.pos
  constructor
  · exact Int.le_of_mul_le_mul_left (a := W) (by rw [Int.mul_zero]; exact h2) hp
  · exact Int.le_of_mul_le_mul_left h3 hp
theorem lf_step (t W : Int) (ws : List Int) (n : Nat) : lf t W ws (n + 1) = lf t W ws n - qf t W ws n := by simp only [lf, sig]; omega
/-- Between the beginning and the end what is left stays between 0 and t. -/
theorem sig_mono {f : Nat → Int} (h : ∀ j, 0 ≤ f j) : ∀ m n, n ≤ m → sig f n ≤ sig f m
  | 0, n, hn => by
    obtain rfl : n = 0 := by omega
    exact Int.le_refl _
  | m + 1, n, hn => by
    rcases Nat.lt_or_ge m n with h1 | h1
    · obtain rfl : n = m + 1 := by omega
      exact Int.le_refl _
    · have := sig_mono h m n h1
      have := h m
      simp only [sig]
      omega
theorem lf_mid {t W : Int} {ws : List Int} (h : WOk W ws) (ht : 0 ≤ t) (n : Nat) (hn : n ≤ ws.length) : 0 ≤ lf t W ws n ∧ lf t W ws n ≤ t := by
  have h1 := (lf_bnd (t := t) h).1
  have h2 := sig_mono (fun j => (qf_bnd h ht j).1) ws.length n hn
  have h3 := sig_nonneg n (fun j _ => (qf_bnd (t := t) h ht j).1)
  unfold lf at *
  omega

/-- The parts when the first m of the order have got one unit more. -/
def pts (t W : Int) (ws : List Int) (o : List Nat) (m : Nat) : List Int := (List.range ws.length).map fun j => qf t W ws j + if j ∈ o.take m then 1 else 0
theorem pts_length (t W : Int) (ws : List Int) (o : List Nat) (m : Nat) : (pts t W ws o m).length = ws.length := by simp [pts]
theorem pts_get (t W : Int) (ws : List Int) (o : List Nat) (m j : Nat) (hj : j < ws.length) : (pts t W ws o m)[j]? = some (qf t W ws j + if j ∈ o.take m then 1 else 0) := by
  unfold pts
  rw [List.getElem?_map, List.getElem?_range hj]
  rfl
theorem pts_zero (t W : Int) (ws : List Int) (o : List Nat) : pts t W ws o 0 = (List.range ws.length).map (qf t W ws) := by
  unfold pts
  refine List.map_congr_left fun j _ => ?_
  simp
/-- One more gets its unit. -/
theorem pts_step {t W : Int} {ws : List Int} {o : List Nat} {m b : Nat} (hb : b < ws.length) (he : o.take (m + 1) = o.take m ++ [b]) (hn : b ∉ o.take m) : pts t W ws o (m + 1) = (pts t W ws o m).set b (qf t W ws b + 1) := by
  refine List.ext_getElem? fun j => ?_
  rw [List.getElem?_set]
  rcases Nat.lt_or_ge j ws.length with hj | hj
  · rw [pts_get _ _ _ _ _ _ hj, he]
    by_cases hjb : b = j
    · subst hjb
      rw [if_pos rfl, if_pos (show b ∈ o.take m ++ [b] by simp), if_pos (show b < (pts t W ws o m).length by rw [pts_length]; exact hj)]
    · rw [if_neg hjb, pts_get _ _ _ _ _ _ hj]
      have : j ≠ b := fun h => hjb h.symm
      simp [this]
  · rw [List.getElem?_eq_none (by rw [pts_length]; exact hj)]
    split
    · split
      · rw [pts_length] at *; omega
      · rfl
    · rw [List.getElem?_eq_none (by rw [pts_length]; exact hj)]
end Go.Proofs.YtempnbchiofghaaGreatDoor
