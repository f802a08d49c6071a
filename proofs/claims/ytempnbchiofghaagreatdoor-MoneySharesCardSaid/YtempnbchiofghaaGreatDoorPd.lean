/-
  Plain: the form of the text, place by place. No program.
-/
import Derived.Test.YtempnbchiofghaaGreatDoorPc
namespace Go.Proofs.YtempnbchiofghaaGreatDoor
set_option linter.unusedVariables false
set_option linter.unusedSimpArgs false

/-- Where the digits begin. -/
def frm (l : List UInt8) : Nat := if l.head? = some 45 then 1 else 0
theorem fm_places {l u : List UInt8} {neg : Bool} {c1 c0 : UInt8} (h : Fm neg l u c1 c0) :
    l.length = frm l + u.length + 3 ∧ 1 ≤ u.length ∧ l[l.length - 3]? = some 46 ∧ (∀ i x, frm l ≤ i → i ≠ l.length - 3 → l[i]? = some x → isD x) ∧ ¬ (l[frm l]? = some 48 ∧ frm l + 1 < l.length - 3) := by
  have hpre : (if neg then [(45 : UInt8)] else []).length = frm l := by
    rw [h.sign]
    unfold frm
    by_cases h1 : l.head? = some 45 <;> simp [h1]
  obtain ⟨p, hp⟩ : ∃ p, (if neg then [(45 : UInt8)] else []) = p := ⟨_, rfl⟩
  have he := h.eq
  rw [hp] at he hpre
  obtain ⟨k, hk⟩ : ∃ k, frm l = k := ⟨_, rfl⟩
  rw [hk] at hpre ⊢
  have hu : 1 ≤ u.length := by
    have : u.length ≠ 0 := fun h1 => h.ne (List.eq_nil_of_length_eq_zero h1)
    omega
  have hlen : l.length = k + u.length + 3 := by rw [he]; simp [hpre]; omega
  have get : ∀ i, k ≤ i → l[i]? = (u ++ [46, c1, c0])[i - k]? := fun i hi => by
    rw [he, List.append_assoc, List.getElem?_append_right (by omega), hpre]
  refine ⟨hlen, hu, ?_, ?_, ?_⟩
  · rw [get _ (by omega), List.getElem?_append_right (by omega), show l.length - 3 - k - u.length = 0 by omega]
    rfl
  · intro i x hi hne hx
    rw [get i hi] at hx
    rcases Nat.lt_or_ge (i - k) u.length with h1 | h1
    · rw [List.getElem?_append_left h1] at hx
      exact h.dig x (List.mem_of_getElem? hx)
    · rw [List.getElem?_append_right h1] at hx
      obtain ⟨j, hj⟩ : ∃ j, i - k - u.length = j := ⟨_, rfl⟩
      rw [hj] at hx
      match j, hx with
      | 0, _ => omega
      | 1, hx => simp at hx; subst hx; exact h.d1
      | 2, hx => simp at hx; subst hx; exact h.d0
      | j + 3, hx => simp at hx
  · rintro ⟨h1, h2⟩
    rw [get k (Nat.le_refl _), Nat.sub_self, List.getElem?_append_left (by omega)] at h1
    have := h.lead (by rw [List.head?_eq_getElem?]; exact h1)
    omega
/-- The digits without the point. -/
def dgs (l : List UInt8) (i : Nat) : List UInt8 :=
  if i ≤ l.length - 3 then (l.drop (frm l)).take (i - frm l) else (l.drop (frm l)).take (l.length - 3 - frm l) ++ (l.drop (l.length - 2)).take (i - (l.length - 2))
theorem dgs_zero (l : List UInt8) (h : frm l + 4 ≤ l.length) : dgs l (frm l) = [] := by
  unfold dgs
  rw [if_pos (by omega), Nat.sub_self]
  rfl
theorem dgs_dot (l : List UInt8) (h : frm l + 4 ≤ l.length) : dgs l (l.length - 3 + 1) = dgs l (l.length - 3) := by
  unfold dgs
  rw [if_pos (Nat.le_refl _), if_neg (by omega), show l.length - 3 + 1 - (l.length - 2) = 0 by omega]
  simp
theorem take_snoc (l : List UInt8) (a b : Nat) (x : UInt8) (h : l[a + b]? = some x) : (l.drop a).take (b + 1) = (l.drop a).take b ++ [x] := by
  rw [List.take_add_one, List.getElem?_drop, h]
  rfl
theorem dgs_step {l : List UInt8} {i : Nat} {x : UInt8} (h : frm l + 4 ≤ l.length) (hi : frm l ≤ i) (hne : i ≠ l.length - 3) (hx : l[i]? = some x) : dgs l (i + 1) = dgs l i ++ [x] := by
  unfold dgs
  rcases Nat.lt_or_ge i (l.length - 3) with h1 | h1
  · rw [if_pos (by omega), if_pos (by omega), show i + 1 - frm l = (i - frm l) + 1 by omega]
    exact take_snoc l _ _ x (by rw [show frm l + (i - frm l) = i by omega]; exact hx)
  · rw [if_neg (by omega), if_neg (by omega), show i + 1 - (l.length - 2) = (i - (l.length - 2)) + 1 by omega, List.append_assoc]
    congr 1
    exact take_snoc l _ _ x (by rw [show l.length - 2 + (i - (l.length - 2)) = i by omega]; exact hx)
theorem fm_of_places {l : List UInt8} (h1 : frm l + 4 ≤ l.length) (h2 : l[l.length - 3]? = some 46) (h3 : ∀ i x, frm l ≤ i → i ≠ l.length - 3 → l[i]? = some x → isD x) (h4 : ¬ (l[frm l]? = some 48 ∧ frm l + 1 < l.length - 3)) :
    ∃ u c1 c0, dgs l l.length = u ++ [c1, c0] ∧ (¬ (l.head? = some 45 ∧ numA 0 (u ++ [c1, c0]) = 0) → Fm (decide (l.head? = some 45)) l u c1 c0) := by
  obtain ⟨c1, hc1⟩ : ∃ c1, l[l.length - 2]? = some c1 := ⟨_, List.getElem?_eq_getElem (by omega)⟩
  obtain ⟨c0, hc0⟩ : ∃ c0, l[l.length - 1]? = some c0 := ⟨_, List.getElem?_eq_getElem (by omega)⟩
  have hd1 : l.drop (l.length - 2) = [c1, c0] := by
    rw [List.drop_eq_getElem_cons (by omega), show l.length - 2 + 1 = l.length - 1 by omega, List.drop_eq_getElem_cons (by omega), List.drop_eq_nil_of_le (by omega)]
    rw [List.getElem?_eq_getElem (by omega)] at hc1 hc0
    rw [Option.some.inj hc1, Option.some.inj hc0]
  have hd2 : l.drop (l.length - 3) = 46 :: [c1, c0] := by
    rw [List.drop_eq_getElem_cons (by omega), show l.length - 3 + 1 = l.length - 2 by omega, hd1]
    rw [List.getElem?_eq_getElem (by omega)] at h2
    rw [Option.some.inj h2]
  obtain ⟨u, hu⟩ : ∃ u, (l.drop (frm l)).take (l.length - 3 - frm l) = u := ⟨_, rfl⟩
  have hul : u.length = l.length - 3 - frm l := by rw [← hu, List.length_take, List.length_drop]; omega
  have hsplit : l.drop (frm l) = u ++ [46, c1, c0] := by
    have := List.take_append_drop (l.length - 3 - frm l) (l.drop (frm l))
    rw [List.drop_drop, show frm l + (l.length - 3 - frm l) = l.length - 3 by omega, hd2, hu] at this
    exact this.symm
  have hpre : l.take (frm l) = (if decide (l.head? = some 45) = true then [45] else []) := by
    unfold frm
    by_cases h : l.head? = some 45
    · rw [if_pos h, if_pos (by simpa using h)]
      cases l with
      | nil => cases h
      | cons x t =>
        simp only [List.head?_cons, Option.some.injEq] at h
        rw [h]; rfl
    · rw [if_neg h, if_neg (by simpa using h)]; rfl
  have hget : ∀ j, j < u.length → u[j]? = l[frm l + j]? := fun j hj => by
    rw [← hu, List.getElem?_take_of_lt (by omega), List.getElem?_drop]
  refine ⟨u, c1, c0, ?_, fun hz => ⟨?_, ?_, ?_, ?_, ?_, ?_, ?_⟩⟩
  · unfold dgs
    rw [if_neg (by omega), hu, hd1, show l.length - (l.length - 2) = 2 by omega]
    rfl
  · rw [← hpre, List.append_assoc, ← hsplit, List.take_append_drop]
  · intro h0
    rw [h0] at hul
    simp at hul
    omega
  · intro c hc
    obtain ⟨j, hj, rfl⟩ := List.getElem_of_mem hc
    have := hget j hj
    rw [List.getElem?_eq_getElem hj] at this
    exact h3 (frm l + j) _ (by omega) (by omega) this.symm
  · exact h3 _ _ (by omega) (by omega) hc1
  · exact h3 _ _ (by omega) (by omega) hc0
  · intro h48
    rw [List.head?_eq_getElem?, hget 0 (by omega), Nat.add_zero] at h48
    have : ¬ frm l + 1 < l.length - 3 := fun h => h4 ⟨h48, h⟩
    omega
  · intro hn h0
    exact hz ⟨of_decide_eq_true hn, h0⟩
end Go.Proofs.YtempnbchiofghaaGreatDoor
