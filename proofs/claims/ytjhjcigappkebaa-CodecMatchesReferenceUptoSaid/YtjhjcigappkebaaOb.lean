/-
  Plain mathematics: what Compare returns is a total preorder.
-/
import Derived.Test.YtjhjcigappkebaaCb
namespace Go.Proofs.Ytjhjcigappkebaa
open Go.RowKit

theorem ordI_spec (a b : Int) : (a < b ∧ ordI a b = -1) ∨ (a = b ∧ ordI a b = 0) ∨ (b < a ∧ ordI a b = 1) := by
  unfold ordI
  split
  · exact Or.inl ⟨by assumption, rfl⟩
  · split
    · exact Or.inr (Or.inr ⟨by assumption, rfl⟩)
    · exact Or.inr (Or.inl ⟨by omega, rfl⟩)

theorem cmpB_anti : ∀ a b : List Int, cmpB b a = - cmpB a b
  | [], [] => rfl
  | [], _ :: _ => rfl
  | _ :: _, [] => rfl
  | x :: xs, y :: ys => by
    have ih := cmpB_anti xs ys
    simp only [cmpB]
    rcases Int.lt_trichotomy x y with h | h | h
    · rw [if_neg (by omega), if_pos h, if_pos h]; rfl
    · subst h; simp only [Int.lt_irrefl, if_false]; exact ih
    · rw [if_pos h, if_neg (by omega), if_pos h]

theorem cmpB_range : ∀ a b : List Int, -1 ≤ cmpB a b ∧ cmpB a b ≤ 1
  | [], [] => by decide
  | [], _ :: _ => by simp [cmpB]
  | _ :: _, [] => by simp [cmpB]
  | x :: xs, y :: ys => by
    have ih := cmpB_range xs ys
    simp only [cmpB]
    split
    · omega
    · split
      · omega
      · exact ih

theorem cmpB_tr : ∀ a b c : List Int, cmpB a b ≤ 0 → cmpB b c ≤ 0 → cmpB a c ≤ 0 ∧ (cmpB a c = 0 ↔ cmpB a b = 0 ∧ cmpB b c = 0)
  | [], [], [] => by simp [cmpB]
  | [], [], _ :: _ => by simp [cmpB]
  | [], _ :: _, [] => by simp [cmpB]
  | [], _ :: _, _ :: _ => by simp [cmpB]
  | _ :: _, [], _ => by simp [cmpB]
  | _ :: _, _ :: _, [] => by simp [cmpB]
  | x :: xs, y :: ys, z :: zs => by
    have ih := cmpB_tr xs ys zs
    simp only [cmpB]
    generalize cmpB xs ys = A at *
    generalize cmpB ys zs = B at *
    generalize cmpB xs zs = C at *
    intro h1 h2
    rcases Int.lt_trichotomy x y with h | h | h
    · rw [if_pos h] at h1 ⊢
      rcases Int.lt_trichotomy y z with h' | h' | h'
      · rw [if_pos (show x < z by omega)]; omega
      · subst h'; rw [if_pos h]; omega
      · rw [if_neg (by omega), if_pos h'] at h2; omega
    · subst h
      simp only [Int.lt_irrefl, if_false] at h1 ⊢
      rcases Int.lt_trichotomy x z with h' | h' | h'
      · rw [if_pos h'] at h2 ⊢; omega
      · subst h'
        simp only [Int.lt_irrefl, if_false] at h2 ⊢
        exact ih h1 h2
      · rw [if_neg (by omega), if_pos h'] at h2; omega
    · rw [if_neg (by omega), if_pos h] at h1; omega

theorem cmpT_ne {k k' n n' : Int} {b b' : List Int} {l l' : List T} (h : k ≠ k') : cmpT (.mk k n b l) (.mk k' n' b' l') = ordI k k' := by
  simp only [cmpT]; rw [if_pos h]
theorem cmpT_eq (k n n' : Int) (b b' : List Int) (l l' : List T) : cmpT (.mk k n b l) (.mk k n' b' l') = if k = 1 then ordI n n' else if k = 2 then cmpB b b' else if k = 3 then cmpL l l' else 0 := by
  simp only [cmpT]; rw [if_neg (fun h => h rfl)]

mutual
theorem cmpT_anti : ∀ t u : T, cmpT u t = - cmpT t u
  | .mk k n b l, .mk k' n' b' l' => by
    have ih := cmpL_anti l l'
    have ihb := cmpB_anti b b'
    have o1 := ordI_spec k k'; have o2 := ordI_spec k' k; have o3 := ordI_spec n n'; have o4 := ordI_spec n' n
    by_cases h : k = k'
    · subst h
      rw [cmpT_eq, cmpT_eq]
      split
      · omega
      · split
        · exact ihb
        · split
          · exact ih
          · rfl
    · rw [cmpT_ne h, cmpT_ne (Ne.symm h)]; omega
theorem cmpL_anti : ∀ l m : List T, cmpL m l = - cmpL l m
  | [], [] => rfl
  | [], _ :: _ => rfl
  | _ :: _, [] => rfl
  | t :: ts, u :: us => by
    have h1 := cmpT_anti t u
    have h2 := cmpL_anti ts us
    simp only [cmpL]
    rw [h1, h2]
    by_cases h : cmpT t u = 0
    · rw [if_neg (by omega), if_neg (by omega)]
    · rw [if_pos (by omega), if_pos h]
end

mutual
theorem cmpT_range : ∀ t u : T, -1 ≤ cmpT t u ∧ cmpT t u ≤ 1
  | .mk k n b l, .mk k' n' b' l' => by
    have ih := cmpL_range l l'
    have ihb := cmpB_range b b'
    have o1 := ordI_spec k k'; have o3 := ordI_spec n n'
    by_cases h : k = k'
    · subst h
      rw [cmpT_eq]
      split
      · omega
      · split
        · exact ihb
        · split
          · exact ih
          · omega
    · rw [cmpT_ne h]; omega
theorem cmpL_range : ∀ l m : List T, -1 ≤ cmpL l m ∧ cmpL l m ≤ 1
  | [], [] => by simp [cmpL]
  | [], _ :: _ => by simp [cmpL]
  | _ :: _, [] => by simp [cmpL]
  | t :: ts, u :: us => by
    have h1 := cmpT_range t u
    have h2 := cmpL_range ts us
    simp only [cmpL]
    split
    · exact h1
    · exact h2
end

mutual
theorem cmpT_tr : ∀ t u v : T, cmpT t u ≤ 0 → cmpT u v ≤ 0 → cmpT t v ≤ 0 ∧ (cmpT t v = 0 ↔ cmpT t u = 0 ∧ cmpT u v = 0)
  | .mk k n b l, .mk k' n' b' l', .mk k'' n'' b'' l'' => by
    have ih := cmpL_tr l l' l''
    have ihb := cmpB_tr b b' b''
    have o1 := ordI_spec k k'; have o2 := ordI_spec k' k''; have o3 := ordI_spec k k''
    have p1 := ordI_spec n n'; have p2 := ordI_spec n' n''; have p3 := ordI_spec n n''
    by_cases h : k = k'
    · subst h
      by_cases h' : k = k''
      · subst h'
        rw [cmpT_eq, cmpT_eq, cmpT_eq]
        split
        · omega
        · split
          · exact ihb
          · split
            · exact ih
            · omega
      · rw [cmpT_ne h', cmpT_ne h']
        intro h1 h2
        have r := cmpT_range (.mk k n b l) (.mk k n' b' l')
        omega
    · rw [cmpT_ne h]
      by_cases h' : k' = k''
      · subst h'
        rw [cmpT_ne h]
        intro h1 h2
        omega
      · rw [cmpT_ne h']
        intro h1 h2
        rw [cmpT_ne (show k ≠ k'' by omega)]
        omega
theorem cmpL_tr : ∀ l m p : List T, cmpL l m ≤ 0 → cmpL m p ≤ 0 → cmpL l p ≤ 0 ∧ (cmpL l p = 0 ↔ cmpL l m = 0 ∧ cmpL m p = 0)
  | [], [], [] => by simp [cmpL]
  | [], [], _ :: _ => by simp [cmpL]
  | [], _ :: _, [] => by simp [cmpL]
  | [], _ :: _, _ :: _ => by simp [cmpL]
  | _ :: _, [], _ => by simp [cmpL]
  | _ :: _, _ :: _, [] => by simp [cmpL]
  | t :: ts, u :: us, v :: vs => by
    have h1 := cmpT_tr t u v
    have h2 := cmpL_tr ts us vs
    simp only [cmpL]
    generalize cmpT t u = a at *
    generalize cmpT u v = b at *
    generalize cmpT t v = c at *
    generalize cmpL ts us = A at *
    generalize cmpL us vs = B at *
    generalize cmpL ts vs = C at *
    intro g1 g2
    have ea : (if a ≠ 0 then a else A) = a ∧ a ≠ 0 ∨ (if a ≠ 0 then a else A) = A ∧ a = 0 := by split <;> omega
    have eb : (if b ≠ 0 then b else B) = b ∧ b ≠ 0 ∨ (if b ≠ 0 then b else B) = B ∧ b = 0 := by split <;> omega
    have ec : (if c ≠ 0 then c else C) = c ∧ c ≠ 0 ∨ (if c ≠ 0 then c else C) = C ∧ c = 0 := by split <;> omega
    generalize (if a ≠ 0 then a else A) = x at *
    generalize (if b ≠ 0 then b else B) = y at *
    generalize (if c ≠ 0 then c else C) = z at *
    have k1 := h1 (by omega) (by omega)
    by_cases h0 : a = 0 ∧ b = 0
    · have k2 := h2 (by omega) (by omega)
      omega
    · omega
end

theorem cmpT_refl (t : T) : cmpT t t = 0 := by
  have := cmpT_anti t t
  omega

end Go.Proofs.Ytjhjcigappkebaa
