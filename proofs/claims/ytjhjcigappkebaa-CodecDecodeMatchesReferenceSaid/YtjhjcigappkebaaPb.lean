/-
  Plain laws of reading: what is left is no longer than what was there.
-/
import Derived.Test.YtjhjcigappkebaaPa
namespace Go.Proofs.Ytjhjcigappkebaa

theorem pInt_len (eight flip : Bool) : ∀ (k : Nat) (first : Bool) (acc : Int) (l : List Int) (n : Int) (r : List Int), pInt eight flip k first acc l = .ok (n, r) → r.length ≤ l.length
  | 0, first, acc, l, n, r, h => by
    simp only [pInt] at h
    cases h
    exact Nat.le_refl _
  | k + 1, first, acc, [], n, r, h => by simp [pInt] at h
  | k + 1, first, acc, x :: l, n, r, h => by
    simp only [pInt] at h
    generalize (if flip = true then 255 - x else x) = c at h
    split at h
    · cases h
    · have := pInt_len eight flip k false _ l n r h
      simp; omega

theorem pBytes_len : ∀ (N : Nat) (l s r : List Int), l.length ≤ N → pBytes l = .ok (s, r) → r.length ≤ l.length
  | N, [], s, r, _, h => by simp [pBytes] at h
  | N, [c], s, r, _, h => by simp [pBytes] at h
  | 0, c :: d :: ds, s, r, hl, h => by simp at hl
  | N + 1, c :: d :: ds, s, r, hl, h => by
    simp only [pBytes] at h
    simp only [List.length_cons] at hl
    split at h
    · split at h
      · cases h
        simp; omega
      · split at h
        · cases hp : pBytes ds with
          | error e => rw [hp] at h; cases h
          | ok x =>
            obtain ⟨s', r'⟩ := x
            rw [hp] at h
            cases h
            have := pBytes_len N ds s' r (by omega) hp
            simp; omega
        · cases h
    · cases hp : pBytes (d :: ds) with
      | error e => rw [hp] at h; cases h
      | ok x =>
        obtain ⟨s', r'⟩ := x
        rw [hp] at h
        cases h
        have := pBytes_len N (d :: ds) s' r (by simp; omega) hp
        simp at this ⊢; omega

theorem len_both : ∀ (f : Nat), (∀ (m : Int) (l : List Int) (t : T) (r : List Int), pVal f (m :: l) = .ok (t, r) → r.length ≤ l.length) ∧ (∀ (l : List Int) (ts : List T) (r : List Int), pList f l = .ok (ts, r) → r.length ≤ l.length) := by
  intro f
  induction f with
  | zero => exact ⟨fun m l t r h => by simp [pVal] at h, fun l ts r h => by simp [pList] at h⟩
  | succ f ih =>
    obtain ⟨ihv, ihl⟩ := ih
    constructor
    · intro m l t r h
      simp only [pVal] at h
      split at h
      · cases hp : pInt (m == 40) false (m - 32).toNat true 0 l with
        | error e => rw [hp] at h; cases h
        | ok x => obtain ⟨n, r'⟩ := x; rw [hp] at h; cases h; exact pInt_len _ _ _ _ _ _ _ _ hp
      · split at h
        · cases hp : pInt (m == 23) true (31 - m).toNat true 0 l with
          | error e => rw [hp] at h; cases h
          | ok x => obtain ⟨n, r'⟩ := x; rw [hp] at h; cases h; exact pInt_len _ _ _ _ _ _ _ _ hp
        · split at h
          · cases hp : pBytes l with
            | error e => rw [hp] at h; cases h
            | ok x => obtain ⟨n, r'⟩ := x; rw [hp] at h; cases h; exact pBytes_len _ _ _ _ (Nat.le_refl _) hp
          · split at h
            · cases hp : pList f l with
              | error e => rw [hp] at h; cases h
              | ok x => obtain ⟨n, r'⟩ := x; rw [hp] at h; cases h; exact ihl _ _ _ hp
            · cases h
    · intro l ts r h
      cases l with
      | nil => simp [pList] at h
      | cons m l =>
        simp only [pList] at h
        split at h
        · cases h; simp
        · cases hp : pVal f (m :: l) with
          | error e => rw [hp] at h; cases h
          | ok x =>
            obtain ⟨t, r1⟩ := x
            rw [hp] at h
            simp only at h
            cases hq : pList f r1 with
            | error e => rw [hq] at h; cases h
            | ok y =>
              obtain ⟨ts', r2⟩ := y
              rw [hq] at h
              cases h
              have := ihv _ _ _ _ hp
              have := ihl _ _ _ hq
              simp; omega

/-- With fuel for twice the bytes reading never lacks fuel. -/
theorem fuel_both : ∀ (f : Nat), (∀ (l : List Int), 2 * l.length + 1 ≤ f → pVal f l ≠ .error 0) ∧ (∀ (l : List Int), 2 * l.length + 2 ≤ f → pList f l ≠ .error 0) := by
  intro f
  induction f with
  | zero => exact ⟨fun l h => by omega, fun l h => by omega⟩
  | succ f ih =>
    obtain ⟨ihv, ihl⟩ := ih
    have hpi : ∀ (eight flip : Bool) (k : Nat) (first : Bool) (acc : Int) (l : List Int), pInt eight flip k first acc l ≠ .error 0 := by
      intro eight flip k
      induction k with
      | zero => intro first acc l h; simp [pInt] at h
      | succ k ihk =>
        intro first acc l h
        cases l with
        | nil => simp [pInt] at h
        | cons x l =>
          simp only [pInt] at h
          generalize (if flip = true then 255 - x else x) = c at h
          split at h
          · simp at h
          · exact ihk _ _ _ h
    have hpb : ∀ (N : Nat) (l : List Int), l.length ≤ N → pBytes l ≠ .error 0 := by
      intro N
      induction N with
      | zero => intro l hl h; cases l with | nil => simp [pBytes] at h | cons x l => simp at hl
      | succ N ihN =>
        intro l hl h
        match l, hl, h with
        | [], _, h => simp [pBytes] at h
        | [c], _, h => simp [pBytes] at h
        | c :: d :: ds, hl, h =>
          simp only [List.length_cons] at hl
          simp only [pBytes] at h
          split at h
          · split at h
            · cases h
            · split at h
              · cases hp : pBytes ds with
                | error e => rw [hp] at h; cases h; exact ihN ds (by omega) hp
                | ok x => obtain ⟨s, r⟩ := x; rw [hp] at h; cases h
              · simp at h
          · cases hp : pBytes (d :: ds) with
            | error e => rw [hp] at h; cases h; exact ihN (d :: ds) (by simp; omega) hp
            | ok x => obtain ⟨s, r⟩ := x; rw [hp] at h; cases h
    constructor
    · intro l hl h
      cases l with
      | nil => simp [pVal] at h
      | cons m l =>
        simp only [List.length_cons] at hl
        simp only [pVal] at h
        split at h
        · cases hp : pInt (m == 40) false (m - 32).toNat true 0 l with
          | error e => rw [hp] at h; cases h; exact hpi _ _ _ _ _ _ hp
          | ok x => obtain ⟨n, r'⟩ := x; rw [hp] at h; cases h
        · split at h
          · cases hp : pInt (m == 23) true (31 - m).toNat true 0 l with
            | error e => rw [hp] at h; cases h; exact hpi _ _ _ _ _ _ hp
            | ok x => obtain ⟨n, r'⟩ := x; rw [hp] at h; cases h
          · split at h
            · cases hp : pBytes l with
              | error e => rw [hp] at h; cases h; exact hpb _ _ (Nat.le_refl _) hp
              | ok x => obtain ⟨n, r'⟩ := x; rw [hp] at h; cases h
            · split at h
              · cases hp : pList f l with
                | error e => rw [hp] at h; cases h; exact ihl l (by omega) hp
                | ok x => obtain ⟨n, r'⟩ := x; rw [hp] at h; cases h
              · simp at h
    · intro l hl h
      cases l with
      | nil => simp [pList] at h
      | cons m l =>
        simp only [List.length_cons] at hl
        simp only [pList] at h
        split at h
        · cases h
        · cases hp : pVal f (m :: l) with
          | error e => rw [hp] at h; cases h; exact ihv (m :: l) (by simp; omega) hp
          | ok x =>
            obtain ⟨t, r1⟩ := x
            rw [hp] at h
            simp only at h
            have hr1 := (len_both f).1 _ _ _ _ hp
            cases hq : pList f r1 with
            | error e => rw [hq] at h; cases h; exact ihl r1 (by omega) hq
            | ok y => obtain ⟨ts', r2⟩ := y; rw [hq] at h; cases h

end Go.Proofs.Ytjhjcigappkebaa
