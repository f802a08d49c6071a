/-
  Plain definitions of dates: leap years, months, years, the date of a day; nothing of the program.
-/
namespace Go.Proofs.YtciopemodfpecaaDoor
set_option linter.unusedVariables false
set_option linter.unusedSimpArgs false

/-- A year has a 29th of February. -/
def leap (y : Int) : Bool := decide (y % 4 = 0 ∧ ¬ y % 100 = 0 ∨ y % 400 = 0)

/-- The days of a month. -/
def mlen (y m : Int) : Int := if m = 4 ∨ m = 6 ∨ m = 9 ∨ m = 11 then 30 else if m = 2 then (if leap y then 29 else 28) else 31
def ylen (y : Int) : Int := if leap y then 366 else 365

/-- The first day of the year 2000 + k. -/
def yr : Nat → Int
  | 0 => 0
  | k + 1 => yr k + ylen (2000 + k)
/-- The days of a year ahead of its month k + 1. -/
def mo (y : Int) : Nat → Int
  | 0 => 0
  | k + 1 => mo y k + mlen y (k + 1)

theorem ylen_b (y : Int) : 365 ≤ ylen y ∧ ylen y ≤ 366 := by unfold ylen; split <;> omega
theorem mlen_b (y m : Int) : 28 ≤ mlen y m ∧ mlen y m ≤ 31 := by unfold mlen; split <;> (try split) <;> (try split) <;> omega

theorem mo_val (y : Int) : mo y 1 = 31 ∧ mo y 2 = 59 + (ylen y - 365) ∧ mo y 3 = 90 + (ylen y - 365) ∧ mo y 4 = 120 + (ylen y - 365) ∧ mo y 5 = 151 + (ylen y - 365) ∧ mo y 6 = 181 + (ylen y - 365) ∧ mo y 7 = 212 + (ylen y - 365) ∧ mo y 8 = 243 + (ylen y - 365) ∧ mo y 9 = 273 + (ylen y - 365) ∧ mo y 10 = 304 + (ylen y - 365) ∧ mo y 11 = 334 + (ylen y - 365) ∧ mo y 12 = ylen y := by
  simp only [mo, mlen, ylen]
  cases leap y <;> simp

theorem mo_12 (y : Int) : mo y 12 = ylen y := (mo_val y).2.2.2.2.2.2.2.2.2.2.2

theorem mo_step (y : Int) (k : Nat) : mo y k + 28 ≤ mo y (k + 1) ∧ mo y (k + 1) ≤ mo y k + 31 := by
  have := mlen_b y (k + 1)
  simp only [mo]; omega
theorem mo_mono (y : Int) {j k : Nat} (h : j ≤ k) : mo y j ≤ mo y k := by
  induction h with
  | refl => exact Int.le_refl _
  | @step m _ ih => have h := (mo_step y m).1; show _ ≤ mo y (m + 1); omega
theorem mo_lt (y : Int) {j k : Nat} (h : j < k) : mo y j + 28 ≤ mo y k := by
  have h1 := (mo_step y j).1
  have h2 := mo_mono y (show j + 1 ≤ k from h)
  omega
theorem yr_step (k : Nat) : yr k + 365 ≤ yr (k + 1) ∧ yr (k + 1) ≤ yr k + 366 := by
  have := ylen_b (2000 + k)
  simp only [yr]; omega
theorem yr_mono {j k : Nat} (h : j ≤ k) : yr j ≤ yr k := by
  induction h with
  | refl => exact Int.le_refl _
  | @step m _ ih => have h := (yr_step m).1; show _ ≤ yr (m + 1); omega
theorem yr_lt {j k : Nat} (h : j < k) : yr j + 365 ≤ yr k := by
  have h1 := (yr_step j).1
  have h2 := yr_mono (show j + 1 ≤ k from h)
  omega
theorem yr_bound (k : Nat) : 365 * (k : Int) ≤ yr k ∧ yr k ≤ 366 * (k : Int) := by
  induction k with
  | zero => simp [yr]
  | succ k ih => have := yr_step k; omega

/-- The years' first days by a formula. -/
theorem yr_formula (k : Nat) : yr k = 365 * (k : Int) + ((k : Int) + 3) / 4 - ((k : Int) + 99) / 100 + ((k : Int) + 399) / 400 := by
  induction k with
  | zero => simp [yr]
  | succ k ih =>
    have hl : ylen (2000 + (k : Int)) = if (k : Int) % 4 = 0 ∧ ¬ (k : Int) % 100 = 0 ∨ (k : Int) % 400 = 0 then 366 else 365 := by
      unfold ylen leap
      have e4 : (2000 + (k : Int)) % 4 = (k : Int) % 4 := by omega
      have e100 : (2000 + (k : Int)) % 100 = (k : Int) % 100 := by omega
      have e400 : (2000 + (k : Int)) % 400 = (k : Int) % 400 := by omega
      rw [e4, e100, e400]
      by_cases h : (k : Int) % 4 = 0 ∧ ¬ (k : Int) % 100 = 0 ∨ (k : Int) % 400 = 0
      · rw [if_pos h, decide_eq_true h]; rfl
      · rw [if_neg h, decide_eq_false h]; rfl
    simp only [yr]
    rw [hl, ih]
    split <;> omega

/-- y, m, d is the date of day n. -/
def IsDate (n y m d : Int) : Prop := ∃ (i j : Nat), y = 2000 + i ∧ m = j + 1 ∧ j < 12 ∧ 1 ≤ d ∧ d ≤ mlen y m ∧ n = yr i + mo y j + d - 1

theorem isDate_unique {n y m d y' m' d' : Int} (h : IsDate n y m d) (h' : IsDate n y' m' d') : y = y' ∧ m = m' ∧ d = d' := by
  obtain ⟨i, j, rfl, rfl, hj, hd1, hd2, hn⟩ := h
  obtain ⟨i', j', rfl, rfl, hj', hd1', hd2', hn'⟩ := h'
  have s1 : mo (2000 + (i : Int)) (j + 1) = mo (2000 + (i : Int)) j + mlen (2000 + (i : Int)) (j + 1) := rfl
  have s2 : mo (2000 + (i' : Int)) (j' + 1) = mo (2000 + (i' : Int)) j' + mlen (2000 + (i' : Int)) (j' + 1) := rfl
  have t1 := mo_mono (2000 + (i : Int)) (show j + 1 ≤ 12 by omega)
  have t2 := mo_mono (2000 + (i' : Int)) (show j' + 1 ≤ 12 by omega)
  rw [mo_12] at t1 t2
  have u1 : yr (i + 1) = yr i + ylen (2000 + i) := rfl
  have u2 : yr (i' + 1) = yr i' + ylen (2000 + i') := rfl
  have z1 := mo_mono (2000 + (i : Int)) (Nat.zero_le j)
  have z2 := mo_mono (2000 + (i' : Int)) (Nat.zero_le j')
  have z0 : ∀ y, mo y 0 = 0 := fun _ => rfl
  rw [z0] at z1 z2
  have hi : i = i' := by
    rcases Nat.lt_trichotomy i i' with h | h | h
    · have := yr_mono (Nat.succ_le_of_lt h)
      have e : i.succ = i + 1 := rfl
      rw [e] at this
      omega
    · exact h
    · have := yr_mono (Nat.succ_le_of_lt h)
      have e : i'.succ = i' + 1 := rfl
      rw [e] at this
      omega
  subst hi
  have hj2 : j = j' := by
    rcases Nat.lt_trichotomy j j' with h | h | h
    · have := mo_mono (2000 + (i : Int)) (Nat.succ_le_of_lt h)
      have e : j.succ = j + 1 := rfl
      rw [e] at this
      omega
    · exact h
    · have := mo_mono (2000 + (i : Int)) (Nat.succ_le_of_lt h)
      have e : j'.succ = j' + 1 := rfl
      rw [e] at this
      omega
  subst hj2
  exact ⟨rfl, rfl, by omega⟩

theorem find_year (n : Nat) : ∃ i : Nat, yr i ≤ n ∧ (n : Int) < yr (i + 1) := by
  induction n with
  | zero => exact ⟨0, by simp [yr], by have := (yr_step 0).1; simp [yr] at this ⊢; have := ylen_b 2000; omega⟩
  | succ n ih =>
    obtain ⟨i, h1, h2⟩ := ih
    by_cases h : ((n + 1 : Nat) : Int) < yr (i + 1)
    · exact ⟨i, by omega, h⟩
    · refine ⟨i + 1, by omega, ?_⟩
      have := (yr_step (i + 1)).1
      omega
theorem find_month (y : Int) (n : Nat) (h : (n : Int) < ylen y) : ∃ j : Nat, j < 12 ∧ mo y j ≤ n ∧ (n : Int) < mo y (j + 1) := by
  induction n with
  | zero => exact ⟨0, by omega, by simp [mo], by have := (mo_step y 0).1; simp [mo] at this ⊢; have := mlen_b y 1; omega⟩
  | succ n ih =>
    obtain ⟨j, h0, h1, h2⟩ := ih (by omega)
    by_cases hc : ((n + 1 : Nat) : Int) < mo y (j + 1)
    · exact ⟨j, h0, by omega, hc⟩
    · have hj : j + 1 < 12 := by
        rcases Nat.lt_or_ge (j + 1) 12 with h' | h'
        · exact h'
        · have e : j + 1 = 12 := by omega
          rw [e, mo_12] at hc
          omega
      refine ⟨j + 1, hj, by omega, ?_⟩
      have := (mo_step y (j + 1)).1
      omega

/-- Each day has a date. -/
theorem isDate_exists (n : Int) (h : 0 ≤ n) : ∃ y m d, IsDate n y m d := by
  obtain ⟨k, rfl⟩ : ∃ k : Nat, n = k := ⟨n.toNat, by omega⟩
  obtain ⟨i, h1, h2⟩ := find_year k
  have e : yr (i + 1) = yr i + ylen (2000 + i) := rfl
  obtain ⟨r, hr⟩ : ∃ r : Nat, (r : Int) = k - yr i := ⟨((k : Int) - yr i).toNat, by omega⟩
  obtain ⟨j, hj, h3, h4⟩ := find_month (2000 + i) r (by omega)
  have e2 : mo (2000 + (i : Int)) (j + 1) = mo (2000 + (i : Int)) j + mlen (2000 + (i : Int)) (j + 1) := rfl
  exact ⟨2000 + i, j + 1, k - yr i - mo (2000 + i) j + 1, i, j, rfl, rfl, hj, by omega, by omega, by omega⟩

/-- The next day has the next date. -/
theorem isDate_next {n y m d : Int} (h : IsDate n y m d) : IsDate (n + 1) y m (d + 1) ∧ d < mlen y m ∨ IsDate (n + 1) y (m + 1) 1 ∧ d = mlen y m ∧ m < 12 ∨ IsDate (n + 1) (y + 1) 1 1 ∧ d = mlen y m ∧ m = 12 := by
  obtain ⟨i, j, rfl, rfl, hj, hd1, hd2, rfl⟩ := h
  by_cases c1 : d < mlen (2000 + (i : Int)) (j + 1)
  · exact .inl ⟨⟨i, j, rfl, rfl, hj, by omega, by omega, by omega⟩, c1⟩
  · have hd : d = mlen (2000 + (i : Int)) (j + 1) := by omega
    have e2 : mo (2000 + (i : Int)) (j + 1) = mo (2000 + (i : Int)) j + mlen (2000 + (i : Int)) (j + 1) := rfl
    by_cases c2 : j + 1 < 12
    · refine .inr (.inl ⟨⟨i, j + 1, rfl, by omega, c2, by omega, ?_, by omega⟩, hd, by omega⟩)
      have := mlen_b (2000 + (i : Int)) ((j : Int) + 1 + 1); omega
    · have hj12 : j + 1 = 12 := by omega
      have e3 := mo_12 (2000 + (i : Int))
      rw [← hj12] at e3
      have e4 : yr (i + 1) = yr i + ylen (2000 + i) := rfl
      have e5 : mo (2000 + ((i + 1 : Nat) : Int)) 0 = 0 := rfl
      refine .inr (.inr ⟨⟨i + 1, 0, by omega, by omega, by omega, by omega, ?_, ?_⟩, hd, by omega⟩)
      · have := mlen_b (2000 + (i : Int) + 1) 1; omega
      · have e6 : mo (2000 + (i : Int) + 1) 0 = 0 := rfl
        rw [e6]; omega

/-- The month number of a day: 12 (y - 2000) + m - 1; the first day of month k. -/
def mfirst (k : Nat) : Int := yr (k / 12) + mo (2000 + ((k / 12 : Nat) : Int)) (k % 12)
theorem mfirst_next (k : Nat) : mfirst (k + 1) = mfirst k + mlen (2000 + ((k / 12 : Nat) : Int)) ((k % 12 : Nat) + 1) := by
  unfold mfirst
  by_cases h : k % 12 = 11
  · have h1 : (k + 1) / 12 = k / 12 + 1 := by omega
    have h2 : (k + 1) % 12 = 0 := by omega
    rw [h1, h2, h]
    have e := mo_12 (2000 + ((k / 12 : Nat) : Int))
    have e2 : mo (2000 + ((k / 12 : Nat) : Int)) 12 = mo (2000 + ((k / 12 : Nat) : Int)) 11 + mlen (2000 + ((k / 12 : Nat) : Int)) ((11 : Nat) + 1) := rfl
    have e3 : yr (k / 12 + 1) = yr (k / 12) + ylen (2000 + ((k / 12 : Nat) : Int)) := rfl
    have e4 : ∀ y, mo y 0 = 0 := fun _ => rfl
    rw [e4]; omega
  · have h1 : (k + 1) / 12 = k / 12 := by omega
    have h2 : (k + 1) % 12 = k % 12 + 1 := by omega
    rw [h1, h2]
    have e2 : mo (2000 + ((k / 12 : Nat) : Int)) (k % 12 + 1) = mo (2000 + ((k / 12 : Nat) : Int)) (k % 12) + mlen (2000 + ((k / 12 : Nat) : Int)) ((k % 12 : Nat) + 1) := rfl
    rw [e2]; omega
theorem mfirst_step (k : Nat) : mfirst k + 28 ≤ mfirst (k + 1) ∧ mfirst (k + 1) ≤ mfirst k + 31 := by
  rw [mfirst_next]
  have := mlen_b (2000 + ((k / 12 : Nat) : Int)) ((k % 12 : Nat) + 1)
  omega
theorem mfirst_mono {j k : Nat} (h : j ≤ k) : mfirst j ≤ mfirst k := by
  induction h with
  | refl => exact Int.le_refl _
  | @step m _ ih => have h := (mfirst_step m).1; show _ ≤ mfirst (m + 1); omega

/-- A day lies in the month of its date. -/
theorem isDate_month {n y m d : Int} (h : IsDate n y m d) : ∃ k : Nat, (k : Int) = 12 * (y - 2000) + m - 1 ∧ mfirst k ≤ n ∧ n < mfirst (k + 1) := by
  obtain ⟨i, j, rfl, rfl, hj, hd1, hd2, rfl⟩ := h
  refine ⟨12 * i + j, by omega, ?_⟩
  have h1 : (12 * i + j) / 12 = i := by omega
  have h2 : (12 * i + j) % 12 = j := by omega
  have e1 : mfirst (12 * i + j) = yr i + mo (2000 + (i : Int)) j := by unfold mfirst; rw [h1, h2]
  have e2 := mfirst_next (12 * i + j)
  rw [h1, h2] at e2
  omega
theorem month_unique {n : Int} {k k' : Nat} (h1 : mfirst k ≤ n) (h2 : n < mfirst (k + 1)) (h1' : mfirst k' ≤ n) (h2' : n < mfirst (k' + 1)) : k = k' := by
  rcases Nat.lt_trichotomy k k' with h | h | h
  · have := mfirst_mono (show k + 1 ≤ k' by omega); omega
  · exact h
  · have := mfirst_mono (show k' + 1 ≤ k by omega); omega
end Go.Proofs.YtciopemodfpecaaDoor
