/-
  Number theory of the signature group: the numbers P and Q of the document are prime (by a certificate), Fermat's law, and the powers of the generator. Conditions: none; all natural numbers.
-/
namespace Go.Proofs.YtlfjcifeiihmfaaDoor

def Prm (p : Nat) : Prop := 2 ≤ p ∧ ∀ d, d ∣ p → d = 1 ∨ d = p

theorem Prm.dvd_or {p a b : Nat} (hp : Prm p) (h : p ∣ a * b) : p ∣ a ∨ p ∣ b := by
  rcases hp.2 (Nat.gcd p a) (Nat.gcd_dvd_left p a) with h1 | h1
  · exact .inr (Nat.Coprime.dvd_of_dvd_mul_left h1 h)
  · exact .inl (h1 ▸ Nat.gcd_dvd_right p a)

def chs : Nat → Nat → Nat
  | _, 0 => 1
  | 0, _ + 1 => 0
  | n + 1, k + 1 => chs n k + chs n (k + 1)

theorem chs_zero (n : Nat) : chs n 0 = 1 := by cases n <;> rfl

theorem chs_lt : ∀ n k, n < k → chs n k = 0
  | 0, 0, h => by omega
  | 0, k + 1, _ => rfl
  | n + 1, 0, h => by omega
  | n + 1, k + 1, h => by
    show chs n k + chs n (k + 1) = 0
    rw [chs_lt n k (by omega), chs_lt n (k + 1) (by omega)]

theorem chs_self : ∀ n, chs n n = 1
  | 0 => rfl
  | n + 1 => by
    show chs n n + chs n (n + 1) = 1
    rw [chs_self n, chs_lt n (n + 1) (by omega)]

theorem chs_mul : ∀ n k, (k + 1) * chs (n + 1) (k + 1) = (n + 1) * chs n k
  | 0, 0 => rfl
  | 0, k + 1 => by
    show (k + 1 + 1) * (chs 0 (k + 1) + chs 0 (k + 1 + 1)) = _
    rw [chs_lt 0 (k + 1) (by omega), chs_lt 0 (k + 1 + 1) (by omega)]; simp
  | n + 1, 0 => by
    have h := chs_mul n 0
    show (0 + 1) * (chs (n + 1) 0 + chs (n + 1) (0 + 1)) = _
    rw [chs_zero] at *
    omega
  | n + 1, k + 1 => by
    have h1 := chs_mul n k
    have h2 := chs_mul n (k + 1)
    have h3 : chs (n + 1) (k + 1) = chs n k + chs n (k + 1) := rfl
    show (k + 1 + 1) * (chs (n + 1) (k + 1) + chs (n + 1) (k + 1 + 1)) = _
    rw [Nat.mul_add, h2, Nat.add_mul (k + 1) 1, h1, Nat.add_mul (n + 1) 1, h3, Nat.mul_add (n + 1)]
    omega

def bsum (n x : Nat) : Nat → Nat
  | 0 => chs n 0
  | m + 1 => bsum n x m + chs n (m + 1) * x ^ (m + 1)

theorem bsum_succ (n x : Nat) : ∀ m, bsum (n + 1) x (m + 1) = bsum n x (m + 1) + x * bsum n x m
  | 0 => by
    show chs (n + 1) 0 + (chs n 0 + chs n (0 + 1)) * x ^ 1 = chs n 0 + chs n (0 + 1) * x ^ 1 + x * chs n 0
    simp only [chs_zero, Nat.pow_one, Nat.add_mul, Nat.mul_one, Nat.one_mul]
    omega
  | m + 1 => by
    show bsum (n + 1) x (m + 1) + (chs n (m + 1) + chs n (m + 1 + 1)) * x ^ (m + 1 + 1) =
      (bsum n x (m + 1) + chs n (m + 1 + 1) * x ^ (m + 1 + 1)) + x * (bsum n x m + chs n (m + 1) * x ^ (m + 1))
    have e : x * (chs n (m + 1) * x ^ (m + 1)) = chs n (m + 1) * x ^ (m + 1 + 1) := by
      rw [Nat.pow_succ x (m + 1)]; ac_rfl
    rw [bsum_succ n x m, Nat.add_mul, Nat.mul_add, e]
    omega

theorem bsum_self (x : Nat) : ∀ n, bsum n x n = (x + 1) ^ n
  | 0 => rfl
  | n + 1 => by
    have e : bsum n x (n + 1) = bsum n x n := by
      show bsum n x n + chs n (n + 1) * x ^ (n + 1) = _
      rw [chs_lt n (n + 1) (by omega)]; simp
    rw [bsum_succ, e, bsum_self x n, Nat.pow_succ, Nat.mul_add]
    rw [Nat.mul_comm ((x + 1) ^ n) x]; omega

theorem prm_chs {p k : Nat} (hp : Prm p) (h0 : 0 < k) (hk : k < p) : p ∣ chs p k := by
  obtain ⟨n, rfl⟩ : ∃ n, p = n + 1 := ⟨p - 1, by omega⟩
  obtain ⟨j, rfl⟩ : ∃ j, k = j + 1 := ⟨k - 1, by omega⟩
  have h : (n + 1) ∣ (j + 1) * chs (n + 1) (j + 1) := by rw [chs_mul]; exact ⟨_, rfl⟩
  rcases hp.dvd_or h with h | h
  · have := Nat.le_of_dvd (by omega) h; omega
  · exact h

theorem bsum_mod {p : Nat} (hp : Prm p) (x : Nat) : ∀ m, m < p → bsum p x m % p = 1
  | 0, _ => by
    show chs p 0 % p = 1
    rw [chs_zero]; exact Nat.mod_eq_of_lt hp.1
  | m + 1, h => by
    show (bsum p x m + chs p (m + 1) * x ^ (m + 1)) % p = 1
    obtain ⟨c, hc⟩ := prm_chs hp (k := m + 1) (by omega) h
    rw [hc, Nat.mul_assoc, Nat.add_mul_mod_self_left, bsum_mod hp x m (by omega)]

theorem fermat {p : Nat} (hp : Prm p) : ∀ x, x ^ p % p = x % p
  | 0 => by
    have := hp.1
    rw [Nat.zero_pow (by omega)]
  | x + 1 => by
    have h2 := hp.1
    obtain ⟨n, hn⟩ : ∃ n, p = n + 1 := ⟨p - 1, by omega⟩
    rw [← bsum_self]
    have e : bsum p x p = bsum p x n + chs p p * x ^ p := by
      conv => lhs; rw [show bsum p x p = bsum p x (n + 1) from by rw [← hn]]
      show bsum p x n + chs p (n + 1) * x ^ (n + 1) = _
      rw [← hn]
    rw [e, chs_self, Nat.one_mul, Nat.add_mod, bsum_mod hp x n (by omega), fermat hp x, Nat.add_comm x 1]
    rw [Nat.add_mod 1 x p, Nat.mod_eq_of_lt (show 1 < p by omega)]

theorem fermat_one {p x : Nat} (hp : Prm p) (h : ¬ p ∣ x) : x ^ (p - 1) % p = 1 := by
  have h2 := hp.1
  have hf := fermat hp x
  obtain ⟨n, hn⟩ : ∃ n, p = n + 1 := ⟨p - 1, by omega⟩
  have e : x ^ p = x ^ (p - 1) * x := by
    rw [← Nat.pow_succ]; congr 1; omega
  rw [e] at hf
  have hx : 0 < x := Nat.pos_of_ne_zero fun h0 => h (h0 ▸ ⟨0, rfl⟩)
  have hpw : 0 < x ^ (p - 1) := Nat.pow_pos hx
  have d : p ∣ (x ^ (p - 1) - 1) * x := by
    rw [Nat.sub_mul, Nat.one_mul]
    exact Nat.dvd_of_mod_eq_zero (Nat.sub_mod_eq_zero_of_mod_eq hf)
  rcases hp.dvd_or d with d | d
  · obtain ⟨c, hc⟩ := d
    rw [show x ^ (p - 1) = 1 + p * c by omega, Nat.add_mul_mod_self_left, Nat.mod_eq_of_lt h2]
  · exact absurd d h

theorem exists_prm : ∀ n, 2 ≤ n → ∃ p, Prm p ∧ p ∣ n := by
  intro n
  induction n using Nat.strongRecOn with
  | ind n ih =>
    intro h
    by_cases hp : Prm n
    · exact ⟨n, hp, Nat.dvd_refl n⟩
    · have : ∃ d, d ∣ n ∧ d ≠ 1 ∧ d ≠ n := by
        apply Classical.byContradiction
        intro hc
        exact hp ⟨h, fun d hd => Classical.byContradiction fun hn => hc ⟨d, hd, fun e => hn (.inl e), fun e => hn (.inr e)⟩⟩
      obtain ⟨d, hd, h1, h2⟩ := this
      have := Nat.le_of_dvd (by omega) hd
      have h0 : d ≠ 0 := by rintro rfl; have := Nat.eq_zero_of_zero_dvd hd; omega
      obtain ⟨p, hp', hpd⟩ := ih d (by omega) (by omega)
      exact ⟨p, hp', Nat.dvd_trans hpd hd⟩

theorem exists_small {n : Nat} (h : 2 ≤ n) (hn : ¬ Prm n) : ∃ p, Prm p ∧ p ∣ n ∧ p * p ≤ n := by
  have : ∃ d, d ∣ n ∧ d ≠ 1 ∧ d ≠ n := by
    apply Classical.byContradiction
    intro hc
    exact hn ⟨h, fun d hd => Classical.byContradiction fun hn => hc ⟨d, hd, fun e => hn (.inl e), fun e => hn (.inr e)⟩⟩
  obtain ⟨d, ⟨c, rfl⟩, h1, h2⟩ := this
  have hc0 : c ≠ 0 := by rintro rfl; simp at h
  have hd0 : d ≠ 0 := by rintro rfl; simp at h
  have hc1 : c ≠ 1 := by rintro rfl; simp at h2
  have key : ∀ a b : Nat, 2 ≤ a → a ≤ b → ∃ p, Prm p ∧ p ∣ a * b ∧ p * p ≤ a * b := by
    intro a b ha hab
    obtain ⟨p, hp, hd⟩ := exists_prm a ha
    have := Nat.le_of_dvd (by omega) hd
    exact ⟨p, hp, Nat.dvd_trans hd ⟨b, rfl⟩, Nat.mul_le_mul this (by omega)⟩
  by_cases hdc : d ≤ c
  · exact key d c (by omega) hdc
  · rw [Nat.mul_comm]; exact key c d (by omega) (by omega)

/-- No number from 2 to k divides n. -/
def noDiv (n : Nat) : Nat → Bool
  | 0 => true
  | 1 => true
  | k + 2 => (n % (k + 2) != 0) && noDiv n (k + 1)

theorem noDiv_spec (n : Nat) : ∀ k d, noDiv n k = true → 2 ≤ d → d ≤ k → ¬ d ∣ n
  | 0, d, _, _, _ => by omega
  | 1, d, _, _, _ => by omega
  | k + 2, d, h, h2, hd => by
    rw [noDiv, Bool.and_eq_true] at h
    by_cases e : d = k + 2
    · subst e
      intro hd
      have := Nat.mod_eq_zero_of_dvd hd
      simp [this] at h
    · exact noDiv_spec n (k + 1) d h.2 h2 (by omega)

theorem prm_of_noDiv {n k : Nat} (h2 : 2 ≤ n) (h : noDiv n k = true) (hk : n < (k + 1) * (k + 1)) : Prm n := by
  apply Classical.byContradiction
  intro hn
  obtain ⟨p, hp, hd, hle⟩ := exists_small h2 hn
  refine noDiv_spec n k p h hp.1 ?_ hd
  apply Classical.byContradiction
  intro hc
  have : (k + 1) * (k + 1) ≤ p * p := Nat.mul_le_mul (by omega) (by omega)
  omega

theorem pow_one_mod {b p m : Nat} (h2 : 2 ≤ p) (h : b ^ m % p = 1) (k : Nat) : b ^ (m * k) % p = 1 := by
  rw [Nat.pow_mul, Nat.pow_mod, h, Nat.one_pow, Nat.mod_eq_of_lt h2]

theorem pow_mod_one {b p : Nat} (h2 : 2 ≤ p) (m n : Nat) (hm : b ^ m % p = 1) (hn : b ^ n % p = 1) : b ^ (Nat.gcd m n) % p = 1 := by
  induction m, n using Nat.gcd.induction with
  | H0 n => rw [Nat.gcd_zero_left]; exact hn
  | H1 m n hm0 ih =>
    rw [Nat.gcd_rec]
    refine ih ?_ hm
    have e : n = m * (n / m) + n % m := (Nat.div_add_mod n m).symm
    rw [e, Nat.pow_add, Nat.mul_mod, pow_one_mod h2 hm, Nat.one_mul, Nat.mod_mod] at hn
    exact hn

theorem pock {N q r a : Nat} (hN : 2 ≤ N) (hq : Prm q) (hr : N - 1 = r * q) (hqq : N ≤ q * q)
    (h1 : a ^ (N - 1) % N = 1) (h2 : Nat.gcd (a ^ r % N + (N - 1)) N = 1) : Prm N := by
  apply Classical.byContradiction
  intro hn
  obtain ⟨p, hp, hd, hle⟩ := exists_small hN hn
  have hp2 := hp.1
  have e1 : a ^ (N - 1) % p = 1 := by
    rw [← Nat.mod_mod_of_dvd _ hd, h1, Nat.mod_eq_of_lt hp2]
  have hpa : ¬ p ∣ a := by
    intro h
    have : p ∣ a ^ (N - 1) := Nat.dvd_trans h (by rw [show N - 1 = (N - 2) + 1 by omega, Nat.pow_succ]; exact ⟨_, Nat.mul_comm _ _⟩)
    rw [Nat.mod_eq_zero_of_dvd this] at e1
    omega
  have e2 : (a ^ r) ^ q % p = 1 := by rw [← Nat.pow_mul, ← hr]; exact e1
  have e3 : (a ^ r) ^ (p - 1) % p = 1 := by
    rw [← Nat.pow_mul, Nat.mul_comm]
    exact pow_one_mod hp2 (fermat_one hp hpa) r
  have e4 := pow_mod_one hp2 _ _ e2 e3
  rcases hq.2 _ (Nat.gcd_dvd_left q (p - 1)) with g | g
  · rw [g, Nat.pow_one] at e4
    have : p ∣ Nat.gcd (a ^ r % N + (N - 1)) N := by
      refine Nat.dvd_gcd ?_ hd
      apply Nat.dvd_of_mod_eq_zero
      rw [Nat.add_mod, Nat.mod_mod_of_dvd _ hd, e4]
      obtain ⟨c, hc⟩ := hd
      have hc0 : c ≠ 0 := by rintro rfl; omega
      have : N - 1 = (p - 1) + p * (c - 1) := by
        rw [Nat.mul_sub, Nat.mul_one, ← hc]
        have : p * 1 ≤ p * c := Nat.mul_le_mul_left p (by omega)
        omega
      rw [this, Nat.add_mul_mod_self_left, Nat.mod_eq_of_lt (show p - 1 < p by omega)]
      rw [show 1 + (p - 1) = p by omega, Nat.mod_self]
    rw [h2] at this
    have := Nat.le_of_dvd (by omega) this
    omega
  · have hdv := Nat.gcd_dvd_right q (p - 1)
    rw [g] at hdv
    have := Nat.le_of_dvd (by omega) hdv
    have : q * q < p * p := Nat.mul_lt_mul'' (by omega) (by omega)
    omega

/-- The remainder of a power, by squaring. -/
def pw (m : Nat) : Nat → Nat → Nat → Nat
  | 0, _, _ => 1 % m
  | f + 1, b, n => if n = 0 then 1 % m else if n % 2 = 1 then b * pw m f (b * b % m) (n / 2) % m else pw m f (b * b % m) (n / 2)

theorem pw_eq (m : Nat) : ∀ f b n, n < 2 ^ f → pw m f b n = b ^ n % m
  | 0, b, n, h => by
    obtain rfl : n = 0 := by omega
    rfl
  | f + 1, b, n, h => by
    rw [pw]
    split
    · rename_i h0; subst h0; rfl
    · have hp : 2 ^ (f + 1) = 2 ^ f * 2 := Nat.pow_succ 2 f
      have ih := pw_eq m f (b * b % m) (n / 2) (by omega)
      have e : (b * b % m) ^ (n / 2) % m = b ^ (2 * (n / 2)) % m := by
        rw [← Nat.pow_mod, Nat.pow_mul, show b ^ 2 = b * b from Nat.pow_two b]
      split
      · rw [ih, e, Nat.mul_mod, Nat.mod_mod, ← Nat.mul_mod]
        have : b ^ n = b * b ^ (2 * (n / 2)) := by
          rw [Nat.mul_comm, ← Nat.pow_succ]; congr 1; omega
        rw [this]
      · rw [ih, e]; congr 2; omega

abbrev PP : Nat := 2305843009213690799
abbrev QQ : Nat := 1152921504606845399

set_option maxRecDepth 100000 in
theorem prm_a : Prm 18508657 := prm_of_noDiv (k := 4303) (by decide) (by decide +kernel) (by decide)

/-- The certificate with the powers computed by squaring. -/
theorem pockP {N q r a : Nat} (hq : Prm q) (hN : 2 ≤ N) (hl : N ≤ 2 ^ 64) (hr : N - 1 = r * q) (hqq : N ≤ q * q)
    (h1 : pw N 64 a (N - 1) = 1) (h2 : Nat.gcd (pw N 64 a r + (N - 1)) N = 1) (hrl : r < N) : Prm N := by
  refine pock (a := a) hN hq hr hqq ?_ ?_
  · rw [← pw_eq N 64 a _ (by omega)]; exact h1
  · rw [← pw_eq N 64 a _ (by omega)]; exact h2

theorem prm_b : Prm 4886285449 :=
  pockP (r := 264) (a := 7) prm_a (by decide) (by decide) (by decide) (by decide) (by decide +kernel) (by decide +kernel) (by decide)

theorem prm_Q : Prm QQ :=
  pockP (r := 235950502) (a := 7) prm_b (by decide) (by decide) (by decide) (by decide) (by decide +kernel) (by decide +kernel) (by decide)

theorem prm_P : Prm PP :=
  pockP (r := 2) (a := 7) prm_Q (by decide) (by decide) (by decide) (by decide) (by decide +kernel) (by decide +kernel) (by decide)

theorem G_Q : 4 ^ QQ % PP = 1 := by
  rw [← pw_eq PP 64 4 _ (by decide)]; decide +kernel

/-- No smaller power of the generator is 1. -/
theorem G_order {x : Nat} (h0 : 0 < x) (h : x < QQ) : 4 ^ x % PP ≠ 1 := by
  intro hx
  have g := pow_mod_one (b := 4) (p := PP) (by decide) _ _ hx G_Q
  rcases prm_Q.2 _ (Nat.gcd_dvd_right x QQ) with e | e
  · rw [e] at g; revert g; decide
  · have := Nat.gcd_le_left QQ h0
    omega

theorem pow_mod_P (b n : Nat) : (b % PP) ^ n % PP = b ^ n % PP := (Nat.pow_mod b n PP).symm

theorem G_cycle (n : Nat) : 4 ^ (n % QQ) % PP = 4 ^ n % PP := by
  conv => rhs; rw [show n = QQ * (n / QQ) + n % QQ from (Nat.div_add_mod n QQ).symm, Nat.pow_add, Nat.mul_mod, pow_one_mod (by decide) G_Q, Nat.one_mul, Nat.mod_mod]

theorem not_dvd_of_lt {p x : Nat} (h0 : 0 < x) (h : x < p) : ¬ p ∣ x := fun hd => by
  have := Nat.le_of_dvd h0 hd; omega

/-- Half of the group's exponent gives 1 or -1. -/
theorem half_pow {x : Nat} (h0 : 0 < x) (h : x < PP) : x ^ QQ % PP = 1 ∨ x ^ QQ % PP = PP - 1 := by
  have hf := fermat_one prm_P (not_dvd_of_lt h0 h)
  generalize hy : x ^ QQ % PP = y
  have hyl : y < PP := hy ▸ Nat.mod_lt _ (by decide)
  have e : y * y % PP = 1 := by
    rw [← hy, ← Nat.mul_mod, ← Nat.pow_add]; exact hf
  have hy0 : y ≠ 0 := by rintro rfl; revert e; decide
  have d : PP ∣ (y - 1) * (y + 1) := by
    have : (y - 1) * (y + 1) = y * y - 1 := by
      obtain ⟨z, rfl⟩ : ∃ z, y = z + 1 := ⟨y - 1, by omega⟩
      rw [Nat.add_sub_cancel, Nat.mul_add, Nat.add_mul, Nat.mul_add]; omega
    rw [this]
    exact Nat.dvd_of_mod_eq_zero (Nat.sub_mod_eq_zero_of_mod_eq (by rw [e]; rfl))
  rcases prm_P.dvd_or d with d | d
  · left
    rcases Nat.eq_zero_or_pos (y - 1) with h | h
    · omega
    · have := Nat.le_of_dvd h d; omega
  · right
    have := Nat.le_of_dvd (by omega) d; omega

theorem neg_pow {x : Nat} (h : x ≤ PP) : ∀ k, (x ^ (2 * k + 1) + (PP - x) ^ (2 * k + 1)) % PP = 0 := by
  have sq : (PP - x) ^ 2 % PP = x ^ 2 % PP := by
    have e : (PP - x) ^ 2 + 2 * x * PP = x ^ 2 + PP * PP := by
      have : PP - x + x = PP := by omega
      generalize PP - x = y at this
      rw [← this]
      grind
    have := congrArg (· % PP) e
    simpa [Nat.add_mul_mod_self_right] using this
  intro k
  have e1 : (PP - x) ^ (2 * k + 1) % PP = x ^ (2 * k) * (PP - x) % PP := by
    rw [Nat.pow_succ, Nat.pow_mul, Nat.mul_mod, Nat.pow_mod, sq, ← Nat.pow_mod, ← Nat.mul_mod, ← Nat.pow_mul]
  rw [Nat.add_mod, e1, ← Nat.add_mod, Nat.pow_succ, ← Nat.mul_add, show x + (PP - x) = PP by omega, Nat.mul_mod_left]

/-- Of x and P - x exactly one has the power 1 for Q. -/
theorem halves {x : Nat} (h0 : 0 < x) (h : x < PP) : (x ^ QQ % PP = 1) ↔ ¬ ((PP - x) ^ QQ % PP = 1) := by
  have n := neg_pow (x := x) (by omega) 576460752303422699
  rw [show 2 * 576460752303422699 + 1 = QQ by decide] at n
  rw [Nat.add_mod] at n
  rcases half_pow h0 h with a | a <;> rcases half_pow (x := PP - x) (by omega) (by omega) with b | b
  · rw [a, b] at n; exact absurd n (by decide)
  · simp [a, b]
  · simp [a, b]
  · rw [a, b] at n; exact absurd n (by decide)

#print axioms halves
end Go.Proofs.YtlfjcifeiihmfaaDoor
