/-
  Plain mathematics: what the reader accepts is the encoding of what it returns, and it returns each value whose encoding it reads.
-/
import Derived.Test.YtjhjcigappkebaaPb
import Derived.Test.YtjhjcigappkebaaWe
namespace Go.Proofs.Ytjhjcigappkebaa
open Go.RowKit

theorem digit_low (x v : Int) (k i : Nat) (hi : i < k) : digit (x * 256 ^ k + v) i = digit v i := by
  unfold digit
  obtain ⟨j, rfl⟩ : ∃ j, k = i + 1 + j := ⟨k - i - 1, by omega⟩
  have hp : (0 : Int) < 256 ^ i := Int.pow_pos (by decide)
  have e : x * 256 ^ (i + 1 + j) + v = v + 256 ^ i * (256 * (256 ^ j * x)) := by
    rw [Int.pow_add, Int.pow_succ, Int.mul_assoc (256 ^ i) 256, Int.mul_comm x, Int.mul_assoc, Int.mul_assoc]
    omega
  rw [e, Int.add_mul_ediv_left _ _ (Int.ne_of_gt hp), Int.add_mul_emod_self_left]

theorem digs_low (x v : Int) (k : Nat) : ∀ j : Nat, j ≤ k → digs (x * 256 ^ k + v) j = digs v j
  | 0, _ => rfl
  | j + 1, h => by
    unfold digs
    rw [digit_low x v k j (by omega), digs_low x v k j (by omega)]

theorem digs_cons (c v : Int) (k : Nat) (hc : 0 ≤ c) (hc' : c < 256) (hv : 0 ≤ v) (hv' : v < 256 ^ k) : digs (c * 256 ^ k + v) (k + 1) = c :: digs v k := by
  have hp : (0 : Int) < 256 ^ k := Int.pow_pos (by decide)
  show digit (c * 256 ^ k + v) k :: digs (c * 256 ^ k + v) k = _
  rw [digs_low c v k k (Nat.le_refl _)]
  congr 1
  unfold digit
  rw [Int.add_comm, Int.add_mul_ediv_right _ _ (Int.ne_of_gt hp), Int.ediv_eq_zero_of_lt hv hv', Int.zero_add]
  exact Int.emod_eq_of_lt hc hc'

/-- The digit, as it is written. -/
def fl (flip : Bool) (x : Int) : Int := if flip then 255 - x else x
theorem fl_fl (flip : Bool) (x : Int) : fl flip (fl flip x) = x := by unfold fl; cases flip <;> simp <;> omega
theorem fl_range (flip : Bool) (x : Int) (h : 0 ≤ x ∧ x ≤ 255) : 0 ≤ fl flip x ∧ fl flip x ≤ 255 := by unfold fl; cases flip <;> simp <;> omega

theorem pInt_cons (eight flip : Bool) (k : Nat) (first : Bool) (acc x : Int) (rest : List Int) :
    pInt eight flip (k + 1) first acc (x :: rest) = if first && (fl flip x == 0 || (eight && decide (127 < fl flip x))) then .error 4 else pInt eight flip k false (acc * 256 + fl flip x) rest := by
  simp only [pInt, fl]
  rfl

theorem pInt_sound (eight flip : Bool) : ∀ (k : Nat) (first : Bool) (acc : Int) (l : List Int) (n : Int) (r : List Int), (∀ u ∈ l, 0 ≤ u ∧ u ≤ 255) → pInt eight flip k first acc l = .ok (n, r) →
    ∃ v, 0 ≤ v ∧ v < 256 ^ k ∧ n = acc * 256 ^ k + v ∧ l = (digs v k).map (fl flip) ++ r ∧ (first = true → ∀ j, k = j + 1 → 256 ^ j ≤ v ∧ (eight = true → v < 128 * 256 ^ j))
  | 0, first, acc, l, n, r, _, h => by
    simp only [pInt] at h
    cases h
    exact ⟨0, by omega, by simp, by simp, by simp [digs], fun _ j hj => by omega⟩
  | k + 1, first, acc, [], n, r, _, h => by simp [pInt] at h
  | k + 1, first, acc, x :: l, n, r, hl, h => by
    rw [pInt_cons] at h
    have hx := fl_range flip x (hl x (by simp))
    have hff := fl_fl flip x
    generalize fl flip x = c at h hx hff
    split at h
    · cases h
    · rename_i hcond
      obtain ⟨v, h1, h2, h3, h4, _⟩ := pInt_sound eight flip k false _ l n r (fun u hu => hl u (by simp [hu])) h
      have hp : (0 : Int) < 256 ^ k := Int.pow_pos (by decide)
      have b1 : 0 ≤ c * 256 ^ k := Int.mul_nonneg hx.1 (by omega)
      have b2 : c * 256 ^ k ≤ 255 * 256 ^ k := Int.mul_le_mul_of_nonneg_right hx.2 (by omega)
      refine ⟨c * 256 ^ k + v, by omega, by rw [Int.pow_succ]; omega, ?_, ?_, fun hf j hj => ?_⟩
      · rw [h3, Int.pow_succ, Int.add_mul, Int.mul_assoc, Int.mul_comm 256 (256 ^ k)]; omega
      · rw [digs_cons c v k hx.1 (by omega) h1 h2, h4, ← hff]
        simp
      · obtain rfl : j = k := by omega
        subst hf
        simp only [Bool.true_and, Bool.or_eq_true, beq_iff_eq, Bool.and_eq_true, decide_eq_true_eq, not_or, not_and] at hcond
        have b3 : 1 * 256 ^ j ≤ c * 256 ^ j := Int.mul_le_mul_of_nonneg_right (by omega) (by omega)
        refine ⟨by omega, fun he => ?_⟩
        have b4 : c * 256 ^ j ≤ 127 * 256 ^ j := Int.mul_le_mul_of_nonneg_right (by have := hcond.2 he; omega) (by omega)
        omega

theorem pInt_complete (eight flip : Bool) : ∀ (k : Nat) (first : Bool) (acc v : Int) (r : List Int), 0 ≤ v → v < 256 ^ k → (first = true → ∀ j, k = j + 1 → 256 ^ j ≤ v ∧ (eight = true → v < 128 * 256 ^ j)) →
    pInt eight flip k first acc ((digs v k).map (fl flip) ++ r) = .ok (acc * 256 ^ k + v, r)
  | 0, first, acc, v, r, h1, h2, _ => by
    have : v = 0 := by simp at h2; omega
    subst this
    simp [digs, pInt]
  | k + 1, first, acc, v, r, h1, h2, hf => by
    have hp : (0 : Int) < 256 ^ k := Int.pow_pos (by decide)
    have e := Int.mul_ediv_add_emod v (256 ^ k)
    have g1 := Int.emod_nonneg v (Int.ne_of_gt hp)
    have g2 := Int.emod_lt_of_pos v hp
    have g3 := Int.ediv_nonneg h1 (Int.le_of_lt hp)
    rw [Int.mul_comm] at e
    rw [Int.pow_succ] at h2
    have g4 : v / 256 ^ k < 256 := Int.ediv_lt_of_lt_mul hp (by rw [Int.mul_comm]; exact h2)
    generalize v / 256 ^ k = c at *
    generalize v % 256 ^ k = u at *
    subst e
    rw [digs_cons c u k g3 g4 g1 g2]
    simp only [List.map_cons, List.cons_append]
    rw [pInt_cons, fl_fl]
    have hcond : (first && (c == 0 || (eight && decide (127 < c)))) = false := by
      cases first with
      | false => rfl
      | true =>
        obtain ⟨a1, a2⟩ := hf rfl k rfl
        have c0 : c ≠ 0 := by
          intro h; subst h; omega
        have c1 : eight = true → ¬ 127 < c := by
          intro he h
          have := a2 he
          have b : 128 * 256 ^ k ≤ c * 256 ^ k := Int.mul_le_mul_of_nonneg_right (by omega) (by omega)
          omega
        cases eight with
        | false => simp [c0]
        | true => have := c1 rfl; simp [c0]; omega
    rw [hcond]
    simp only [Bool.false_eq_true, if_false]
    rw [pInt_complete eight flip k false _ u r g1 g2 (fun h => by cases h)]
    rw [Int.pow_succ, Int.add_mul, Int.mul_assoc, Int.mul_comm 256 (256 ^ k), Int.add_assoc]

theorem pBytes_sound : ∀ (N : Nat) (l s r : List Int), l.length ≤ N → pBytes l = .ok (s, r) → l = esc s ++ (0 :: 0 :: r)
  | N, [], s, r, _, h => by simp [pBytes] at h
  | N, [c], s, r, _, h => by simp [pBytes] at h
  | 0, c :: d :: ds, s, r, hl, h => by simp at hl
  | N + 1, c :: d :: ds, s, r, hl, h => by
    simp only [pBytes] at h
    simp only [List.length_cons] at hl
    split at h
    · rename_i hc
      subst hc
      split at h
      · rename_i hd
        subst hd
        cases h
        simp [esc]
      · split at h
        · rename_i hd
          subst hd
          cases hp : pBytes ds with
          | error e => rw [hp] at h; cases h
          | ok x =>
            obtain ⟨s', r'⟩ := x
            rw [hp] at h
            cases h
            have := pBytes_sound N ds s' r (by omega) hp
            rw [this]
            simp [esc]
        · cases h
    · rename_i hc
      cases hp : pBytes (d :: ds) with
      | error e => rw [hp] at h; cases h
      | ok x =>
        obtain ⟨s', r'⟩ := x
        rw [hp] at h
        cases h
        have := pBytes_sound N (d :: ds) s' r (by simp; omega) hp
        rw [this]
        simp [esc, hc]

theorem esc_more (s r : List Int) : ∃ d ds, esc s ++ (0 :: 0 :: r) = d :: ds := by
  cases s with
  | nil => exact ⟨0, 0 :: r, by simp [esc]⟩
  | cons c cs =>
    by_cases h : c = 0
    · exact ⟨_, _, by unfold esc; rw [if_pos h]; rfl⟩
    · exact ⟨_, _, by unfold esc; rw [if_neg h]; rfl⟩

theorem pBytes_complete : ∀ (s r : List Int), pBytes (esc s ++ (0 :: 0 :: r)) = .ok (s, r)
  | [], r => by simp [esc, pBytes]
  | c :: cs, r => by
    have ih := pBytes_complete cs r
    by_cases h : c = 0
    · subst h
      simp only [esc, if_true, List.cons_append]
      unfold pBytes
      simp only [if_true]
      rw [if_neg (by decide), ih]
    · obtain ⟨d, ds, e⟩ := esc_more cs r
      rw [e] at ih
      simp only [esc, if_neg h, List.cons_append, e]
      unfold pBytes
      rw [if_neg h, ih]

end Go.Proofs.Ytjhjcigappkebaa
