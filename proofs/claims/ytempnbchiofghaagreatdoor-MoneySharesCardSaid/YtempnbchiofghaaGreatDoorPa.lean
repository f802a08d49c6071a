/-
  Plain definitions: amounts, rounding, sums. No program.
-/
namespace Go.Proofs.YtempnbchiofghaaGreatDoor
set_option linter.unusedVariables false
set_option linter.unusedSimpArgs false

/-- In range. -/
abbrev inR (a : Int) : Prop := -9007199254740992 ≤ a ∧ a ≤ 9007199254740992
def chk (a : Int) : Int × Int := if inR a then (a, 0) else (0, 3)
def addV (a b : Int) : Int × Int := if inR a ∧ inR b then chk (a + b) else (0, 3)
def subV (a b : Int) : Int × Int := if inR a ∧ inR b then chk (a - b) else (0, 3)
def mulV (a b : Int) : Int × Int := if inR a ∧ inR b then chk (a * b) else (0, 3)
def divQ (a b mode : Int) : Int := if mode = 8 then a / b else if mode = 9 then -((-a) / b) else (2 * a + b) / (2 * b)
abbrev isMode (mode : Int) : Prop := mode = 8 ∨ mode = 9 ∨ mode = 10
def divV (a b mode : Int) : Int × Int :=
  if isMode mode then (if inR a ∧ inR b then (if b ≤ 0 then (0, 70) else (divQ a b mode, 0)) else (0, 3)) else (0, 1)
def sumV (l : List Int) : Int × Int := if ∀ x ∈ l, inR x then chk l.sum else (0, 3)

theorem abs_bnd {a : Int} (h : inR a) : a.natAbs ≤ 9007199254740992 := by have := h.1; have := h.2; omega
theorem mul_bnd {a b : Int} (ha : inR a) (hb : inR b) : (a * b).natAbs ≤ 81129638414606681695789005144064 := by
  rw [Int.natAbs_mul]
  exact Nat.mul_le_mul (abs_bnd ha) (abs_bnd hb)

/-- A product that wraps is seen by the division. -/
theorem mul_seen {a b : Int} (ha : inR a) (hb : inR b) (h0 : a ≠ 0) (c : Int) (h : ∃ k : Int, c = a * b + k * 18446744073709551616) (hc : -9223372036854775808 ≤ c ∧ c ≤ 9223372036854775807) : (c.tdiv a = b) ↔ c = a * b := by
  constructor
  · intro e
    have h1 := Int.mul_tdiv_add_tmod c a
    rw [e] at h1
    obtain ⟨k, hk⟩ := h
    have h2 : (c.tmod a).natAbs < a.natAbs := by
      rw [Int.natAbs_tmod]
      exact Nat.mod_lt _ (by omega)
    have := abs_bnd ha
    have h3 : c.tmod a = k * 18446744073709551616 := by omega
    have h4 : k = 0 := by omega
    subst h4
    omega
  · intro e
    rw [e]
    exact Int.mul_tdiv_cancel_left b h0

/-- Rounded down. -/
theorem floor_t (a b : Int) (hb : 0 < b) : a / b = if a.tmod b < 0 then a.tdiv b - 1 else a.tdiv b := by
  have h1 := Int.mul_tdiv_add_tmod a b
  have h5 : (a.tmod b).natAbs < b.natAbs := by
    rw [Int.natAbs_tmod]
    exact Nat.mod_lt _ (by omega)
  by_cases h : a.tmod b < 0
  · rw [if_pos h]
    refine ((Int.ediv_emod_unique hb (r := a.tmod b + b)).2 ⟨?_, by omega, by omega⟩).1
    rw [Int.mul_sub]
    omega
  · rw [if_neg h]
    exact ((Int.ediv_emod_unique hb (r := a.tmod b)).2 ⟨by omega, by omega, by omega⟩).1
theorem floor_m (a b : Int) (hb : 0 < b) : a / b = if a.tdiv b * b > a then a.tdiv b - 1 else a.tdiv b := by
  rw [floor_t a b hb]
  have h1 := Int.mul_tdiv_add_tmod a b
  rw [Int.mul_comm] at h1
  by_cases h : a.tmod b < 0
  · rw [if_pos h, if_pos (by omega)]
  · rw [if_neg h, if_neg (by omega)]
end Go.Proofs.YtempnbchiofghaaGreatDoor
