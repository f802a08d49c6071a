/-
  The months, plainly: what CalendarMonths says.
-/
import Derived.Test.YtciopemodfpecaaDoorDr
namespace Go.Proofs.YtciopemodfpecaaDoor
set_option linter.unusedVariables false
set_option linter.unusedSimpArgs false

theorem su_facts {k F T E : Int} (h0 : 0 ≤ k) (h1 : k ≤ 24498) (h : SU k F T E) : E = 0 ∧ 0 ≤ F ∧ F < T ∧ T ≤ 1073741824 ∧ (k = 24498 → 1073741824 = T) := by
  rcases h with ⟨_, _, hE, hF, hT⟩ | ⟨hb, _⟩
  · obtain ⟨n, rfl⟩ : ∃ n : Nat, k = n := ⟨k.toNat, by omega⟩
    rw [Int.toNat_natCast] at hF hT
    have a1 := mfirst_mono (show n ≤ 24498 by omega)
    have a2 := mfirst_step n
    have a3 := mfirst_last
    have a4 := mfirst_mono (show 0 ≤ n by omega)
    have a5 : mfirst 0 = 0 := rfl
    refine ⟨hE, by omega, by omega, by omega, fun hk => ?_⟩
    have : n = 24498 := by omega
    subst this
    have a6 : mfirst (24498 + 1) = mfirst 24499 := rfl
    rw [a6] at hT
    omega
  · exact absurd ⟨h0, h1⟩ hb
theorem su_zero {F T E : Int} (h : SU 0 F T E) : F = 0 := by
  rcases h with ⟨_, _, hE, hF, hT⟩ | ⟨hb, _⟩
  · rw [hF]; rfl
  · exact absurd ⟨by omega, by omega⟩ hb
theorem su_pos {k F T E : Int} (h0 : 0 ≤ k) (h : SU k F T E) : decide (0 < k) = true ∨ (decide (0 < k) = false ∧ (F == 0) = true) := by
  by_cases hk : 0 < k
  · exact .inl (decide_eq_true hk)
  · have hk0 : k = 0 := by omega
    subst hk0
    have hF := su_zero h
    exact .inr ⟨decide_eq_false hk, by rw [hF]; rfl⟩
theorem su_next {k F T E F2 T2 E2 : Int} (h0 : 0 ≤ k) (h1 : k < 24498) (h : SU k F T E) (h2 : SU (k + 1) F2 T2 E2) :
    E2 = 0 ∧ T = F2 ∧ ∃ Q, T - F = 1440 * Q ∧ 28 ≤ Q ∧ Q ≤ 31 ∧ ∀ m, F ≤ m → m < F + 1440 * Q → MU m k 0 := by
  rcases h with ⟨_, _, hE, hF, hT⟩ | ⟨hb, _⟩
  · rcases h2 with ⟨_, _, hE2, hF2, hT2⟩ | ⟨hb, _⟩
    · obtain ⟨n, rfl⟩ : ∃ n : Nat, k = n := ⟨k.toNat, by omega⟩
      have en : ((n : Int) + 1).toNat = n + 1 := by omega
      rw [Int.toNat_natCast] at hF hT
      rw [en] at hF2
      have a1 := mfirst_mono (show n + 1 ≤ 24498 by omega)
      have a2 := mfirst_step n
      have a3 := mfirst_last
      have a4 := mfirst_mono (show 0 ≤ n by omega)
      have a5 : mfirst 0 = 0 := rfl
      refine ⟨hE2, by omega, mfirst (n + 1) - mfirst n, by omega, by omega, by omega, fun m m0 m1 => ?_⟩
      exact .inl ⟨by omega, by omega, rfl, n, rfl, by omega, by omega⟩
    · exact absurd ⟨by omega, by omega⟩ hb
  · exact absurd ⟨by omega, by omega⟩ hb
end Go.Proofs.YtciopemodfpecaaDoor
