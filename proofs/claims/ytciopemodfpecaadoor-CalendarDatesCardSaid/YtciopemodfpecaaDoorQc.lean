/-
  The dates, plainly: what CalendarDates says.
-/
import Derived.Test.YtciopemodfpecaaDoorDq
import Derived.Deep.CutRange
namespace Go.Proofs.YtciopemodfpecaaDoor
set_option linter.unusedVariables false
set_option linter.unusedSimpArgs false

theorem date_bounds {n Y M D : Int} (h : DU n Y M D 0) : 2000 ≤ Y ∧ Y ≤ 5000 ∧ 1 ≤ M ∧ M ≤ 12 ∧ 1 ≤ D ∧ D ≤ 31 := by
  rcases h with ⟨h0, h1, _, i, j, hY, hM, hj, hd1, hd2, hn⟩ | ⟨_, _, _, _, h⟩
  · have b1 := (yr_bound i).1
    have b2 := mlen_b Y M
    have b3 := mo_mono Y (show 0 ≤ j by omega)
    have b4 : mo Y 0 = 0 := rfl
    omega
  · omega
theorem day_cases {n Y M D R E : Int} (h : DU n Y M D 0) (hd : DayU Y M D R E) : (Y ≤ 4000 ∧ E = 0 ∧ n = R) ∨ (4000 < Y ∧ E = 1) := by
  have hb := date_bounds h
  rcases h with ⟨h0, h1, _, i, j, hY, hM, hj, hd1, hd2, hn⟩ | ⟨_, _, _, _, h⟩
  · rcases hd with ⟨hv, hR, hE⟩ | ⟨hv, hR, hE⟩
    · left
      have e1 : (Y - 2000).toNat = i := by omega
      have e2 : (M - 1).toNat = j := by omega
      rw [e1, e2] at hR
      exact ⟨hv.2.1, hE, by omega⟩
    · right
      refine ⟨?_, hE⟩
      by_cases hc : 4000 < Y
      · exact hc
      · exact absurd ⟨hb.1, by omega, hb.2.2.1, hb.2.2.2.1, hd1, hd2⟩ hv
  · omega
theorem dates_next {n Y M D Y2 M2 D2 : Int} (h : DU n Y M D 0) (h2 : DU (n + 1) Y2 M2 D2 0) : (Y = Y2 ∧ M = M2 ∧ D + 1 = D2 ∧ D < mlen Y M) ∨ (Y = Y2 ∧ M + 1 = M2 ∧ D2 = 1 ∧ D = mlen Y M ∧ M < 12) ∨ (Y + 1 = Y2 ∧ M2 = 1 ∧ D2 = 1 ∧ D = mlen Y M ∧ M = 12) := by
  have hi : IsDate n Y M D := by rcases h with ⟨_, _, _, h⟩ | ⟨_, _, _, _, h⟩; exact h; omega
  have hi2 : IsDate (n + 1) Y2 M2 D2 := by rcases h2 with ⟨_, _, _, h⟩ | ⟨_, _, _, _, h⟩; exact h; omega
  rcases isDate_next hi with ⟨x, y⟩ | ⟨x, y, z⟩ | ⟨x, y, z⟩
  · obtain ⟨a, b, c⟩ := isDate_unique x hi2
    exact .inl ⟨a, b, c, y⟩
  · obtain ⟨a, b, c⟩ := isDate_unique x hi2
    exact .inr (.inl ⟨a, b, c.symm, y, z⟩)
  · obtain ⟨a, b, c⟩ := isDate_unique x hi2
    exact .inr (.inr ⟨a, b.symm, c.symm, y, z⟩)
theorem dates_or {Y M D Y2 M2 D2 : Int} {bA bB bC : Bool} (hM : M ≤ 12) (hD : 1 ≤ D) (hA : bA = decide (Y = Y2 ∧ M = M2 ∧ D + 1 = D2)) (hB : bB = decide (Y = Y2 ∧ M + 1 = M2 ∧ D2 = 1 ∧ 28 ≤ D)) (hC : bC = decide (Y + 1 = Y2 ∧ M2 = 1 ∧ D2 = 1 ∧ M = 12 ∧ D = 31))
    (h : (Y = Y2 ∧ M = M2 ∧ D + 1 = D2 ∧ D < mlen Y M) ∨ (Y = Y2 ∧ M + 1 = M2 ∧ D2 = 1 ∧ D = mlen Y M ∧ M < 12) ∨ (Y + 1 = Y2 ∧ M2 = 1 ∧ D2 = 1 ∧ D = mlen Y M ∧ M = 12)) : bA = true ∨ (bA = false ∧ bB = true) ∨ (bA = false ∧ bB = false ∧ bC = true) := by
  have hl := mlen_b Y M
  rcases h with h | h | h
  · exact .inl (by rw [hA]; exact decide_eq_true ⟨h.1, h.2.1, h.2.2.1⟩)
  · exact .inr (.inl ⟨by rw [hA]; exact decide_eq_false (by omega), by rw [hB]; exact decide_eq_true (by omega)⟩)
  · have h31 : mlen Y M = 31 := by rw [h.2.2.2.2]; rfl
    exact .inr (.inr ⟨by rw [hA]; exact decide_eq_false (by omega), by rw [hB]; exact decide_eq_false (by omega), by rw [hC]; exact decide_eq_true (by omega)⟩)
theorem dates_two {Y M D Y2 M2 D2 : Int} {b : Bool} (hb : b = leap Y) (h : (Y = Y2 ∧ M = M2 ∧ D + 1 = D2 ∧ D < mlen Y M) ∨ (Y = Y2 ∧ M + 1 = M2 ∧ D2 = 1 ∧ D = mlen Y M ∧ M < 12) ∨ (Y + 1 = Y2 ∧ M2 = 1 ∧ D2 = 1 ∧ D = mlen Y M ∧ M = 12)) :
    M = 2 → (b = true ∧ D = 29) ∨ (b = true ∧ D = 28 ∧ D2 = 29) ∨ (b = true ∧ D < 28) ∨ (b = false ∧ D ≤ 28) := by
  rintro rfl
  cases b with
  | true =>
    have hm : mlen Y 2 = 29 := by unfold mlen; rw [← hb]; rfl
    rw [hm] at h
    rcases h with h | h | h
    · by_cases h28 : D = 28
      · exact .inr (.inl ⟨rfl, h28, by omega⟩)
      · exact .inr (.inr (.inl ⟨rfl, by omega⟩))
    · exact .inl ⟨rfl, h.2.2.2.1⟩
    · omega
  | false =>
    have hm : mlen Y 2 = 28 := by unfold mlen; rw [← hb]; rfl
    rw [hm] at h
    exact .inr (.inr (.inr ⟨rfl, by omega⟩))
end Go.Proofs.YtciopemodfpecaaDoor
