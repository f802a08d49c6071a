/-
  Walks: Mul, Div of both sides, and what they call.
-/
import Derived.Test.YtempnbchiofghaaGreatDoorAa
namespace Go.Proofs.YtempnbchiofghaaGreatDoor
open Go.RowKit
set_option linter.unusedVariables false
set_option linter.unusedSimpArgs false

def absI (a : Int) : Int := if a < 0 then -a else a
theorem abs_any (a : Int) (h : inR a) (w : World) : Calls Tryz.prog 36 #[.int .i64 a] w fun e w' => e = .returned (.int .i64 (absI a)) ∧ w = w' := by
  have hw := in_neg h
  unfold absI
  clear h
  by_cases h0 : a < 0
  · rw [if_pos h0]
    go_enter Tryz.func36, Tryz.ntmps36
    go_wp2
    go_ret
    exact ⟨rfl, rfl⟩
  · rw [if_neg h0]
    clear hw
    go_enter Tryz.func36, Tryz.ntmps36
    go_wp2
    go_ret
    exact ⟨rfl, rfl⟩

theorem tdiv_abs (a b : Int) : (a.tdiv b).natAbs ≤ a.natAbs := by rw [Int.natAbs_tdiv]; exact Nat.div_le_self _ _
theorem tmod_abs (a b : Int) : (a.tmod b).natAbs ≤ a.natAbs := by rw [Int.natAbs_tmod]; exact Nat.mod_le _ _
theorem tdiv_bnd {a b : Int} (ha : I64 a) (hb : 0 < b) : IntKind.i64.wrap (a.tdiv b) = a.tdiv b := by
  have h := tdiv_abs a b
  obtain ⟨a0, a1⟩ := ha
  by_cases h0 : 0 ≤ a
  · have := Int.tdiv_nonneg (a := a) (b := b) h0 (by omega)
    exact wrap_in (by omega) (by omega)
  · have h3 := Int.neg_tdiv a b
    have h4 := Int.tdiv_nonneg (a := -a) (b := b) (by omega) (by omega)
    exact wrap_in (by omega) (by omega)
theorem tmod_bnd {a b : Int} (ha : I64 a) (hb : 0 < b) : IntKind.i64.wrap (a.tmod b) = a.tmod b := by
  have h := tmod_abs a b
  obtain ⟨a0, a1⟩ := ha
  by_cases h0 : 0 ≤ a
  · have := Int.tmod_nonneg b (a := a) h0
    exact wrap_in (by omega) (by omega)
  · have h4 := Int.tmod_nonneg b (a := -a) (by omega)
    rw [Int.neg_tmod] at h4
    exact wrap_in (by omega) (by omega)
theorem tdiv_pred {a b : Int} (ha : I64 a) (hb : 0 < b) (hs : -9223372036854775808 < a) : IntKind.i64.wrap (a.tdiv b - 1) = a.tdiv b - 1 := by
  have h := tdiv_abs a b
  have h1 := tdiv_bnd ha hb
  rw [IntKind.wrap_i64] at h1
  obtain ⟨a0, a1⟩ := ha
  exact wrap_in (by omega) (by omega)
theorem tdiv_mul {a b : Int} (ha : I64 a) (hb : 0 < b) : IntKind.i64.wrap (a.tdiv b * b) = a.tdiv b * b := by
  have h1 := Int.mul_tdiv_add_tmod a b
  rw [Int.mul_comm] at h1
  have h := tmod_abs a b
  obtain ⟨a0, a1⟩ := ha
  by_cases h0 : 0 ≤ a
  · have := Int.tmod_nonneg b (a := a) h0
    exact wrap_in (by omega) (by omega)
  · have h4 := Int.tmod_nonneg b (a := -a) (by omega)
    rw [Int.neg_tmod] at h4
    exact wrap_in (by omega) (by omega)

theorem divide_any (a b : Int) (ha : I64 a) (hb : 0 < b) (hs : -9223372036854775808 < a) (w : World) : Calls Tryz.prog 44 #[.int .i64 a, .int .i64 b] w fun e w' => e = .returned (.int .i64 (a / b)) ∧ w = w' := by
  have w1 := tdiv_bnd ha hb
  have w2 := tmod_bnd ha hb
  have w3 := tdiv_pred ha hb hs
  have hb0 : b ≠ 0 := by omega
  rw [floor_t a b hb]
  obtain ⟨r, er⟩ : ∃ r, a.tmod b = r := ⟨_, rfl⟩
  obtain ⟨t, et⟩ : ∃ t, a.tdiv b = t := ⟨_, rfl⟩
  simp only [er, et] at w1 w2 w3 ⊢
  clear ha hb hs
  by_cases h0 : r < 0
  · rw [if_pos h0]
    go_enter Tryz.func44, Tryz.ntmps44
    go_wp2
    go_ret
    exact ⟨rfl, rfl⟩
  · rw [if_neg h0]
    go_enter Tryz.func44, Tryz.ntmps44
    go_wp2
    go_ret
    exact ⟨rfl, rfl⟩

theorem floor_any (a b : Int) (ha : I64 a) (hb : 0 < b) (hs : -9223372036854775808 < a) (w : World) : Calls Tryz.prog 45 #[.int .i64 a, .int .i64 b] w fun e w' => e = .returned (.int .i64 (a / b)) ∧ w = w' := by
  have w1 := tdiv_bnd ha hb
  have hm := tdiv_mul ha hb
  have w3 := tdiv_pred ha hb hs
  have hb0 : b ≠ 0 := by omega
  rw [floor_m a b hb]
  obtain ⟨t, et⟩ : ∃ t, a.tdiv b = t := ⟨_, rfl⟩
  simp only [et] at w1 w3 hm ⊢
  obtain ⟨m, em⟩ : ∃ m, t * b = m := ⟨_, rfl⟩
  simp only [em] at hm ⊢
  clear ha hb hs
  by_cases h0 : m > a
  · rw [if_pos h0]
    go_enter Tryz.func45, Tryz.ntmps45
    go_wp2
    go_ret
    exact ⟨rfl, rfl⟩
  · rw [if_neg h0]
    go_enter Tryz.func45, Tryz.ntmps45
    go_wp2
    go_ret
    exact ⟨rfl, rfl⟩

def lift (b mode : Int) : Int × Int := if mode = 8 then (0, 0) else if mode = 9 then (IntKind.i64.wrap (IntKind.i64.wrap (b - 1) + b), 0) else if mode = 10 then (b, 0) else (0, 1)
theorem rounding_any (b mode : Int) (hb : I64 b) (w : World) : Calls Tryz.prog 43 #[.int .i64 b, .int .i64 mode] w fun e w' => e = .returned (.tuple #[.int .i64 (lift b mode).1, .int .i64 (lift b mode).2]) ∧ w = w' := by
  have hw : IntKind.i64.wrap b = b := wrap_in hb.1 hb.2
  unfold lift
  clear hb
  by_cases h8 : mode = 8
  · subst h8
    rw [if_pos rfl]
    go_enter Tryz.func43, Tryz.ntmps43
    go_wp2
    go_ret2
    exact ⟨rfl, rfl⟩
  · rw [if_neg h8]
    by_cases h9 : mode = 9
    · subst h9
      rw [if_pos rfl]
      obtain ⟨x, hx⟩ : ∃ x, IntKind.i64.wrap (b - 1) = x := ⟨_, rfl⟩
      obtain ⟨y, hy⟩ : ∃ y, IntKind.i64.wrap (x + b) = y := ⟨_, rfl⟩
      rw [hx, hy]
      clear hw h8
      go_enter Tryz.func43, Tryz.ntmps43
      go_wp2
      go_ret2
      exact ⟨rfl, rfl⟩
    · rw [if_neg h9]
      by_cases h10 : mode = 10
      · subst h10
        rw [if_pos rfl]
        clear h8 h9
        go_enter Tryz.func43, Tryz.ntmps43
        go_wp2
        go_ret2
        exact ⟨rfl, rfl⟩
      · rw [if_neg h10]
        go_enter Tryz.func43, Tryz.ntmps43
        go_wp2
        go_ret2
        exact ⟨rfl, rfl⟩
end Go.Proofs.YtempnbchiofghaaGreatDoor
