/-
  Walks of the dates: leap years, months' lengths, first days; the program's and the reference's small functions.
-/
import Derived.Test.YtciopemodfpecaaDoorDt
import Derived.Test.YtciopemodfpecaaDoorBa
namespace Go.Proofs.YtciopemodfpecaaDoor
open Go.RowKit
set_option linter.unusedVariables false
set_option linter.unusedSimpArgs false

/-- The table of the months' lengths. -/
def ml : List Int := [31, 28, 31, 30, 31, 30, 31, 31, 30, 31, 30, 31]
/-- Variable 0 holds the table. -/
def MOk (w : World) : Prop := 0 < w.heap.size ∧ ∀ i x, ml[i]? = some x → w.cell? ⟨0, i, none⟩ = some (.int .i64 x)
theorem MOk.below {w w' : World} (h : MOk w) (hb : Below w.heap.size w w') : MOk w' :=
  ⟨Nat.lt_of_lt_of_le h.1 hb.size, fun i x hx => (hb.cell (p := ⟨0, i, none⟩) h.1).trans (h.2 i x hx)⟩
theorem MOk.alloc {w : World} (h : MOk w) (o : Obj) : MOk (w.alloc o) := h.below (ball (Below.refl _ _) _)

theorem retB {a b : Bool} (h : a = b) : Ending.returned (Value.bool a) = Ending.returned (Value.bool b) := by rw [h]
theorem retI {a b : Int} (h : a = b) : Ending.returned (Value.int .i64 a) = Ending.returned (Value.int .i64 b) := by rw [h]

theorem leap_any (y : Int) (hy : 0 ≤ y) (L : Bool) (hL : L = leap y) (w : World) : Calls Tryd.prog 65 #[.int .i64 y] w fun e w' => e = .returned (.bool L) ∧ w = w' := by
  have HL := Lib.hid hL
  clear hL
  go_enter Tryd.func65, Tryd.ntmps65
  go_wp2
  all_goals (go_ret; refine ⟨retB ?_, rfl⟩; rw [HL.out]; unfold leap; clear HL; simp [*]; try rfl)

theorem rleap_any (y : Int) (hy : 0 ≤ y) (L : Bool) (hL : L = leap y) (w : World) : Calls Tryd.prog 66 #[.int .i64 y] w fun e w' => e = .returned (.bool L) ∧ w = w' := by
  have HL := Lib.hid hL
  clear hL
  go_enter Tryd.func66, Tryd.ntmps66
  go_wp2
  all_goals (go_ret; refine ⟨retB ?_, rfl⟩; rw [HL.out]; unfold leap; clear HL; simp [*]; try rfl)

theorem isDay_any (n : Int) (w : World) : Calls Tryd.prog 45 #[.int .i64 n] w fun e w' => e = .returned (.bool (decide (0 ≤ n ∧ n ≤ 745654))) ∧ w = w' := by
  by_cases h0 : 0 ≤ n <;> by_cases h1 : n ≤ 745654
  all_goals
    first | rw [decide_eq_true (And.intro h0 h1)] | rw [decide_eq_false (fun h => h0 h.1)] | rw [decide_eq_false (fun h => h1 h.2)]
    go_enter Tryd.func45, Tryd.ntmps45
    go_wp2
    go_ret
    exact ⟨rfl, rfl⟩

theorem yearBegin_any (y : Int) (h0 : 2000 ≤ y) (h1 : y ≤ 102000) (R : Int) (hR : R = yr (y - 2000).toNat) (w : World) : Calls Tryd.prog 51 #[.int .i64 y] w fun e w' => e = .returned (.int .i64 R) ∧ w = w' := by
  have hf := yr_formula (y - 2000).toNat
  rw [← hR, Int.toNat_of_nonneg (by omega)] at hf
  have HF := Lib.hid hf
  clear hf hR
  go_enter Tryd.func51, Tryd.ntmps51
  go_wp2
  go_ret
  refine ⟨retI ?_, rfl⟩
  rw [HF.out]
  omega

theorem monthLength_any (y m : Int) (hy : 0 ≤ y) (h1 : 1 ≤ m) (h2 : m ≤ 12) (R : Int) (hR : R = mlen y m) (w : World) (hk : MOk w) : Calls Tryd.prog 46 #[.int .i64 y, .int .i64 m] w fun e w' => e = .returned (.int .i64 R) ∧ w = w' := by
  rcases (show m = 1 ∨ m = 2 ∨ m = 3 ∨ m = 4 ∨ m = 5 ∨ m = 6 ∨ m = 7 ∨ m = 8 ∨ m = 9 ∨ m = 10 ∨ m = 11 ∨ m = 12 by omega) with rfl | rfl | rfl | rfl | rfl | rfl | rfl | rfl | rfl | rfl | rfl | rfl
  case inr.inl =>
    clear h1 h2
    obtain ⟨L, hL⟩ : ∃ L, L = leap y := ⟨_, rfl⟩
    have hc := leap_any y hy L hL w
    have c28 := hk.2 1 28 rfl
    have hR2 : R = if L then 29 else 28 := by rw [hR, hL]; simp [mlen]
    have HC := Lib.hid hc
    clear hc hL hR hk
    cases L
    · obtain rfl : R = 28 := hR2
      go_enter Tryd.func46, Tryd.ntmps46
      go_wp2_with fail
      refine HC.out.mono ?_
      rintro e w1 ⟨rfl, rfl⟩
      go_wp2
      go_ret
      exact ⟨rfl, rfl⟩
    · obtain rfl : R = 29 := hR2
      go_enter Tryd.func46, Tryd.ntmps46
      go_wp2_with fail
      refine HC.out.mono ?_
      rintro e w1 ⟨rfl, rfl⟩
      go_wp2
      go_ret
      exact ⟨rfl, rfl⟩
  case inl => obtain rfl : R = 31 := (by rw [hR]; simp [mlen]); have hc := hk.2 0 31 rfl; clear hR hk h1 h2; go_enter Tryd.func46, Tryd.ntmps46; go_wp2; go_ret; exact ⟨rfl, rfl⟩
  case inr.inr.inl => obtain rfl : R = 31 := (by rw [hR]; simp [mlen]); have hc := hk.2 2 31 rfl; clear hR hk h1 h2; go_enter Tryd.func46, Tryd.ntmps46; go_wp2; go_ret; exact ⟨rfl, rfl⟩
  case inr.inr.inr.inl => obtain rfl : R = 30 := (by rw [hR]; simp [mlen]); have hc := hk.2 3 30 rfl; clear hR hk h1 h2; go_enter Tryd.func46, Tryd.ntmps46; go_wp2; go_ret; exact ⟨rfl, rfl⟩
  case inr.inr.inr.inr.inl => obtain rfl : R = 31 := (by rw [hR]; simp [mlen]); have hc := hk.2 4 31 rfl; clear hR hk h1 h2; go_enter Tryd.func46, Tryd.ntmps46; go_wp2; go_ret; exact ⟨rfl, rfl⟩
  case inr.inr.inr.inr.inr.inl => obtain rfl : R = 30 := (by rw [hR]; simp [mlen]); have hc := hk.2 5 30 rfl; clear hR hk h1 h2; go_enter Tryd.func46, Tryd.ntmps46; go_wp2; go_ret; exact ⟨rfl, rfl⟩
  case inr.inr.inr.inr.inr.inr.inl => obtain rfl : R = 31 := (by rw [hR]; simp [mlen]); have hc := hk.2 6 31 rfl; clear hR hk h1 h2; go_enter Tryd.func46, Tryd.ntmps46; go_wp2; go_ret; exact ⟨rfl, rfl⟩
  case inr.inr.inr.inr.inr.inr.inr.inl => obtain rfl : R = 31 := (by rw [hR]; simp [mlen]); have hc := hk.2 7 31 rfl; clear hR hk h1 h2; go_enter Tryd.func46, Tryd.ntmps46; go_wp2; go_ret; exact ⟨rfl, rfl⟩
  case inr.inr.inr.inr.inr.inr.inr.inr.inl => obtain rfl : R = 30 := (by rw [hR]; simp [mlen]); have hc := hk.2 8 30 rfl; clear hR hk h1 h2; go_enter Tryd.func46, Tryd.ntmps46; go_wp2; go_ret; exact ⟨rfl, rfl⟩
  case inr.inr.inr.inr.inr.inr.inr.inr.inr.inl => obtain rfl : R = 31 := (by rw [hR]; simp [mlen]); have hc := hk.2 9 31 rfl; clear hR hk h1 h2; go_enter Tryd.func46, Tryd.ntmps46; go_wp2; go_ret; exact ⟨rfl, rfl⟩
  case inr.inr.inr.inr.inr.inr.inr.inr.inr.inr.inl => obtain rfl : R = 30 := (by rw [hR]; simp [mlen]); have hc := hk.2 10 30 rfl; clear hR hk h1 h2; go_enter Tryd.func46, Tryd.ntmps46; go_wp2; go_ret; exact ⟨rfl, rfl⟩
  case inr.inr.inr.inr.inr.inr.inr.inr.inr.inr.inr => obtain rfl : R = 31 := (by rw [hR]; simp [mlen]); have hc := hk.2 11 31 rfl; clear hR hk h1 h2; go_enter Tryd.func46, Tryd.ntmps46; go_wp2; go_ret; exact ⟨rfl, rfl⟩

theorem rlength_any (y m : Int) (hy : 0 ≤ y) (h1 : 1 ≤ m) (h2 : m ≤ 12) (R : Int) (hR : R = mlen y m) (w : World) : Calls Tryd.prog 48 #[.int .i64 y, .int .i64 m] w fun e w' => e = .returned (.int .i64 R) ∧ w = w' := by
  by_cases c2 : m = 2
  · subst c2
    clear h1 h2
    obtain ⟨L, hL⟩ : ∃ L, L = leap y := ⟨_, rfl⟩
    have hc := rleap_any y hy L hL w
    have hR2 : R = if L then 29 else 28 := by rw [hR, hL]; simp [mlen]
    have HC := Lib.hid hc
    clear hc hL hR
    cases L
    · obtain rfl : R = 28 := hR2
      go_enter Tryd.func48, Tryd.ntmps48
      go_wp2_with fail
      refine HC.out.mono ?_
      rintro e w1 ⟨rfl, rfl⟩
      go_wp2
      go_ret
      exact ⟨rfl, rfl⟩
    · obtain rfl : R = 29 := hR2
      go_enter Tryd.func48, Tryd.ntmps48
      go_wp2_with fail
      refine HC.out.mono ?_
      rintro e w1 ⟨rfl, rfl⟩
      go_wp2
      go_ret
      exact ⟨rfl, rfl⟩
  · have HR := Lib.hid hR
    clear hR
    go_enter Tryd.func48, Tryd.ntmps48
    go_wp2
    all_goals (go_ret; refine ⟨retI ?_, rfl⟩; rw [HR.out]; unfold mlen; clear HR; simp only [beq_iff_eq, beq_eq_false_iff_ne, ne_eq] at *; first | rw [if_pos (by omega)] | rw [if_neg (by omega), if_neg c2])
end Go.Proofs.YtciopemodfpecaaDoor
