/-
  Walks: valid places and lines, both sides.
-/
import Derived.Test.YtbeoldklpklbfaaCa
namespace Go.Proofs.Ytbeoldklpklbfaa
open Go.RowKit
set_option linter.unusedVariables false
set_option linter.unusedSimpArgs false

/-- Whether a place is valid. -/
def pOk (p : Pc) : Bool := rng 1 p.k 5 && rng 0 p.r 15 && (if p.k = 3 then rng 0 p.o 15 && decide (p.o ≠ p.r) else decide (p.o = -1))
/-- Whether a line is valid in a network of n places. -/
def eOk (n : Int) (x : Ed) : Bool := rng 0 x.a (n - 1) && rng 0 x.b (n - 1) && decide (x.a ≠ x.b) && rng 0 x.r 15 && rng 1 x.m 100000 && rng 0 x.k 10000
set_option maxRecDepth 100000 in
set_option maxHeartbeats 4000000 in
theorem vplace_any (k r o : Int) (w : World) : Calls Try.prog 32 #[.agg #[.int .i64 k, .int .i64 r, .int .i64 o]] w fun e w' => e = .returned (.bool (pOk ⟨k, r, o⟩)) ∧ Below w.heap.size w w' := by
  have HB := Lib.hid (ball (Below.refl w.heap.size w) (.cells #[.int .i64 k, .int .i64 r, .int .i64 o] 55))
  have hp : pOk ⟨k, r, o⟩ = (rng 1 k 5 && rng 0 r 15 && (if k = 3 then rng 0 o 15 && decide (o ≠ r) else decide (o = -1))) := rfl
  obtain ⟨B1, h1⟩ : ∃ B, rng 1 k 5 = B := ⟨_, rfl⟩
  obtain ⟨B2, h2⟩ : ∃ B, rng 0 r 15 = B := ⟨_, rfl⟩
  obtain ⟨B3, h3⟩ : ∃ B, rng 0 o 15 = B := ⟨_, rfl⟩
  have C1 := fun w => between_any 1 k 5 w
  have C2 := fun w => rail_any r w
  have C3 := fun w => rail_any o w
  rw [h1] at hp C1
  rw [h2] at hp C2
  rw [h3] at hp C3
  obtain ⟨R, hR⟩ : ∃ R, R = pOk ⟨k, r, o⟩ := ⟨_, rfl⟩
  rw [← hR]
  rw [← hR] at hp
  have HP := Lib.hid hp; have C1 := Lib.hid C1; have C2 := Lib.hid C2; have C3 := Lib.hid C3
  clear h1 h2 h3 hR hp
  cases B1 with
  | false =>
    have hr : R = false := by rw [HP.out]; rfl
    subst hr
    go_enter Try.func32, Try.ntmps32
    go_wp2_with fail
    refine (C1.out _).mono ?_
    rintro e w' ⟨rfl, rfl⟩
    go_wp2
    go_ret
    exact ⟨by rfl, HB.out⟩
  | true =>
    cases B2 with
    | false =>
      have hr : R = false := by rw [HP.out]; rfl
      subst hr
      go_enter Try.func32, Try.ntmps32
      go_wp2_with fail
      refine (C1.out _).mono ?_
      rintro e w' ⟨rfl, rfl⟩
      go_wp2_with fail
      refine (C2.out _).mono ?_
      rintro e w' ⟨rfl, rfl⟩
      go_wp2
      go_ret
      exact ⟨by rfl, HB.out⟩
    | true =>
      by_cases c3 : k = 3
      · subst c3
        cases B3 with
        | false =>
          have hr : R = false := by rw [HP.out]; rfl
          subst hr
          go_enter Try.func32, Try.ntmps32
          go_wp2_with fail
          refine (C1.out _).mono ?_
          rintro e w' ⟨rfl, rfl⟩
          go_wp2_with fail
          refine (C2.out _).mono ?_
          rintro e w' ⟨rfl, rfl⟩
          go_wp2_with fail
          refine (C3.out _).mono ?_
          rintro e w' ⟨rfl, rfl⟩
          go_wp2
          go_ret
          exact ⟨by rfl, HB.out⟩
        | true =>
          by_cases c4 : o = r
          · have hr : R = false := by rw [HP.out]; simp [c4]
            have d4 : (o != r) = false := by simp [c4]
            clear c4
            subst hr
            go_enter Try.func32, Try.ntmps32
            go_wp2_with fail
            refine (C1.out _).mono ?_
            rintro e w' ⟨rfl, rfl⟩
            go_wp2_with fail
            refine (C2.out _).mono ?_
            rintro e w' ⟨rfl, rfl⟩
            go_wp2_with fail
            refine (C3.out _).mono ?_
            rintro e w' ⟨rfl, rfl⟩
            go_wp2
            go_ret
            exact ⟨by rfl, HB.out⟩
          · have hr : R = true := by rw [HP.out]; simp [c4]
            have d4 : (o != r) = true := by simp [c4]
            clear c4
            subst hr
            go_enter Try.func32, Try.ntmps32
            go_wp2_with fail
            refine (C1.out _).mono ?_
            rintro e w' ⟨rfl, rfl⟩
            go_wp2_with fail
            refine (C2.out _).mono ?_
            rintro e w' ⟨rfl, rfl⟩
            go_wp2_with fail
            refine (C3.out _).mono ?_
            rintro e w' ⟨rfl, rfl⟩
            go_wp2
            go_ret
            exact ⟨by rfl, HB.out⟩
      · have d3 : (k == 3) = false := by simpa using c3
        by_cases c4 : o = -1
        · have hr : R = true := by rw [HP.out, if_neg c3]; simp [c4]
          subst c4
          subst hr
          go_enter Try.func32, Try.ntmps32
          go_wp2_with fail
          refine (C1.out _).mono ?_
          rintro e w' ⟨rfl, rfl⟩
          go_wp2_with fail
          refine (C2.out _).mono ?_
          rintro e w' ⟨rfl, rfl⟩
          go_wp2
          go_ret
          exact ⟨by rfl, HB.out⟩
        · have hr : R = false := by rw [HP.out, if_neg c3]; simp [c4]
          have d4 : (o == -1) = false := by simpa using c4
          clear c4
          subst hr
          go_enter Try.func32, Try.ntmps32
          go_wp2_with fail
          refine (C1.out _).mono ?_
          rintro e w' ⟨rfl, rfl⟩
          go_wp2_with fail
          refine (C2.out _).mono ?_
          rintro e w' ⟨rfl, rfl⟩
          go_wp2
          go_ret
          exact ⟨by rfl, HB.out⟩
set_option maxRecDepth 100000 in
set_option maxHeartbeats 4000000 in
theorem rplace_any (k r o : Int) (w : World) : Calls Try.prog 34 #[.agg #[.int .i64 k, .int .i64 r, .int .i64 o]] w fun e w' => e = .returned (.bool (pOk ⟨k, r, o⟩)) ∧ Below w.heap.size w w' := by
  have HB := Lib.hid (ball (Below.refl w.heap.size w) (.cells #[.int .i64 k, .int .i64 r, .int .i64 o] 55))
  have hp : pOk ⟨k, r, o⟩ = (rng 1 k 5 && rng 0 r 15 && (if k = 3 then rng 0 o 15 && decide (o ≠ r) else decide (o = -1))) := rfl
  obtain ⟨B1, h1⟩ : ∃ B, rng 1 k 5 = B := ⟨_, rfl⟩
  obtain ⟨B2, h2⟩ : ∃ B, rng 0 r 15 = B := ⟨_, rfl⟩
  obtain ⟨B3, h3⟩ : ∃ B, rng 0 o 15 = B := ⟨_, rfl⟩
  have C1 := fun w => rbetween_any 1 k 5 w
  have C2 := fun w => rbetween_any 0 r 15 w
  have C3 := fun w => rbetween_any 0 o 15 w
  rw [h1] at hp C1
  rw [h2] at hp C2
  rw [h3] at hp C3
  obtain ⟨R, hR⟩ : ∃ R, R = pOk ⟨k, r, o⟩ := ⟨_, rfl⟩
  rw [← hR]
  rw [← hR] at hp
  have HP := Lib.hid hp; have C1 := Lib.hid C1; have C2 := Lib.hid C2; have C3 := Lib.hid C3
  clear h1 h2 h3 hR hp
  cases B1 with
  | false =>
    have hr : R = false := by rw [HP.out]; rfl
    subst hr
    go_enter Try.func34, Try.ntmps34
    go_wp2_with fail
    refine (C1.out _).mono ?_
    rintro e w' ⟨rfl, rfl⟩
    go_wp2
    go_ret
    exact ⟨by rfl, HB.out⟩
  | true =>
    cases B2 with
    | false =>
      have hr : R = false := by rw [HP.out]; rfl
      subst hr
      go_enter Try.func34, Try.ntmps34
      go_wp2_with fail
      refine (C1.out _).mono ?_
      rintro e w' ⟨rfl, rfl⟩
      go_wp2_with fail
      refine (C2.out _).mono ?_
      rintro e w' ⟨rfl, rfl⟩
      go_wp2
      go_ret
      exact ⟨by rfl, HB.out⟩
    | true =>
      by_cases c3 : k = 3
      · subst c3
        cases B3 with
        | false =>
          have hr : R = false := by rw [HP.out]; rfl
          subst hr
          go_enter Try.func34, Try.ntmps34
          go_wp2_with fail
          refine (C1.out _).mono ?_
          rintro e w' ⟨rfl, rfl⟩
          go_wp2_with fail
          refine (C2.out _).mono ?_
          rintro e w' ⟨rfl, rfl⟩
          go_wp2_with fail
          refine (C3.out _).mono ?_
          rintro e w' ⟨rfl, rfl⟩
          go_wp2
          go_ret
          exact ⟨by rfl, HB.out⟩
        | true =>
          by_cases c4 : o = r
          · have hr : R = false := by rw [HP.out]; simp [c4]
            have d4 : (o != r) = false := by simp [c4]
            clear c4
            subst hr
            go_enter Try.func34, Try.ntmps34
            go_wp2_with fail
            refine (C1.out _).mono ?_
            rintro e w' ⟨rfl, rfl⟩
            go_wp2_with fail
            refine (C2.out _).mono ?_
            rintro e w' ⟨rfl, rfl⟩
            go_wp2_with fail
            refine (C3.out _).mono ?_
            rintro e w' ⟨rfl, rfl⟩
            go_wp2
            go_ret
            exact ⟨by rfl, HB.out⟩
          · have hr : R = true := by rw [HP.out]; simp [c4]
            have d4 : (o != r) = true := by simp [c4]
            clear c4
            subst hr
            go_enter Try.func34, Try.ntmps34
            go_wp2_with fail
            refine (C1.out _).mono ?_
            rintro e w' ⟨rfl, rfl⟩
            go_wp2_with fail
            refine (C2.out _).mono ?_
            rintro e w' ⟨rfl, rfl⟩
            go_wp2_with fail
            refine (C3.out _).mono ?_
            rintro e w' ⟨rfl, rfl⟩
            go_wp2
            go_ret
            exact ⟨by rfl, HB.out⟩
      · have d3 : (k == 3) = false := by simpa using c3
        by_cases c4 : o = -1
        · have hr : R = true := by rw [HP.out, if_neg c3]; simp [c4]
          subst c4
          subst hr
          go_enter Try.func34, Try.ntmps34
          go_wp2_with fail
          refine (C1.out _).mono ?_
          rintro e w' ⟨rfl, rfl⟩
          go_wp2_with fail
          refine (C2.out _).mono ?_
          rintro e w' ⟨rfl, rfl⟩
          go_wp2
          go_ret
          exact ⟨by rfl, HB.out⟩
        · have hr : R = false := by rw [HP.out, if_neg c3]; simp [c4]
          have d4 : (o == -1) = false := by simpa using c4
          clear c4
          subst hr
          go_enter Try.func34, Try.ntmps34
          go_wp2_with fail
          refine (C1.out _).mono ?_
          rintro e w' ⟨rfl, rfl⟩
          go_wp2_with fail
          refine (C2.out _).mono ?_
          rintro e w' ⟨rfl, rfl⟩
          go_wp2
          go_ret
          exact ⟨by rfl, HB.out⟩
end Go.Proofs.Ytbeoldklpklbfaa
