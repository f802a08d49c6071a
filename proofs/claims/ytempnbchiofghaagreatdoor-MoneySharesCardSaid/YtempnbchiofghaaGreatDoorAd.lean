/-
  Walks: Div of both sides.
-/
import Derived.Test.YtempnbchiofghaaGreatDoorAc
namespace Go.Proofs.YtempnbchiofghaaGreatDoor
open Go.RowKit
set_option linter.unusedVariables false
set_option linter.unusedSimpArgs false

theorem q8 (a b : Int) (hb : 0 < b) : (2 * a + 0) / (2 * b) = a / b := by
  rw [Int.add_zero]
  exact Int.mul_ediv_mul_of_pos a b (by decide)
theorem q9 (a b : Int) (hb : 0 < b) : (2 * a + (b - 1 + b)) / (2 * b) = -((-a) / b) := by
  have h1 := Int.mul_ediv_add_emod (-a) b
  have h3 := Int.emod_nonneg (-a) (Int.ne_of_gt hb)
  have h4 := Int.emod_lt_of_pos (-a) hb
  generalize (-a) / b = q at *
  generalize (-a) % b = r at *
  refine ((Int.ediv_emod_unique (by omega) (r := 2 * b - 1 - 2 * r)).2 ⟨?_, by omega, by omega⟩).1
  have e : 2 * b * -q = -(2 * (b * q)) := by rw [Int.mul_neg, Int.mul_assoc]
  rw [e]
  omega

/-- The quotient that the program computes. -/
theorem divQ_lift {a b mode : Int} (hm : isMode mode) (ha : inR a) (hb : inR b) (h0 : 0 < b) : divQ a b mode = (2 * a + (lift b mode).1) / (2 * b) ∧ (lift b mode).2 = 0 ∧ I64 (2 * a + (lift b mode).1) ∧ -9223372036854775808 < 2 * a + (lift b mode).1 := by
  obtain ⟨a0, a1⟩ := ha
  obtain ⟨b0, b1⟩ := hb
  have w1 : IntKind.i64.wrap (b - 1) = b - 1 := wrap_in (by omega) (by omega)
  have w2 : IntKind.i64.wrap (b - 1 + b) = b - 1 + b := wrap_in (by omega) (by omega)
  unfold divQ lift
  rcases hm with rfl | rfl | rfl
  · rw [if_pos rfl, if_pos rfl]
    refine ⟨(q8 a b h0).symm, rfl, ?_, by simp only; omega⟩
    unfold I64; simp only; omega
  · rw [if_neg (by decide), if_pos rfl, if_neg (by decide), if_pos rfl]
    simp only [w1, w2]
    refine ⟨(q9 a b h0).symm, trivial, ?_, by omega⟩
    unfold I64; omega
  · rw [if_neg (by decide), if_neg (by decide), if_neg (by decide), if_neg (by decide), if_pos rfl]
    refine ⟨rfl, rfl, ?_, by simp only; omega⟩
    unfold I64; simp only; omega
theorem lift_bad {b mode : Int} (hm : ¬ isMode mode) : lift b mode = (0, 1) := by
  unfold lift
  rw [if_neg (fun h => hm (Or.inl h)), if_neg (fun h => hm (Or.inr (Or.inl h))), if_neg (fun h => hm (Or.inr (Or.inr h)))]
theorem lift_ok {b mode : Int} (hm : isMode mode) : (lift b mode).2 = 0 := by
  unfold lift
  rcases hm with rfl | rfl | rfl <;> rfl

theorem div_any (a b mode : Int) (hbI : I64 b) (w : World) : Calls Tryz.prog 19 #[.int .i64 a, .int .i64 b, .int .i64 mode] w fun e w' => e = .returned (.tuple #[.int .i64 (divV a b mode).1, .int .i64 (divV a b mode).2]) ∧ w = w' := by
  have H1 := inRange_any a
  have H2 := inRange_any b
  have H0 := rounding_any b mode hbI
  unfold divV
  by_cases hm : isMode mode
  · rw [if_pos hm]
    have hl := lift_ok (b := b) hm
    by_cases ha : inR a
    · by_cases hb : inR b
      · rw [if_pos (And.intro ha hb)]
        rw [decide_eq_true ha] at H1
        rw [decide_eq_true hb] at H2
        by_cases h0 : b ≤ 0
        · rw [if_pos h0]
          obtain ⟨L, hL⟩ : ∃ L, (lift b mode).1 = L := ⟨_, rfl⟩
          rw [hL, hl] at H0
          replace H0 := Lib.hid H0; replace H1 := Lib.hid H1; replace H2 := Lib.hid H2
          clear hm hl ha hb hL hbI
          go_enter Tryz.func19, Tryz.ntmps19
          go_wp2_with fail
          refine (H0.out _).mono ?_
          rintro e w' ⟨rfl, rfl⟩
          go_wp2_with fail
          refine (H1.out _).mono ?_
          rintro e w' ⟨rfl, rfl⟩
          go_wp2_with fail
          refine (H2.out _).mono ?_
          rintro e w' ⟨rfl, rfl⟩
          go_wp2
          go_ret2
          exact ⟨rfl, rfl⟩
        · rw [if_neg h0]
          obtain ⟨e1, e2, e3, e4⟩ := divQ_lift hm ha hb (by omega)
          have hw1 : IntKind.i64.wrap (2 * b) = 2 * b := by
            obtain ⟨b0, b1⟩ := hb
            exact wrap_in (by omega) (by omega)
          have hw2 : IntKind.i64.wrap (2 * a) = 2 * a := by
            obtain ⟨a0, a1⟩ := ha
            exact wrap_in (by omega) (by omega)
          have hw3 : IntKind.i64.wrap (2 * a + (lift b mode).1) = 2 * a + (lift b mode).1 := wrap_in e3.1 e3.2
          have H3 := divide_any (2 * a + (lift b mode).1) (2 * b) e3 (by omega) e4
          rw [e1]
          obtain ⟨L, hL⟩ : ∃ L, (lift b mode).1 = L := ⟨_, rfl⟩
          rw [e2] at H0
          rw [hL] at H0 H3 hw3 ⊢
          obtain ⟨Q, hQ⟩ : ∃ Q, (2 * a + L) / (2 * b) = Q := ⟨_, rfl⟩
          rw [hQ] at H3 ⊢
          replace H0 := Lib.hid H0; replace H1 := Lib.hid H1; replace H2 := Lib.hid H2; replace H3 := Lib.hid H3
          clear hm hl ha hb hL hbI e1 e2 e3 e4 hQ
          go_enter Tryz.func19, Tryz.ntmps19
          go_wp2_with fail
          refine (H0.out _).mono ?_
          rintro e w' ⟨rfl, rfl⟩
          go_wp2_with fail
          refine (H1.out _).mono ?_
          rintro e w' ⟨rfl, rfl⟩
          go_wp2_with fail
          refine (H2.out _).mono ?_
          rintro e w' ⟨rfl, rfl⟩
          go_wp2_with fail
          refine (H3.out _).mono ?_
          rintro e w' ⟨rfl, rfl⟩
          go_wp2
          go_ret2
          exact ⟨rfl, rfl⟩
      · rw [if_neg (fun h => hb h.2)]
        rw [decide_eq_true ha] at H1
        rw [decide_eq_false hb] at H2
        obtain ⟨L, hL⟩ : ∃ L, (lift b mode).1 = L := ⟨_, rfl⟩
        rw [hL, hl] at H0
        replace H0 := Lib.hid H0; replace H1 := Lib.hid H1; replace H2 := Lib.hid H2
        clear hm hl ha hb hL hbI
        go_enter Tryz.func19, Tryz.ntmps19
        go_wp2_with fail
        refine (H0.out _).mono ?_
        rintro e w' ⟨rfl, rfl⟩
        go_wp2_with fail
        refine (H1.out _).mono ?_
        rintro e w' ⟨rfl, rfl⟩
        go_wp2_with fail
        refine (H2.out _).mono ?_
        rintro e w' ⟨rfl, rfl⟩
        go_wp2
        go_ret2
        exact ⟨rfl, rfl⟩
    · rw [if_neg (fun h => ha h.1)]
      rw [decide_eq_false ha] at H1
      obtain ⟨L, hL⟩ : ∃ L, (lift b mode).1 = L := ⟨_, rfl⟩
      rw [hL, hl] at H0
      replace H0 := Lib.hid H0; replace H1 := Lib.hid H1
      clear hm hl ha hL hbI H2
      go_enter Tryz.func19, Tryz.ntmps19
      go_wp2_with fail
      refine (H0.out _).mono ?_
      rintro e w' ⟨rfl, rfl⟩
      go_wp2_with fail
      refine (H1.out _).mono ?_
      rintro e w' ⟨rfl, rfl⟩
      go_wp2
      go_ret2
      exact ⟨rfl, rfl⟩
  · rw [if_neg hm]
    rw [lift_bad hm] at H0
    replace H0 := Lib.hid H0
    clear hm hbI H1 H2
    go_enter Tryz.func19, Tryz.ntmps19
    go_wp2_with fail
    refine (H0.out _).mono ?_
    rintro e w' ⟨rfl, rfl⟩
    go_wp2
    go_ret2
    exact ⟨rfl, rfl⟩

theorem rdiv_any (a b mode : Int) (w : World) : Calls Tryz.prog 20 #[.int .i64 a, .int .i64 b, .int .i64 mode] w fun e w' => e = .returned (.tuple #[.int .i64 (divV a b mode).1, .int .i64 (divV a b mode).2]) ∧ w = w' := by
  have H1 := rin_any a
  have H2 := rin_any b
  unfold divV
  by_cases hm : isMode mode
  · rw [if_pos hm]
    have m0 : 8 ≤ mode := by rcases hm with rfl | rfl | rfl <;> decide
    have m1 : mode ≤ 10 := by rcases hm with rfl | rfl | rfl <;> decide
    by_cases ha : inR a
    · by_cases hb : inR b
      · rw [if_pos (And.intro ha hb)]
        rw [decide_eq_true ha] at H1
        rw [decide_eq_true hb] at H2
        by_cases h0 : b ≤ 0
        · rw [if_pos h0]
          replace H1 := Lib.hid H1; replace H2 := Lib.hid H2
          clear hm ha hb
          go_enter Tryz.func20, Tryz.ntmps20
          go_wp2_with fail
          refine (H1.out _).mono ?_
          rintro e w' ⟨rfl, rfl⟩
          go_wp2_with fail
          refine (H2.out _).mono ?_
          rintro e w' ⟨rfl, rfl⟩
          go_wp2
          go_ret2
          exact ⟨rfl, rfl⟩
        · rw [if_neg h0]
          unfold divQ
          obtain ⟨a0, a1⟩ := ha
          obtain ⟨b0, b1⟩ := hb
          have ia : I64 a := ⟨by omega, by omega⟩
          clear m0 m1
          rcases hm with rfl | rfl | rfl
          · rw [if_pos rfl]
            have H3 := floor_any a b ia (by omega) (by omega)
            obtain ⟨Q, hQ⟩ : ∃ Q, a / b = Q := ⟨_, rfl⟩
            rw [hQ] at H3 ⊢
            replace H1 := Lib.hid H1; replace H2 := Lib.hid H2; replace H3 := Lib.hid H3
            clear a0 a1 b0 b1 ia hQ
            go_enter Tryz.func20, Tryz.ntmps20
            go_wp2_with fail
            refine (H1.out _).mono ?_
            rintro e w' ⟨rfl, rfl⟩
            go_wp2_with fail
            refine (H2.out _).mono ?_
            rintro e w' ⟨rfl, rfl⟩
            go_wp2_with fail
            refine (H3.out _).mono ?_
            rintro e w' ⟨rfl, rfl⟩
            go_wp2
            go_ret2
            exact ⟨rfl, rfl⟩
          · rw [if_neg (by decide), if_pos rfl]
            have H3 := floor_any (-a) b ⟨by omega, by omega⟩ (by omega) (by omega)
            have hw : IntKind.i64.wrap (-a) = -a := wrap_in (by omega) (by omega)
            have hw2 : IntKind.i64.wrap (-((-a) / b)) = -((-a) / b) := by
              have h1 := tdiv_abs (-a) b
              have h2 := floor_t (-a) b (by omega)
              split at h2
              · exact wrap_in (by omega) (by omega)
              · exact wrap_in (by omega) (by omega)
            obtain ⟨Q, hQ⟩ : ∃ Q, (-a) / b = Q := ⟨_, rfl⟩
            rw [hQ] at H3 hw2 ⊢
            obtain ⟨A, hA⟩ : ∃ A, -a = A := ⟨_, rfl⟩
            rw [hA] at H3 hw
            replace H1 := Lib.hid H1; replace H2 := Lib.hid H2; replace H3 := Lib.hid H3
            clear a0 a1 b0 b1 ia hQ
            go_enter Tryz.func20, Tryz.ntmps20
            go_wp2_with fail
            refine (H1.out _).mono ?_
            rintro e w' ⟨rfl, rfl⟩
            go_wp2_with fail
            refine (H2.out _).mono ?_
            rintro e w' ⟨rfl, rfl⟩
            go_wp2_with fail
            refine (H3.out _).mono ?_
            rintro e w' ⟨rfl, rfl⟩
            go_wp2
            go_ret2
            exact ⟨rfl, rfl⟩
          · rw [if_neg (by decide), if_neg (by decide)]
            have H3 := floor_any (2 * a + b) (2 * b) ⟨by omega, by omega⟩ (by omega) (by omega)
            have hw1 : IntKind.i64.wrap (2 * a) = 2 * a := wrap_in (by omega) (by omega)
            have hw2 : IntKind.i64.wrap (2 * a + b) = 2 * a + b := wrap_in (by omega) (by omega)
            have hw3 : IntKind.i64.wrap (2 * b) = 2 * b := wrap_in (by omega) (by omega)
            obtain ⟨Q, hQ⟩ : ∃ Q, (2 * a + b) / (2 * b) = Q := ⟨_, rfl⟩
            rw [hQ] at H3 ⊢
            replace H1 := Lib.hid H1; replace H2 := Lib.hid H2; replace H3 := Lib.hid H3
            clear a0 a1 b0 b1 ia hQ
            go_enter Tryz.func20, Tryz.ntmps20
            go_wp2_with fail
            refine (H1.out _).mono ?_
            rintro e w' ⟨rfl, rfl⟩
            go_wp2_with fail
            refine (H2.out _).mono ?_
            rintro e w' ⟨rfl, rfl⟩
            go_wp2_with fail
            refine (H3.out _).mono ?_
            rintro e w' ⟨rfl, rfl⟩
            go_wp2
            go_ret2
            exact ⟨rfl, rfl⟩
      · rw [if_neg (fun h => hb h.2)]
        rw [decide_eq_true ha] at H1
        rw [decide_eq_false hb] at H2
        replace H1 := Lib.hid H1; replace H2 := Lib.hid H2
        clear hm ha hb
        go_enter Tryz.func20, Tryz.ntmps20
        go_wp2_with fail
        refine (H1.out _).mono ?_
        rintro e w' ⟨rfl, rfl⟩
        go_wp2_with fail
        refine (H2.out _).mono ?_
        rintro e w' ⟨rfl, rfl⟩
        go_wp2
        go_ret2
        exact ⟨rfl, rfl⟩
    · rw [if_neg (fun h => ha h.1)]
      rw [decide_eq_false ha] at H1
      replace H1 := Lib.hid H1
      clear hm ha H2
      go_enter Tryz.func20, Tryz.ntmps20
      go_wp2_with fail
      refine (H1.out _).mono ?_
      rintro e w' ⟨rfl, rfl⟩
      go_wp2
      go_ret2
      exact ⟨rfl, rfl⟩
  · rw [if_neg hm]
    have m : mode < 8 ∨ 10 < mode := by
      rcases Int.lt_or_le mode 8 with h | h
      · exact Or.inl h
      · refine Or.inr (Int.not_le.1 fun h2 => hm ?_)
        unfold isMode
        omega
    clear hm H1 H2
    rcases m with m | m
    · go_enter Tryz.func20, Tryz.ntmps20
      go_wp2
      go_ret2
      exact ⟨rfl, rfl⟩
    · have m0 : 8 ≤ mode := by omega
      go_enter Tryz.func20, Tryz.ntmps20
      go_wp2
      go_ret2
      exact ⟨rfl, rfl⟩
end Go.Proofs.YtempnbchiofghaaGreatDoor
