/-
  Walks: Mul and Div of both sides.
-/
import Derived.Test.YtempnbchiofghaaGreatDoorAb
namespace Go.Proofs.YtempnbchiofghaaGreatDoor
open Go.RowKit
set_option linter.unusedVariables false
set_option linter.unusedSimpArgs false

theorem wrap_mod (x : Int) : ∃ k : Int, IntKind.i64.wrap x = x + k * 18446744073709551616 := by
  rw [IntKind.wrap_i64]
  refine ⟨-((x + 9223372036854775808) / 18446744073709551616), ?_⟩
  omega
theorem wrap_bnd (x : Int) : -9223372036854775808 ≤ IntKind.i64.wrap x ∧ IntKind.i64.wrap x ≤ 9223372036854775807 := by
  rw [IntKind.wrap_i64]; omega

theorem mul_any (a b : Int) (w : World) : Calls Tryz.prog 17 #[.int .i64 a, .int .i64 b] w fun e w' => e = .returned (.tuple #[.int .i64 (mulV a b).1, .int .i64 (mulV a b).2]) ∧ w = w' := by
  have H1 := inRange_any a
  have H2 := inRange_any b
  by_cases ha : inR a
  · by_cases hb : inR b
    · have e : mulV a b = chk (a * b) := if_pos ⟨ha, hb⟩
      rw [e]
      rw [decide_eq_true ha] at H1
      rw [decide_eq_true hb] at H2
      replace H1 := Lib.hid H1; replace H2 := Lib.hid H2
      by_cases h0 : a = 0
      · subst h0
        have hz : (0 : Int) * b = 0 := Int.zero_mul b
        rw [hz]
        have hz2 : IntKind.i64.wrap 0 = 0 := rfl
        have H3 := Lib.hid (checked_any 0)
        obtain ⟨r, hr⟩ : ∃ r, r = chk 0 := ⟨_, rfl⟩
        rw [← hr] at H3 ⊢
        clear ha hb e hr
        go_enter Tryz.func17, Tryz.ntmps17
        go_wp2_with fail
        refine (H1.out _).mono ?_
        rintro e w' ⟨rfl, rfl⟩
        go_wp2_with fail
        refine (H2.out _).mono ?_
        rintro e w' ⟨rfl, rfl⟩
        go_wp2_with fail
        refine (H3.out _).mono ?_
        rintro e w' ⟨rfl, rfl⟩
        go_wp2
        go_ret2
        exact ⟨rfl, rfl⟩
      · obtain ⟨P, hP⟩ : ∃ P, IntKind.i64.wrap (a * b) = P := ⟨_, rfl⟩
        obtain ⟨Q, hQ⟩ : ∃ Q, P.tdiv a = Q := ⟨_, rfl⟩
        have hs := mul_seen ha hb h0 P (by rw [← hP]; exact wrap_mod _) (by rw [← hP]; exact wrap_bnd _)
        rw [hQ] at hs
        have hq : IntKind.i64.wrap Q = Q := by
          have h1 := tdiv_abs P a
          have h2 := wrap_bnd (a * b)
          rw [hP] at h2
          rw [hQ] at h1
          by_cases hb1 : Q = 9223372036854775808
          · exfalso
            have h3 := Int.mul_tdiv_add_tmod P a
            rw [hQ, hb1] at h3
            have h4 : (P.tmod a).natAbs < a.natAbs := by
              rw [Int.natAbs_tmod]
              exact Nat.mod_lt _ (by omega)
            have h5 : P = -9223372036854775808 ∧ a = -1 := by
              obtain ⟨a0, a1⟩ := ha
              omega
            obtain ⟨h6, h7⟩ := h5
            subst h7
            obtain ⟨b0, b1⟩ := hb
            rw [IntKind.wrap_i64] at hP
            omega
          · exact wrap_in (by omega) (by omega)
        by_cases hc : Q = b
        · have hPP := hs.1 hc
          rw [← hPP]
          have H3 := Lib.hid (checked_any P)
          obtain ⟨r, hr⟩ : ∃ r, r = chk P := ⟨_, rfl⟩
          rw [← hr] at H3 ⊢
          clear ha hb e hr hs hPP
          subst hc
          have t0 : (a != 0) = true := by simpa using h0
          have t1 : (Q != Q) = false := by simp
          go_enter Tryz.func17, Tryz.ntmps17
          go_wp2_with fail
          refine (H1.out _).mono ?_
          rintro e w' ⟨rfl, rfl⟩
          go_wp2_with fail
          refine (H2.out _).mono ?_
          rintro e w' ⟨rfl, rfl⟩
          go_wp2_with fail
          refine (H3.out _).mono ?_
          rintro e w' ⟨rfl, rfl⟩
          go_wp2
          go_ret2
          exact ⟨rfl, rfl⟩
        · have hne : ¬ inR (a * b) := by
            intro hi
            obtain ⟨i0, i1⟩ := hi
            exact hc (hs.2 (by rw [← hP]; exact wrap_in (by omega) (by omega)))
          have e2 : chk (a * b) = (0, 3) := if_neg hne
          rw [e2]
          have t0 : (a != 0) = true := by simpa using h0
          have t1 : (Q != b) = true := by simpa using hc
          clear ha hb e hs hne e2
          go_enter Tryz.func17, Tryz.ntmps17
          go_wp2_with fail
          refine (H1.out _).mono ?_
          rintro e w' ⟨rfl, rfl⟩
          go_wp2_with fail
          refine (H2.out _).mono ?_
          rintro e w' ⟨rfl, rfl⟩
          go_wp2
          go_ret2
          exact ⟨rfl, rfl⟩
    · have e : mulV a b = (0, 3) := if_neg fun h => hb h.2
      rw [e]
      rw [decide_eq_true ha] at H1
      rw [decide_eq_false hb] at H2
      replace H1 := Lib.hid H1; replace H2 := Lib.hid H2
      clear ha hb e
      go_enter Tryz.func17, Tryz.ntmps17
      go_wp2_with fail
      refine (H1.out _).mono ?_
      rintro e w' ⟨rfl, rfl⟩
      go_wp2_with fail
      refine (H2.out _).mono ?_
      rintro e w' ⟨rfl, rfl⟩
      go_wp2
      go_ret2
      exact ⟨rfl, rfl⟩
  · have e : mulV a b = (0, 3) := if_neg fun h => ha h.1
    rw [e]
    rw [decide_eq_false ha] at H1
    replace H1 := Lib.hid H1
    clear ha e H2
    go_enter Tryz.func17, Tryz.ntmps17
    go_wp2_with fail
    refine (H1.out _).mono ?_
    rintro e w' ⟨rfl, rfl⟩
    go_wp2
    go_ret2
    exact ⟨rfl, rfl⟩

theorem absI_nat (a : Int) : absI a = (a.natAbs : Int) := by
  unfold absI
  by_cases h : a < 0
  · rw [if_pos h]; omega
  · rw [if_neg h]; omega
/-- The reference's test of a product. -/
theorem big_mul {a b : Int} (h0 : a ≠ 0) : 9007199254740992 / absI a < absI b ↔ ¬ inR (a * b) := by
  rw [absI_nat, absI_nat]
  have h1 : (9007199254740992 : Int) / (a.natAbs : Int) = ((9007199254740992 / a.natAbs : Nat) : Int) := rfl
  rw [h1]
  have h2 := Nat.div_lt_iff_lt_mul (x := 9007199254740992) (y := b.natAbs) (k := a.natAbs) (by omega)
  have h3 := Int.natAbs_mul a b
  rw [Nat.mul_comm] at h3
  constructor
  · intro h hi
    have h4 := h2.1 (by omega)
    obtain ⟨i0, i1⟩ := hi
    omega
  · intro h
    have : 9007199254740992 < b.natAbs * a.natAbs := by
      refine Nat.not_le.1 fun hle => h ⟨by omega, by omega⟩
    have := h2.2 this
    omega

theorem rmul_any (a b : Int) (w : World) : Calls Tryz.prog 18 #[.int .i64 a, .int .i64 b] w fun e w' => e = .returned (.tuple #[.int .i64 (mulV a b).1, .int .i64 (mulV a b).2]) ∧ w = w' := by
  have H1 := rin_any a
  have H2 := rin_any b
  by_cases ha : inR a
  · by_cases hb : inR b
    · have e : mulV a b = chk (a * b) := if_pos ⟨ha, hb⟩
      rw [e]
      rw [decide_eq_true ha] at H1
      rw [decide_eq_true hb] at H2
      replace H1 := Lib.hid H1; replace H2 := Lib.hid H2
      by_cases h0 : a = 0
      · subst h0
        have hz : (0 : Int) * b = 0 := Int.zero_mul b
        rw [hz]
        have hz2 : IntKind.i64.wrap 0 = 0 := rfl
        have er : chk 0 = (0, 0) := rfl
        rw [er]
        clear ha hb e er
        go_enter Tryz.func18, Tryz.ntmps18
        go_wp2_with fail
        refine (H1.out _).mono ?_
        rintro e w' ⟨rfl, rfl⟩
        go_wp2_with fail
        refine (H2.out _).mono ?_
        rintro e w' ⟨rfl, rfl⟩
        go_wp2
        go_ret2
        exact ⟨rfl, rfl⟩
      · have HA := Lib.hid (abs_any a ha)
        have HB := Lib.hid (abs_any b hb)
        have hbig := big_mul (a := a) (b := b) h0
        have hA0 : absI a ≠ 0 := by rw [absI_nat]; omega
        have hA1 : 0 < absI a := by rw [absI_nat]; omega
        have hqt : (9007199254740992 : Int).tdiv (absI a) = 9007199254740992 / absI a := Int.tdiv_eq_ediv_of_nonneg (by decide)
        have hq : IntKind.i64.wrap ((9007199254740992 : Int).tdiv (absI a)) = 9007199254740992 / absI a := by
          rw [← hqt]
          exact tdiv_bnd (b := absI a) ⟨by decide, by decide⟩ hA1
        obtain ⟨A, hA⟩ : ∃ A, absI a = A := ⟨_, rfl⟩
        obtain ⟨B, hB⟩ : ∃ B, absI b = B := ⟨_, rfl⟩
        obtain ⟨Q, hQ⟩ : ∃ Q, (9007199254740992 : Int) / A = Q := ⟨_, rfl⟩
        simp only [hA, hB, hQ] at HA HB hbig hA0 hq
        by_cases hc : inR (a * b)
        · have e2 : chk (a * b) = (a * b, 0) := if_pos hc
          have hw : IntKind.i64.wrap (a * b) = a * b := by
            obtain ⟨c0, c1⟩ := hc
            exact wrap_in (by omega) (by omega)
          have hlt : ¬ Q < B := fun h => hbig.1 h hc
          rw [e2]
          obtain ⟨M, hM⟩ : ∃ M, a * b = M := ⟨_, rfl⟩
          simp only [hM] at hw ⊢
          clear ha hb e hbig hc e2 hA hB hQ hA1 hqt
          go_enter Tryz.func18, Tryz.ntmps18
          go_wp2_with fail
          refine (H1.out _).mono ?_
          rintro e w' ⟨rfl, rfl⟩
          go_wp2_with fail
          refine (H2.out _).mono ?_
          rintro e w' ⟨rfl, rfl⟩
          go_wp2_with fail
          refine (HB.out _).mono ?_
          rintro e w' ⟨rfl, rfl⟩
          go_wp2_with fail
          refine (HA.out _).mono ?_
          rintro e w' ⟨rfl, rfl⟩
          go_wp2
          go_ret2
          exact ⟨rfl, rfl⟩
        · have e2 : chk (a * b) = (0, 3) := if_neg hc
          have hlt : Q < B := hbig.2 hc
          rw [e2]
          clear ha hb e hbig hc e2 hA hB hQ hA1 hqt
          go_enter Tryz.func18, Tryz.ntmps18
          go_wp2_with fail
          refine (H1.out _).mono ?_
          rintro e w' ⟨rfl, rfl⟩
          go_wp2_with fail
          refine (H2.out _).mono ?_
          rintro e w' ⟨rfl, rfl⟩
          go_wp2_with fail
          refine (HB.out _).mono ?_
          rintro e w' ⟨rfl, rfl⟩
          go_wp2_with fail
          refine (HA.out _).mono ?_
          rintro e w' ⟨rfl, rfl⟩
          go_wp2
          go_ret2
          exact ⟨rfl, rfl⟩
    · have e : mulV a b = (0, 3) := if_neg fun h => hb h.2
      rw [e]
      rw [decide_eq_true ha] at H1
      rw [decide_eq_false hb] at H2
      replace H1 := Lib.hid H1; replace H2 := Lib.hid H2
      clear ha hb e
      go_enter Tryz.func18, Tryz.ntmps18
      go_wp2_with fail
      refine (H1.out _).mono ?_
      rintro e w' ⟨rfl, rfl⟩
      go_wp2_with fail
      refine (H2.out _).mono ?_
      rintro e w' ⟨rfl, rfl⟩
      go_wp2
      go_ret2
      exact ⟨rfl, rfl⟩
  · have e : mulV a b = (0, 3) := if_neg fun h => ha h.1
    rw [e]
    rw [decide_eq_false ha] at H1
    replace H1 := Lib.hid H1
    clear ha e H2
    go_enter Tryz.func18, Tryz.ntmps18
    go_wp2_with fail
    refine (H1.out _).mono ?_
    rintro e w' ⟨rfl, rfl⟩
    go_wp2
    go_ret2
    exact ⟨rfl, rfl⟩
end Go.Proofs.YtempnbchiofghaaGreatDoor
