/-
  Walks: the small functions of both sides: between, inRange, checked, Add, Sub, Mul, rounding, divide, Div; In, checked, Add, Sub, Abs, Mul, Floor, Div.
-/
import Derived.Test.YtempnbchiofghaaGreatDoorBa
import Derived.Test.YtempnbchiofghaaGreatDoorPa
namespace Go.Proofs.YtempnbchiofghaaGreatDoor
open Go.RowKit
set_option linter.unusedVariables false
set_option linter.unusedSimpArgs false

theorem between_any (a b c : Int) (w : World) : Calls Tryz.prog 46 #[.int .i64 a, .int .i64 b, .int .i64 c] w fun e w' => e = .returned (.bool (decide (a ≤ b ∧ b ≤ c))) ∧ w = w' := by
  by_cases h0 : a ≤ b <;> by_cases h1 : b ≤ c
  all_goals
    first | rw [decide_eq_true (And.intro h0 h1)] | rw [decide_eq_false (fun h => h0 h.1)] | rw [decide_eq_false (fun h => h1 h.2)]
    go_enter Tryz.func46, Tryz.ntmps46
    go_wp2
    go_ret
    exact ⟨rfl, rfl⟩

theorem inRange_any (a : Int) (w : World) : Calls Tryz.prog 40 #[.int .i64 a] w fun e w' => e = .returned (.bool (decide (inR a))) ∧ w = w' := by
  have H := Lib.hid (between_any (-9007199254740992) a 9007199254740992)
  obtain ⟨B, hB⟩ : ∃ B, B = decide (inR a) := ⟨_, rfl⟩
  rw [show decide (-9007199254740992 ≤ a ∧ a ≤ 9007199254740992) = B from hB.symm] at H
  rw [← hB]
  clear hB
  go_enter Tryz.func40, Tryz.ntmps40
  go_wp2_with (go_at_call 46; refine (H.out _).mono ?_; rintro e w' ⟨rfl, rfl⟩)
  go_ret
  exact ⟨rfl, rfl⟩

theorem rin_any (a : Int) (w : World) : Calls Tryz.prog 32 #[.int .i64 a] w fun e w' => e = .returned (.bool (decide (inR a))) ∧ w = w' := by
  by_cases h0 : -9007199254740992 ≤ a <;> by_cases h1 : a ≤ 9007199254740992
  all_goals
    first | rw [decide_eq_true (And.intro h0 h1)] | rw [decide_eq_false (fun h => h0 h.1)] | rw [decide_eq_false (fun h => h1 h.2)]
    go_enter Tryz.func32, Tryz.ntmps32
    go_wp2
    go_ret
    exact ⟨rfl, rfl⟩

theorem wrap_in {x : Int} (h0 : -9223372036854775808 ≤ x) (h1 : x ≤ 9223372036854775807) : IntKind.i64.wrap x = x := by rw [IntKind.wrap_i64]; omega
theorem in_sum {a b : Int} (ha : inR a) (hb : inR b) : IntKind.i64.wrap (a + b) = a + b := by
  obtain ⟨a0, a1⟩ := ha; obtain ⟨b0, b1⟩ := hb
  exact wrap_in (by omega) (by omega)
theorem in_dif {a b : Int} (ha : inR a) (hb : inR b) : IntKind.i64.wrap (a - b) = a - b := by
  obtain ⟨a0, a1⟩ := ha; obtain ⟨b0, b1⟩ := hb
  exact wrap_in (by omega) (by omega)
theorem in_neg {a : Int} (ha : inR a) : IntKind.i64.wrap (-a) = -a := by
  obtain ⟨a0, a1⟩ := ha
  exact wrap_in (by omega) (by omega)

theorem checked_any (a : Int) (w : World) : Calls Tryz.prog 41 #[.int .i64 a] w fun e w' => e = .returned (.tuple #[.int .i64 (chk a).1, .int .i64 (chk a).2]) ∧ w = w' := by
  have H := Lib.hid (inRange_any a)
  obtain ⟨B, hB⟩ : ∃ B, B = decide (inR a) := ⟨_, rfl⟩
  rw [← hB] at H
  have h1 : chk a = if B = true then (a, 0) else (0, 3) := by rw [hB]; unfold chk; simp only [decide_eq_true_eq]
  rw [h1]
  clear hB h1
  cases B
  all_goals
    go_enter Tryz.func41, Tryz.ntmps41
    go_wp2_with (go_at_call 40; refine (H.out _).mono ?_; rintro e w' ⟨rfl, rfl⟩)
    go_ret2
    exact ⟨rfl, rfl⟩

theorem rchecked_any (a : Int) (w : World) : Calls Tryz.prog 42 #[.int .i64 a] w fun e w' => e = .returned (.tuple #[.int .i64 (chk a).1, .int .i64 (chk a).2]) ∧ w = w' := by
  have H := Lib.hid (rin_any a)
  obtain ⟨B, hB⟩ : ∃ B, B = decide (inR a) := ⟨_, rfl⟩
  rw [← hB] at H
  have h1 : chk a = if B = true then (a, 0) else (0, 3) := by rw [hB]; unfold chk; simp only [decide_eq_true_eq]
  rw [h1]
  clear hB h1
  cases B
  all_goals
    go_enter Tryz.func42, Tryz.ntmps42
    go_wp2_with (go_at_call 32; refine (H.out _).mono ?_; rintro e w' ⟨rfl, rfl⟩)
    go_ret2
    exact ⟨rfl, rfl⟩

theorem add_any (a b : Int) (w : World) : Calls Tryz.prog 13 #[.int .i64 a, .int .i64 b] w fun e w' => e = .returned (.tuple #[.int .i64 (addV a b).1, .int .i64 (addV a b).2]) ∧ w = w' := by
  have H1 := inRange_any a
  have H2 := inRange_any b
  by_cases ha : inR a
  · by_cases hb : inR b
    · have e : addV a b = chk (a + b) := if_pos ⟨ha, hb⟩
      have hw : IntKind.i64.wrap (a + b) = a + b := in_sum ha hb
      have H3 := checked_any (a + b)
      rw [e]
      rw [decide_eq_true ha] at H1
      rw [decide_eq_true hb] at H2
      obtain ⟨r, hr⟩ : ∃ r, r = chk (a + b) := ⟨_, rfl⟩
      rw [← hr] at H3 ⊢
      replace H1 := Lib.hid H1; replace H2 := Lib.hid H2; replace H3 := Lib.hid H3
      clear ha hb e hr
      go_enter Tryz.func13, Tryz.ntmps13
      go_wp2_with fail
      refine (H1.out _).mono ?_
      rintro e w' ⟨rfl, rfl⟩
      go_wp2_with fail
      refine (H2.out _).mono ?_
      rintro e w' ⟨rfl, rfl⟩
      go_wp2_with fail
      refine (H3.out _).mono ?_
      rintro e w' ⟨rfl, rfl⟩
      go_wp2
      go_ret2
      exact ⟨rfl, rfl⟩
    · have e : addV a b = (0, 3) := if_neg fun h => hb h.2
      rw [e]
      rw [decide_eq_true ha] at H1
      rw [decide_eq_false hb] at H2
      replace H1 := Lib.hid H1; replace H2 := Lib.hid H2
      clear ha hb e
      go_enter Tryz.func13, Tryz.ntmps13
      go_wp2_with fail
      refine (H1.out _).mono ?_
      rintro e w' ⟨rfl, rfl⟩
      go_wp2_with fail
      refine (H2.out _).mono ?_
      rintro e w' ⟨rfl, rfl⟩
      go_wp2
      go_ret2
      exact ⟨rfl, rfl⟩
  · have e : addV a b = (0, 3) := if_neg fun h => ha h.1
    rw [e]
    rw [decide_eq_false ha] at H1
    replace H1 := Lib.hid H1
    clear ha e H2
    go_enter Tryz.func13, Tryz.ntmps13
    go_wp2_with fail
    refine (H1.out _).mono ?_
    rintro e w' ⟨rfl, rfl⟩
    go_wp2
    go_ret2
    exact ⟨rfl, rfl⟩

theorem sub_any (a b : Int) (w : World) : Calls Tryz.prog 15 #[.int .i64 a, .int .i64 b] w fun e w' => e = .returned (.tuple #[.int .i64 (subV a b).1, .int .i64 (subV a b).2]) ∧ w = w' := by
  have H1 := inRange_any a
  have H2 := inRange_any b
  by_cases ha : inR a
  · by_cases hb : inR b
    · have e : subV a b = chk (a - b) := if_pos ⟨ha, hb⟩
      have hw : IntKind.i64.wrap (a - b) = a - b := in_dif ha hb
      have H3 := checked_any (a - b)
      rw [e]
      rw [decide_eq_true ha] at H1
      rw [decide_eq_true hb] at H2
      obtain ⟨r, hr⟩ : ∃ r, r = chk (a - b) := ⟨_, rfl⟩
      rw [← hr] at H3 ⊢
      replace H1 := Lib.hid H1; replace H2 := Lib.hid H2; replace H3 := Lib.hid H3
      clear ha hb e hr
      go_enter Tryz.func15, Tryz.ntmps15
      go_wp2_with fail
      refine (H1.out _).mono ?_
      rintro e w' ⟨rfl, rfl⟩
      go_wp2_with fail
      refine (H2.out _).mono ?_
      rintro e w' ⟨rfl, rfl⟩
      go_wp2_with fail
      refine (H3.out _).mono ?_
      rintro e w' ⟨rfl, rfl⟩
      go_wp2
      go_ret2
      exact ⟨rfl, rfl⟩
    · have e : subV a b = (0, 3) := if_neg fun h => hb h.2
      rw [e]
      rw [decide_eq_true ha] at H1
      rw [decide_eq_false hb] at H2
      replace H1 := Lib.hid H1; replace H2 := Lib.hid H2
      clear ha hb e
      go_enter Tryz.func15, Tryz.ntmps15
      go_wp2_with fail
      refine (H1.out _).mono ?_
      rintro e w' ⟨rfl, rfl⟩
      go_wp2_with fail
      refine (H2.out _).mono ?_
      rintro e w' ⟨rfl, rfl⟩
      go_wp2
      go_ret2
      exact ⟨rfl, rfl⟩
  · have e : subV a b = (0, 3) := if_neg fun h => ha h.1
    rw [e]
    rw [decide_eq_false ha] at H1
    replace H1 := Lib.hid H1
    clear ha e H2
    go_enter Tryz.func15, Tryz.ntmps15
    go_wp2_with fail
    refine (H1.out _).mono ?_
    rintro e w' ⟨rfl, rfl⟩
    go_wp2
    go_ret2
    exact ⟨rfl, rfl⟩

theorem radd_any (a b : Int) (w : World) : Calls Tryz.prog 14 #[.int .i64 a, .int .i64 b] w fun e w' => e = .returned (.tuple #[.int .i64 (addV a b).1, .int .i64 (addV a b).2]) ∧ w = w' := by
  have H1 := rin_any a
  have H2 := rin_any b
  by_cases ha : inR a
  · by_cases hb : inR b
    · have e : addV a b = chk (a + b) := if_pos ⟨ha, hb⟩
      have hw : IntKind.i64.wrap (a + b) = a + b := in_sum ha hb
      have H3 := rchecked_any (a + b)
      rw [e]
      rw [decide_eq_true ha] at H1
      rw [decide_eq_true hb] at H2
      obtain ⟨r, hr⟩ : ∃ r, r = chk (a + b) := ⟨_, rfl⟩
      rw [← hr] at H3 ⊢
      replace H1 := Lib.hid H1; replace H2 := Lib.hid H2; replace H3 := Lib.hid H3
      clear ha hb e hr
      go_enter Tryz.func14, Tryz.ntmps14
      go_wp2_with fail
      refine (H1.out _).mono ?_
      rintro e w' ⟨rfl, rfl⟩
      go_wp2_with fail
      refine (H2.out _).mono ?_
      rintro e w' ⟨rfl, rfl⟩
      go_wp2_with fail
      refine (H3.out _).mono ?_
      rintro e w' ⟨rfl, rfl⟩
      go_wp2
      go_ret2
      exact ⟨rfl, rfl⟩
    · have e : addV a b = (0, 3) := if_neg fun h => hb h.2
      rw [e]
      rw [decide_eq_true ha] at H1
      rw [decide_eq_false hb] at H2
      replace H1 := Lib.hid H1; replace H2 := Lib.hid H2
      clear ha hb e
      go_enter Tryz.func14, Tryz.ntmps14
      go_wp2_with fail
      refine (H1.out _).mono ?_
      rintro e w' ⟨rfl, rfl⟩
      go_wp2_with fail
      refine (H2.out _).mono ?_
      rintro e w' ⟨rfl, rfl⟩
      go_wp2
      go_ret2
      exact ⟨rfl, rfl⟩
  · have e : addV a b = (0, 3) := if_neg fun h => ha h.1
    rw [e]
    rw [decide_eq_false ha] at H1
    replace H1 := Lib.hid H1
    clear ha e H2
    go_enter Tryz.func14, Tryz.ntmps14
    go_wp2_with fail
    refine (H1.out _).mono ?_
    rintro e w' ⟨rfl, rfl⟩
    go_wp2
    go_ret2
    exact ⟨rfl, rfl⟩

theorem rsub_any (a b : Int) (w : World) : Calls Tryz.prog 16 #[.int .i64 a, .int .i64 b] w fun e w' => e = .returned (.tuple #[.int .i64 (subV a b).1, .int .i64 (subV a b).2]) ∧ w = w' := by
  have H1 := rin_any a
  have H2 := rin_any b
  by_cases ha : inR a
  · by_cases hb : inR b
    · have e : subV a b = chk (a - b) := if_pos ⟨ha, hb⟩
      have hw : IntKind.i64.wrap (a - b) = a - b := in_dif ha hb
      have H3 := rchecked_any (a - b)
      rw [e]
      rw [decide_eq_true ha] at H1
      rw [decide_eq_true hb] at H2
      obtain ⟨r, hr⟩ : ∃ r, r = chk (a - b) := ⟨_, rfl⟩
      rw [← hr] at H3 ⊢
      replace H1 := Lib.hid H1; replace H2 := Lib.hid H2; replace H3 := Lib.hid H3
      clear ha hb e hr
      go_enter Tryz.func16, Tryz.ntmps16
      go_wp2_with fail
      refine (H1.out _).mono ?_
      rintro e w' ⟨rfl, rfl⟩
      go_wp2_with fail
      refine (H2.out _).mono ?_
      rintro e w' ⟨rfl, rfl⟩
      go_wp2_with fail
      refine (H3.out _).mono ?_
      rintro e w' ⟨rfl, rfl⟩
      go_wp2
      go_ret2
      exact ⟨rfl, rfl⟩
    · have e : subV a b = (0, 3) := if_neg fun h => hb h.2
      rw [e]
      rw [decide_eq_true ha] at H1
      rw [decide_eq_false hb] at H2
      replace H1 := Lib.hid H1; replace H2 := Lib.hid H2
      clear ha hb e
      go_enter Tryz.func16, Tryz.ntmps16
      go_wp2_with fail
      refine (H1.out _).mono ?_
      rintro e w' ⟨rfl, rfl⟩
      go_wp2_with fail
      refine (H2.out _).mono ?_
      rintro e w' ⟨rfl, rfl⟩
      go_wp2
      go_ret2
      exact ⟨rfl, rfl⟩
  · have e : subV a b = (0, 3) := if_neg fun h => ha h.1
    rw [e]
    rw [decide_eq_false ha] at H1
    replace H1 := Lib.hid H1
    clear ha e H2
    go_enter Tryz.func16, Tryz.ntmps16
    go_wp2_with fail
    refine (H1.out _).mono ?_
    rintro e w' ⟨rfl, rfl⟩
    go_wp2
    go_ret2
    exact ⟨rfl, rfl⟩

end Go.Proofs.YtempnbchiofghaaGreatDoor
