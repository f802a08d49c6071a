/-
  Walks: Worth of both sides.
-/
import Derived.Test.YtempnbchiofghaaGreatDoorEf
namespace Go.Proofs.YtempnbchiofghaaGreatDoor
open Go.RowKit
set_option linter.unusedVariables false
set_option linter.unusedSimpArgs false

/-- Valid depreciations: worth, built, at, life, floor. -/
abbrev okW (a b c d f : Int) : Prop := (0 ≤ a ∧ a ≤ 9007199254740992) ∧ (0 ≤ b ∧ b ≤ 1073741824) ∧ (0 ≤ c ∧ c ≤ 1073741824) ∧ (1 ≤ d ∧ d ≤ 1073741824) ∧ (0 ≤ f ∧ f ≤ 100)
def leastW (a f : Int) : Int := (a * f + 99) / 100
def valW (a b c d f : Int) : Int := if c ≤ b then a else if d ≤ c - b then leastW a f else max (leastW a f) (a - a * (c - b) / d)
def worthV (a b c d f : Int) : Int × Int := if okW a b c d f then (valW a b c d f, 0) else (0, 1)
theorem least_bnd {a f : Int} (a0 : 0 ≤ a) (a1 : a ≤ 9007199254740992) (f0 : 0 ≤ f) (f1 : f ≤ 100) : 0 ≤ a * f ∧ a * f ≤ 900719925474099200 ∧ 0 ≤ leastW a f ∧ leastW a f ≤ a := by
  have h0 : 0 ≤ a * f := Int.mul_nonneg a0 f0
  have h1 : a * f ≤ a * 100 := Int.mul_le_mul_of_nonneg_left f1 a0
  unfold leastW
  omega

set_option maxRecDepth 100000 in
set_option maxHeartbeats 8000000 in
theorem worth_any (a b c d f : Int) (w : World) : Calls Tryz.prog 27 #[.int .i64 a, .int .i64 b, .int .i64 c, .int .i64 d, .int .i64 f] w fun e w' => e = .returned (.tuple #[.int .i64 (worthV a b c d f).1, .int .i64 (worthV a b c d f).2]) ∧ Below w.heap.size w w' := by
  have H1 := between_any 0 a 9007199254740992
  have H2 := between_any 0 b 1073741824
  have H3 := between_any 0 c 1073741824
  have H4 := between_any 1 d 1073741824
  have H5 := between_any 0 f 100
  by_cases h1 : 0 ≤ a ∧ a ≤ 9007199254740992
  rotate_left
  · have e : worthV a b c d f = (0, 1) := if_neg (fun h => h1 h.1)
    rw [e]
    rw [decide_eq_false h1] at H1
    replace H1 := Lib.hid H1
    clear e h1 H2 H3 H4 H5
    go_enter Tryz.func27, Tryz.ntmps27
    go_wp2_with fail
    refine (H1.out _).mono ?_
    rintro e w' ⟨rfl, rfl⟩
    go_wp2
    go_ret2
    exact ⟨rfl, Below.refl _ _⟩
  rw [decide_eq_true h1] at H1
  by_cases h2 : 0 ≤ b ∧ b ≤ 1073741824
  rotate_left
  · have e : worthV a b c d f = (0, 1) := if_neg (fun h => h2 h.2.1)
    rw [e]
    rw [decide_eq_false h2] at H2
    replace H1 := Lib.hid H1; replace H2 := Lib.hid H2
    clear e h1 h2 H3 H4 H5
    go_enter Tryz.func27, Tryz.ntmps27
    go_wp2_with fail
    refine (H1.out _).mono ?_
    rintro e w' ⟨rfl, rfl⟩
    go_wp2_with fail
    refine (H2.out _).mono ?_
    rintro e w' ⟨rfl, rfl⟩
    go_wp2
    go_ret2
    exact ⟨rfl, Below.refl _ _⟩
  rw [decide_eq_true h2] at H2
  by_cases h3 : 0 ≤ c ∧ c ≤ 1073741824
  rotate_left
  · have e : worthV a b c d f = (0, 1) := if_neg (fun h => h3 h.2.2.1)
    rw [e]
    rw [decide_eq_false h3] at H3
    replace H1 := Lib.hid H1; replace H2 := Lib.hid H2; replace H3 := Lib.hid H3
    clear e h1 h2 h3 H4 H5
    go_enter Tryz.func27, Tryz.ntmps27
    go_wp2_with fail
    refine (H1.out _).mono ?_
    rintro e w' ⟨rfl, rfl⟩
    go_wp2_with fail
    refine (H2.out _).mono ?_
    rintro e w' ⟨rfl, rfl⟩
    go_wp2_with fail
    refine (H3.out _).mono ?_
    rintro e w' ⟨rfl, rfl⟩
    go_wp2
    go_ret2
    exact ⟨rfl, Below.refl _ _⟩
  rw [decide_eq_true h3] at H3
  by_cases h4 : 1 ≤ d ∧ d ≤ 1073741824
  rotate_left
  · have e : worthV a b c d f = (0, 1) := if_neg (fun h => h4 h.2.2.2.1)
    rw [e]
    rw [decide_eq_false h4] at H4
    replace H1 := Lib.hid H1; replace H2 := Lib.hid H2; replace H3 := Lib.hid H3; replace H4 := Lib.hid H4
    clear e h1 h2 h3 h4 H5
    go_enter Tryz.func27, Tryz.ntmps27
    go_wp2_with fail
    refine (H1.out _).mono ?_
    rintro e w' ⟨rfl, rfl⟩
    go_wp2_with fail
    refine (H2.out _).mono ?_
    rintro e w' ⟨rfl, rfl⟩
    go_wp2_with fail
    refine (H3.out _).mono ?_
    rintro e w' ⟨rfl, rfl⟩
    go_wp2_with fail
    refine (H4.out _).mono ?_
    rintro e w' ⟨rfl, rfl⟩
    go_wp2
    go_ret2
    exact ⟨rfl, Below.refl _ _⟩
  rw [decide_eq_true h4] at H4
  by_cases h5 : 0 ≤ f ∧ f ≤ 100
  rotate_left
  · have e : worthV a b c d f = (0, 1) := if_neg (fun h => h5 h.2.2.2.2)
    rw [e]
    rw [decide_eq_false h5] at H5
    replace H1 := Lib.hid H1; replace H2 := Lib.hid H2; replace H3 := Lib.hid H3; replace H4 := Lib.hid H4; replace H5 := Lib.hid H5
    clear e h1 h2 h3 h4 h5
    go_enter Tryz.func27, Tryz.ntmps27
    go_wp2_with fail
    refine (H1.out _).mono ?_
    rintro e w' ⟨rfl, rfl⟩
    go_wp2_with fail
    refine (H2.out _).mono ?_
    rintro e w' ⟨rfl, rfl⟩
    go_wp2_with fail
    refine (H3.out _).mono ?_
    rintro e w' ⟨rfl, rfl⟩
    go_wp2_with fail
    refine (H4.out _).mono ?_
    rintro e w' ⟨rfl, rfl⟩
    go_wp2_with fail
    refine (H5.out _).mono ?_
    rintro e w' ⟨rfl, rfl⟩
    go_wp2
    go_ret2
    exact ⟨rfl, Below.refl _ _⟩
  rw [decide_eq_true h5] at H5
  have e : worthV a b c d f = (valW a b c d f, 0) := if_pos ⟨h1, h2, h3, h4, h5⟩
  rw [e]
  obtain ⟨a0, a1⟩ := h1
  obtain ⟨b0, b1⟩ := h2
  obtain ⟨c0, c1⟩ := h3
  obtain ⟨d0, d1⟩ := h4
  obtain ⟨f0, f1⟩ := h5
  obtain ⟨m0, m1, l0, l1⟩ := least_bnd a0 a1 f0 f1
  have w1 : IntKind.i64.wrap (a * f) = a * f := wrap_in (by omega) (by omega)
  have w2 : IntKind.i64.wrap (a * f + 99) = a * f + 99 := wrap_in (by omega) (by omega)
  have w3 : IntKind.i64.wrap ((a * f + 99).tdiv 100) = leastW a f := by rw [tdiv_bnd ⟨by omega, by omega⟩ (by decide), Int.tdiv_eq_ediv_of_nonneg (by omega)]; rfl
  have w3b : IntKind.i64.wrap ((a * f + 99) / 100) = leastW a f := by rw [← Int.tdiv_eq_ediv_of_nonneg (by omega)]; exact w3
  have w3c : (a * f + 99) / 100 = leastW a f := rfl
  have w4 : IntKind.i64.wrap (c - b) = c - b := wrap_in (by omega) (by omega)
  obtain ⟨A, hA⟩ : ∃ A, a * f = A := ⟨_, rfl⟩
  obtain ⟨L, hL⟩ : ∃ L, leastW a f = L := ⟨_, rfl⟩
  obtain ⟨G, hG⟩ : ∃ G, c - b = G := ⟨_, rfl⟩
  unfold valW
  rw [hA] at w1 w2 w3 w3b w3c
  rw [hL] at w3 w3b w3c l0 l1
  rw [hL, hG]
  have w4' : IntKind.i64.wrap (c - b) = G := by rw [w4, hG]
  replace H1 := Lib.hid H1; replace H2 := Lib.hid H2; replace H3 := Lib.hid H3; replace H4 := Lib.hid H4; replace H5 := Lib.hid H5
  by_cases g0 : G ≤ 0
  · have HV : Hid ((if c ≤ b then a else if d ≤ G then L else max L (a - a * G / d)) = a) := Lib.hid (if_pos (by omega))
    rw [HV.out]
    clear HV e w4 hG m0 m1 l0 l1 a0 a1 b0 b1 c0 c1 d0 d1 f0 f1 hL
    have w5 : IntKind.i64.wrap (a * f) = A := by rw [hA, w1]
    clear hA w1
    go_enter Tryz.func27, Tryz.ntmps27
    go_wp2_with fail
    refine (H1.out _).mono ?_
    rintro e w' ⟨rfl, rfl⟩
    go_wp2_with fail
    refine (H2.out _).mono ?_
    rintro e w' ⟨rfl, rfl⟩
    go_wp2_with fail
    refine (H3.out _).mono ?_
    rintro e w' ⟨rfl, rfl⟩
    go_wp2_with fail
    refine (H4.out _).mono ?_
    rintro e w' ⟨rfl, rfl⟩
    go_wp2_with fail
    refine (H5.out _).mono ?_
    rintro e w' ⟨rfl, rfl⟩
    go_wp2
    go_ret2
    exact ⟨rfl, Below.refl _ _⟩
  · by_cases g1 : d ≤ G
    · have HV : Hid ((if c ≤ b then a else if d ≤ G then L else max L (a - a * G / d)) = L) := Lib.hid (by rw [if_neg (by omega), if_pos g1])
      rw [HV.out]
      have w5 : IntKind.i64.wrap (a * f) = A := by rw [hA, w1]
      clear HV e w4 hG m0 m1 l0 l1 a0 a1 b0 b1 c0 c1 d0 d1 f0 f1 hL hA w1
      go_enter Tryz.func27, Tryz.ntmps27
      go_wp2_with fail
      refine (H1.out _).mono ?_
      rintro e w' ⟨rfl, rfl⟩
      go_wp2_with fail
      refine (H2.out _).mono ?_
      rintro e w' ⟨rfl, rfl⟩
      go_wp2_with fail
      refine (H3.out _).mono ?_
      rintro e w' ⟨rfl, rfl⟩
      go_wp2_with fail
      refine (H4.out _).mono ?_
      rintro e w' ⟨rfl, rfl⟩
      go_wp2_with fail
      refine (H5.out _).mono ?_
      rintro e w' ⟨rfl, rfl⟩
      go_wp2
      go_ret2
      exact ⟨rfl, Below.refl _ _⟩
    · have HP := Lib.hid (proportion_any a G d a0 a1 (by omega) (by omega) (by omega) (by omega) (by omega))
      obtain ⟨Q, hQ⟩ : ∃ Q, a * G / d = Q := ⟨_, rfl⟩
      obtain ⟨R, hR⟩ : ∃ R, a * G % d = R := ⟨_, rfl⟩
      have q0 : 0 ≤ Q := by rw [← hQ]; exact Int.ediv_nonneg (Int.mul_nonneg a0 (by omega)) (by omega)
      have q1 : Q ≤ a := by
        rw [← hQ]
        refine Int.le_trans (Int.ediv_le_ediv (by omega) (Int.mul_le_mul_of_nonneg_left (show G ≤ d by omega) a0)) ?_
        rw [Int.mul_ediv_cancel _ (by omega)]
        exact Int.le_refl a
      rw [hQ, hR] at HP
      have HV : Hid ((if c ≤ b then a else if d ≤ G then L else max L (a - a * G / d)) = max L (a - Q)) := Lib.hid (by rw [if_neg (by omega), if_neg g1, hQ])
      rw [HV.out]
      have w5 : IntKind.i64.wrap (a * f) = A := by rw [hA, w1]
      have w6 : IntKind.i64.wrap (a - Q) = a - Q := wrap_in (by omega) (by omega)
      obtain ⟨X, hX⟩ : ∃ X, a - Q = X := ⟨_, rfl⟩
      rw [hX] at w6
      have w7 : IntKind.i64.wrap (a - Q) = X := by rw [hX, w6]
      rw [hX]
      obtain ⟨M, hM⟩ : ∃ M, max L X = M := ⟨_, rfl⟩
      rw [hM]
      have HM1 : Hid ((if L < X then X else L) = M) := Lib.hid (by rw [← hM]; split <;> omega)
      have HM2 : Hid ((if X < L then L else X) = M) := Lib.hid (by rw [← hM]; split <;> omega)
      have HM3 : Hid (max L X = M) := Lib.hid hM
      clear HV e w4 hG m0 m1 l0 l1 a0 a1 b0 b1 c0 c1 d0 d1 f0 f1 hL hA w1 hQ hR q0 q1 hX w6 hM
      go_enter Tryz.func27, Tryz.ntmps27
      go_wp2_with fail
      refine (H1.out _).mono ?_
      rintro e w' ⟨rfl, rfl⟩
      go_wp2_with fail
      refine (H2.out _).mono ?_
      rintro e w' ⟨rfl, rfl⟩
      go_wp2_with fail
      refine (H3.out _).mono ?_
      rintro e w' ⟨rfl, rfl⟩
      go_wp2_with fail
      refine (H4.out _).mono ?_
      rintro e w' ⟨rfl, rfl⟩
      go_wp2_with fail
      refine (H5.out _).mono ?_
      rintro e w' ⟨rfl, rfl⟩
      go_wp2_with fail
      refine (HP.out _).mono ?_
      rintro e w2 ⟨rfl, hb⟩
      have HB := Lib.hid hb
      clear hb
      go_wp2
      go_ret2
      refine ⟨retP ⟨?_, rfl⟩, HB.out⟩
      first | exact HM3.out | exact HM1.out | exact HM2.out

theorem rleast_any (a f : Int) (a0 : 0 ≤ a) (a1 : a ≤ 9007199254740992) (f0 : 0 ≤ f) (f1 : f ≤ 100) (w : World) : Calls Tryz.prog 51 #[.int .i64 a, .int .i64 f] w fun e w' => e = .returned (.int .i64 (leastW a f)) ∧ w = w' := by
  obtain ⟨m0, m1, l0, l1⟩ := least_bnd a0 a1 f0 f1
  have w1 : IntKind.i64.wrap (a * f) = a * f := wrap_in (by omega) (by omega)
  have w2 : IntKind.i64.wrap (a * f + 99) = a * f + 99 := wrap_in (by omega) (by omega)
  have w3 : IntKind.i64.wrap ((a * f + 99).tdiv 100) = leastW a f := by rw [tdiv_bnd ⟨by omega, by omega⟩ (by decide), Int.tdiv_eq_ediv_of_nonneg (by omega)]; rfl
  have w3b : IntKind.i64.wrap ((a * f + 99) / 100) = leastW a f := by rw [← Int.tdiv_eq_ediv_of_nonneg (by omega)]; exact w3
  obtain ⟨A, hA⟩ : ∃ A, a * f = A := ⟨_, rfl⟩
  obtain ⟨L, hL⟩ : ∃ L, leastW a f = L := ⟨_, rfl⟩
  rw [hA] at w1 w2 w3 w3b
  rw [hL] at w3 w3b ⊢
  have w5 : IntKind.i64.wrap (a * f) = A := by rw [hA, w1]
  clear m0 m1 l0 l1 a0 a1 f0 f1 hA hL w1
  go_enter Tryz.func51, Tryz.ntmps51
  go_wp2
  go_ret
  exact ⟨rfl, rfl⟩

set_option maxRecDepth 100000 in
set_option maxHeartbeats 8000000 in
theorem rworth_any (a b c d f : Int) (w : World) : Calls Tryz.prog 28 #[.int .i64 a, .int .i64 b, .int .i64 c, .int .i64 d, .int .i64 f] w fun e w' => e = .returned (.tuple #[.int .i64 (worthV a b c d f).1, .int .i64 (worthV a b c d f).2]) ∧ w = w' := by
  by_cases hok : okW a b c d f
  rotate_left
  · have e : worthV a b c d f = (0, 1) := if_neg hok
    rw [e]
    clear e
    by_cases p0 : a < 0
    · clear hok
      go_enter Tryz.func28, Tryz.ntmps28
      go_wp2
      go_ret2
      exact ⟨rfl, rfl⟩
    by_cases q0 : 9007199254740992 < a
    · clear hok
      go_enter Tryz.func28, Tryz.ntmps28
      go_wp2
      go_ret2
      exact ⟨rfl, rfl⟩
    by_cases p1 : b < 0
    · clear hok
      go_enter Tryz.func28, Tryz.ntmps28
      go_wp2
      go_ret2
      exact ⟨rfl, rfl⟩
    by_cases q1 : 1073741824 < b
    · clear hok
      go_enter Tryz.func28, Tryz.ntmps28
      go_wp2
      go_ret2
      exact ⟨rfl, rfl⟩
    by_cases p2 : c < 0
    · clear hok
      go_enter Tryz.func28, Tryz.ntmps28
      go_wp2
      go_ret2
      exact ⟨rfl, rfl⟩
    by_cases q2 : 1073741824 < c
    · clear hok
      go_enter Tryz.func28, Tryz.ntmps28
      go_wp2
      go_ret2
      exact ⟨rfl, rfl⟩
    by_cases p3 : d < 1
    · clear hok
      go_enter Tryz.func28, Tryz.ntmps28
      go_wp2
      go_ret2
      exact ⟨rfl, rfl⟩
    by_cases q3 : 1073741824 < d
    · clear hok
      go_enter Tryz.func28, Tryz.ntmps28
      go_wp2
      go_ret2
      exact ⟨rfl, rfl⟩
    by_cases p4 : f < 0
    · clear hok
      go_enter Tryz.func28, Tryz.ntmps28
      go_wp2
      go_ret2
      exact ⟨rfl, rfl⟩
    by_cases q4 : 100 < f
    · clear hok
      go_enter Tryz.func28, Tryz.ntmps28
      go_wp2
      go_ret2
      exact ⟨rfl, rfl⟩
    exact absurd ⟨⟨by omega, by omega⟩, ⟨by omega, by omega⟩, ⟨by omega, by omega⟩, ⟨by omega, by omega⟩, ⟨by omega, by omega⟩⟩ hok
  · have e : worthV a b c d f = (valW a b c d f, 0) := if_pos hok
    rw [e]
    obtain ⟨⟨a0, a1⟩, ⟨b0, b1⟩, ⟨c0, c1⟩, ⟨d0, d1⟩, ⟨f0, f1⟩⟩ := hok
    have p0 : ¬ a < 0 := by omega
    have q0 : ¬ 9007199254740992 < a := by omega
    have p1 : ¬ b < 0 := by omega
    have q1 : ¬ 1073741824 < b := by omega
    have p2 : ¬ c < 0 := by omega
    have q2 : ¬ 1073741824 < c := by omega
    have p3 : ¬ d < 1 := by omega
    have q3 : ¬ 1073741824 < d := by omega
    have p4 : ¬ f < 0 := by omega
    have q4 : ¬ 100 < f := by omega
    have HL := rleast_any a f a0 a1 f0 f1
    obtain ⟨m0, m1, l0, l1⟩ := least_bnd a0 a1 f0 f1
    have w4 : IntKind.i64.wrap (c - b) = c - b := wrap_in (by omega) (by omega)
    obtain ⟨L, hL⟩ : ∃ L, leastW a f = L := ⟨_, rfl⟩
    unfold valW
    rw [hL] at HL l0 l1
    rw [hL]
    replace HL := Lib.hid HL
    by_cases g0 : c ≤ b
    · rw [if_pos g0]
      clear e hL m0 m1 l0 l1 a0 a1 b0 b1 c0 c1 d0 d1 f0 f1 w4 HL
      go_enter Tryz.func28, Tryz.ntmps28
      go_wp2
      go_ret2
      exact ⟨rfl, rfl⟩
    · rw [if_neg g0]
      obtain ⟨G, hG⟩ : ∃ G, c - b = G := ⟨_, rfl⟩
      have w5 : IntKind.i64.wrap (c - b) = G := by rw [w4, hG]
      rw [hG]
      by_cases g1 : d ≤ G
      · rw [if_pos g1]
        clear e hL m0 m1 l0 l1 a0 a1 b0 b1 c0 c1 d0 d1 f0 f1 w4 hG
        go_enter Tryz.func28, Tryz.ntmps28
        go_wp2_with fail
        refine (HL.out _).mono ?_
        rintro e w' ⟨rfl, rfl⟩
        go_wp2
        go_ret2
        exact ⟨rfl, rfl⟩
      · rw [if_neg g1]
        have HP := muldivI_any a G d a0 a1 (by omega) (by omega) (by omega) (by omega)
        obtain ⟨Q, hQ⟩ : ∃ Q, a * G / d = Q := ⟨_, rfl⟩
        obtain ⟨R, hR⟩ : ∃ R, a * G % d = R := ⟨_, rfl⟩
        have x0 : 0 ≤ Q := by rw [← hQ]; exact Int.ediv_nonneg (Int.mul_nonneg a0 (by omega)) (by omega)
        have x1 : Q ≤ a := by
          rw [← hQ]
          refine Int.le_trans (Int.ediv_le_ediv (by omega) (Int.mul_le_mul_of_nonneg_left (show G ≤ d by omega) a0)) ?_
          rw [Int.mul_ediv_cancel _ (by omega)]
          exact Int.le_refl a
        rw [hQ, hR] at HP
        rw [hQ]
        replace HP := Lib.hid HP
        obtain ⟨X, hX⟩ : ∃ X, a - Q = X := ⟨_, rfl⟩
        have w7 : IntKind.i64.wrap (a - Q) = X := by rw [wrap_in (by omega) (by omega), hX]
        rw [hX]
        obtain ⟨M, hM⟩ : ∃ M, max L X = M := ⟨_, rfl⟩
        rw [hM]
        have HM1 : Hid ((if L < X then X else L) = M) := Lib.hid (by rw [← hM]; split <;> omega)
        have HM2 : Hid ((if X < L then L else X) = M) := Lib.hid (by rw [← hM]; split <;> omega)
        have HM3 : Hid (max L X = M) := Lib.hid hM
        clear e hL m0 m1 l0 l1 a0 a1 b0 b1 c0 c1 d0 d1 f0 f1 w4 hG hQ hR x0 x1 hX hM
        go_enter Tryz.func28, Tryz.ntmps28
        go_wp2_with fail
        refine (HP.out _).mono ?_
        rintro e w' ⟨rfl, rfl⟩
        go_wp2_with fail
        refine (HL.out _).mono ?_
        rintro e w' ⟨rfl, rfl⟩
        go_wp2
        go_ret2
        refine ⟨retP ⟨?_, rfl⟩, rfl⟩
        first | exact HM3.out | exact HM1.out | exact HM2.out
end Go.Proofs.YtempnbchiofghaaGreatDoor
