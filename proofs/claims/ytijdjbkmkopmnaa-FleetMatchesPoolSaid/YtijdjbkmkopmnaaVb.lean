/-
  Walks: Worth of money, both sides.
-/
import Derived.Test.YtijdjbkmkopmnaaVa
namespace Go.Proofs.Ytijdjbkmkopmnaa
open Go.RowKit
set_option linter.unusedVariables false
set_option linter.unusedSimpArgs false

theorem mbetween_any (a b c : Int) (w : World) : Calls Try.prog 80 #[.int .i64 a, .int .i64 b, .int .i64 c] w fun e w' => e = .returned (.bool (decide (a ≤ b ∧ b ≤ c))) ∧ w = w' := by
  by_cases h0 : a ≤ b <;> by_cases h1 : b ≤ c
  all_goals
    first | rw [decide_eq_true (And.intro h0 h1)] | rw [decide_eq_false (fun h => h0 h.1)] | rw [decide_eq_false (fun h => h1 h.2)]
    go_enter Try.func80, Try.ntmps80
    go_wp2
    go_ret
    exact ⟨rfl, rfl⟩
theorem tdiv_abs (a b : Int) : (a.tdiv b).natAbs ≤ a.natAbs := by rw [Int.natAbs_tdiv]; exact Nat.div_le_self _ _
theorem tmod_abs (a b : Int) : (a.tmod b).natAbs ≤ a.natAbs := by rw [Int.natAbs_tmod]; exact Nat.mod_le _ _
theorem tdiv_bnd {a b : Int} (ha : I64 a) (hb : 0 < b) : IntKind.i64.wrap (a.tdiv b) = a.tdiv b := by
  have h := tdiv_abs a b
  obtain ⟨a0, a1⟩ := ha
  by_cases h0 : 0 ≤ a
  · have := Int.tdiv_nonneg (a := a) (b := b) h0 (by omega)
    exact wrap_in (by omega) (by omega)
  · have h3 := Int.neg_tdiv a b
    have h4 := Int.tdiv_nonneg (a := -a) (b := b) (by omega) (by omega)
    exact wrap_in (by omega) (by omega)
theorem tmod_bnd {a b : Int} (ha : I64 a) (hb : 0 < b) : IntKind.i64.wrap (a.tmod b) = a.tmod b := by
  have h := tmod_abs a b
  obtain ⟨a0, a1⟩ := ha
  by_cases h0 : 0 ≤ a
  · have := Int.tmod_nonneg b (a := a) h0
    exact wrap_in (by omega) (by omega)
  · have h4 := Int.tmod_nonneg b (a := -a) (by omega)
    rw [Int.neg_tmod] at h4
    exact wrap_in (by omega) (by omega)
theorem bit_step (a : Nat) (s : Nat) : a / 2 ^ s = 2 * (a / 2 ^ (s + 1)) + a / 2 ^ s % 2 := by
  rw [Nat.pow_succ, ← Nat.div_div_eq_div_mul]
  omega
/-- One digit more of the quotient. -/
theorem muldiv_step {a W d s q r b : Nat} (hd0 : 1 ≤ d) (hW : W ≤ d) (h : q * d + r = a / 2 ^ (s + 1) * W ∧ r < d) (hb : b = a / 2 ^ s % 2) :
    (2 * q + (2 * r + b * W) / d) * d + (2 * r + b * W) % d = a / 2 ^ s * W ∧ (2 * r + b * W) % d < d := by
  obtain ⟨h1, h2⟩ := h
  have h3 := Nat.div_add_mod (2 * r + b * W) d
  refine ⟨?_, Nat.mod_lt _ hd0⟩
  rw [bit_step a s, ← hb, Nat.add_mul, Nat.add_mul, Nat.mul_assoc, Nat.mul_assoc, ← h1]
  rw [Nat.mul_comm d] at h3
  omega
theorem muldiv_q {a W d s q r : Nat} (hd0 : 1 ≤ d) (hW : W ≤ d) (h : q * d + r = a / 2 ^ s * W ∧ r < d) : q ≤ a := by
  have h1 : q * d ≤ a * d := by
    refine Nat.le_trans ?_ (Nat.mul_le_mul (Nat.div_le_self a (2 ^ s)) hW)
    omega
  exact Nat.le_of_mul_le_mul_right h1 hd0

set_option maxRecDepth 100000 in
set_option maxHeartbeats 4000000 in
theorem muldiv_any (a W d : Nat) (ha : a ≤ 9007199254740992) (hW : W ≤ d) (hd0 : 1 ≤ d) (hd : d ≤ 2305843009213693952) (w : World) :
    Calls Try.prog 83 #[.int .i64 (a : Int), .int .i64 (W : Int), .int .i64 (d : Int)] w fun e w' => e = .returned (.tuple #[.int .i64 ((a * W / d : Nat) : Int), .int .i64 ((a * W % d : Nat) : Int)]) ∧ w = w' := by
  obtain ⟨R1, hR1⟩ : ∃ R, a * W / d = R := ⟨_, rfl⟩
  obtain ⟨R2, hR2⟩ : ∃ R, a * W % d = R := ⟨_, rfl⟩
  rw [hR1, hR2]
  have HR1 := Lib.hid hR1; have HR2 := Lib.hid hR2
  have hdn : (d : Int) ≠ 0 := by omega
  have HD0 := Lib.hid hd0; have HW := Lib.hid hW
  have HD := Lib.hid hd; have HA := Lib.hid ha
  clear hR1 hR2 hW hd0 hd ha
  go_enter Try.func83, Try.ntmps83
  go_wp2
  go_loopw [8, 9, 10] (fun s t i wr => ∃ (k q r : Nat), k ≤ 54 ∧ s = .int .i64 (q : Int) ∧ t = .int .i64 (r : Int) ∧ i = .int .i64 ((k : Int) - 1) ∧ Hid (q * d + r = a / 2 ^ k * W ∧ r < d) ∧ w = wr) (fun s t i _ => (intOf i + 1).toNat)
  case atStart => exact ⟨54, 0, 0, by omega, rfl, rfl, rfl, Lib.hid ⟨by
    have : a / 2 ^ 54 = 0 := Nat.div_eq_of_lt (by have := HA.out; omega)
    rw [this]; omega, HD0.out⟩, rfl⟩
  case round =>
    obtain ⟨k, q, r, hk, rfl, rfl, rfl, HI, rfl⟩ := hrel
    by_cases hk0 : 0 < k
    · obtain ⟨s, rfl⟩ : ∃ s, k = s + 1 := ⟨k - 1, by omega⟩
      have es : (((s + 1 : Nat) : Int) - 1) = (s : Int) := by omega
      rw [es]
      have hlt2 : (0 : Int) ≤ (s : Int) := by omega
      obtain ⟨A, hA⟩ : ∃ A : Nat, a / 2 ^ s = A := ⟨_, rfl⟩
      have eA : ((a : Int) / 2 ^ s) = (A : Int) := by
        rw [← hA]
        push_cast
        rfl
      have r0 := HI.out.2
      have hdd := HD.out; have hww := HW.out; have haa := HA.out; have hd1 := HD0.out
      have hs63 : s < 64 := by omega
      have hq := muldiv_q HD0.out HW.out HI.out
      have w1 : IntKind.i64.wrap (2 * (r : Int)) = 2 * (r : Int) := wrap_in (by omega) (by omega)
      rcases Nat.mod_two_eq_zero_or_one A with hb | hb
      · have tb : ((A : Int).tmod 2 == 1) = false := by
          rw [Int.tmod_eq_emod_of_nonneg (by omega)]
          have : (A : Int) % 2 = 0 := by omega
          rw [this]; rfl
        have tb' : ((A : Int) % 2 == 1) = false := by
          have : (A : Int) % 2 = 0 := by omega
          rw [this]; rfl
        have hst := muldiv_step (b := 0) HD0.out HW.out HI.out (by rw [hA, hb])
        rw [Nat.zero_mul, Nat.add_zero] at hst
        obtain ⟨B, hB⟩ : ∃ B, 2 * r = B := ⟨_, rfl⟩
        rw [hB] at hst
        have e1 : IntKind.i64.wrap (2 * (r : Int)) = (B : Int) := by rw [w1, ← hB]; omega
        have hqq := muldiv_q HD0.out HW.out hst
        obtain ⟨Q, hQ⟩ : ∃ Q, B / d = Q := ⟨_, rfl⟩
        obtain ⟨M, hM⟩ : ∃ M, B % d = M := ⟨_, rfl⟩
        rw [hQ, hM] at hst
        rw [hQ] at hqq
        have e2 : IntKind.i64.wrap ((B : Int).tdiv (d : Int)) = (Q : Int) := by
          rw [tdiv_bnd ⟨by omega, by omega⟩ (by omega), Int.tdiv_eq_ediv_of_nonneg (by omega), ← hQ]; rfl
        have e3 : IntKind.i64.wrap ((B : Int).tmod (d : Int)) = (M : Int) := by
          rw [tmod_bnd ⟨by omega, by omega⟩ (by omega), Int.tmod_eq_emod_of_nonneg (by omega), ← hM]; rfl
        have e3' : (B : Int) % (d : Int) = (M : Int) := by rw [← hM]; rfl
        have e4 : IntKind.i64.wrap (2 * (q : Int)) = 2 * (q : Int) := wrap_in (by omega) (by omega)
        have e5 : IntKind.i64.wrap (2 * (q : Int) + (Q : Int)) = 2 * (q : Int) + (Q : Int) := wrap_in (by omega) (by omega)
        have E3 := Lib.hid e3'
        have EQ : Hid (wrap64 (2 * (q : Int) + wrap64 ((B : Int) / (d : Int))) = ((2 * q + Q : Nat) : Int)) := Lib.hid (by
          rw [Int.tdiv_eq_ediv_of_nonneg (by omega)] at e2
          have e7 : ∀ x, wrap64 x = IntKind.i64.wrap x := fun x => by unfold wrap64; exact (IntKind.wrap_i64 x).symm
          rw [e7, e7, e2, e5]; omega)
        clear e2 e3 e3'
        have HI2 : Hid ((2 * q + Q) * d + M = a / 2 ^ s * W ∧ M < d) := Lib.hid hst
        have e6 := e1
        clear HI hst hA r0 w1 hB hQ hM hqq hq hb hdd hww haa hd1
        go_wp2
        go_roundw
        case rel => exact ⟨s, 2 * q + Q, M, by omega, congrArg (Value.int IntKind.i64) EQ.out, congrArg (Value.int IntKind.i64) E3.out, by go_num, HI2, trivial⟩
        case measure => simp [intOf] <;> omega
      · have tb : ((A : Int).tmod 2 == 1) = true := by
          rw [Int.tmod_eq_emod_of_nonneg (by omega)]
          have : (A : Int) % 2 = 1 := by omega
          rw [this]; rfl
        have tb' : ((A : Int) % 2 == 1) = true := by
          have : (A : Int) % 2 = 1 := by omega
          rw [this]; rfl
        have hst := muldiv_step (b := 1) HD0.out HW.out HI.out (by rw [hA, hb])
        rw [Nat.one_mul] at hst
        obtain ⟨B, hB⟩ : ∃ B, 2 * r + W = B := ⟨_, rfl⟩
        rw [hB] at hst
        have e0 : IntKind.i64.wrap (2 * (r : Int) + (W : Int)) = (B : Int) := by rw [wrap_in (by omega) (by omega), ← hB]; omega
        have hqq := muldiv_q HD0.out HW.out hst
        obtain ⟨Q, hQ⟩ : ∃ Q, B / d = Q := ⟨_, rfl⟩
        obtain ⟨M, hM⟩ : ∃ M, B % d = M := ⟨_, rfl⟩
        rw [hQ, hM] at hst
        rw [hQ] at hqq
        have e2 : IntKind.i64.wrap ((B : Int).tdiv (d : Int)) = (Q : Int) := by
          rw [tdiv_bnd ⟨by omega, by omega⟩ (by omega), Int.tdiv_eq_ediv_of_nonneg (by omega), ← hQ]; rfl
        have e3 : IntKind.i64.wrap ((B : Int).tmod (d : Int)) = (M : Int) := by
          rw [tmod_bnd ⟨by omega, by omega⟩ (by omega), Int.tmod_eq_emod_of_nonneg (by omega), ← hM]; rfl
        have e3' : (B : Int) % (d : Int) = (M : Int) := by rw [← hM]; rfl
        have e4 : IntKind.i64.wrap (2 * (q : Int)) = 2 * (q : Int) := wrap_in (by omega) (by omega)
        have e5 : IntKind.i64.wrap (2 * (q : Int) + (Q : Int)) = 2 * (q : Int) + (Q : Int) := wrap_in (by omega) (by omega)
        have E3 := Lib.hid e3'
        have EQ : Hid (wrap64 (2 * (q : Int) + wrap64 ((B : Int) / (d : Int))) = ((2 * q + Q : Nat) : Int)) := Lib.hid (by
          rw [Int.tdiv_eq_ediv_of_nonneg (by omega)] at e2
          have e7 : ∀ x, wrap64 x = IntKind.i64.wrap x := fun x => by unfold wrap64; exact (IntKind.wrap_i64 x).symm
          rw [e7, e7, e2, e5]; omega)
        clear e2 e3 e3'
        have HI2 : Hid ((2 * q + Q) * d + M = a / 2 ^ s * W ∧ M < d) := Lib.hid hst
        clear HI hst hA r0 hB hQ hM hqq hq hb hdd hww haa hd1
        go_wp2
        go_roundw
        case rel => exact ⟨s, 2 * q + Q, M, by omega, congrArg (Value.int IntKind.i64) EQ.out, congrArg (Value.int IntKind.i64) E3.out, by go_num, HI2, trivial⟩
        case measure => simp [intOf] <;> omega
    · obtain rfl : k = 0 := by omega
      have hlt2 : ¬ ((0 : Int) ≤ ((0 : Nat) : Int) - 1) := by omega
      obtain ⟨h1, h2⟩ := HI.out
      rw [Nat.pow_zero, Nat.div_one] at h1
      have hq : a * W / d = q ∧ a * W % d = r := by
        rw [← h1, Nat.mul_comm q d]
        exact ⟨by rw [Nat.mul_add_div HD0.out, Nat.div_eq_of_lt h2, Nat.add_zero], by rw [Nat.mul_add_mod, Nat.mod_eq_of_lt h2]⟩
      have HQ := Lib.hid hq
      clear h1 h2 hq HI
      go_wp2
      go_ret2
      exact ⟨retP (by rw [← HR1.out, ← HR2.out, HQ.out.1, HQ.out.2]; exact ⟨rfl, rfl⟩), rfl⟩

/-- The reference's division of a product, for ints. -/
theorem muldivI_any (a b c : Int) (a0 : 0 ≤ a) (a1 : a ≤ 9007199254740992) (b0 : 0 ≤ b) (hbc : b ≤ c) (c0 : 0 < c) (c1 : c ≤ 2305843009213693952) (w : World) :
    Calls Try.prog 83 #[.int .i64 a, .int .i64 b, .int .i64 c] w fun e w' => e = .returned (.tuple #[.int .i64 (a * b / c), .int .i64 (a * b % c)]) ∧ w = w' := by
  obtain ⟨A, rfl⟩ := Int.eq_ofNat_of_zero_le a0
  obtain ⟨B, rfl⟩ := Int.eq_ofNat_of_zero_le b0
  obtain ⟨C, rfl⟩ := Int.eq_ofNat_of_zero_le (Int.le_of_lt c0)
  refine (muldiv_any A B C (by omega) (by omega) (by omega) (by omega) w).mono ?_
  rintro e w' ⟨rfl, rfl⟩
  refine ⟨?_, rfl⟩
  rw [Int.natCast_ediv, Int.natCast_emod, Int.natCast_mul]


/-- Valid depreciations: worth, built, at, life, floor. -/
abbrev okW (a b c d f : Int) : Prop := (0 ≤ a ∧ a ≤ 9007199254740992) ∧ (0 ≤ b ∧ b ≤ 1073741824) ∧ (0 ≤ c ∧ c ≤ 1073741824) ∧ (1 ≤ d ∧ d ≤ 1073741824) ∧ (0 ≤ f ∧ f ≤ 100)
def leastW (a f : Int) : Int := (a * f + 99) / 100
def valW (a b c d f : Int) : Int := if c ≤ b then a else if d ≤ c - b then leastW a f else max (leastW a f) (a - a * (c - b) / d)
def worthV (a b c d f : Int) : Int × Int := if okW a b c d f then (valW a b c d f, 0) else (0, 1)
theorem least_bnd {a f : Int} (a0 : 0 ≤ a) (a1 : a ≤ 9007199254740992) (f0 : 0 ≤ f) (f1 : f ≤ 100) : 0 ≤ a * f ∧ a * f ≤ 900719925474099200 ∧ 0 ≤ leastW a f ∧ leastW a f ≤ a := by
  have h0 : 0 ≤ a * f := Int.mul_nonneg a0 f0
  have h1 : a * f ≤ a * 100 := Int.mul_le_mul_of_nonneg_left f1 a0
  unfold leastW
  omega

set_option maxRecDepth 100000 in
set_option maxHeartbeats 8000000 in
theorem worth_any (a b c d f : Int) (w : World) : Calls Try.prog 34 #[.int .i64 a, .int .i64 b, .int .i64 c, .int .i64 d, .int .i64 f] w fun e w' => e = .returned (.tuple #[.int .i64 (worthV a b c d f).1, .int .i64 (worthV a b c d f).2]) ∧ Below w.heap.size w w' := by
  have H1 := mbetween_any 0 a 9007199254740992
  have H2 := mbetween_any 0 b 1073741824
  have H3 := mbetween_any 0 c 1073741824
  have H4 := mbetween_any 1 d 1073741824
  have H5 := mbetween_any 0 f 100
  by_cases h1 : 0 ≤ a ∧ a ≤ 9007199254740992
  rotate_left
  · have e : worthV a b c d f = (0, 1) := if_neg (fun h => h1 h.1)
    rw [e]
    rw [decide_eq_false h1] at H1
    replace H1 := Lib.hid H1
    clear e h1 H2 H3 H4 H5
    go_enter Try.func34, Try.ntmps34
    go_wp2_with fail
    refine (H1.out _).mono ?_
    rintro e w' ⟨rfl, rfl⟩
    go_wp2
    go_ret2
    exact ⟨rfl, Below.refl _ _⟩
  rw [decide_eq_true h1] at H1
  by_cases h2 : 0 ≤ b ∧ b ≤ 1073741824
  rotate_left
  · have e : worthV a b c d f = (0, 1) := if_neg (fun h => h2 h.2.1)
    rw [e]
    rw [decide_eq_false h2] at H2
    replace H1 := Lib.hid H1; replace H2 := Lib.hid H2
    clear e h1 h2 H3 H4 H5
    go_enter Try.func34, Try.ntmps34
    go_wp2_with fail
    refine (H1.out _).mono ?_
    rintro e w' ⟨rfl, rfl⟩
    go_wp2_with fail
    refine (H2.out _).mono ?_
    rintro e w' ⟨rfl, rfl⟩
    go_wp2
    go_ret2
    exact ⟨rfl, Below.refl _ _⟩
  rw [decide_eq_true h2] at H2
  by_cases h3 : 0 ≤ c ∧ c ≤ 1073741824
  rotate_left
  · have e : worthV a b c d f = (0, 1) := if_neg (fun h => h3 h.2.2.1)
    rw [e]
    rw [decide_eq_false h3] at H3
    replace H1 := Lib.hid H1; replace H2 := Lib.hid H2; replace H3 := Lib.hid H3
    clear e h1 h2 h3 H4 H5
    go_enter Try.func34, Try.ntmps34
    go_wp2_with fail
    refine (H1.out _).mono ?_
    rintro e w' ⟨rfl, rfl⟩
    go_wp2_with fail
    refine (H2.out _).mono ?_
    rintro e w' ⟨rfl, rfl⟩
    go_wp2_with fail
    refine (H3.out _).mono ?_
    rintro e w' ⟨rfl, rfl⟩
    go_wp2
    go_ret2
    exact ⟨rfl, Below.refl _ _⟩
  rw [decide_eq_true h3] at H3
  by_cases h4 : 1 ≤ d ∧ d ≤ 1073741824
  rotate_left
  · have e : worthV a b c d f = (0, 1) := if_neg (fun h => h4 h.2.2.2.1)
    rw [e]
    rw [decide_eq_false h4] at H4
    replace H1 := Lib.hid H1; replace H2 := Lib.hid H2; replace H3 := Lib.hid H3; replace H4 := Lib.hid H4
    clear e h1 h2 h3 h4 H5
    go_enter Try.func34, Try.ntmps34
    go_wp2_with fail
    refine (H1.out _).mono ?_
    rintro e w' ⟨rfl, rfl⟩
    go_wp2_with fail
    refine (H2.out _).mono ?_
    rintro e w' ⟨rfl, rfl⟩
    go_wp2_with fail
    refine (H3.out _).mono ?_
    rintro e w' ⟨rfl, rfl⟩
    go_wp2_with fail
    refine (H4.out _).mono ?_
    rintro e w' ⟨rfl, rfl⟩
    go_wp2
    go_ret2
    exact ⟨rfl, Below.refl _ _⟩
  rw [decide_eq_true h4] at H4
  by_cases h5 : 0 ≤ f ∧ f ≤ 100
  rotate_left
  · have e : worthV a b c d f = (0, 1) := if_neg (fun h => h5 h.2.2.2.2)
    rw [e]
    rw [decide_eq_false h5] at H5
    replace H1 := Lib.hid H1; replace H2 := Lib.hid H2; replace H3 := Lib.hid H3; replace H4 := Lib.hid H4; replace H5 := Lib.hid H5
    clear e h1 h2 h3 h4 h5
    go_enter Try.func34, Try.ntmps34
    go_wp2_with fail
    refine (H1.out _).mono ?_
    rintro e w' ⟨rfl, rfl⟩
    go_wp2_with fail
    refine (H2.out _).mono ?_
    rintro e w' ⟨rfl, rfl⟩
    go_wp2_with fail
    refine (H3.out _).mono ?_
    rintro e w' ⟨rfl, rfl⟩
    go_wp2_with fail
    refine (H4.out _).mono ?_
    rintro e w' ⟨rfl, rfl⟩
    go_wp2_with fail
    refine (H5.out _).mono ?_
    rintro e w' ⟨rfl, rfl⟩
    go_wp2
    go_ret2
    exact ⟨rfl, Below.refl _ _⟩
  rw [decide_eq_true h5] at H5
  have e : worthV a b c d f = (valW a b c d f, 0) := if_pos ⟨h1, h2, h3, h4, h5⟩
  rw [e]
  obtain ⟨a0, a1⟩ := h1
  obtain ⟨b0, b1⟩ := h2
  obtain ⟨c0, c1⟩ := h3
  obtain ⟨d0, d1⟩ := h4
  obtain ⟨f0, f1⟩ := h5
  obtain ⟨m0, m1, l0, l1⟩ := least_bnd a0 a1 f0 f1
  have w1 : IntKind.i64.wrap (a * f) = a * f := wrap_in (by omega) (by omega)
  have w2 : IntKind.i64.wrap (a * f + 99) = a * f + 99 := wrap_in (by omega) (by omega)
  have w3 : IntKind.i64.wrap ((a * f + 99).tdiv 100) = leastW a f := by rw [tdiv_bnd ⟨by omega, by omega⟩ (by decide), Int.tdiv_eq_ediv_of_nonneg (by omega)]; rfl
  have w3b : IntKind.i64.wrap ((a * f + 99) / 100) = leastW a f := by rw [← Int.tdiv_eq_ediv_of_nonneg (by omega)]; exact w3
  have w3c : (a * f + 99) / 100 = leastW a f := rfl
  have w4 : IntKind.i64.wrap (c - b) = c - b := wrap_in (by omega) (by omega)
  obtain ⟨A, hA⟩ : ∃ A, a * f = A := ⟨_, rfl⟩
  obtain ⟨L, hL⟩ : ∃ L, leastW a f = L := ⟨_, rfl⟩
  obtain ⟨G, hG⟩ : ∃ G, c - b = G := ⟨_, rfl⟩
  unfold valW
  rw [hA] at w1 w2 w3 w3b w3c
  rw [hL] at w3 w3b w3c l0 l1
  rw [hL, hG]
  have w4' : IntKind.i64.wrap (c - b) = G := by rw [w4, hG]
  replace H1 := Lib.hid H1; replace H2 := Lib.hid H2; replace H3 := Lib.hid H3; replace H4 := Lib.hid H4; replace H5 := Lib.hid H5
  by_cases g0 : G ≤ 0
  · have HV : Hid ((if c ≤ b then a else if d ≤ G then L else max L (a - a * G / d)) = a) := Lib.hid (if_pos (by omega))
    rw [HV.out]
    clear HV e w4 hG m0 m1 l0 l1 a0 a1 b0 b1 c0 c1 d0 d1 f0 f1 hL
    have w5 : IntKind.i64.wrap (a * f) = A := by rw [hA, w1]
    clear hA w1
    go_enter Try.func34, Try.ntmps34
    go_wp2_with fail
    refine (H1.out _).mono ?_
    rintro e w' ⟨rfl, rfl⟩
    go_wp2_with fail
    refine (H2.out _).mono ?_
    rintro e w' ⟨rfl, rfl⟩
    go_wp2_with fail
    refine (H3.out _).mono ?_
    rintro e w' ⟨rfl, rfl⟩
    go_wp2_with fail
    refine (H4.out _).mono ?_
    rintro e w' ⟨rfl, rfl⟩
    go_wp2_with fail
    refine (H5.out _).mono ?_
    rintro e w' ⟨rfl, rfl⟩
    go_wp2
    go_ret2
    exact ⟨rfl, Below.refl _ _⟩
  · by_cases g1 : d ≤ G
    · have HV : Hid ((if c ≤ b then a else if d ≤ G then L else max L (a - a * G / d)) = L) := Lib.hid (by rw [if_neg (by omega), if_pos g1])
      rw [HV.out]
      have w5 : IntKind.i64.wrap (a * f) = A := by rw [hA, w1]
      clear HV e w4 hG m0 m1 l0 l1 a0 a1 b0 b1 c0 c1 d0 d1 f0 f1 hL hA w1
      go_enter Try.func34, Try.ntmps34
      go_wp2_with fail
      refine (H1.out _).mono ?_
      rintro e w' ⟨rfl, rfl⟩
      go_wp2_with fail
      refine (H2.out _).mono ?_
      rintro e w' ⟨rfl, rfl⟩
      go_wp2_with fail
      refine (H3.out _).mono ?_
      rintro e w' ⟨rfl, rfl⟩
      go_wp2_with fail
      refine (H4.out _).mono ?_
      rintro e w' ⟨rfl, rfl⟩
      go_wp2_with fail
      refine (H5.out _).mono ?_
      rintro e w' ⟨rfl, rfl⟩
      go_wp2
      go_ret2
      exact ⟨rfl, Below.refl _ _⟩
    · have HP := Lib.hid (proportion_any a G d a0 a1 (by omega) (by omega) (by omega) (by omega) (by omega))
      obtain ⟨Q, hQ⟩ : ∃ Q, a * G / d = Q := ⟨_, rfl⟩
      obtain ⟨R, hR⟩ : ∃ R, a * G % d = R := ⟨_, rfl⟩
      have q0 : 0 ≤ Q := by rw [← hQ]; exact Int.ediv_nonneg (Int.mul_nonneg a0 (by omega)) (by omega)
      have q1 : Q ≤ a := by
        rw [← hQ]
        refine Int.le_trans (Int.ediv_le_ediv (by omega) (Int.mul_le_mul_of_nonneg_left (show G ≤ d by omega) a0)) ?_
        rw [Int.mul_ediv_cancel _ (by omega)]
        exact Int.le_refl a
      rw [hQ, hR] at HP
      have HV : Hid ((if c ≤ b then a else if d ≤ G then L else max L (a - a * G / d)) = max L (a - Q)) := Lib.hid (by rw [if_neg (by omega), if_neg g1, hQ])
      rw [HV.out]
      have w5 : IntKind.i64.wrap (a * f) = A := by rw [hA, w1]
      have w6 : IntKind.i64.wrap (a - Q) = a - Q := wrap_in (by omega) (by omega)
      obtain ⟨X, hX⟩ : ∃ X, a - Q = X := ⟨_, rfl⟩
      rw [hX] at w6
      have w7 : IntKind.i64.wrap (a - Q) = X := by rw [hX, w6]
      rw [hX]
      obtain ⟨M, hM⟩ : ∃ M, max L X = M := ⟨_, rfl⟩
      rw [hM]
      have HM1 : Hid ((if L < X then X else L) = M) := Lib.hid (by rw [← hM]; split <;> omega)
      have HM2 : Hid ((if X < L then L else X) = M) := Lib.hid (by rw [← hM]; split <;> omega)
      have HM3 : Hid (max L X = M) := Lib.hid hM
      clear HV e w4 hG m0 m1 l0 l1 a0 a1 b0 b1 c0 c1 d0 d1 f0 f1 hL hA w1 hQ hR q0 q1 hX w6 hM
      go_enter Try.func34, Try.ntmps34
      go_wp2_with fail
      refine (H1.out _).mono ?_
      rintro e w' ⟨rfl, rfl⟩
      go_wp2_with fail
      refine (H2.out _).mono ?_
      rintro e w' ⟨rfl, rfl⟩
      go_wp2_with fail
      refine (H3.out _).mono ?_
      rintro e w' ⟨rfl, rfl⟩
      go_wp2_with fail
      refine (H4.out _).mono ?_
      rintro e w' ⟨rfl, rfl⟩
      go_wp2_with fail
      refine (H5.out _).mono ?_
      rintro e w' ⟨rfl, rfl⟩
      go_wp2_with fail
      refine (HP.out _).mono ?_
      rintro e w2 ⟨rfl, hb⟩
      have HB := Lib.hid hb
      clear hb
      go_wp2
      go_ret2
      refine ⟨retP ⟨?_, rfl⟩, HB.out⟩
      first | exact HM3.out | exact HM1.out | exact HM2.out

theorem rleast_any (a f : Int) (a0 : 0 ≤ a) (a1 : a ≤ 9007199254740992) (f0 : 0 ≤ f) (f1 : f ≤ 100) (w : World) : Calls Try.prog 82 #[.int .i64 a, .int .i64 f] w fun e w' => e = .returned (.int .i64 (leastW a f)) ∧ w = w' := by
  obtain ⟨m0, m1, l0, l1⟩ := least_bnd a0 a1 f0 f1
  have w1 : IntKind.i64.wrap (a * f) = a * f := wrap_in (by omega) (by omega)
  have w2 : IntKind.i64.wrap (a * f + 99) = a * f + 99 := wrap_in (by omega) (by omega)
  have w3 : IntKind.i64.wrap ((a * f + 99).tdiv 100) = leastW a f := by rw [tdiv_bnd ⟨by omega, by omega⟩ (by decide), Int.tdiv_eq_ediv_of_nonneg (by omega)]; rfl
  have w3b : IntKind.i64.wrap ((a * f + 99) / 100) = leastW a f := by rw [← Int.tdiv_eq_ediv_of_nonneg (by omega)]; exact w3
  obtain ⟨A, hA⟩ : ∃ A, a * f = A := ⟨_, rfl⟩
  obtain ⟨L, hL⟩ : ∃ L, leastW a f = L := ⟨_, rfl⟩
  rw [hA] at w1 w2 w3 w3b
  rw [hL] at w3 w3b ⊢
  have w5 : IntKind.i64.wrap (a * f) = A := by rw [hA, w1]
  clear m0 m1 l0 l1 a0 a1 f0 f1 hA hL w1
  go_enter Try.func82, Try.ntmps82
  go_wp2
  go_ret
  exact ⟨rfl, rfl⟩

set_option maxRecDepth 100000 in
set_option maxHeartbeats 8000000 in
theorem rworth_any (a b c d f : Int) (w : World) : Calls Try.prog 35 #[.int .i64 a, .int .i64 b, .int .i64 c, .int .i64 d, .int .i64 f] w fun e w' => e = .returned (.tuple #[.int .i64 (worthV a b c d f).1, .int .i64 (worthV a b c d f).2]) ∧ w = w' := by
  by_cases hok : okW a b c d f
  rotate_left
  · have e : worthV a b c d f = (0, 1) := if_neg hok
    rw [e]
    clear e
    by_cases p0 : a < 0
    · clear hok
      go_enter Try.func35, Try.ntmps35
      go_wp2
      go_ret2
      exact ⟨rfl, rfl⟩
    by_cases q0 : 9007199254740992 < a
    · clear hok
      go_enter Try.func35, Try.ntmps35
      go_wp2
      go_ret2
      exact ⟨rfl, rfl⟩
    by_cases p1 : b < 0
    · clear hok
      go_enter Try.func35, Try.ntmps35
      go_wp2
      go_ret2
      exact ⟨rfl, rfl⟩
    by_cases q1 : 1073741824 < b
    · clear hok
      go_enter Try.func35, Try.ntmps35
      go_wp2
      go_ret2
      exact ⟨rfl, rfl⟩
    by_cases p2 : c < 0
    · clear hok
      go_enter Try.func35, Try.ntmps35
      go_wp2
      go_ret2
      exact ⟨rfl, rfl⟩
    by_cases q2 : 1073741824 < c
    · clear hok
      go_enter Try.func35, Try.ntmps35
      go_wp2
      go_ret2
      exact ⟨rfl, rfl⟩
    by_cases p3 : d < 1
    · clear hok
      go_enter Try.func35, Try.ntmps35
      go_wp2
      go_ret2
      exact ⟨rfl, rfl⟩
    by_cases q3 : 1073741824 < d
    · clear hok
      go_enter Try.func35, Try.ntmps35
      go_wp2
      go_ret2
      exact ⟨rfl, rfl⟩
    by_cases p4 : f < 0
    · clear hok
      go_enter Try.func35, Try.ntmps35
      go_wp2
      go_ret2
      exact ⟨rfl, rfl⟩
    by_cases q4 : 100 < f
    · clear hok
      go_enter Try.func35, Try.ntmps35
      go_wp2
      go_ret2
      exact ⟨rfl, rfl⟩
    exact absurd ⟨⟨by omega, by omega⟩, ⟨by omega, by omega⟩, ⟨by omega, by omega⟩, ⟨by omega, by omega⟩, ⟨by omega, by omega⟩⟩ hok
  · have e : worthV a b c d f = (valW a b c d f, 0) := if_pos hok
    rw [e]
    obtain ⟨⟨a0, a1⟩, ⟨b0, b1⟩, ⟨c0, c1⟩, ⟨d0, d1⟩, ⟨f0, f1⟩⟩ := hok
    have p0 : ¬ a < 0 := by omega
    have q0 : ¬ 9007199254740992 < a := by omega
    have p1 : ¬ b < 0 := by omega
    have q1 : ¬ 1073741824 < b := by omega
    have p2 : ¬ c < 0 := by omega
    have q2 : ¬ 1073741824 < c := by omega
    have p3 : ¬ d < 1 := by omega
    have q3 : ¬ 1073741824 < d := by omega
    have p4 : ¬ f < 0 := by omega
    have q4 : ¬ 100 < f := by omega
    have HL := rleast_any a f a0 a1 f0 f1
    obtain ⟨m0, m1, l0, l1⟩ := least_bnd a0 a1 f0 f1
    have w4 : IntKind.i64.wrap (c - b) = c - b := wrap_in (by omega) (by omega)
    obtain ⟨L, hL⟩ : ∃ L, leastW a f = L := ⟨_, rfl⟩
    unfold valW
    rw [hL] at HL l0 l1
    rw [hL]
    replace HL := Lib.hid HL
    by_cases g0 : c ≤ b
    · rw [if_pos g0]
      clear e hL m0 m1 l0 l1 a0 a1 b0 b1 c0 c1 d0 d1 f0 f1 w4 HL
      go_enter Try.func35, Try.ntmps35
      go_wp2
      go_ret2
      exact ⟨rfl, rfl⟩
    · rw [if_neg g0]
      obtain ⟨G, hG⟩ : ∃ G, c - b = G := ⟨_, rfl⟩
      have w5 : IntKind.i64.wrap (c - b) = G := by rw [w4, hG]
      rw [hG]
      by_cases g1 : d ≤ G
      · rw [if_pos g1]
        clear e hL m0 m1 l0 l1 a0 a1 b0 b1 c0 c1 d0 d1 f0 f1 w4 hG
        go_enter Try.func35, Try.ntmps35
        go_wp2_with fail
        refine (HL.out _).mono ?_
        rintro e w' ⟨rfl, rfl⟩
        go_wp2
        go_ret2
        exact ⟨rfl, rfl⟩
      · rw [if_neg g1]
        have HP := muldivI_any a G d a0 a1 (by omega) (by omega) (by omega) (by omega)
        obtain ⟨Q, hQ⟩ : ∃ Q, a * G / d = Q := ⟨_, rfl⟩
        obtain ⟨R, hR⟩ : ∃ R, a * G % d = R := ⟨_, rfl⟩
        have x0 : 0 ≤ Q := by rw [← hQ]; exact Int.ediv_nonneg (Int.mul_nonneg a0 (by omega)) (by omega)
        have x1 : Q ≤ a := by
          rw [← hQ]
          refine Int.le_trans (Int.ediv_le_ediv (by omega) (Int.mul_le_mul_of_nonneg_left (show G ≤ d by omega) a0)) ?_
          rw [Int.mul_ediv_cancel _ (by omega)]
          exact Int.le_refl a
        rw [hQ, hR] at HP
        rw [hQ]
        replace HP := Lib.hid HP
        obtain ⟨X, hX⟩ : ∃ X, a - Q = X := ⟨_, rfl⟩
        have w7 : IntKind.i64.wrap (a - Q) = X := by rw [wrap_in (by omega) (by omega), hX]
        rw [hX]
        obtain ⟨M, hM⟩ : ∃ M, max L X = M := ⟨_, rfl⟩
        rw [hM]
        have HM1 : Hid ((if L < X then X else L) = M) := Lib.hid (by rw [← hM]; split <;> omega)
        have HM2 : Hid ((if X < L then L else X) = M) := Lib.hid (by rw [← hM]; split <;> omega)
        have HM3 : Hid (max L X = M) := Lib.hid hM
        clear e hL m0 m1 l0 l1 a0 a1 b0 b1 c0 c1 d0 d1 f0 f1 w4 hG hQ hR x0 x1 hX hM
        go_enter Try.func35, Try.ntmps35
        go_wp2_with fail
        refine (HP.out _).mono ?_
        rintro e w' ⟨rfl, rfl⟩
        go_wp2_with fail
        refine (HL.out _).mono ?_
        rintro e w' ⟨rfl, rfl⟩
        go_wp2
        go_ret2
        refine ⟨retP ⟨?_, rfl⟩, rfl⟩
        first | exact HM3.out | exact HM1.out | exact HM2.out
end Go.Proofs.Ytijdjbkmkopmnaa
