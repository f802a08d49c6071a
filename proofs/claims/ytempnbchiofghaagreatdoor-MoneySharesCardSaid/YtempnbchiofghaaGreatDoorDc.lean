/-
  Walks: Div64 whole, the proportion of money.
-/
import Derived.Test.YtempnbchiofghaaGreatDoorDb
namespace Go.Proofs.YtempnbchiofghaaGreatDoor
open Go.RowKit
set_option linter.unusedVariables false
set_option linter.unusedSimpArgs false

theorem div64_pos (hi lo y : Int) (h0 : 0 < hi) (h1 : hi < y) (l0 : 0 ≤ lo) (l1 : lo < 18446744073709551616) (hy : y < 18446744073709551616) (w : World) :
    Calls Tryz.prog 64 #[.int .u64 hi, .int .u64 lo, .int .u64 y] w fun e w' => e = .returned (.tuple #[.int .u64 ((hi * 18446744073709551616 + lo) / y), .int .u64 ((hi * 18446744073709551616 + lo) % y)]) ∧ w = w' := by
  obtain ⟨L, hL, hL0, hL1⟩ := bitLen_is 64 y.toNat (by omega) (by omega)
  have hbl := bitLen_ends L y.toNat hL0 hL1 (by omega)
  have Hlead := Lib.hid (lead_any y L hbl (by omega) (by omega) (by omega))
  obtain ⟨s, hs⟩ : ∃ s, 63 - L = s := ⟨_, rfl⟩
  rw [hs] at Hlead
  obtain ⟨P, hP⟩ : ∃ P : Int, (2 : Int) ^ s = P := ⟨_, rfl⟩
  obtain ⟨E, hE⟩ : ∃ E : Int, (2 : Int) ^ (64 - s) = E := ⟨_, rfl⟩
  have hPE : P * E = 18446744073709551616 := by
    rw [← hP, ← hE, ← Int.pow_add, show s + (64 - s) = 64 by omega]
    rfl
  have hPp : 0 < P := by rw [← hP]; exact Int.pow_pos (by decide)
  have hEp : 0 < E := by rw [← hE]; exact Int.pow_pos (by decide)
  have e63 : 2 ^ L * 2 ^ s = 9223372036854775808 := by rw [← Nat.pow_add, show L + s = 63 by omega]
  have hPn : ((2 ^ s : Nat) : Int) = P := by (rw [← hP]; try rfl)
  have hY0 : 9223372036854775808 ≤ y * P := by
    have h3 : 2 ^ L * 2 ^ s ≤ y.toNat * 2 ^ s := Nat.mul_le_mul_right _ hL0
    have h4 : ((y.toNat * 2 ^ s : Nat) : Int) = y * P := by rw [Int.natCast_mul, hPn, Int.toNat_of_nonneg (by omega)]
    omega
  have hY1 : y * P < 18446744073709551616 := by
    have h3 : y.toNat * 2 ^ s < 2 ^ (L + 1) * 2 ^ s := Nat.mul_lt_mul_of_pos_right hL1 (Nat.two_pow_pos s)
    have h4 : ((y.toNat * 2 ^ s : Nat) : Int) = y * P := by rw [Int.natCast_mul, hPn, Int.toNat_of_nonneg (by omega)]
    rw [Nat.pow_succ, Nat.mul_right_comm] at h3
    omega
  have hhy : hi * P ≤ y * P := Int.mul_le_mul_of_nonneg_right (by omega) (by omega)
  have hh0 : 0 ≤ hi * P := Int.mul_nonneg (by omega) (by omega)
  have d1 := Int.mul_ediv_add_emod lo E
  have d2 := Int.emod_nonneg lo (show E ≠ 0 by omega)
  have d3 := Int.emod_lt_of_pos lo hEp
  have d4 := Int.ediv_nonneg l0 (show 0 ≤ E by omega)
  have d5 : lo / E < P := by
    refine Int.ediv_lt_of_lt_mul hEp ?_
    rw [hPE]; exact l1
  obtain ⟨e, he⟩ : ∃ e, lo / E = e := ⟨_, rfl⟩
  obtain ⟨f, hf⟩ : ∃ f, lo % E = f := ⟨_, rfl⟩
  rw [he, hf] at d1
  rw [hf] at d2 d3
  rw [he] at d4 d5
  have hlp : lo * P = e * 18446744073709551616 + f * P := by
    rw [← d1, Int.add_mul, ← hPE, Int.mul_comm E e, Int.mul_assoc, Int.mul_comm E P]
  have hf0 : 0 ≤ f * P := Int.mul_nonneg d2 (by omega)
  have hf1 : f * P < 18446744073709551616 := by
    rw [← hPE, Int.mul_comm P E]
    exact Int.mul_lt_mul_of_pos_right d3 hPp
  have hPle : P ≤ 9223372036854775808 := by
    have h3 : 2 ^ s ≤ 2 ^ 63 := Nat.pow_le_pow_right (by decide) (by omega)
    omega
  have fY : IntKind.u64.wrap (y * 2 ^ s) = y * P := by rw [hP, IntKind.wrap_u64]; omega
  have fH : IntKind.u64.wrap (hi * 2 ^ s) = hi * P := by rw [hP, IntKind.wrap_u64]; omega
  have fV : IntKind.u64.wrap (lo * 2 ^ s) = f * P := by rw [hP, IntKind.wrap_u64, hlp]; omega
  have fU : bits .or .u64 (IntKind.u64.wrap (hi * 2 ^ s)) (lo / 2 ^ (64 - s)) = hi * P + e := by
    rw [fH, hE, he]
    refine bits_join .u64 64 (by decide) (fun n h0 h1 => ?_) s _ _ hh0 ?_ (by omega) d4 (by rw [hP]; exact d5) (by omega)
    · rw [IntKind.wrap_u64]; omega
    · rw [hP]; exact Int.mul_emod_left hi P
  have fB := maskU (y * P) (by omega) hY1
  have fN := maskU (f * P) hf0 hf1
  have hsum : (hi * P + e) * 18446744073709551616 + f * P = (hi * 18446744073709551616 + lo) * P := by
    rw [Int.add_mul, Int.add_mul, hlp, Int.mul_right_comm]
    omega
  have hlt : hi * P + e < y * P := by
    have h3 : (hi * 18446744073709551616 + lo) * P ≤ (y * 18446744073709551616 - 1) * P := Int.mul_le_mul_of_nonneg_right (by omega) (by omega)
    rw [Int.sub_mul, Int.mul_right_comm y] at h3
    omega
  have hval : (hi * P + e) * 18446744073709551616 + f * P / 4294967296 * 4294967296 + f * P % 4294967296 = (hi * 18446744073709551616 + lo) * P := by omega
  obtain ⟨g1, g2⟩ := shifted (n := hi * 18446744073709551616 + lo) (y := y) (P := P) (by omega) hPp
  refine div64_great hi lo y P E (y * P) (y * P / 4294967296) (y * P % 4294967296) (hi * P + e) (f * P) (f * P / 4294967296) (f * P % 4294967296) s (by omega) h1 h0 l0 l1 hy fY fB rfl fV fU rfl fN ?_ (by omega) (by omega) _ _ ?_ ?_ Hlead w
  · exact ⟨by omega, by omega, by omega, by omega, by omega, by omega, hlt, by omega, by omega⟩
  · rw [hval]; exact g1
  · rw [hval, hP]; exact g2

set_option maxHeartbeats 1000000 in
theorem div64_any (hi lo y : Int) (h0 : 0 ≤ hi) (h1 : hi < y) (l0 : 0 ≤ lo) (l1 : lo < 18446744073709551616) (hy : y < 18446744073709551616) (w : World) :
    Calls Tryz.prog 64 #[.int .u64 hi, .int .u64 lo, .int .u64 y] w fun e w' => e = .returned (.tuple #[.int .u64 ((hi * 18446744073709551616 + lo) / y), .int .u64 ((hi * 18446744073709551616 + lo) % y)]) ∧ Below w.heap.size w w' := by
  rcases Int.lt_or_le 0 hi with hp | hp
  · refine (div64_pos hi lo y hp h1 l0 l1 hy w).mono ?_
    rintro e w' ⟨rfl, rfl⟩
    exact ⟨rfl, Below.refl _ _⟩
  · obtain rfl : hi = 0 := by omega
    rw [Int.zero_mul, Int.zero_add]
    have b0 : 0 ≤ lo / y := Int.ediv_nonneg l0 (by omega)
    have b1 : lo / y ≤ lo := Int.ediv_le_self _ l0
    have b2 := Int.emod_nonneg lo (show y ≠ 0 by omega)
    have b3 := Int.emod_lt_of_pos lo h1
    have w1 : IntKind.u64.wrap (lo.tdiv y) = lo / y := by rw [Int.tdiv_eq_ediv_of_nonneg l0, IntKind.wrap_u64]; omega
    have w2 : IntKind.u64.wrap (lo.tmod y) = lo % y := by rw [Int.tmod_eq_emod_of_nonneg l0, IntKind.wrap_u64]; omega
    have w3 : IntKind.u64.wrap (lo / y) = lo / y := by rw [IntKind.wrap_u64]; omega
    have w4 : IntKind.u64.wrap (lo % y) = lo % y := by rw [IntKind.wrap_u64]; omega
    have hy0 : y ≠ 0 := by omega
    obtain ⟨q, hq⟩ : ∃ q, lo / y = q := ⟨_, rfl⟩
    obtain ⟨r, hr⟩ : ∃ r, lo % y = r := ⟨_, rfl⟩
    rw [hq] at w1 w3 ⊢
    rw [hr] at w2 w4 ⊢
    have HR := Lib.hid hr
    clear b0 b1 b2 b3 l1 hy h0 hp hr
    go_enter Tryz.func64, Tryz.ntmps64
    go_wp2_with fail
    go_quiet (fail)
    have HD : Hid (Below w.heap.size w (w.drewN nq)) := Lib.hid (bdrewN (Below.refl _ _) nq)
    generalize w.drewN nq = w7 at *
    go_wp2
    go_ret2
    exact ⟨congrArg (fun z => Ending.returned (.tuple #[.int .u64 q, .int .u64 z])) HR.out, HD.out⟩

/-- The proportion: a * b / c and the remainder. -/
theorem proportion_any (a b c : Int) (a0 : 0 ≤ a) (a1 : a ≤ 9007199254740992) (b0 : 0 ≤ b) (b1 : b ≤ 9007199254740992) (c0 : 0 < c) (c1 : c ≤ 9223372036854775807) (hbc : b ≤ c) (w : World) :
    Calls Tryz.prog 50 #[.int .i64 a, .int .i64 b, .int .i64 c] w fun e w' => e = .returned (.tuple #[.int .i64 (a * b / c), .int .i64 (a * b % c)]) ∧ Below w.heap.size w w' := by
  have H1 := Any.bits_Mul64 Tryz.mulL a.toNat b.toNat (by omega) (by omega)
  have ea : ((a.toNat : Nat) : Int) = a := Int.toNat_of_nonneg a0
  have eb : ((b.toNat : Nat) : Int) = b := Int.toNat_of_nonneg b0
  have eab : ((a.toNat * b.toNat : Nat) : Int) = a * b := by rw [Int.natCast_mul, ea, eb]
  have hab0 : 0 ≤ a * b := Int.mul_nonneg a0 b0
  have eh : ((a.toNat * b.toNat / 18446744073709551616 : Nat) : Int) = a * b / 18446744073709551616 := by omega
  have el : ((a.toNat * b.toNat % 18446744073709551616 : Nat) : Int) = a * b % 18446744073709551616 := by omega
  rw [eh, el, ea, eb] at H1
  have hab1 : a * b ≤ a * c := Int.mul_le_mul_of_nonneg_left hbc a0
  have hab2 : a * c ≤ 9007199254740992 * c := Int.mul_le_mul_of_nonneg_right a1 (by omega)
  have hhi : a * b / 18446744073709551616 < c := by omega
  have H2 := div64_any (a * b / 18446744073709551616) (a * b % 18446744073709551616) c (by omega) hhi (by omega) (by omega) (by omega)
  have es : a * b / 18446744073709551616 * 18446744073709551616 + a * b % 18446744073709551616 = a * b := by omega
  rw [es] at H2
  have q0 : 0 ≤ a * b / c := Int.ediv_nonneg hab0 (by omega)
  have q1 : a * b / c ≤ a := by
    refine Int.le_trans (Int.ediv_le_ediv c0 hab1) ?_
    rw [Int.mul_ediv_cancel _ (by omega)]
    exact Int.le_refl a
  have r0 := Int.emod_nonneg (a * b) (show c ≠ 0 by omega)
  have r1 := Int.emod_lt_of_pos (a * b) c0
  have w1 : IntKind.u64.wrap a = a := by rw [IntKind.wrap_u64]; omega
  have w2 : IntKind.u64.wrap b = b := by rw [IntKind.wrap_u64]; omega
  have w3 : IntKind.u64.wrap c = c := by rw [IntKind.wrap_u64]; omega
  have w4 : IntKind.i64.wrap (a * b / c) = a * b / c := wrap_in (by omega) (by omega)
  have w5 : IntKind.i64.wrap (a * b % c) = a * b % c := wrap_in (by omega) (by omega)
  obtain ⟨q, hq⟩ : ∃ q, a * b / c = q := ⟨_, rfl⟩
  obtain ⟨r, hr⟩ : ∃ r, a * b % c = r := ⟨_, rfl⟩
  obtain ⟨x, hx⟩ : ∃ x, a * b / 18446744073709551616 = x := ⟨_, rfl⟩
  obtain ⟨z, hz⟩ : ∃ z, a * b % 18446744073709551616 = z := ⟨_, rfl⟩
  rw [hx, hz] at H1
  rw [hx, hz, hq, hr] at H2
  rw [hq] at w4 ⊢
  rw [hr] at w5 ⊢
  change ∀ w, Calls Tryz.prog 63 _ _ _ at H1
  replace H1 := Lib.hid H1; replace H2 := Lib.hid H2
  clear ea eb eab hab0 eh el hab1 hab2 hhi es q0 q1 r0 r1 hq hr hx hz a0 a1 b0 b1 c0 c1 hbc
  go_enter Tryz.func50, Tryz.ntmps50
  go_wp2_with fail
  refine (H1.out _).mono ?_
  rintro e w' ⟨rfl, rfl⟩
  go_wp2_with fail
  refine (H2.out _).mono ?_
  rintro e w2 ⟨rfl, hb⟩
  have HB := Lib.hid hb
  clear hb
  go_wp2
  go_ret2
  exact ⟨rfl, HB.out⟩
end Go.Proofs.YtempnbchiofghaaGreatDoor
