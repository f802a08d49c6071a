/-
  Walks of math/bits: LeadingZeros64, Div64 for every divisor; and the product of three.
-/
import Derived.Test.YtempnbchiofghaaGreatDoorAf
import Derived.Test.YtempnbchiofghaaGreatDoorDa
import Derived.Test.YtempnbchiofghaaGreatDoorSi
import Derived.Deep.CutBlock
namespace Go.Proofs.YtempnbchiofghaaGreatDoor
open Go.RowKit
set_option linter.unusedVariables false
set_option linter.unusedSimpArgs false

theorem maskU (n : Int) (h0 : 0 ≤ n) (h1 : n < 18446744073709551616) : bits .and .u64 n 4294967295 = n % 4294967296 := by
  have h := Mul64.maskN n.toNat (by omega)
  rw [Int.toNat_of_nonneg h0] at h
  rw [h]
  omega

theorem lead_any (y : Int) (L : Nat) (hL : Lib.bitLen y.toNat = L + 1) (hl : L ≤ 63) (h0 : 0 ≤ y) (h1 : y ≤ 18446744073709551615) (w : World) : Calls Tryz.prog 77 #[.int .u64 y] w fun e w' => e = .returned (.int .i64 ((63 - L : Nat) : Int)) ∧ w = w' := by
  have H := Any.bits_Len64 Tryz.lenL y w h0 h1
  rw [hL] at H
  change Calls Tryz.prog 91 _ _ _ at H
  replace H := Lib.hid H
  clear hL
  go_enter Tryz.func77, Tryz.ntmps77
  go_wp2_with fail
  refine H.out.mono ?_
  rintro e w' ⟨rfl, rfl⟩
  go_wp2
  go_ret
  refine ⟨retI ?_, rfl⟩
  try simp only [wrap64]
  omega

theorem bitLen_ends : ∀ (L x : Nat), 2 ^ L ≤ x → x < 2 ^ (L + 1) → L ≤ 63 → Lib.bitLen x = L + 1
  | 0, x, h0, h1, _ => by
    have : x = 1 := by omega
    subst this
    rfl
  | L + 1, x, h0, h1, h => by
    have hp : 0 < 2 ^ L := Nat.two_pow_pos L
    rw [Nat.pow_succ] at h0 h1
    rw [Nat.pow_succ] at h1
    have hx : x < 2 ^ 64 := Nat.lt_of_lt_of_le (by rw [Nat.pow_succ, Nat.pow_succ]; exact h1) (Nat.pow_le_pow_right (by decide) (show L + 1 + 1 ≤ 64 by omega))
    rw [Lib.bitLen_half x (by omega) hx, bitLen_ends L (x / 2) (by omega) (by rw [Nat.pow_succ]; omega) (by omega)]
    omega
theorem bitLen_is : ∀ (k x : Nat), x ≠ 0 → x < 2 ^ k → ∃ L, L < k ∧ 2 ^ L ≤ x ∧ x < 2 ^ (L + 1)
  | 0, x, h, h1 => by
    rw [Nat.pow_zero] at h1
    omega
  | k + 1, x, h, h1 => by
    by_cases hx : x < 2 ^ k
    · obtain ⟨L, hL, h2⟩ := bitLen_is k x h hx
      exact ⟨L, by omega, h2⟩
    · exact ⟨k, by omega, by omega, h1⟩


set_option maxRecDepth 100000 in
set_option maxHeartbeats 8000000 in
theorem div64_great (hi lo y P E Y A B U V N1 N0 : Int) (s : Nat) (hs : s ≤ 63) (hy1 : hi < y) (hpos : 0 < hi) (hlo : 0 ≤ lo) (hlo1 : lo < 18446744073709551616) (hy : y < 18446744073709551616)
    (hY : IntKind.u64.wrap (y * 2 ^ s) = Y) (hB : bits .and .u64 Y 4294967295 = B) (hA : Y / 4294967296 = A) (hV : IntKind.u64.wrap (lo * 2 ^ s) = V)
    (hU : bits .or .u64 (IntKind.u64.wrap (hi * 2 ^ s)) (lo / 2 ^ (64 - s)) = U) (hN1 : V / 4294967296 = N1) (hN0 : bits .and .u64 V 4294967295 = N0)
    (HH : DH Y A B U N1) (k0 : 0 ≤ N0) (k1 : N0 < 4294967296) (R1 R2 : Int)
    (hR1 : (U * 18446744073709551616 + N1 * 4294967296 + N0) / Y = R1) (hR2 : (U * 18446744073709551616 + N1 * 4294967296 + N0) % Y / 2 ^ s = R2)
    (H : Hid (∀ w, Calls Tryz.prog 77 #[.int .u64 y] w fun e w' => e = .returned (.int .i64 (s : Int)) ∧ w = w')) (w : World) :
    Calls Tryz.prog 64 #[.int .u64 hi, .int .u64 lo, .int .u64 y] w fun e w' => e = .returned (.tuple #[.int .u64 R1, .int .u64 R2]) ∧ w = w' := by
  have T1 := Lib.hid HH
  have HR1 := Lib.hid hR1; have HR2 := Lib.hid hR2
  obtain ⟨j1, j2, j3, j4, j5, j6, j7, j8, j9⟩ := HH
  have T1S := Lib.hid (di_start T1.out)
  obtain ⟨Q0, hQ0⟩ : ∃ Q0, U / A = Q0 := ⟨_, rfl⟩
  rw [hQ0] at T1S
  have q1 : IntKind.u64.wrap (U.tdiv A) = Q0 := by
    rw [Int.tdiv_eq_ediv_of_nonneg j6, hQ0, IntKind.wrap_u64]
    have := T1S.out.1.most T1.out; have := T1S.out.1.a0
    omega
  have q2 : IntKind.u64.wrap (Q0 * A) = Q0 * A := by
    rw [IntKind.wrap_u64]
    have := T1S.out.1.s; have := T1S.out.1.b0; have := T1S.out.1.b1
    have k3 : 0 ≤ Q0 * A := Int.mul_nonneg T1S.out.1.a0 (by omega)
    omega
  have q3 : IntKind.u64.wrap (U - Q0 * A) = U - Q0 * A := by
    rw [IntKind.wrap_u64]
    have := T1S.out.1.s; have := T1S.out.1.b0; have := T1S.out.1.b1
    omega
  have q4 : A ≠ 0 := by omega
  have q5 : IntKind.u64.wrap (U / A) = Q0 := by
    rw [Int.tdiv_eq_ediv_of_nonneg j6] at q1
    exact q1
  clear j1 j2 j3 j4 j5 j7 j8 j9 hQ0 hR1 hR2
  go_enter Tryz.func64, Tryz.ntmps64
  go_wp2_with fail
  refine (H.out _).mono ?_
  rintro e w' ⟨rfl, rfl⟩
  go_upto_block 0 with (fail)
  clear hY hB hA hV hU hN1 hN0 q1 q2 q3 q5 hlo hlo1 hy hy1 hpos
  go_cut [15, 16] from 67 to 85 (fun q r wx => ∃ a b : Int, q = .int .u64 a ∧ r = .int .u64 b ∧ Hid (DD Y U N1 a) ∧ w = wx)
  case first =>
    go_wp2_with fail
    go_loopw [15, 16] (fun q r wr => ∃ a b : Int, q = .int .u64 a ∧ r = .int .u64 b ∧ Hid (DI Y A B U N1 a b) ∧ w = wr) (fun q _ _ => (intOf q).toNat)
    case atStart => exact ⟨Q0, U - Q0 * A, rfl, rfl, Lib.hid T1S.out.1, rfl⟩
    case round =>
      obtain ⟨a, b, rfl, rfl, HI, rfl⟩ := hrel
      obtain ⟨i1, i2, i3, i4, i5⟩ := HI.out
      have i6 := HI.out.most T1.out
      obtain ⟨j1, j2, j3, j4, j5, j6, j7, j8, j9⟩ := T1.out
      have w4 : IntKind.u64.wrap (4294967296 * b) = 4294967296 * b := by rw [IntKind.wrap_u64]; omega
      have w5 : IntKind.u64.wrap (4294967296 * b + N1) = 4294967296 * b + N1 := by rw [IntKind.wrap_u64]; omega
      have w6 : IntKind.u64.wrap (b + A) = b + A := by rw [IntKind.wrap_u64]; omega
      obtain ⟨M, hM⟩ : ∃ M, a * B = M := ⟨_, rfl⟩
      by_cases hA : 4294967296 ≤ a
      · have w7 : IntKind.u64.wrap (a - 1) = a - 1 := by rw [IntKind.wrap_u64]; omega
        by_cases hb : 4294967296 ≤ b + A
        · have HD := Lib.hid (di_break T1.out HI.out (Or.inl hA) hb)
          clear i1 i2 i3 i4 i5 i6 j1 j2 j3 j4 j5 j6 j7 j8 j9 HI hM
          go_wp2
          go_meet
          exact ⟨a - 1, b + A, rfl, rfl, HD, rfl⟩
        · have HD := Lib.hid (di_next T1.out HI.out (Or.inl hA) (by omega))
          clear i1 i3 i4 i5 i6 j1 j2 j3 j4 j5 j6 j7 j8 j9 HI hM
          go_wp2
          go_roundw
          case rel => exact ⟨a - 1, b + A, rfl, rfl, HD, trivial⟩
          case measure => simp [intOf]; omega
      · have w8 : IntKind.u64.wrap (a * B) = M := by
          rw [← hM, IntKind.wrap_u64]
          have k1 : a * B ≤ 4294967296 * 4294967295 := Int.mul_le_mul (by omega) (by omega) j4 (by decide)
          have k2 : 0 ≤ a * B := Int.mul_nonneg i2 j4
          omega
        by_cases hB : 4294967296 * b + N1 < M
        · have hB2 : 4294967296 * b + N1 < a * B := by rw [hM]; exact hB
          have k3 := (di_dec T1.out HI.out (Or.inr hB2)).1
          have w7 : IntKind.u64.wrap (a - 1) = a - 1 := by rw [IntKind.wrap_u64]; omega
          by_cases hb : 4294967296 ≤ b + A
          · have HD := Lib.hid (di_break T1.out HI.out (Or.inr hB2) hb)
            clear i1 i2 i3 i4 i5 i6 j1 j2 j3 j4 j5 j6 j7 j8 j9 HI hM hB2 k3
            go_wp2
            go_meet
            exact ⟨a - 1, b + A, rfl, rfl, HD, rfl⟩
          · have HD := Lib.hid (di_next T1.out HI.out (Or.inr hB2) (by omega))
            clear i1 i3 i4 i5 i6 j1 j2 j3 j4 j5 j6 j7 j8 j9 HI hM hB2
            go_wp2
            go_roundw
            case rel => exact ⟨a - 1, b + A, rfl, rfl, HD, trivial⟩
            case measure => simp [intOf]; omega
        · have HD := Lib.hid (di_exit T1.out HI.out (by rw [hM]; exact hB))
          clear i1 i2 i3 i4 i5 i6 j1 j2 j3 j4 j5 j6 j7 j8 j9 HI hM
          go_wp2
          go_meet
          exact ⟨a, b, rfl, rfl, HD, rfl⟩
  case rest =>
  obtain ⟨x, r0, rfl, rfl, HX, rfl⟩ := hcut
  have T2 := Lib.hid (HX.out.rest T1.out k0 k1)
  obtain ⟨D, hD⟩ : ∃ D, U * 4294967296 + N1 - x * Y = D := ⟨_, rfl⟩
  have HD := Lib.hid hD
  rw [hD] at T2
  have T2S := Lib.hid (di_start T2.out)
  obtain ⟨Z0, hZ0⟩ : ∃ Z0, D / A = Z0 := ⟨_, rfl⟩
  rw [hZ0] at T2S
  obtain ⟨X1, hX1⟩ : ∃ X, IntKind.u64.wrap (U * 4294967296) = X := ⟨_, rfl⟩
  obtain ⟨X2, hX2⟩ : ∃ X, IntKind.u64.wrap (X1 + N1) = X := ⟨_, rfl⟩
  obtain ⟨X3, hX3⟩ : ∃ X, IntKind.u64.wrap (x * Y) = X := ⟨_, rfl⟩
  have x4 : IntKind.u64.wrap (X2 - X3) = D := by
    have d0 := T2.out.u0; have d1 := T2.out.u1
    have d2 := T2.out.y; have d3 := T2.out.a1; have d4 := T2.out.b1
    rw [← hX2, ← hX3, ← hX1]
    simp only [IntKind.wrap_u64]
    omega
  have q1 : IntKind.u64.wrap (D.tdiv A) = Z0 := by
    rw [Int.tdiv_eq_ediv_of_nonneg T2.out.u0, hZ0, IntKind.wrap_u64]
    have := T2S.out.1.most T2.out; have := T2S.out.1.a0
    omega
  have q2 : IntKind.u64.wrap (Z0 * A) = Z0 * A := by
    rw [IntKind.wrap_u64]
    have := T2S.out.1.s; have := T2S.out.1.b0; have := T2S.out.1.b1
    have d1 := T2.out.u1
    have d2 := T2.out.y; have d3 := T2.out.a1; have d4 := T2.out.b1; have d5 := T2.out.a0
    have k3 : 0 ≤ Z0 * A := Int.mul_nonneg T2S.out.1.a0 (by omega)
    omega
  have q3 : IntKind.u64.wrap (D - Z0 * A) = D - Z0 * A := by
    rw [IntKind.wrap_u64]
    have := T2S.out.1.s; have := T2S.out.1.b0; have := T2S.out.1.b1
    omega
  have q5 : IntKind.u64.wrap (D / A) = Z0 := by
    rw [Int.tdiv_eq_ediv_of_nonneg T2.out.u0] at q1
    exact q1
  have q6 : 0 ≤ D := T2.out.u0
  clear hZ0 hD
  go_upto_block 2 with (fail)
  clear q1 q2 q3 q5 x4 hX1 hX2 hX3
  go_cut [18, 16] from 102 to 120 (fun q r wx => ∃ a b : Int, q = .int .u64 a ∧ r = .int .u64 b ∧ Hid (DD Y D N0 a) ∧ w = wx)
  case first =>
    go_wp2_with fail
    go_loopw [18, 16] (fun q r wr => ∃ a b : Int, q = .int .u64 a ∧ r = .int .u64 b ∧ Hid (DI Y A B D N0 a b) ∧ w = wr) (fun q _ _ => (intOf q).toNat)
    case atStart => exact ⟨Z0, D - Z0 * A, rfl, rfl, Lib.hid T2S.out.1, rfl⟩
    case round =>
      obtain ⟨a, b, rfl, rfl, HI, rfl⟩ := hrel
      obtain ⟨i1, i2, i3, i4, i5⟩ := HI.out
      have i6 := HI.out.most T2.out
      obtain ⟨j1, j2, j3, j4, j5, j6, j7, j8, j9⟩ := T2.out
      have w4 : IntKind.u64.wrap (4294967296 * b) = 4294967296 * b := by rw [IntKind.wrap_u64]; omega
      have w5 : IntKind.u64.wrap (4294967296 * b + N0) = 4294967296 * b + N0 := by rw [IntKind.wrap_u64]; omega
      have w6 : IntKind.u64.wrap (b + A) = b + A := by rw [IntKind.wrap_u64]; omega
      obtain ⟨M, hM⟩ : ∃ M, a * B = M := ⟨_, rfl⟩
      by_cases hA : 4294967296 ≤ a
      · have w7 : IntKind.u64.wrap (a - 1) = a - 1 := by rw [IntKind.wrap_u64]; omega
        by_cases hb : 4294967296 ≤ b + A
        · have HD := Lib.hid (di_break T2.out HI.out (Or.inl hA) hb)
          clear i1 i2 i3 i4 i5 i6 j1 j2 j3 j4 j5 j6 j7 j8 j9 HI hM
          go_wp2
          go_meet
          exact ⟨a - 1, b + A, rfl, rfl, HD, rfl⟩
        · have HD := Lib.hid (di_next T2.out HI.out (Or.inl hA) (by omega))
          clear i1 i3 i4 i5 i6 j1 j2 j3 j4 j5 j6 j7 j8 j9 HI hM
          go_wp2
          go_roundw
          case rel => exact ⟨a - 1, b + A, rfl, rfl, HD, trivial⟩
          case measure => simp [intOf]; omega
      · have w8 : IntKind.u64.wrap (a * B) = M := by
          rw [← hM, IntKind.wrap_u64]
          have k1 : a * B ≤ 4294967296 * 4294967295 := Int.mul_le_mul (by omega) (by omega) j4 (by decide)
          have k2 : 0 ≤ a * B := Int.mul_nonneg i2 j4
          omega
        by_cases hB : 4294967296 * b + N0 < M
        · have hB2 : 4294967296 * b + N0 < a * B := by rw [hM]; exact hB
          have k3 := (di_dec T2.out HI.out (Or.inr hB2)).1
          have w7 : IntKind.u64.wrap (a - 1) = a - 1 := by rw [IntKind.wrap_u64]; omega
          by_cases hb : 4294967296 ≤ b + A
          · have HD := Lib.hid (di_break T2.out HI.out (Or.inr hB2) hb)
            clear i1 i2 i3 i4 i5 i6 j1 j2 j3 j4 j5 j6 j7 j8 j9 HI hM hB2 k3
            go_wp2
            go_meet
            exact ⟨a - 1, b + A, rfl, rfl, HD, rfl⟩
          · have HD := Lib.hid (di_next T2.out HI.out (Or.inr hB2) (by omega))
            clear i1 i3 i4 i5 i6 j1 j2 j3 j4 j5 j6 j7 j8 j9 HI hM hB2
            go_wp2
            go_roundw
            case rel => exact ⟨a - 1, b + A, rfl, rfl, HD, trivial⟩
            case measure => simp [intOf]; omega
        · have HD := Lib.hid (di_exit T2.out HI.out (by rw [hM]; exact hB))
          clear i1 i2 i3 i4 i5 i6 j1 j2 j3 j4 j5 j6 j7 j8 j9 HI hM
          go_wp2
          go_meet
          exact ⟨a, b, rfl, rfl, HD, rfl⟩
  case rest =>
  obtain ⟨z, r1, rfl, rfl, HZ, rfl⟩ := hcut
  have hYp : 0 < Y := by have := T1.out.u0; have := T1.out.u1; omega
  have hD := HD.out
  have hb := dd_both HX.out (by rw [hD]; exact HZ.out) hYp
  rw [hD] at hb
  obtain ⟨b1, b2⟩ := hb
  have c1 := HR1.out
  have c2 := HR2.out
  rw [b1] at c1
  rw [b2] at c2
  have s1 := HX.out.small T1.out; have s2 := HZ.out.small T2.out
  have s3 := HX.out.q0; have s4 := HZ.out.q0
  have v1 : IntKind.u64.wrap (x * 4294967296) = x * 4294967296 := by rw [IntKind.wrap_u64]; omega
  have v2 : IntKind.u64.wrap (x * 4294967296 + z) = R1 := by rw [IntKind.wrap_u64]; omega
  obtain ⟨X1, hX1⟩ : ∃ X, IntKind.u64.wrap (D * 4294967296) = X := ⟨_, rfl⟩
  obtain ⟨X2, hX2⟩ : ∃ X, IntKind.u64.wrap (X1 + N0) = X := ⟨_, rfl⟩
  obtain ⟨X3, hX3⟩ : ∃ X, IntKind.u64.wrap (z * Y) = X := ⟨_, rfl⟩
  obtain ⟨F, hF⟩ : ∃ F, D * 4294967296 + N0 - z * Y = F := ⟨_, rfl⟩
  rw [hF] at c2
  have x4 : IntKind.u64.wrap (X2 - X3) = F := by
    have f1 := HZ.out.le; have f2 := HZ.out.lt
    have d2 := T2.out.y; have d3 := T2.out.a1; have d4 := T2.out.b1
    rw [← hX2, ← hX3, ← hX1, ← hF]
    simp only [IntKind.wrap_u64]
    omega
  clear b1 b2 c1 s1 s2 s3 s4 hF hD
  go_wp2
  go_ret2
  exact ⟨rfl, rfl⟩
end Go.Proofs.YtempnbchiofghaaGreatDoor
