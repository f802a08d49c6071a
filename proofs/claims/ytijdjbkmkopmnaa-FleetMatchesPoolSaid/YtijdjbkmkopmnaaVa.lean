/-
  The long division; Div64; the proportion of money.
-/
import Derived.Test.YtijdjbkmkopmnaaVm
import Derived.Deep.CutBlock
namespace Go.Proofs.Ytijdjbkmkopmnaa
open Go.RowKit
set_option linter.unusedVariables false
set_option linter.unusedSimpArgs false

/-- The divisor Y = A * 2^32 + B, its highest bit set; the remainder U, the next digit N. -/
structure DH (Y A B U N : Int) : Prop where
  y : Y = A * 4294967296 + B
  a0 : 2147483648 ≤ A
  a1 : A < 4294967296
  b0 : 0 ≤ B
  b1 : B < 4294967296
  u0 : 0 ≤ U
  u1 : U < Y
  n0 : 0 ≤ N
  n1 : N < 4294967296
/-- a is an estimate of the digit, b its rest. -/
structure DI (Y A B U N a b : Int) : Prop where
  s : a * A + b = U
  a0 : 0 ≤ a
  b0 : 0 ≤ b
  b1 : b < 4294967296
  lt : U * 4294967296 + N < (a + 1) * Y
theorem DI.most {Y A B U N a b : Int} (H : DH Y A B U N) (h : DI Y A B U N a b) : a ≤ 4294967298 := by
  refine Int.not_lt.1 fun hgt => ?_
  have h1 : 4294967299 * A ≤ a * A := Int.mul_le_mul_of_nonneg_right (by omega) (by have := H.a0; omega)
  have := h.s; have := H.u1; have := H.y; have := H.b1; have := H.a0; have := h.b0
  omega
theorem di_start {Y A B U N : Int} (H : DH Y A B U N) : DI Y A B U N (U / A) (U - U / A * A) ∧ U - U / A * A < A := by
  have h1 := Int.mul_ediv_add_emod U A
  have h2 := Int.emod_nonneg U (show A ≠ 0 by have := H.a0; omega)
  have h3 := Int.emod_lt_of_pos U (show 0 < A by have := H.a0; omega)
  rw [Int.mul_comm] at h1
  have h4 := Int.ediv_nonneg H.u0 (show 0 ≤ A by have := H.a0; omega)
  generalize U / A = q at *
  generalize U % A = r at *
  have ha1 := H.a1
  refine ⟨⟨by omega, h4, by omega, by omega, ?_⟩, by omega⟩
  have h5 : (q + 1) * (A * 4294967296) ≤ (q + 1) * Y := Int.mul_le_mul_of_nonneg_left (by have := H.y; have := H.b0; omega) (by omega)
  have h6 : (q + 1) * (A * 4294967296) = (q * A + A) * 4294967296 := by rw [← Int.mul_assoc, Int.add_mul, Int.one_mul]
  have := H.n1
  omega
/-- The test of the loop. -/
theorem di_dec {Y A B U N a b : Int} (H : DH Y A B U N) (h : DI Y A B U N a b) (hc : 4294967296 ≤ a ∨ 4294967296 * b + N < a * B) :
    1 ≤ a ∧ (a - 1) * A + (b + A) = U ∧ U * 4294967296 + N < a * Y := by
  have ha0 := H.a0; have hn0 := H.n0; have hu1 := H.u1; have hn1 := H.n1
  have h1 : 1 ≤ a := by
    rcases hc with hc | hc
    · omega
    · refine Int.not_lt.1 fun hlt => ?_
      have e : a = 0 := by have := h.a0; omega
      rw [e, Int.zero_mul] at hc
      have := h.b0
      omega
  refine ⟨h1, ?_, ?_⟩
  · rw [Int.sub_mul, Int.one_mul]
    have := h.s
    omega
  · rcases hc with hc | hc
    · have h2 : 4294967296 * Y ≤ a * Y := Int.mul_le_mul_of_nonneg_right hc (by have := H.u0; omega)
      omega
    · have e : a * Y = a * A * 4294967296 + a * B := by rw [H.y, Int.mul_add, Int.mul_assoc]
      have := h.s
      omega
theorem di_next {Y A B U N a b : Int} (H : DH Y A B U N) (h : DI Y A B U N a b) (hc : 4294967296 ≤ a ∨ 4294967296 * b + N < a * B) (hb : b + A < 4294967296) : DI Y A B U N (a - 1) (b + A) := by
  obtain ⟨h1, h2, h3⟩ := di_dec H h hc
  have := H.a0; have := h.b0
  refine ⟨h2, by omega, by omega, hb, ?_⟩
  rw [Int.sub_add_cancel]
  exact h3
/-- The digit: q * Y is at most what is divided, less than one Y below it. -/
structure DD (Y U N q : Int) : Prop where
  q0 : 0 ≤ q
  le : q * Y ≤ U * 4294967296 + N
  lt : U * 4294967296 + N < q * Y + Y
theorem DD.small {Y A B U N q : Int} (H : DH Y A B U N) (h : DD Y U N q) : q < 4294967296 := by
  refine Int.not_le.1 fun hge => ?_
  have h2 : 4294967296 * Y ≤ q * Y := Int.mul_le_mul_of_nonneg_right hge (by have := H.u0; have := H.u1; omega)
  have := H.u1; have := h.le; have := H.n1
  omega
theorem di_break {Y A B U N a b : Int} (H : DH Y A B U N) (h : DI Y A B U N a b) (hc : 4294967296 ≤ a ∨ 4294967296 * b + N < a * B) (hb : 4294967296 ≤ b + A) : DD Y U N (a - 1) := by
  obtain ⟨h1, h2, h3⟩ := di_dec H h hc
  have hm := h.most H
  refine ⟨by omega, ?_, ?_⟩
  · have e : (a - 1) * Y = (a - 1) * A * 4294967296 + (a - 1) * B := by rw [H.y, Int.mul_add, Int.mul_assoc]
    have h4 : (a - 1) * B ≤ 4294967297 * 4294967295 := Int.mul_le_mul (by omega) (by have := H.b1; omega) H.b0 (by decide)
    have := H.n0
    omega
  · have e : (a - 1) * Y = a * Y - Y := by rw [Int.sub_mul, Int.one_mul]
    omega
theorem di_exit {Y A B U N a b : Int} (H : DH Y A B U N) (h : DI Y A B U N a b) (hc : ¬ 4294967296 * b + N < a * B) : DD Y U N a := by
  refine ⟨h.a0, ?_, ?_⟩
  · have e : a * Y = a * A * 4294967296 + a * B := by rw [H.y, Int.mul_add, Int.mul_assoc]
    have := h.s
    omega
  · have := h.lt
    rw [Int.add_mul, Int.one_mul] at this
    exact this
/-- What is left: the next remainder. -/
theorem DD.rest {Y A B U N q M : Int} (H : DH Y A B U N) (h : DD Y U N q) (h0 : 0 ≤ M) (h1 : M < 4294967296) : DH Y A B (U * 4294967296 + N - q * Y) M :=
  ⟨H.y, H.a0, H.a1, H.b0, H.b1, by have := h.le; omega, by have := h.lt; omega, h0, h1⟩
/-- Both digits. -/
theorem dd_both {Y U N1 N0 q1 q0 : Int} (h1 : DD Y U N1 q1) (h0 : DD Y (U * 4294967296 + N1 - q1 * Y) N0 q0) (hY : 0 < Y) :
    (U * 18446744073709551616 + N1 * 4294967296 + N0) / Y = q1 * 4294967296 + q0 ∧ (U * 18446744073709551616 + N1 * 4294967296 + N0) % Y = (U * 4294967296 + N1 - q1 * Y) * 4294967296 + N0 - q0 * Y := by
  refine (Int.ediv_emod_unique hY).2 ⟨?_, by have := h0.le; omega, by have := h0.lt; omega⟩
  rw [Int.mul_add, Int.mul_comm Y (q1 * 4294967296), Int.mul_comm Y q0, Int.mul_assoc, Int.mul_comm 4294967296 Y, ← Int.mul_assoc]
  omega
/-- The divisor that is shifted has the same quotient; the remainder is shifted. -/
theorem shifted {n y P : Int} (hy : 0 < y) (hP : 0 < P) : n * P / (y * P) = n / y ∧ n * P % (y * P) / P = n % y := by
  refine ⟨Int.mul_ediv_mul_of_pos_left n y hP, ?_⟩
  rw [Int.mul_comm n P, Int.mul_comm y P, Int.mul_emod_mul_of_pos _ _ hP]
  exact Int.mul_ediv_cancel_left _ (by omega)

theorem maskU (n : Int) (h0 : 0 ≤ n) (h1 : n < 18446744073709551616) : bits .and .u64 n 4294967295 = n % 4294967296 := by
  have h := maskN n.toNat (by omega)
  rw [Int.toNat_of_nonneg h0] at h
  rw [h]
  omega

theorem lead_any (y : Int) (L : Nat) (hL : Lib.bitLen y.toNat = L + 1) (hl : L ≤ 63) (h0 : 0 ≤ y) (h1 : y ≤ 18446744073709551615) (w : World) : Calls Try.prog 109 #[.int .u64 y] w fun e w' => e = .returned (.int .i64 ((63 - L : Nat) : Int)) ∧ w = w' := by
  have H := len64_any y w h0 h1
  rw [hL] at H
  replace H := Lib.hid H
  clear hL
  go_enter Try.func109, Try.ntmps109
  go_wp2_with fail
  refine H.out.mono ?_
  rintro e w' ⟨rfl, rfl⟩
  go_wp2
  go_ret
  refine ⟨retI ?_, rfl⟩
  try simp only [wrap64]
  omega

theorem bitLen_ends : ∀ (L x : Nat), 2 ^ L ≤ x → x < 2 ^ (L + 1) → L ≤ 63 → Lib.bitLen x = L + 1
  | 0, x, h0, h1, _ => by
    have : x = 1 := by omega
    subst this
    rfl
  | L + 1, x, h0, h1, h => by
    have hp : 0 < 2 ^ L := Nat.two_pow_pos L
    rw [Nat.pow_succ] at h0 h1
    rw [Nat.pow_succ] at h1
    have hx : x < 2 ^ 64 := Nat.lt_of_lt_of_le (by rw [Nat.pow_succ, Nat.pow_succ]; exact h1) (Nat.pow_le_pow_right (by decide) (show L + 1 + 1 ≤ 64 by omega))
    rw [Lib.bitLen_half x (by omega) hx, bitLen_ends L (x / 2) (by omega) (by rw [Nat.pow_succ]; omega) (by omega)]
    omega
theorem bitLen_is : ∀ (k x : Nat), x ≠ 0 → x < 2 ^ k → ∃ L, L < k ∧ 2 ^ L ≤ x ∧ x < 2 ^ (L + 1)
  | 0, x, h, h1 => by
    rw [Nat.pow_zero] at h1
    omega
  | k + 1, x, h, h1 => by
    by_cases hx : x < 2 ^ k
    · obtain ⟨L, hL, h2⟩ := bitLen_is k x h hx
      exact ⟨L, by omega, h2⟩
    · exact ⟨k, by omega, by omega, h1⟩


set_option maxRecDepth 100000 in
set_option maxHeartbeats 8000000 in
theorem div64_great (hi lo y P E Y A B U V N1 N0 : Int) (s : Nat) (hs : s ≤ 63) (hy1 : hi < y) (hpos : 0 < hi) (hlo : 0 ≤ lo) (hlo1 : lo < 18446744073709551616) (hy : y < 18446744073709551616)
    (hY : IntKind.u64.wrap (y * 2 ^ s) = Y) (hB : bits .and .u64 Y 4294967295 = B) (hA : Y / 4294967296 = A) (hV : IntKind.u64.wrap (lo * 2 ^ s) = V)
    (hU : bits .or .u64 (IntKind.u64.wrap (hi * 2 ^ s)) (lo / 2 ^ (64 - s)) = U) (hN1 : V / 4294967296 = N1) (hN0 : bits .and .u64 V 4294967295 = N0)
    (HH : DH Y A B U N1) (k0 : 0 ≤ N0) (k1 : N0 < 4294967296) (R1 R2 : Int)
    (hR1 : (U * 18446744073709551616 + N1 * 4294967296 + N0) / Y = R1) (hR2 : (U * 18446744073709551616 + N1 * 4294967296 + N0) % Y / 2 ^ s = R2)
    (H : Hid (∀ w, Calls Try.prog 109 #[.int .u64 y] w fun e w' => e = .returned (.int .i64 (s : Int)) ∧ w = w')) (w : World) :
    Calls Try.prog 104 #[.int .u64 hi, .int .u64 lo, .int .u64 y] w fun e w' => e = .returned (.tuple #[.int .u64 R1, .int .u64 R2]) ∧ w = w' := by
  have T1 := Lib.hid HH
  have HR1 := Lib.hid hR1; have HR2 := Lib.hid hR2
  obtain ⟨j1, j2, j3, j4, j5, j6, j7, j8, j9⟩ := HH
  have T1S := Lib.hid (di_start T1.out)
  obtain ⟨Q0, hQ0⟩ : ∃ Q0, U / A = Q0 := ⟨_, rfl⟩
  rw [hQ0] at T1S
  have q1 : IntKind.u64.wrap (U.tdiv A) = Q0 := by
    rw [Int.tdiv_eq_ediv_of_nonneg j6, hQ0, IntKind.wrap_u64]
    have := T1S.out.1.most T1.out; have := T1S.out.1.a0
    omega
  have q2 : IntKind.u64.wrap (Q0 * A) = Q0 * A := by
    rw [IntKind.wrap_u64]
    have := T1S.out.1.s; have := T1S.out.1.b0; have := T1S.out.1.b1
    have k3 : 0 ≤ Q0 * A := Int.mul_nonneg T1S.out.1.a0 (by omega)
    omega
  have q3 : IntKind.u64.wrap (U - Q0 * A) = U - Q0 * A := by
    rw [IntKind.wrap_u64]
    have := T1S.out.1.s; have := T1S.out.1.b0; have := T1S.out.1.b1
    omega
  have q4 : A ≠ 0 := by omega
  have q5 : IntKind.u64.wrap (U / A) = Q0 := by
    rw [Int.tdiv_eq_ediv_of_nonneg j6] at q1
    exact q1
  clear j1 j2 j3 j4 j5 j7 j8 j9 hQ0 hR1 hR2
  go_enter Try.func104, Try.ntmps104
  go_wp2_with fail
  refine (H.out _).mono ?_
  rintro e w' ⟨rfl, rfl⟩
  go_upto_block 0 with (fail)
  clear hY hB hA hV hU hN1 hN0 q1 q2 q3 q5 hlo hlo1 hy hy1 hpos
  go_cut [15, 16] from 67 to 85 (fun q r wx => ∃ a b : Int, q = .int .u64 a ∧ r = .int .u64 b ∧ Hid (DD Y U N1 a) ∧ w = wx)
  case first =>
    go_wp2_with fail
    go_loopw [15, 16] (fun q r wr => ∃ a b : Int, q = .int .u64 a ∧ r = .int .u64 b ∧ Hid (DI Y A B U N1 a b) ∧ w = wr) (fun q _ _ => (intOf q).toNat)
    case atStart => exact ⟨Q0, U - Q0 * A, rfl, rfl, Lib.hid T1S.out.1, rfl⟩
    case round =>
      obtain ⟨a, b, rfl, rfl, HI, rfl⟩ := hrel
      obtain ⟨i1, i2, i3, i4, i5⟩ := HI.out
      have i6 := HI.out.most T1.out
      obtain ⟨j1, j2, j3, j4, j5, j6, j7, j8, j9⟩ := T1.out
      have w4 : IntKind.u64.wrap (4294967296 * b) = 4294967296 * b := by rw [IntKind.wrap_u64]; omega
      have w5 : IntKind.u64.wrap (4294967296 * b + N1) = 4294967296 * b + N1 := by rw [IntKind.wrap_u64]; omega
      have w6 : IntKind.u64.wrap (b + A) = b + A := by rw [IntKind.wrap_u64]; omega
      obtain ⟨M, hM⟩ : ∃ M, a * B = M := ⟨_, rfl⟩
      by_cases hA : 4294967296 ≤ a
      · have w7 : IntKind.u64.wrap (a - 1) = a - 1 := by rw [IntKind.wrap_u64]; omega
        by_cases hb : 4294967296 ≤ b + A
        · have HD := Lib.hid (di_break T1.out HI.out (Or.inl hA) hb)
          clear i1 i2 i3 i4 i5 i6 j1 j2 j3 j4 j5 j6 j7 j8 j9 HI hM
          go_wp2
          go_meet
          exact ⟨a - 1, b + A, rfl, rfl, HD, rfl⟩
        · have HD := Lib.hid (di_next T1.out HI.out (Or.inl hA) (by omega))
          clear i1 i3 i4 i5 i6 j1 j2 j3 j4 j5 j6 j7 j8 j9 HI hM
          go_wp2
          go_roundw
          case rel => exact ⟨a - 1, b + A, rfl, rfl, HD, trivial⟩
          case measure => simp [intOf]; omega
      · have w8 : IntKind.u64.wrap (a * B) = M := by
          rw [← hM, IntKind.wrap_u64]
          have k1 : a * B ≤ 4294967296 * 4294967295 := Int.mul_le_mul (by omega) (by omega) j4 (by decide)
          have k2 : 0 ≤ a * B := Int.mul_nonneg i2 j4
          omega
        by_cases hB : 4294967296 * b + N1 < M
        · have hB2 : 4294967296 * b + N1 < a * B := by rw [hM]; exact hB
          have k3 := (di_dec T1.out HI.out (Or.inr hB2)).1
          have w7 : IntKind.u64.wrap (a - 1) = a - 1 := by rw [IntKind.wrap_u64]; omega
          by_cases hb : 4294967296 ≤ b + A
          · have HD := Lib.hid (di_break T1.out HI.out (Or.inr hB2) hb)
            clear i1 i2 i3 i4 i5 i6 j1 j2 j3 j4 j5 j6 j7 j8 j9 HI hM hB2 k3
            go_wp2
            go_meet
            exact ⟨a - 1, b + A, rfl, rfl, HD, rfl⟩
          · have HD := Lib.hid (di_next T1.out HI.out (Or.inr hB2) (by omega))
            clear i1 i3 i4 i5 i6 j1 j2 j3 j4 j5 j6 j7 j8 j9 HI hM hB2
            go_wp2
            go_roundw
            case rel => exact ⟨a - 1, b + A, rfl, rfl, HD, trivial⟩
            case measure => simp [intOf]; omega
        · have HD := Lib.hid (di_exit T1.out HI.out (by rw [hM]; exact hB))
          clear i1 i2 i3 i4 i5 i6 j1 j2 j3 j4 j5 j6 j7 j8 j9 HI hM
          go_wp2
          go_meet
          exact ⟨a, b, rfl, rfl, HD, rfl⟩
  case rest =>
  obtain ⟨x, r0, rfl, rfl, HX, rfl⟩ := hcut
  have T2 := Lib.hid (HX.out.rest T1.out k0 k1)
  obtain ⟨D, hD⟩ : ∃ D, U * 4294967296 + N1 - x * Y = D := ⟨_, rfl⟩
  have HD := Lib.hid hD
  rw [hD] at T2
  have T2S := Lib.hid (di_start T2.out)
  obtain ⟨Z0, hZ0⟩ : ∃ Z0, D / A = Z0 := ⟨_, rfl⟩
  rw [hZ0] at T2S
  obtain ⟨X1, hX1⟩ : ∃ X, IntKind.u64.wrap (U * 4294967296) = X := ⟨_, rfl⟩
  obtain ⟨X2, hX2⟩ : ∃ X, IntKind.u64.wrap (X1 + N1) = X := ⟨_, rfl⟩
  obtain ⟨X3, hX3⟩ : ∃ X, IntKind.u64.wrap (x * Y) = X := ⟨_, rfl⟩
  have x4 : IntKind.u64.wrap (X2 - X3) = D := by
    have d0 := T2.out.u0; have d1 := T2.out.u1
    have d2 := T2.out.y; have d3 := T2.out.a1; have d4 := T2.out.b1
    rw [← hX2, ← hX3, ← hX1]
    simp only [IntKind.wrap_u64]
    omega
  have q1 : IntKind.u64.wrap (D.tdiv A) = Z0 := by
    rw [Int.tdiv_eq_ediv_of_nonneg T2.out.u0, hZ0, IntKind.wrap_u64]
    have := T2S.out.1.most T2.out; have := T2S.out.1.a0
    omega
  have q2 : IntKind.u64.wrap (Z0 * A) = Z0 * A := by
    rw [IntKind.wrap_u64]
    have := T2S.out.1.s; have := T2S.out.1.b0; have := T2S.out.1.b1
    have d1 := T2.out.u1
    have d2 := T2.out.y; have d3 := T2.out.a1; have d4 := T2.out.b1; have d5 := T2.out.a0
    have k3 : 0 ≤ Z0 * A := Int.mul_nonneg T2S.out.1.a0 (by omega)
    omega
  have q3 : IntKind.u64.wrap (D - Z0 * A) = D - Z0 * A := by
    rw [IntKind.wrap_u64]
    have := T2S.out.1.s; have := T2S.out.1.b0; have := T2S.out.1.b1
    omega
  have q5 : IntKind.u64.wrap (D / A) = Z0 := by
    rw [Int.tdiv_eq_ediv_of_nonneg T2.out.u0] at q1
    exact q1
  have q6 : 0 ≤ D := T2.out.u0
  clear hZ0 hD
  go_upto_block 2 with (fail)
  clear q1 q2 q3 q5 x4 hX1 hX2 hX3
  go_cut [18, 16] from 102 to 120 (fun q r wx => ∃ a b : Int, q = .int .u64 a ∧ r = .int .u64 b ∧ Hid (DD Y D N0 a) ∧ w = wx)
  case first =>
    go_wp2_with fail
    go_loopw [18, 16] (fun q r wr => ∃ a b : Int, q = .int .u64 a ∧ r = .int .u64 b ∧ Hid (DI Y A B D N0 a b) ∧ w = wr) (fun q _ _ => (intOf q).toNat)
    case atStart => exact ⟨Z0, D - Z0 * A, rfl, rfl, Lib.hid T2S.out.1, rfl⟩
    case round =>
      obtain ⟨a, b, rfl, rfl, HI, rfl⟩ := hrel
      obtain ⟨i1, i2, i3, i4, i5⟩ := HI.out
      have i6 := HI.out.most T2.out
      obtain ⟨j1, j2, j3, j4, j5, j6, j7, j8, j9⟩ := T2.out
      have w4 : IntKind.u64.wrap (4294967296 * b) = 4294967296 * b := by rw [IntKind.wrap_u64]; omega
      have w5 : IntKind.u64.wrap (4294967296 * b + N0) = 4294967296 * b + N0 := by rw [IntKind.wrap_u64]; omega
      have w6 : IntKind.u64.wrap (b + A) = b + A := by rw [IntKind.wrap_u64]; omega
      obtain ⟨M, hM⟩ : ∃ M, a * B = M := ⟨_, rfl⟩
      by_cases hA : 4294967296 ≤ a
      · have w7 : IntKind.u64.wrap (a - 1) = a - 1 := by rw [IntKind.wrap_u64]; omega
        by_cases hb : 4294967296 ≤ b + A
        · have HD := Lib.hid (di_break T2.out HI.out (Or.inl hA) hb)
          clear i1 i2 i3 i4 i5 i6 j1 j2 j3 j4 j5 j6 j7 j8 j9 HI hM
          go_wp2
          go_meet
          exact ⟨a - 1, b + A, rfl, rfl, HD, rfl⟩
        · have HD := Lib.hid (di_next T2.out HI.out (Or.inl hA) (by omega))
          clear i1 i3 i4 i5 i6 j1 j2 j3 j4 j5 j6 j7 j8 j9 HI hM
          go_wp2
          go_roundw
          case rel => exact ⟨a - 1, b + A, rfl, rfl, HD, trivial⟩
          case measure => simp [intOf]; omega
      · have w8 : IntKind.u64.wrap (a * B) = M := by
          rw [← hM, IntKind.wrap_u64]
          have k1 : a * B ≤ 4294967296 * 4294967295 := Int.mul_le_mul (by omega) (by omega) j4 (by decide)
          have k2 : 0 ≤ a * B := Int.mul_nonneg i2 j4
          omega
        by_cases hB : 4294967296 * b + N0 < M
        · have hB2 : 4294967296 * b + N0 < a * B := by rw [hM]; exact hB
          have k3 := (di_dec T2.out HI.out (Or.inr hB2)).1
          have w7 : IntKind.u64.wrap (a - 1) = a - 1 := by rw [IntKind.wrap_u64]; omega
          by_cases hb : 4294967296 ≤ b + A
          · have HD := Lib.hid (di_break T2.out HI.out (Or.inr hB2) hb)
            clear i1 i2 i3 i4 i5 i6 j1 j2 j3 j4 j5 j6 j7 j8 j9 HI hM hB2 k3
            go_wp2
            go_meet
            exact ⟨a - 1, b + A, rfl, rfl, HD, rfl⟩
          · have HD := Lib.hid (di_next T2.out HI.out (Or.inr hB2) (by omega))
            clear i1 i3 i4 i5 i6 j1 j2 j3 j4 j5 j6 j7 j8 j9 HI hM hB2
            go_wp2
            go_roundw
            case rel => exact ⟨a - 1, b + A, rfl, rfl, HD, trivial⟩
            case measure => simp [intOf]; omega
        · have HD := Lib.hid (di_exit T2.out HI.out (by rw [hM]; exact hB))
          clear i1 i2 i3 i4 i5 i6 j1 j2 j3 j4 j5 j6 j7 j8 j9 HI hM
          go_wp2
          go_meet
          exact ⟨a, b, rfl, rfl, HD, rfl⟩
  case rest =>
  obtain ⟨z, r1, rfl, rfl, HZ, rfl⟩ := hcut
  have hYp : 0 < Y := by have := T1.out.u0; have := T1.out.u1; omega
  have hD := HD.out
  have hb := dd_both HX.out (by rw [hD]; exact HZ.out) hYp
  rw [hD] at hb
  obtain ⟨b1, b2⟩ := hb
  have c1 := HR1.out
  have c2 := HR2.out
  rw [b1] at c1
  rw [b2] at c2
  have s1 := HX.out.small T1.out; have s2 := HZ.out.small T2.out
  have s3 := HX.out.q0; have s4 := HZ.out.q0
  have v1 : IntKind.u64.wrap (x * 4294967296) = x * 4294967296 := by rw [IntKind.wrap_u64]; omega
  have v2 : IntKind.u64.wrap (x * 4294967296 + z) = R1 := by rw [IntKind.wrap_u64]; omega
  obtain ⟨X1, hX1⟩ : ∃ X, IntKind.u64.wrap (D * 4294967296) = X := ⟨_, rfl⟩
  obtain ⟨X2, hX2⟩ : ∃ X, IntKind.u64.wrap (X1 + N0) = X := ⟨_, rfl⟩
  obtain ⟨X3, hX3⟩ : ∃ X, IntKind.u64.wrap (z * Y) = X := ⟨_, rfl⟩
  obtain ⟨F, hF⟩ : ∃ F, D * 4294967296 + N0 - z * Y = F := ⟨_, rfl⟩
  rw [hF] at c2
  have x4 : IntKind.u64.wrap (X2 - X3) = F := by
    have f1 := HZ.out.le; have f2 := HZ.out.lt
    have d2 := T2.out.y; have d3 := T2.out.a1; have d4 := T2.out.b1
    rw [← hX2, ← hX3, ← hX1, ← hF]
    simp only [IntKind.wrap_u64]
    omega
  clear b1 b2 c1 s1 s2 s3 s4 hF hD
  go_wp2
  go_ret2
  exact ⟨rfl, rfl⟩

theorem div64_pos (hi lo y : Int) (h0 : 0 < hi) (h1 : hi < y) (l0 : 0 ≤ lo) (l1 : lo < 18446744073709551616) (hy : y < 18446744073709551616) (w : World) :
    Calls Try.prog 104 #[.int .u64 hi, .int .u64 lo, .int .u64 y] w fun e w' => e = .returned (.tuple #[.int .u64 ((hi * 18446744073709551616 + lo) / y), .int .u64 ((hi * 18446744073709551616 + lo) % y)]) ∧ w = w' := by
  obtain ⟨L, hL, hL0, hL1⟩ := bitLen_is 64 y.toNat (by omega) (by omega)
  have hbl := bitLen_ends L y.toNat hL0 hL1 (by omega)
  have Hlead := Lib.hid (lead_any y L hbl (by omega) (by omega) (by omega))
  obtain ⟨s, hs⟩ : ∃ s, 63 - L = s := ⟨_, rfl⟩
  rw [hs] at Hlead
  obtain ⟨P, hP⟩ : ∃ P : Int, (2 : Int) ^ s = P := ⟨_, rfl⟩
  obtain ⟨E, hE⟩ : ∃ E : Int, (2 : Int) ^ (64 - s) = E := ⟨_, rfl⟩
  have hPE : P * E = 18446744073709551616 := by
    rw [← hP, ← hE, ← Int.pow_add, show s + (64 - s) = 64 by omega]
    rfl
  have hPp : 0 < P := by rw [← hP]; exact Int.pow_pos (by decide)
  have hEp : 0 < E := by rw [← hE]; exact Int.pow_pos (by decide)
  have e63 : 2 ^ L * 2 ^ s = 9223372036854775808 := by rw [← Nat.pow_add, show L + s = 63 by omega]
  have hPn : ((2 ^ s : Nat) : Int) = P := by (rw [← hP]; try rfl)
  have hY0 : 9223372036854775808 ≤ y * P := by
    have h3 : 2 ^ L * 2 ^ s ≤ y.toNat * 2 ^ s := Nat.mul_le_mul_right _ hL0
    have h4 : ((y.toNat * 2 ^ s : Nat) : Int) = y * P := by rw [Int.natCast_mul, hPn, Int.toNat_of_nonneg (by omega)]
    omega
  have hY1 : y * P < 18446744073709551616 := by
    have h3 : y.toNat * 2 ^ s < 2 ^ (L + 1) * 2 ^ s := Nat.mul_lt_mul_of_pos_right hL1 (Nat.two_pow_pos s)
    have h4 : ((y.toNat * 2 ^ s : Nat) : Int) = y * P := by rw [Int.natCast_mul, hPn, Int.toNat_of_nonneg (by omega)]
    rw [Nat.pow_succ, Nat.mul_right_comm] at h3
    omega
  have hhy : hi * P ≤ y * P := Int.mul_le_mul_of_nonneg_right (by omega) (by omega)
  have hh0 : 0 ≤ hi * P := Int.mul_nonneg (by omega) (by omega)
  have d1 := Int.mul_ediv_add_emod lo E
  have d2 := Int.emod_nonneg lo (show E ≠ 0 by omega)
  have d3 := Int.emod_lt_of_pos lo hEp
  have d4 := Int.ediv_nonneg l0 (show 0 ≤ E by omega)
  have d5 : lo / E < P := by
    refine Int.ediv_lt_of_lt_mul hEp ?_
    rw [hPE]; exact l1
  obtain ⟨e, he⟩ : ∃ e, lo / E = e := ⟨_, rfl⟩
  obtain ⟨f, hf⟩ : ∃ f, lo % E = f := ⟨_, rfl⟩
  rw [he, hf] at d1
  rw [hf] at d2 d3
  rw [he] at d4 d5
  have hlp : lo * P = e * 18446744073709551616 + f * P := by
    rw [← d1, Int.add_mul, ← hPE, Int.mul_comm E e, Int.mul_assoc, Int.mul_comm E P]
  have hf0 : 0 ≤ f * P := Int.mul_nonneg d2 (by omega)
  have hf1 : f * P < 18446744073709551616 := by
    rw [← hPE, Int.mul_comm P E]
    exact Int.mul_lt_mul_of_pos_right d3 hPp
  have hPle : P ≤ 9223372036854775808 := by
    have h3 : 2 ^ s ≤ 2 ^ 63 := Nat.pow_le_pow_right (by decide) (by omega)
    omega
  have fY : IntKind.u64.wrap (y * 2 ^ s) = y * P := by rw [hP, IntKind.wrap_u64]; omega
  have fH : IntKind.u64.wrap (hi * 2 ^ s) = hi * P := by rw [hP, IntKind.wrap_u64]; omega
  have fV : IntKind.u64.wrap (lo * 2 ^ s) = f * P := by rw [hP, IntKind.wrap_u64, hlp]; omega
  have fU : bits .or .u64 (IntKind.u64.wrap (hi * 2 ^ s)) (lo / 2 ^ (64 - s)) = hi * P + e := by
    rw [fH, hE, he]
    refine bits_join .u64 64 (by decide) (fun n h0 h1 => ?_) s _ _ hh0 ?_ (by omega) d4 (by rw [hP]; exact d5) (by omega)
    · rw [IntKind.wrap_u64]; omega
    · rw [hP]; exact Int.mul_emod_left hi P
  have fB := maskU (y * P) (by omega) hY1
  have fN := maskU (f * P) hf0 hf1
  have hsum : (hi * P + e) * 18446744073709551616 + f * P = (hi * 18446744073709551616 + lo) * P := by
    rw [Int.add_mul, Int.add_mul, hlp, Int.mul_right_comm]
    omega
  have hlt : hi * P + e < y * P := by
    have h3 : (hi * 18446744073709551616 + lo) * P ≤ (y * 18446744073709551616 - 1) * P := Int.mul_le_mul_of_nonneg_right (by omega) (by omega)
    rw [Int.sub_mul, Int.mul_right_comm y] at h3
    omega
  have hval : (hi * P + e) * 18446744073709551616 + f * P / 4294967296 * 4294967296 + f * P % 4294967296 = (hi * 18446744073709551616 + lo) * P := by omega
  obtain ⟨g1, g2⟩ := shifted (n := hi * 18446744073709551616 + lo) (y := y) (P := P) (by omega) hPp
  refine div64_great hi lo y P E (y * P) (y * P / 4294967296) (y * P % 4294967296) (hi * P + e) (f * P) (f * P / 4294967296) (f * P % 4294967296) s (by omega) h1 h0 l0 l1 hy fY fB rfl fV fU rfl fN ?_ (by omega) (by omega) _ _ ?_ ?_ Hlead w
  · exact ⟨by omega, by omega, by omega, by omega, by omega, by omega, hlt, by omega, by omega⟩
  · rw [hval]; exact g1
  · rw [hval, hP]; exact g2

set_option maxHeartbeats 1000000 in
theorem div64_any (hi lo y : Int) (h0 : 0 ≤ hi) (h1 : hi < y) (l0 : 0 ≤ lo) (l1 : lo < 18446744073709551616) (hy : y < 18446744073709551616) (w : World) :
    Calls Try.prog 104 #[.int .u64 hi, .int .u64 lo, .int .u64 y] w fun e w' => e = .returned (.tuple #[.int .u64 ((hi * 18446744073709551616 + lo) / y), .int .u64 ((hi * 18446744073709551616 + lo) % y)]) ∧ Below w.heap.size w w' := by
  rcases Int.lt_or_le 0 hi with hp | hp
  · refine (div64_pos hi lo y hp h1 l0 l1 hy w).mono ?_
    rintro e w' ⟨rfl, rfl⟩
    exact ⟨rfl, Below.refl _ _⟩
  · obtain rfl : hi = 0 := by omega
    rw [Int.zero_mul, Int.zero_add]
    have b0 : 0 ≤ lo / y := Int.ediv_nonneg l0 (by omega)
    have b1 : lo / y ≤ lo := Int.ediv_le_self _ l0
    have b2 := Int.emod_nonneg lo (show y ≠ 0 by omega)
    have b3 := Int.emod_lt_of_pos lo h1
    have w1 : IntKind.u64.wrap (lo.tdiv y) = lo / y := by rw [Int.tdiv_eq_ediv_of_nonneg l0, IntKind.wrap_u64]; omega
    have w2 : IntKind.u64.wrap (lo.tmod y) = lo % y := by rw [Int.tmod_eq_emod_of_nonneg l0, IntKind.wrap_u64]; omega
    have w3 : IntKind.u64.wrap (lo / y) = lo / y := by rw [IntKind.wrap_u64]; omega
    have w4 : IntKind.u64.wrap (lo % y) = lo % y := by rw [IntKind.wrap_u64]; omega
    have hy0 : y ≠ 0 := by omega
    obtain ⟨q, hq⟩ : ∃ q, lo / y = q := ⟨_, rfl⟩
    obtain ⟨r, hr⟩ : ∃ r, lo % y = r := ⟨_, rfl⟩
    rw [hq] at w1 w3 ⊢
    rw [hr] at w2 w4 ⊢
    have HR := Lib.hid hr
    clear b0 b1 b2 b3 l1 hy h0 hp hr
    go_enter Try.func104, Try.ntmps104
    go_wp2_with fail
    go_quiet (fail)
    have HD : Hid (Below w.heap.size w (w.drewN nq)) := Lib.hid (bdrewN (Below.refl _ _) nq)
    generalize w.drewN nq = w7 at *
    go_wp2
    go_ret2
    exact ⟨congrArg (fun z => Ending.returned (.tuple #[.int .u64 q, .int .u64 z])) HR.out, HD.out⟩

/-- The proportion: a * b / c and the remainder. -/
theorem proportion_any (a b c : Int) (a0 : 0 ≤ a) (a1 : a ≤ 9007199254740992) (b0 : 0 ≤ b) (b1 : b ≤ 9007199254740992) (c0 : 0 < c) (c1 : c ≤ 9223372036854775807) (hbc : b ≤ c) (w : World) :
    Calls Try.prog 81 #[.int .i64 a, .int .i64 b, .int .i64 c] w fun e w' => e = .returned (.tuple #[.int .i64 (a * b / c), .int .i64 (a * b % c)]) ∧ Below w.heap.size w w' := by
  have H1 := fun w => mul64_any a.toNat b.toNat (by omega) (by omega) w
  have ea : ((a.toNat : Nat) : Int) = a := Int.toNat_of_nonneg a0
  have eb : ((b.toNat : Nat) : Int) = b := Int.toNat_of_nonneg b0
  have eab : ((a.toNat * b.toNat : Nat) : Int) = a * b := by rw [Int.natCast_mul, ea, eb]
  have hab0 : 0 ≤ a * b := Int.mul_nonneg a0 b0
  have eh : ((a.toNat * b.toNat / 18446744073709551616 : Nat) : Int) = a * b / 18446744073709551616 := by omega
  have el : ((a.toNat * b.toNat % 18446744073709551616 : Nat) : Int) = a * b % 18446744073709551616 := by omega
  rw [eh, el, ea, eb] at H1
  have hab1 : a * b ≤ a * c := Int.mul_le_mul_of_nonneg_left hbc a0
  have hab2 : a * c ≤ 9007199254740992 * c := Int.mul_le_mul_of_nonneg_right a1 (by omega)
  have hhi : a * b / 18446744073709551616 < c := by omega
  have H2 := div64_any (a * b / 18446744073709551616) (a * b % 18446744073709551616) c (by omega) hhi (by omega) (by omega) (by omega)
  have es : a * b / 18446744073709551616 * 18446744073709551616 + a * b % 18446744073709551616 = a * b := by omega
  rw [es] at H2
  have q0 : 0 ≤ a * b / c := Int.ediv_nonneg hab0 (by omega)
  have q1 : a * b / c ≤ a := by
    refine Int.le_trans (Int.ediv_le_ediv c0 hab1) ?_
    rw [Int.mul_ediv_cancel _ (by omega)]
    exact Int.le_refl a
  have r0 := Int.emod_nonneg (a * b) (show c ≠ 0 by omega)
  have r1 := Int.emod_lt_of_pos (a * b) c0
  have w1 : IntKind.u64.wrap a = a := by rw [IntKind.wrap_u64]; omega
  have w2 : IntKind.u64.wrap b = b := by rw [IntKind.wrap_u64]; omega
  have w3 : IntKind.u64.wrap c = c := by rw [IntKind.wrap_u64]; omega
  have w4 : IntKind.i64.wrap (a * b / c) = a * b / c := wrap_in (by omega) (by omega)
  have w5 : IntKind.i64.wrap (a * b % c) = a * b % c := wrap_in (by omega) (by omega)
  obtain ⟨q, hq⟩ : ∃ q, a * b / c = q := ⟨_, rfl⟩
  obtain ⟨r, hr⟩ : ∃ r, a * b % c = r := ⟨_, rfl⟩
  obtain ⟨x, hx⟩ : ∃ x, a * b / 18446744073709551616 = x := ⟨_, rfl⟩
  obtain ⟨z, hz⟩ : ∃ z, a * b % 18446744073709551616 = z := ⟨_, rfl⟩
  rw [hx, hz] at H1
  rw [hx, hz, hq, hr] at H2
  rw [hq] at w4 ⊢
  rw [hr] at w5 ⊢
  replace H1 := Lib.hid H1; replace H2 := Lib.hid H2
  clear ea eb eab hab0 eh el hab1 hab2 hhi es q0 q1 r0 r1 hq hr hx hz a0 a1 b0 b1 c0 c1 hbc
  go_enter Try.func81, Try.ntmps81
  go_wp2_with fail
  refine (H1.out _).mono ?_
  rintro e w' ⟨rfl, rfl⟩
  go_wp2_with fail
  refine (H2.out _).mono ?_
  rintro e w2 ⟨rfl, hb⟩
  have HB := Lib.hid hb
  clear hb
  go_wp2
  go_ret2
  exact ⟨rfl, HB.out⟩
end Go.Proofs.Ytijdjbkmkopmnaa
