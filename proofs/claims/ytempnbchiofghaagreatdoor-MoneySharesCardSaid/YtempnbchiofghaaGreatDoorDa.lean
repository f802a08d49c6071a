/-
  Plain arithmetic of the long division, half a word at a time. No program.
-/
namespace Go.Proofs.YtempnbchiofghaaGreatDoor
set_option linter.unusedVariables false
set_option linter.unusedSimpArgs false

/-- The divisor Y = A * 2^32 + B, its highest bit set; the remainder U, the next digit N. -/
structure DH (Y A B U N : Int) : Prop where
  y : Y = A * 4294967296 + B
  a0 : 2147483648 ≤ A
  a1 : A < 4294967296
  b0 : 0 ≤ B
  b1 : B < 4294967296
  u0 : 0 ≤ U
  u1 : U < Y
  n0 : 0 ≤ N
  n1 : N < 4294967296
/-- a is an estimate of the digit, b its rest. -/
structure DI (Y A B U N a b : Int) : Prop where
  s : a * A + b = U
  a0 : 0 ≤ a
  b0 : 0 ≤ b
  b1 : b < 4294967296
  lt : U * 4294967296 + N < (a + 1) * Y
theorem DI.most {Y A B U N a b : Int} (H : DH Y A B U N) (h : DI Y A B U N a b) : a ≤ 4294967298 := by
  refine Int.not_lt.1 fun hgt => ?_
  have h1 : 4294967299 * A ≤ a * A := Int.mul_le_mul_of_nonneg_right (by omega) (by have := H.a0; omega)
  have := h.s; have := H.u1; have := H.y; have := H.b1; have := H.a0; have := h.b0
  omega
theorem di_start {Y A B U N : Int} (H : DH Y A B U N) : DI Y A B U N (U / A) (U - U / A * A) ∧ U - U / A * A < A := by
  have h1 := Int.mul_ediv_add_emod U A
  have h2 := Int.emod_nonneg U (show A ≠ 0 by have := H.a0; omega)
  have h3 := Int.emod_lt_of_pos U (show 0 < A by have := H.a0; omega)
  rw [Int.mul_comm] at h1
  have h4 := Int.ediv_nonneg H.u0 (show 0 ≤ A by have := H.a0; omega)
  generalize U / A = q at *
  generalize U % A = r at *
  have ha1 := H.a1
  refine ⟨⟨by omega, h4, by omega, by omega, ?_⟩, by omega⟩
  have h5 : (q + 1) * (A * 4294967296) ≤ (q + 1) * Y := Int.mul_le_mul_of_nonneg_left (by have := H.y; have := H.b0; omega) (by omega)
  have h6 : (q + 1) * (A * 4294967296) = (q * A + A) * 4294967296 := by rw [← Int.mul_assoc, Int.add_mul, Int.one_mul]
  have := H.n1
  omega
/-- The test of the loop. -/
theorem di_dec {Y A B U N a b : Int} (H : DH Y A B U N) (h : DI Y A B U N a b) (hc : 4294967296 ≤ a ∨ 4294967296 * b + N < a * B) :
    1 ≤ a ∧ (a - 1) * A + (b + A) = U ∧ U * 4294967296 + N < a * Y := by
  have ha0 := H.a0; have hn0 := H.n0; have hu1 := H.u1; have hn1 := H.n1
  have h1 : 1 ≤ a := by
    rcases hc with hc | hc
    · omega
    · refine Int.not_lt.1 fun hlt => ?_
      have e : a = 0 := by have := h.a0; omega
      rw [e, Int.zero_mul] at hc
      have := h.b0
      omega
  refine ⟨h1, ?_, ?_⟩
  · rw [Int.sub_mul, Int.one_mul]
    have := h.s
    omega
  · rcases hc with hc | hc
    · have h2 : 4294967296 * Y ≤ a * Y := Int.mul_le_mul_of_nonneg_right hc (by have := H.u0; omega)
      omega
    · have e : a * Y = a * A * 4294967296 + a * B := by rw [H.y, Int.mul_add, Int.mul_assoc]
      have := h.s
      omega
theorem di_next {Y A B U N a b : Int} (H : DH Y A B U N) (h : DI Y A B U N a b) (hc : 4294967296 ≤ a ∨ 4294967296 * b + N < a * B) (hb : b + A < 4294967296) : DI Y A B U N (a - 1) (b + A) := by
  obtain ⟨h1, h2, h3⟩ := di_dec H h hc
  have := H.a0; have := h.b0
  refine ⟨h2, by omega, by omega, hb, ?_⟩
  rw [Int.sub_add_cancel]
  exact h3
/-- The digit: q * Y is at most what is divided, less than one Y below it. -/
structure DD (Y U N q : Int) : Prop where
  q0 : 0 ≤ q
  le : q * Y ≤ U * 4294967296 + N
  lt : U * 4294967296 + N < q * Y + Y
theorem DD.small {Y A B U N q : Int} (H : DH Y A B U N) (h : DD Y U N q) : q < 4294967296 := by
  refine Int.not_le.1 fun hge => ?_
  have h2 : 4294967296 * Y ≤ q * Y := Int.mul_le_mul_of_nonneg_right hge (by have := H.u0; have := H.u1; omega)
  have := H.u1; have := h.le; have := H.n1
  omega
theorem di_break {Y A B U N a b : Int} (H : DH Y A B U N) (h : DI Y A B U N a b) (hc : 4294967296 ≤ a ∨ 4294967296 * b + N < a * B) (hb : 4294967296 ≤ b + A) : DD Y U N (a - 1) := by
  obtain ⟨h1, h2, h3⟩ := di_dec H h hc
  have hm := h.most H
  refine ⟨by omega, ?_, ?_⟩
  · have e : (a - 1) * Y = (a - 1) * A * 4294967296 + (a - 1) * B := by rw [H.y, Int.mul_add, Int.mul_assoc]
    have h4 : (a - 1) * B ≤ 4294967297 * 4294967295 := Int.mul_le_mul (by omega) (by have := H.b1; omega) H.b0 (by decide)
    have := H.n0
    omega
  · have e : (a - 1) * Y = a * Y - Y := by rw [Int.sub_mul, Int.one_mul]
    omega
theorem di_exit {Y A B U N a b : Int} (H : DH Y A B U N) (h : DI Y A B U N a b) (hc : ¬ 4294967296 * b + N < a * B) : DD Y U N a := by
  refine ⟨h.a0, ?_, ?_⟩
  · have e : a * Y = a * A * 4294967296 + a * B := by rw [H.y, Int.mul_add, Int.mul_assoc]
    have := h.s
    omega
  · have := h.lt
    rw [Int.add_mul, Int.one_mul] at this
    exact this
/-- What is left: the next remainder. -/
theorem DD.rest {Y A B U N q M : Int} (H : DH Y A B U N) (h : DD Y U N q) (h0 : 0 ≤ M) (h1 : M < 4294967296) : DH Y A B (U * 4294967296 + N - q * Y) M :=
  ⟨H.y, H.a0, H.a1, H.b0, H.b1, by have := h.le; omega, by have := h.lt; omega, h0, h1⟩
/-- Both digits. -/
theorem dd_both {Y U N1 N0 q1 q0 : Int} (h1 : DD Y U N1 q1) (h0 : DD Y (U * 4294967296 + N1 - q1 * Y) N0 q0) (hY : 0 < Y) :
    (U * 18446744073709551616 + N1 * 4294967296 + N0) / Y = q1 * 4294967296 + q0 ∧ (U * 18446744073709551616 + N1 * 4294967296 + N0) % Y = (U * 4294967296 + N1 - q1 * Y) * 4294967296 + N0 - q0 * Y := by
  refine (Int.ediv_emod_unique hY).2 ⟨?_, by have := h0.le; omega, by have := h0.lt; omega⟩
  rw [Int.mul_add, Int.mul_comm Y (q1 * 4294967296), Int.mul_comm Y q0, Int.mul_assoc, Int.mul_comm 4294967296 Y, ← Int.mul_assoc]
  omega
/-- The divisor that is shifted has the same quotient; the remainder is shifted. -/
theorem shifted {n y P : Int} (hy : 0 < y) (hP : 0 < P) : n * P / (y * P) = n / y ∧ n * P % (y * P) / P = n % y := by
  refine ⟨Int.mul_ediv_mul_of_pos_left n y hP, ?_⟩
  rw [Int.mul_comm n P, Int.mul_comm y P, Int.mul_emod_mul_of_pos _ _ hP]
  exact Int.mul_ediv_cancel_left _ (by omega)
end Go.Proofs.YtempnbchiofghaaGreatDoor
