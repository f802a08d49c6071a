/-
  Walks of math/bits: Div64 and Rem64 by P; products modulo P.
-/
import Derived.Test.YtijdjbkmkopmnaaVm
import Derived.RegionTactic
import Derived.BigRegion
import Derived.Deep.QuietTactic
import Derived.BigQuiet
namespace Go.Proofs.Ytijdjbkmkopmnaa.Sgn
open Go.RowKit
set_option linter.unusedVariables false
set_option linter.unusedSimpArgs false

abbrev PP : Nat := 2305843009213690799
theorem lead_P (w : World) : Calls Try.prog 109 #[.int .u64 2305843009213690799] w fun e w' => e = .returned (.int .i64 3) ∧ w = w' := by
  have H := len64_any 2305843009213690799 w (by decide) (by decide)
  rw [show (Lib.bitLen (2305843009213690799 : Int).toNat) = 61 by decide +kernel] at H
  go_enter Try.func109, Try.ntmps109
  go_wp2_with (go_at_call 102; refine H.mono ?_; rintro e w' ⟨rfl, rfl⟩)
  go_ret
  exact ⟨rfl, rfl⟩

set_option maxHeartbeats 8000000 in
theorem div_P (hi lo : Int) (w : World) (h0 : 0 < hi) (h1 : hi < 2305843009213690799) (l0 : 0 ≤ lo) (l1 : lo < 18446744073709551616) :
    Calls Try.prog 104 #[.int .u64 hi, .int .u64 lo, .int .u64 2305843009213690799] w fun e w' => ∃ q : Int, e = .returned (.tuple #[.int .u64 q, .int .u64 ((hi * 18446744073709551616 + lo) % 2305843009213690799)]) ∧ w = w' := by
  have H := lead_P w
  obtain ⟨U, hU⟩ : ∃ U, U = hi * 8 + lo / 2305843009213693952 := ⟨_, rfl⟩
  obtain ⟨V, hV⟩ : ∃ V, V = lo * 8 % 18446744073709551616 := ⟨_, rfl⟩
  obtain ⟨N1, hN1⟩ : ∃ N1, N1 = V / 4294967296 := ⟨_, rfl⟩
  obtain ⟨N0, hN0⟩ : ∃ N0, N0 = V % 4294967296 := ⟨_, rfl⟩
  obtain ⟨Q0, hQ0⟩ : ∃ Q0, Q0 = U / 4294967295 := ⟨_, rfl⟩
  have e1 : bits .or .u64 (hi * 8) (lo / 2305843009213693952) = U := by
    rw [hU]
    refine bits_join .u64 64 (by decide) (fun n h0 h1 => ?_) 3 _ _ (by omega) (by omega) (by omega) (by omega) (by omega) (by omega)
    rw [IntKind.wrap_u64]; omega
  have e2 : IntKind.u64.wrap (lo * 8) = V := by rw [IntKind.wrap_u64]; omega
  have e3 : bits .and .u64 V 4294967295 = N0 := by
    have := maskN V.toNat (by omega)
    rw [Int.toNat_of_nonneg (by omega)] at this
    rw [this]; omega
  have e4 : bits .and .u64 18446744073709526392 4294967295 = 4294942072 := by decide +kernel
  have e5 : V / 4294967296 = N1 := hN1.symm
  have u0 : 0 ≤ U := by omega
  have u1 : U < 18446744073709526392 := by omega
  have n0 : 0 ≤ N1 ∧ N1 < 4294967296 ∧ 0 ≤ N0 ∧ N0 < 4294967296 := by omega
  have hfin : U * 18446744073709551616 + N1 * 4294967296 + N0 = (hi * 18446744073709551616 + lo) * 8 := by omega
  have Hfin := Lib.hid hfin; clear hfin
  have e6 : IntKind.u64.wrap (U.tdiv 4294967295) = Q0 := by rw [Int.tdiv_eq_ediv_of_nonneg u0, IntKind.wrap_u64]; omega
  have e7 : IntKind.u64.wrap (Q0 * 4294967295) = Q0 * 4294967295 := by rw [IntKind.wrap_u64]; omega
  have e8 : IntKind.u64.wrap (U - Q0 * 4294967295) = U - Q0 * 4294967295 := by rw [IntKind.wrap_u64]; omega
  have i0 : 0 ≤ Q0 ∧ 0 ≤ U - Q0 * 4294967295 ∧ U - Q0 * 4294967295 < 4294967295 := by omega
  clear hU hV hN1 hN0 hQ0
  go_enter Try.func104, Try.ntmps104
  go_wp2_with (go_at_call 109; refine H.mono ?_; rintro e w' ⟨rfl, rfl⟩)
  go_loop [15, 16] (fun q r => ∃ a b : Int, q = .int .u64 a ∧ r = .int .u64 b ∧ 0 ≤ a ∧ 0 ≤ b ∧ b < 4294967296 ∧ a * 4294967295 + b = U ∧ U * 4294967296 + N1 < (a + 1) * 18446744073709526392) (fun q _ => (intOf q).toNat)
  case atStart => exact ⟨Q0, U - Q0 * 4294967295, rfl, rfl, by omega, by omega, by omega, by omega, by omega⟩
  case round =>
    obtain ⟨a, b, rfl, rfl, a0, b0, b1, hab, hlt⟩ := hrel
    by_cases hAa : 4294967296 ≤ a
    · obtain ⟨a1, ha1⟩ : ∃ z, z = a - 1 := ⟨_, rfl⟩
      have v1 : IntKind.u64.wrap (a - 1) = a1 := by rw [IntKind.wrap_u64]; omega
      have v2 : IntKind.u64.wrap (b + 4294967295) = b + 4294967295 := by rw [IntKind.wrap_u64]; omega
      have Ha1 := Lib.hid ha1; clear ha1
      by_cases hbra1 : 4294967296 ≤ b + 4294967295
      · have ha1 := Ha1.out
        obtain ⟨D, hD⟩ : ∃ D, D = U * 4294967296 + N1 - a1 * 18446744073709526392 := ⟨_, rfl⟩
        obtain ⟨X1, hX1⟩ : ∃ X, X = IntKind.u64.wrap (U * 4294967296) := ⟨_, rfl⟩
        obtain ⟨X2, hX2⟩ : ∃ X, X = IntKind.u64.wrap (X1 + N1) := ⟨_, rfl⟩
        obtain ⟨X3, hX3⟩ : ∃ X, X = IntKind.u64.wrap (a1 * 18446744073709526392) := ⟨_, rfl⟩
        have d0 : 0 ≤ D ∧ D < 18446744073709526392 := by omega
        have x4 : IntKind.u64.wrap (X2 - X3) = D := by rw [hX2, hX3, hX1]; simp only [IntKind.wrap_u64]; omega
        have x1 := hX1.symm
        have x2 := hX2.symm
        have x3 := hX3.symm
        clear hX1 hX2 hX3 ha1
        have HD := Lib.hid hD; clear hD
        obtain ⟨C0, hC0⟩ : ∃ C0, C0 = D / 4294967295 := ⟨_, rfl⟩
        have x5 : IntKind.u64.wrap (D.tdiv 4294967295) = C0 := by rw [Int.tdiv_eq_ediv_of_nonneg d0.1, IntKind.wrap_u64]; omega
        have x6 : IntKind.u64.wrap (C0 * 4294967295) = C0 * 4294967295 := by rw [IntKind.wrap_u64]; omega
        have x7 : IntKind.u64.wrap (D - C0 * 4294967295) = D - C0 * 4294967295 := by rw [IntKind.wrap_u64]; omega
        have j0 : 0 ≤ C0 ∧ 0 ≤ D - C0 * 4294967295 ∧ D - C0 * 4294967295 < 4294967295 := by omega
        clear hC0
        go_wp2
        go_loop [18, 16] (fun q r => ∃ c b : Int, q = .int .u64 c ∧ r = .int .u64 b ∧ 0 ≤ c ∧ 0 ≤ b ∧ b < 4294967296 ∧ c * 4294967295 + b = D ∧ D * 4294967296 + N0 < (c + 1) * 18446744073709526392) (fun q _ => (intOf q).toNat)
        case atStart => exact ⟨C0, D - C0 * 4294967295, rfl, rfl, by omega, by omega, by omega, by omega, by omega⟩
        case round =>
          obtain ⟨c, d, rfl, rfl, c0, d0', d1, hcd, hlt2⟩ := hrel
          by_cases hAc : 4294967296 ≤ c
          · obtain ⟨c1, hc1⟩ : ∃ z, z = c - 1 := ⟨_, rfl⟩
            have v1 : IntKind.u64.wrap (c - 1) = c1 := by rw [IntKind.wrap_u64]; omega
            have v2 : IntKind.u64.wrap (d + 4294967295) = d + 4294967295 := by rw [IntKind.wrap_u64]; omega
            have Hc1 := Lib.hid hc1; clear hc1
            by_cases hbrc1 : 4294967296 ≤ d + 4294967295
            · have hD := HD.out; have hc1 := Hc1.out
              obtain ⟨E, hE⟩ : ∃ E, E = D * 4294967296 + N0 - c1 * 18446744073709526392 := ⟨_, rfl⟩
              obtain ⟨Z1, hZ1⟩ : ∃ Z, Z = IntKind.u64.wrap (D * 4294967296) := ⟨_, rfl⟩
              obtain ⟨Z2, hZ2⟩ : ∃ Z, Z = IntKind.u64.wrap (Z1 + N0) := ⟨_, rfl⟩
              obtain ⟨Z3, hZ3⟩ : ∃ Z, Z = IntKind.u64.wrap (c1 * 18446744073709526392) := ⟨_, rfl⟩
              have g0 : 0 ≤ E ∧ E < 18446744073709526392 := by omega
              have z4 : IntKind.u64.wrap (Z2 - Z3) = E := by rw [hZ2, hZ3, hZ1]; simp only [IntKind.wrap_u64]; omega
              have hres : (hi * 18446744073709551616 + lo) % 2305843009213690799 = E / 8 := by have hfin := Hfin.out; omega
              have z1 := hZ1.symm
              have z2 := hZ2.symm
              have z3 := hZ3.symm
              clear hZ1 hZ2 hZ3 hE hD hc1
              go_wp2
              go_ret2
              exact ⟨⟨_, rfl⟩, rfl⟩
            · go_wp2
              go_round
              case rel =>
                have hc1 := Hc1.out
                exact ⟨c1, d + 4294967295, rfl, rfl, by omega, by omega, by omega, by omega, by omega⟩
              case measure =>
                have hc1 := Hc1.out
                simp [intOf]; omega
          · have w3c : IntKind.u64.wrap (c * 4294942072) = c * 4294942072 := by rw [IntKind.wrap_u64]; omega
            have w4c : IntKind.u64.wrap (4294967296 * d) = 4294967296 * d := by rw [IntKind.wrap_u64]; omega
            have w5c : IntKind.u64.wrap (4294967296 * d + N0) = 4294967296 * d + N0 := by rw [IntKind.wrap_u64]; omega
            by_cases hBc : 4294967296 * d + N0 < c * 4294942072
            · obtain ⟨c1, hc1⟩ : ∃ z, z = c - 1 := ⟨_, rfl⟩
              have v1 : IntKind.u64.wrap (c - 1) = c1 := by rw [IntKind.wrap_u64]; omega
              have v2 : IntKind.u64.wrap (d + 4294967295) = d + 4294967295 := by rw [IntKind.wrap_u64]; omega
              have Hc1 := Lib.hid hc1; clear hc1
              by_cases hbrc1 : 4294967296 ≤ d + 4294967295
              · have hD := HD.out; have hc1 := Hc1.out
                obtain ⟨E, hE⟩ : ∃ E, E = D * 4294967296 + N0 - c1 * 18446744073709526392 := ⟨_, rfl⟩
                obtain ⟨Z1, hZ1⟩ : ∃ Z, Z = IntKind.u64.wrap (D * 4294967296) := ⟨_, rfl⟩
                obtain ⟨Z2, hZ2⟩ : ∃ Z, Z = IntKind.u64.wrap (Z1 + N0) := ⟨_, rfl⟩
                obtain ⟨Z3, hZ3⟩ : ∃ Z, Z = IntKind.u64.wrap (c1 * 18446744073709526392) := ⟨_, rfl⟩
                have g0 : 0 ≤ E ∧ E < 18446744073709526392 := by omega
                have z4 : IntKind.u64.wrap (Z2 - Z3) = E := by rw [hZ2, hZ3, hZ1]; simp only [IntKind.wrap_u64]; omega
                have hres : (hi * 18446744073709551616 + lo) % 2305843009213690799 = E / 8 := by have hfin := Hfin.out; omega
                have z1 := hZ1.symm
                have z2 := hZ2.symm
                have z3 := hZ3.symm
                clear hZ1 hZ2 hZ3 hE hD hc1
                go_wp2
                go_ret2
                exact ⟨⟨_, rfl⟩, rfl⟩
              · go_wp2
                go_round
                case rel =>
                  have hc1 := Hc1.out
                  exact ⟨c1, d + 4294967295, rfl, rfl, by omega, by omega, by omega, by omega, by omega⟩
                case measure =>
                  have hc1 := Hc1.out
                  simp [intOf]; omega
            · have hD := HD.out
              obtain ⟨E, hE⟩ : ∃ E, E = D * 4294967296 + N0 - c * 18446744073709526392 := ⟨_, rfl⟩
              obtain ⟨Z1, hZ1⟩ : ∃ Z, Z = IntKind.u64.wrap (D * 4294967296) := ⟨_, rfl⟩
              obtain ⟨Z2, hZ2⟩ : ∃ Z, Z = IntKind.u64.wrap (Z1 + N0) := ⟨_, rfl⟩
              obtain ⟨Z3, hZ3⟩ : ∃ Z, Z = IntKind.u64.wrap (c * 18446744073709526392) := ⟨_, rfl⟩
              have g0 : 0 ≤ E ∧ E < 18446744073709526392 := by omega
              have z4 : IntKind.u64.wrap (Z2 - Z3) = E := by rw [hZ2, hZ3, hZ1]; simp only [IntKind.wrap_u64]; omega
              have hres : (hi * 18446744073709551616 + lo) % 2305843009213690799 = E / 8 := by have hfin := Hfin.out; omega
              have z1 := hZ1.symm
              have z2 := hZ2.symm
              have z3 := hZ3.symm
              clear hZ1 hZ2 hZ3 hE hD
              go_wp2
              go_ret2
              exact ⟨⟨_, rfl⟩, rfl⟩
      · go_wp2
        go_round
        case rel =>
          have ha1 := Ha1.out
          exact ⟨a1, b + 4294967295, rfl, rfl, by omega, by omega, by omega, by omega, by omega⟩
        case measure =>
          have ha1 := Ha1.out
          simp [intOf]; omega
    · have w3a : IntKind.u64.wrap (a * 4294942072) = a * 4294942072 := by rw [IntKind.wrap_u64]; omega
      have w4a : IntKind.u64.wrap (4294967296 * b) = 4294967296 * b := by rw [IntKind.wrap_u64]; omega
      have w5a : IntKind.u64.wrap (4294967296 * b + N1) = 4294967296 * b + N1 := by rw [IntKind.wrap_u64]; omega
      by_cases hBa : 4294967296 * b + N1 < a * 4294942072
      · obtain ⟨a1, ha1⟩ : ∃ z, z = a - 1 := ⟨_, rfl⟩
        have v1 : IntKind.u64.wrap (a - 1) = a1 := by rw [IntKind.wrap_u64]; omega
        have v2 : IntKind.u64.wrap (b + 4294967295) = b + 4294967295 := by rw [IntKind.wrap_u64]; omega
        have Ha1 := Lib.hid ha1; clear ha1
        by_cases hbra1 : 4294967296 ≤ b + 4294967295
        · have ha1 := Ha1.out
          obtain ⟨D, hD⟩ : ∃ D, D = U * 4294967296 + N1 - a1 * 18446744073709526392 := ⟨_, rfl⟩
          obtain ⟨X1, hX1⟩ : ∃ X, X = IntKind.u64.wrap (U * 4294967296) := ⟨_, rfl⟩
          obtain ⟨X2, hX2⟩ : ∃ X, X = IntKind.u64.wrap (X1 + N1) := ⟨_, rfl⟩
          obtain ⟨X3, hX3⟩ : ∃ X, X = IntKind.u64.wrap (a1 * 18446744073709526392) := ⟨_, rfl⟩
          have d0 : 0 ≤ D ∧ D < 18446744073709526392 := by omega
          have x4 : IntKind.u64.wrap (X2 - X3) = D := by rw [hX2, hX3, hX1]; simp only [IntKind.wrap_u64]; omega
          have x1 := hX1.symm
          have x2 := hX2.symm
          have x3 := hX3.symm
          clear hX1 hX2 hX3 ha1
          have HD := Lib.hid hD; clear hD
          obtain ⟨C0, hC0⟩ : ∃ C0, C0 = D / 4294967295 := ⟨_, rfl⟩
          have x5 : IntKind.u64.wrap (D.tdiv 4294967295) = C0 := by rw [Int.tdiv_eq_ediv_of_nonneg d0.1, IntKind.wrap_u64]; omega
          have x6 : IntKind.u64.wrap (C0 * 4294967295) = C0 * 4294967295 := by rw [IntKind.wrap_u64]; omega
          have x7 : IntKind.u64.wrap (D - C0 * 4294967295) = D - C0 * 4294967295 := by rw [IntKind.wrap_u64]; omega
          have j0 : 0 ≤ C0 ∧ 0 ≤ D - C0 * 4294967295 ∧ D - C0 * 4294967295 < 4294967295 := by omega
          clear hC0
          go_wp2
          go_loop [18, 16] (fun q r => ∃ c b : Int, q = .int .u64 c ∧ r = .int .u64 b ∧ 0 ≤ c ∧ 0 ≤ b ∧ b < 4294967296 ∧ c * 4294967295 + b = D ∧ D * 4294967296 + N0 < (c + 1) * 18446744073709526392) (fun q _ => (intOf q).toNat)
          case atStart => exact ⟨C0, D - C0 * 4294967295, rfl, rfl, by omega, by omega, by omega, by omega, by omega⟩
          case round =>
            obtain ⟨c, d, rfl, rfl, c0, d0', d1, hcd, hlt2⟩ := hrel
            by_cases hAc : 4294967296 ≤ c
            · obtain ⟨c1, hc1⟩ : ∃ z, z = c - 1 := ⟨_, rfl⟩
              have v1 : IntKind.u64.wrap (c - 1) = c1 := by rw [IntKind.wrap_u64]; omega
              have v2 : IntKind.u64.wrap (d + 4294967295) = d + 4294967295 := by rw [IntKind.wrap_u64]; omega
              have Hc1 := Lib.hid hc1; clear hc1
              by_cases hbrc1 : 4294967296 ≤ d + 4294967295
              · have hD := HD.out; have hc1 := Hc1.out
                obtain ⟨E, hE⟩ : ∃ E, E = D * 4294967296 + N0 - c1 * 18446744073709526392 := ⟨_, rfl⟩
                obtain ⟨Z1, hZ1⟩ : ∃ Z, Z = IntKind.u64.wrap (D * 4294967296) := ⟨_, rfl⟩
                obtain ⟨Z2, hZ2⟩ : ∃ Z, Z = IntKind.u64.wrap (Z1 + N0) := ⟨_, rfl⟩
                obtain ⟨Z3, hZ3⟩ : ∃ Z, Z = IntKind.u64.wrap (c1 * 18446744073709526392) := ⟨_, rfl⟩
                have g0 : 0 ≤ E ∧ E < 18446744073709526392 := by omega
                have z4 : IntKind.u64.wrap (Z2 - Z3) = E := by rw [hZ2, hZ3, hZ1]; simp only [IntKind.wrap_u64]; omega
                have hres : (hi * 18446744073709551616 + lo) % 2305843009213690799 = E / 8 := by have hfin := Hfin.out; omega
                have z1 := hZ1.symm
                have z2 := hZ2.symm
                have z3 := hZ3.symm
                clear hZ1 hZ2 hZ3 hE hD hc1
                go_wp2
                go_ret2
                exact ⟨⟨_, rfl⟩, rfl⟩
              · go_wp2
                go_round
                case rel =>
                  have hc1 := Hc1.out
                  exact ⟨c1, d + 4294967295, rfl, rfl, by omega, by omega, by omega, by omega, by omega⟩
                case measure =>
                  have hc1 := Hc1.out
                  simp [intOf]; omega
            · have w3c : IntKind.u64.wrap (c * 4294942072) = c * 4294942072 := by rw [IntKind.wrap_u64]; omega
              have w4c : IntKind.u64.wrap (4294967296 * d) = 4294967296 * d := by rw [IntKind.wrap_u64]; omega
              have w5c : IntKind.u64.wrap (4294967296 * d + N0) = 4294967296 * d + N0 := by rw [IntKind.wrap_u64]; omega
              by_cases hBc : 4294967296 * d + N0 < c * 4294942072
              · obtain ⟨c1, hc1⟩ : ∃ z, z = c - 1 := ⟨_, rfl⟩
                have v1 : IntKind.u64.wrap (c - 1) = c1 := by rw [IntKind.wrap_u64]; omega
                have v2 : IntKind.u64.wrap (d + 4294967295) = d + 4294967295 := by rw [IntKind.wrap_u64]; omega
                have Hc1 := Lib.hid hc1; clear hc1
                by_cases hbrc1 : 4294967296 ≤ d + 4294967295
                · have hD := HD.out; have hc1 := Hc1.out
                  obtain ⟨E, hE⟩ : ∃ E, E = D * 4294967296 + N0 - c1 * 18446744073709526392 := ⟨_, rfl⟩
                  obtain ⟨Z1, hZ1⟩ : ∃ Z, Z = IntKind.u64.wrap (D * 4294967296) := ⟨_, rfl⟩
                  obtain ⟨Z2, hZ2⟩ : ∃ Z, Z = IntKind.u64.wrap (Z1 + N0) := ⟨_, rfl⟩
                  obtain ⟨Z3, hZ3⟩ : ∃ Z, Z = IntKind.u64.wrap (c1 * 18446744073709526392) := ⟨_, rfl⟩
                  have g0 : 0 ≤ E ∧ E < 18446744073709526392 := by omega
                  have z4 : IntKind.u64.wrap (Z2 - Z3) = E := by rw [hZ2, hZ3, hZ1]; simp only [IntKind.wrap_u64]; omega
                  have hres : (hi * 18446744073709551616 + lo) % 2305843009213690799 = E / 8 := by have hfin := Hfin.out; omega
                  have z1 := hZ1.symm
                  have z2 := hZ2.symm
                  have z3 := hZ3.symm
                  clear hZ1 hZ2 hZ3 hE hD hc1
                  go_wp2
                  go_ret2
                  exact ⟨⟨_, rfl⟩, rfl⟩
                · go_wp2
                  go_round
                  case rel =>
                    have hc1 := Hc1.out
                    exact ⟨c1, d + 4294967295, rfl, rfl, by omega, by omega, by omega, by omega, by omega⟩
                  case measure =>
                    have hc1 := Hc1.out
                    simp [intOf]; omega
              · have hD := HD.out
                obtain ⟨E, hE⟩ : ∃ E, E = D * 4294967296 + N0 - c * 18446744073709526392 := ⟨_, rfl⟩
                obtain ⟨Z1, hZ1⟩ : ∃ Z, Z = IntKind.u64.wrap (D * 4294967296) := ⟨_, rfl⟩
                obtain ⟨Z2, hZ2⟩ : ∃ Z, Z = IntKind.u64.wrap (Z1 + N0) := ⟨_, rfl⟩
                obtain ⟨Z3, hZ3⟩ : ∃ Z, Z = IntKind.u64.wrap (c * 18446744073709526392) := ⟨_, rfl⟩
                have g0 : 0 ≤ E ∧ E < 18446744073709526392 := by omega
                have z4 : IntKind.u64.wrap (Z2 - Z3) = E := by rw [hZ2, hZ3, hZ1]; simp only [IntKind.wrap_u64]; omega
                have hres : (hi * 18446744073709551616 + lo) % 2305843009213690799 = E / 8 := by have hfin := Hfin.out; omega
                have z1 := hZ1.symm
                have z2 := hZ2.symm
                have z3 := hZ3.symm
                clear hZ1 hZ2 hZ3 hE hD
                go_wp2
                go_ret2
                exact ⟨⟨_, rfl⟩, rfl⟩
        · go_wp2
          go_round
          case rel =>
            have ha1 := Ha1.out
            exact ⟨a1, b + 4294967295, rfl, rfl, by omega, by omega, by omega, by omega, by omega⟩
          case measure =>
            have ha1 := Ha1.out
            simp [intOf]; omega
      · obtain ⟨D, hD⟩ : ∃ D, D = U * 4294967296 + N1 - a * 18446744073709526392 := ⟨_, rfl⟩
        obtain ⟨X1, hX1⟩ : ∃ X, X = IntKind.u64.wrap (U * 4294967296) := ⟨_, rfl⟩
        obtain ⟨X2, hX2⟩ : ∃ X, X = IntKind.u64.wrap (X1 + N1) := ⟨_, rfl⟩
        obtain ⟨X3, hX3⟩ : ∃ X, X = IntKind.u64.wrap (a * 18446744073709526392) := ⟨_, rfl⟩
        have d0 : 0 ≤ D ∧ D < 18446744073709526392 := by omega
        have x4 : IntKind.u64.wrap (X2 - X3) = D := by rw [hX2, hX3, hX1]; simp only [IntKind.wrap_u64]; omega
        have x1 := hX1.symm
        have x2 := hX2.symm
        have x3 := hX3.symm
        clear hX1 hX2 hX3
        have HD := Lib.hid hD; clear hD
        obtain ⟨C0, hC0⟩ : ∃ C0, C0 = D / 4294967295 := ⟨_, rfl⟩
        have x5 : IntKind.u64.wrap (D.tdiv 4294967295) = C0 := by rw [Int.tdiv_eq_ediv_of_nonneg d0.1, IntKind.wrap_u64]; omega
        have x6 : IntKind.u64.wrap (C0 * 4294967295) = C0 * 4294967295 := by rw [IntKind.wrap_u64]; omega
        have x7 : IntKind.u64.wrap (D - C0 * 4294967295) = D - C0 * 4294967295 := by rw [IntKind.wrap_u64]; omega
        have j0 : 0 ≤ C0 ∧ 0 ≤ D - C0 * 4294967295 ∧ D - C0 * 4294967295 < 4294967295 := by omega
        clear hC0
        go_wp2
        go_loop [18, 16] (fun q r => ∃ c b : Int, q = .int .u64 c ∧ r = .int .u64 b ∧ 0 ≤ c ∧ 0 ≤ b ∧ b < 4294967296 ∧ c * 4294967295 + b = D ∧ D * 4294967296 + N0 < (c + 1) * 18446744073709526392) (fun q _ => (intOf q).toNat)
        case atStart => exact ⟨C0, D - C0 * 4294967295, rfl, rfl, by omega, by omega, by omega, by omega, by omega⟩
        case round =>
          obtain ⟨c, d, rfl, rfl, c0, d0', d1, hcd, hlt2⟩ := hrel
          by_cases hAc : 4294967296 ≤ c
          · obtain ⟨c1, hc1⟩ : ∃ z, z = c - 1 := ⟨_, rfl⟩
            have v1 : IntKind.u64.wrap (c - 1) = c1 := by rw [IntKind.wrap_u64]; omega
            have v2 : IntKind.u64.wrap (d + 4294967295) = d + 4294967295 := by rw [IntKind.wrap_u64]; omega
            have Hc1 := Lib.hid hc1; clear hc1
            by_cases hbrc1 : 4294967296 ≤ d + 4294967295
            · have hD := HD.out; have hc1 := Hc1.out
              obtain ⟨E, hE⟩ : ∃ E, E = D * 4294967296 + N0 - c1 * 18446744073709526392 := ⟨_, rfl⟩
              obtain ⟨Z1, hZ1⟩ : ∃ Z, Z = IntKind.u64.wrap (D * 4294967296) := ⟨_, rfl⟩
              obtain ⟨Z2, hZ2⟩ : ∃ Z, Z = IntKind.u64.wrap (Z1 + N0) := ⟨_, rfl⟩
              obtain ⟨Z3, hZ3⟩ : ∃ Z, Z = IntKind.u64.wrap (c1 * 18446744073709526392) := ⟨_, rfl⟩
              have g0 : 0 ≤ E ∧ E < 18446744073709526392 := by omega
              have z4 : IntKind.u64.wrap (Z2 - Z3) = E := by rw [hZ2, hZ3, hZ1]; simp only [IntKind.wrap_u64]; omega
              have hres : (hi * 18446744073709551616 + lo) % 2305843009213690799 = E / 8 := by have hfin := Hfin.out; omega
              have z1 := hZ1.symm
              have z2 := hZ2.symm
              have z3 := hZ3.symm
              clear hZ1 hZ2 hZ3 hE hD hc1
              go_wp2
              go_ret2
              exact ⟨⟨_, rfl⟩, rfl⟩
            · go_wp2
              go_round
              case rel =>
                have hc1 := Hc1.out
                exact ⟨c1, d + 4294967295, rfl, rfl, by omega, by omega, by omega, by omega, by omega⟩
              case measure =>
                have hc1 := Hc1.out
                simp [intOf]; omega
          · have w3c : IntKind.u64.wrap (c * 4294942072) = c * 4294942072 := by rw [IntKind.wrap_u64]; omega
            have w4c : IntKind.u64.wrap (4294967296 * d) = 4294967296 * d := by rw [IntKind.wrap_u64]; omega
            have w5c : IntKind.u64.wrap (4294967296 * d + N0) = 4294967296 * d + N0 := by rw [IntKind.wrap_u64]; omega
            by_cases hBc : 4294967296 * d + N0 < c * 4294942072
            · obtain ⟨c1, hc1⟩ : ∃ z, z = c - 1 := ⟨_, rfl⟩
              have v1 : IntKind.u64.wrap (c - 1) = c1 := by rw [IntKind.wrap_u64]; omega
              have v2 : IntKind.u64.wrap (d + 4294967295) = d + 4294967295 := by rw [IntKind.wrap_u64]; omega
              have Hc1 := Lib.hid hc1; clear hc1
              by_cases hbrc1 : 4294967296 ≤ d + 4294967295
              · have hD := HD.out; have hc1 := Hc1.out
                obtain ⟨E, hE⟩ : ∃ E, E = D * 4294967296 + N0 - c1 * 18446744073709526392 := ⟨_, rfl⟩
                obtain ⟨Z1, hZ1⟩ : ∃ Z, Z = IntKind.u64.wrap (D * 4294967296) := ⟨_, rfl⟩
                obtain ⟨Z2, hZ2⟩ : ∃ Z, Z = IntKind.u64.wrap (Z1 + N0) := ⟨_, rfl⟩
                obtain ⟨Z3, hZ3⟩ : ∃ Z, Z = IntKind.u64.wrap (c1 * 18446744073709526392) := ⟨_, rfl⟩
                have g0 : 0 ≤ E ∧ E < 18446744073709526392 := by omega
                have z4 : IntKind.u64.wrap (Z2 - Z3) = E := by rw [hZ2, hZ3, hZ1]; simp only [IntKind.wrap_u64]; omega
                have hres : (hi * 18446744073709551616 + lo) % 2305843009213690799 = E / 8 := by have hfin := Hfin.out; omega
                have z1 := hZ1.symm
                have z2 := hZ2.symm
                have z3 := hZ3.symm
                clear hZ1 hZ2 hZ3 hE hD hc1
                go_wp2
                go_ret2
                exact ⟨⟨_, rfl⟩, rfl⟩
              · go_wp2
                go_round
                case rel =>
                  have hc1 := Hc1.out
                  exact ⟨c1, d + 4294967295, rfl, rfl, by omega, by omega, by omega, by omega, by omega⟩
                case measure =>
                  have hc1 := Hc1.out
                  simp [intOf]; omega
            · have hD := HD.out
              obtain ⟨E, hE⟩ : ∃ E, E = D * 4294967296 + N0 - c * 18446744073709526392 := ⟨_, rfl⟩
              obtain ⟨Z1, hZ1⟩ : ∃ Z, Z = IntKind.u64.wrap (D * 4294967296) := ⟨_, rfl⟩
              obtain ⟨Z2, hZ2⟩ : ∃ Z, Z = IntKind.u64.wrap (Z1 + N0) := ⟨_, rfl⟩
              obtain ⟨Z3, hZ3⟩ : ∃ Z, Z = IntKind.u64.wrap (c * 18446744073709526392) := ⟨_, rfl⟩
              have g0 : 0 ≤ E ∧ E < 18446744073709526392 := by omega
              have z4 : IntKind.u64.wrap (Z2 - Z3) = E := by rw [hZ2, hZ3, hZ1]; simp only [IntKind.wrap_u64]; omega
              have hres : (hi * 18446744073709551616 + lo) % 2305843009213690799 = E / 8 := by have hfin := Hfin.out; omega
              have z1 := hZ1.symm
              have z2 := hZ2.symm
              have z3 := hZ3.symm
              clear hZ1 hZ2 hZ3 hE hD
              go_wp2
              go_ret2
              exact ⟨⟨_, rfl⟩, rfl⟩


set_option maxHeartbeats 400000 in
theorem div0_P (lo : Int) (w : World) (l0 : 0 ≤ lo) (l1 : lo < 18446744073709551616) :
    Calls Try.prog 104 #[.int .u64 0, .int .u64 lo, .int .u64 2305843009213690799] w fun e w' => ∃ q : Int, e = .returned (.tuple #[.int .u64 q, .int .u64 (lo % 2305843009213690799)]) ∧ Below w.heap.size w w' := by
  have e1 : IntKind.u64.wrap (lo.tmod 2305843009213690799) = lo % 2305843009213690799 := by rw [Int.tmod_eq_emod_of_nonneg l0, IntKind.wrap_u64]; omega
  go_enter Try.func104, Try.ntmps104
  go_wp2
  go_quiet (fail)
  go_wp2
  go_ret2
  exact ⟨_, rfl, bdrewN (Below.refl _ _) _⟩

set_option maxHeartbeats 400000 in
theorem rem_P (hi lo : Int) (w : World) (h0 : 0 ≤ hi) (h1 : hi < 18446744073709551616) (l0 : 0 ≤ lo) (l1 : lo < 18446744073709551616) :
    Calls Try.prog 108 #[.int .u64 hi, .int .u64 lo, .int .u64 2305843009213690799] w fun e w' => e = .returned (.int .u64 ((hi * 18446744073709551616 + lo) % 2305843009213690799)) ∧ Below w.heap.size w w' := by
  have H : Calls Try.prog 104 #[.int .u64 (hi % 2305843009213690799), .int .u64 lo, .int .u64 2305843009213690799] w fun e w' => ∃ q : Int, e = .returned (.tuple #[.int .u64 q, .int .u64 ((hi * 18446744073709551616 + lo) % 2305843009213690799)]) ∧ Below w.heap.size w w' := by
    by_cases hz : hi % 2305843009213690799 = 0
    · rw [hz]
      have e : (hi * 18446744073709551616 + lo) % 2305843009213690799 = lo % 2305843009213690799 := by omega
      rw [e]
      exact div0_P lo w l0 l1
    · have e : (hi * 18446744073709551616 + lo) % 2305843009213690799 = (hi % 2305843009213690799 * 18446744073709551616 + lo) % 2305843009213690799 := by omega
      rw [e]
      refine (div_P (hi % 2305843009213690799) lo w (by omega) (by omega) l0 l1).mono ?_
      rintro e w' ⟨q, rfl, rfl⟩
      exact ⟨q, rfl, Below.refl _ _⟩
  have e1 : IntKind.u64.wrap (hi.tmod 2305843009213690799) = hi % 2305843009213690799 := by rw [Int.tmod_eq_emod_of_nonneg h0, IntKind.wrap_u64]; omega
  have e2 : IntKind.u64.wrap (hi % 2305843009213690799) = hi % 2305843009213690799 := by rw [IntKind.wrap_u64]; omega
  generalize (hi * 18446744073709551616 + lo) % 2305843009213690799 = R at *
  go_enter Try.func108, Try.ntmps108
  go_wp2_with (go_at_call 104; refine H.mono ?_; rintro e w' ⟨q, rfl, hb⟩)
  go_ret
  exact ⟨rfl, hb⟩

set_option maxHeartbeats 400000 in
theorem times_P (a b : Int) (g : Nat) (w : World) (hg : w.heap[g]? = some (.cells #[.int .u64 2305843009213690799] 56 (0, 0))) (a0 : 0 ≤ a) (a1 : a < 18446744073709551616) (b0 : 0 ≤ b) (b1 : b < 18446744073709551616) :
    Calls Try.prog 107 #[.int .u64 a, .int .u64 b, .pointer (some ⟨g, 0, none⟩)] w fun e w' => e = .returned (.int .u64 (a * b % 2305843009213690799)) ∧ Below w.heap.size w w' := by
  have hc := cell_of_one hg
  have H := mul64_any a.toNat b.toNat (by omega) (by omega) w
  rw [Int.toNat_of_nonneg a0, Int.toNat_of_nonneg b0] at H
  have hp : (a.toNat * b.toNat : Nat) < 18446744073709551616 * 18446744073709551616 := Nat.mul_lt_mul'' (by omega) (by omega)
  have hab : ((a.toNat * b.toNat : Nat) : Int) = a * b := by rw [Int.natCast_mul, Int.toNat_of_nonneg a0, Int.toNat_of_nonneg b0]
  rw [← hab]
  generalize a.toNat * b.toNat = n at *
  have H2 := rem_P ((n / 18446744073709551616 : Nat) : Int) ((n % 18446744073709551616 : Nat) : Int) w (by omega) (by omega) (by omega) (by omega)
  rw [show (((n / 18446744073709551616 : Nat) : Int) * 18446744073709551616 + ((n % 18446744073709551616 : Nat) : Int)) = (n : Int) by omega] at H2
  clear hp hab
  generalize ((n / 18446744073709551616 : Nat) : Int) = x at *
  generalize ((n % 18446744073709551616 : Nat) : Int) = y at *
  go_enter Try.func107, Try.ntmps107
  go_wp2_with (first | (go_at_call 103; refine H.mono ?_; rintro e w' ⟨rfl, rfl⟩) | (go_at_call 108; refine H2.mono ?_; rintro e w' ⟨rfl, hb⟩))
  go_ret
  exact ⟨rfl, hb⟩

theorem pm_any (m : Int) (w : World) : Calls Try.prog 101 #[.int .u64 m] w fun e w' =>
    e = .returned (.func (.func 107) #[] #[.pointer (some ⟨w.heap.size, 0, none⟩)]) ∧ w' = w.alloc (.cells #[.int .u64 m] 56) := by
  go_enter Try.func101, Try.ntmps101
  go_wp2
  go_ret
  exact ⟨rfl, rfl⟩


end Go.Proofs.Ytijdjbkmkopmnaa.Sgn
