/-
  Walks of math/bits: Div64 by Q.
-/
import Derived.Test.YtlfjcifeiihmfaaDoorMb
namespace Go.Proofs.YtlfjcifeiihmfaaDoor
open Go.RowKit

set_option maxHeartbeats 8000000 in
theorem div_Q (hi lo : Int) (w : World) (h0 : 0 < hi) (h1 : hi < 1152921504606845399) (l0 : 0 ≤ lo) (l1 : lo < 18446744073709551616) :
    Calls Tryd.prog 54 #[.int .u64 hi, .int .u64 lo, .int .u64 1152921504606845399] w fun e w' => ∃ q : Int, e = .returned (.tuple #[.int .u64 q, .int .u64 ((hi * 18446744073709551616 + lo) % 1152921504606845399)]) ∧ w = w' := by
  have H := lead_Q w
  obtain ⟨U, hU⟩ : ∃ U, U = hi * 16 + lo / 1152921504606846976 := ⟨_, rfl⟩
  obtain ⟨V, hV⟩ : ∃ V, V = lo * 16 % 18446744073709551616 := ⟨_, rfl⟩
  obtain ⟨N1, hN1⟩ : ∃ N1, N1 = V / 4294967296 := ⟨_, rfl⟩
  obtain ⟨N0, hN0⟩ : ∃ N0, N0 = V % 4294967296 := ⟨_, rfl⟩
  obtain ⟨Q0, hQ0⟩ : ∃ Q0, Q0 = U / 4294967295 := ⟨_, rfl⟩
  have e1 : bits .or .u64 (hi * 16) (lo / 1152921504606846976) = U := by
    rw [hU]
    refine bits_join .u64 64 (by decide) (fun n h0 h1 => ?_) 4 _ _ (by omega) (by omega) (by omega) (by omega) (by omega) (by omega)
    rw [IntKind.wrap_u64]; omega
  have e2 : IntKind.u64.wrap (lo * 16) = V := by rw [IntKind.wrap_u64]; omega
  have e3 : bits .and .u64 V 4294967295 = N0 := by
    have := maskN V.toNat (by omega)
    rw [Int.toNat_of_nonneg (by omega)] at this
    rw [this]; omega
  have e4 : bits .and .u64 18446744073709526384 4294967295 = 4294942064 := by decide +kernel
  have e5 : V / 4294967296 = N1 := hN1.symm
  have u0 : 0 ≤ U := by omega
  have u1 : U < 18446744073709526384 := by omega
  have n0 : 0 ≤ N1 ∧ N1 < 4294967296 ∧ 0 ≤ N0 ∧ N0 < 4294967296 := by omega
  have hfin : U * 18446744073709551616 + N1 * 4294967296 + N0 = (hi * 18446744073709551616 + lo) * 16 := by omega
  have Hfin := Lib.hid hfin; clear hfin
  have e6 : IntKind.u64.wrap (U.tdiv 4294967295) = Q0 := by rw [Int.tdiv_eq_ediv_of_nonneg u0, IntKind.wrap_u64]; omega
  have e7 : IntKind.u64.wrap (Q0 * 4294967295) = Q0 * 4294967295 := by rw [IntKind.wrap_u64]; omega
  have e8 : IntKind.u64.wrap (U - Q0 * 4294967295) = U - Q0 * 4294967295 := by rw [IntKind.wrap_u64]; omega
  have i0 : 0 ≤ Q0 ∧ 0 ≤ U - Q0 * 4294967295 ∧ U - Q0 * 4294967295 < 4294967295 := by omega
  clear hU hV hN1 hN0 hQ0
  go_enter Tryd.func54, Tryd.ntmps54
  go_wp2_with (go_at_call 59; refine H.mono ?_; rintro e w' ⟨rfl, rfl⟩)
  go_loop [15, 16] (fun q r => ∃ a b : Int, q = .int .u64 a ∧ r = .int .u64 b ∧ 0 ≤ a ∧ 0 ≤ b ∧ b < 4294967296 ∧ a * 4294967295 + b = U ∧ U * 4294967296 + N1 < (a + 1) * 18446744073709526384) (fun q _ => (intOf q).toNat)
  case atStart => exact ⟨Q0, U - Q0 * 4294967295, rfl, rfl, by omega, by omega, by omega, by omega, by omega⟩
  case round =>
    obtain ⟨a, b, rfl, rfl, a0, b0, b1, hab, hlt⟩ := hrel
    by_cases hAa : 4294967296 ≤ a
    · obtain ⟨a1, ha1⟩ : ∃ z, z = a - 1 := ⟨_, rfl⟩
      have v1 : IntKind.u64.wrap (a - 1) = a1 := by rw [IntKind.wrap_u64]; omega
      have v2 : IntKind.u64.wrap (b + 4294967295) = b + 4294967295 := by rw [IntKind.wrap_u64]; omega
      have Ha1 := Lib.hid ha1; clear ha1
      by_cases hbra1 : 4294967296 ≤ b + 4294967295
      · have ha1 := Ha1.out
        obtain ⟨D, hD⟩ : ∃ D, D = U * 4294967296 + N1 - a1 * 18446744073709526384 := ⟨_, rfl⟩
        obtain ⟨X1, hX1⟩ : ∃ X, X = IntKind.u64.wrap (U * 4294967296) := ⟨_, rfl⟩
        obtain ⟨X2, hX2⟩ : ∃ X, X = IntKind.u64.wrap (X1 + N1) := ⟨_, rfl⟩
        obtain ⟨X3, hX3⟩ : ∃ X, X = IntKind.u64.wrap (a1 * 18446744073709526384) := ⟨_, rfl⟩
        have d0 : 0 ≤ D ∧ D < 18446744073709526384 := by omega
        have x4 : IntKind.u64.wrap (X2 - X3) = D := by rw [hX2, hX3, hX1]; simp only [IntKind.wrap_u64]; omega
        have x1 := hX1.symm
        have x2 := hX2.symm
        have x3 := hX3.symm
        clear hX1 hX2 hX3 ha1
        have HD := Lib.hid hD; clear hD
        obtain ⟨C0, hC0⟩ : ∃ C0, C0 = D / 4294967295 := ⟨_, rfl⟩
        have x5 : IntKind.u64.wrap (D.tdiv 4294967295) = C0 := by rw [Int.tdiv_eq_ediv_of_nonneg d0.1, IntKind.wrap_u64]; omega
        have x6 : IntKind.u64.wrap (C0 * 4294967295) = C0 * 4294967295 := by rw [IntKind.wrap_u64]; omega
        have x7 : IntKind.u64.wrap (D - C0 * 4294967295) = D - C0 * 4294967295 := by rw [IntKind.wrap_u64]; omega
        have j0 : 0 ≤ C0 ∧ 0 ≤ D - C0 * 4294967295 ∧ D - C0 * 4294967295 < 4294967295 := by omega
        clear hC0
        go_wp2
        go_loop [18, 16] (fun q r => ∃ c b : Int, q = .int .u64 c ∧ r = .int .u64 b ∧ 0 ≤ c ∧ 0 ≤ b ∧ b < 4294967296 ∧ c * 4294967295 + b = D ∧ D * 4294967296 + N0 < (c + 1) * 18446744073709526384) (fun q _ => (intOf q).toNat)
        case atStart => exact ⟨C0, D - C0 * 4294967295, rfl, rfl, by omega, by omega, by omega, by omega, by omega⟩
        case round =>
          obtain ⟨c, d, rfl, rfl, c0, d0', d1, hcd, hlt2⟩ := hrel
          by_cases hAc : 4294967296 ≤ c
          · obtain ⟨c1, hc1⟩ : ∃ z, z = c - 1 := ⟨_, rfl⟩
            have v1 : IntKind.u64.wrap (c - 1) = c1 := by rw [IntKind.wrap_u64]; omega
            have v2 : IntKind.u64.wrap (d + 4294967295) = d + 4294967295 := by rw [IntKind.wrap_u64]; omega
            have Hc1 := Lib.hid hc1; clear hc1
            by_cases hbrc1 : 4294967296 ≤ d + 4294967295
            · have hD := HD.out; have hc1 := Hc1.out
              obtain ⟨E, hE⟩ : ∃ E, E = D * 4294967296 + N0 - c1 * 18446744073709526384 := ⟨_, rfl⟩
              obtain ⟨Z1, hZ1⟩ : ∃ Z, Z = IntKind.u64.wrap (D * 4294967296) := ⟨_, rfl⟩
              obtain ⟨Z2, hZ2⟩ : ∃ Z, Z = IntKind.u64.wrap (Z1 + N0) := ⟨_, rfl⟩
              obtain ⟨Z3, hZ3⟩ : ∃ Z, Z = IntKind.u64.wrap (c1 * 18446744073709526384) := ⟨_, rfl⟩
              have g0 : 0 ≤ E ∧ E < 18446744073709526384 := by omega
              have z4 : IntKind.u64.wrap (Z2 - Z3) = E := by rw [hZ2, hZ3, hZ1]; simp only [IntKind.wrap_u64]; omega
              have hres : (hi * 18446744073709551616 + lo) % 1152921504606845399 = E / 16 := by have hfin := Hfin.out; omega
              have z1 := hZ1.symm
              have z2 := hZ2.symm
              have z3 := hZ3.symm
              clear hZ1 hZ2 hZ3 hE hD hc1
              go_wp2
              go_ret2
              exact ⟨⟨_, rfl⟩, rfl⟩
            · go_wp2
              go_round
              case rel =>
                have hc1 := Hc1.out
                exact ⟨c1, d + 4294967295, rfl, rfl, by omega, by omega, by omega, by omega, by omega⟩
              case measure =>
                have hc1 := Hc1.out
                simp [intOf]; omega
          · have w3c : IntKind.u64.wrap (c * 4294942064) = c * 4294942064 := by rw [IntKind.wrap_u64]; omega
            have w4c : IntKind.u64.wrap (4294967296 * d) = 4294967296 * d := by rw [IntKind.wrap_u64]; omega
            have w5c : IntKind.u64.wrap (4294967296 * d + N0) = 4294967296 * d + N0 := by rw [IntKind.wrap_u64]; omega
            by_cases hBc : 4294967296 * d + N0 < c * 4294942064
            · obtain ⟨c1, hc1⟩ : ∃ z, z = c - 1 := ⟨_, rfl⟩
              have v1 : IntKind.u64.wrap (c - 1) = c1 := by rw [IntKind.wrap_u64]; omega
              have v2 : IntKind.u64.wrap (d + 4294967295) = d + 4294967295 := by rw [IntKind.wrap_u64]; omega
              have Hc1 := Lib.hid hc1; clear hc1
              by_cases hbrc1 : 4294967296 ≤ d + 4294967295
              · have hD := HD.out; have hc1 := Hc1.out
                obtain ⟨E, hE⟩ : ∃ E, E = D * 4294967296 + N0 - c1 * 18446744073709526384 := ⟨_, rfl⟩
                obtain ⟨Z1, hZ1⟩ : ∃ Z, Z = IntKind.u64.wrap (D * 4294967296) := ⟨_, rfl⟩
                obtain ⟨Z2, hZ2⟩ : ∃ Z, Z = IntKind.u64.wrap (Z1 + N0) := ⟨_, rfl⟩
                obtain ⟨Z3, hZ3⟩ : ∃ Z, Z = IntKind.u64.wrap (c1 * 18446744073709526384) := ⟨_, rfl⟩
                have g0 : 0 ≤ E ∧ E < 18446744073709526384 := by omega
                have z4 : IntKind.u64.wrap (Z2 - Z3) = E := by rw [hZ2, hZ3, hZ1]; simp only [IntKind.wrap_u64]; omega
                have hres : (hi * 18446744073709551616 + lo) % 1152921504606845399 = E / 16 := by have hfin := Hfin.out; omega
                have z1 := hZ1.symm
                have z2 := hZ2.symm
                have z3 := hZ3.symm
                clear hZ1 hZ2 hZ3 hE hD hc1
                go_wp2
                go_ret2
                exact ⟨⟨_, rfl⟩, rfl⟩
              · go_wp2
                go_round
                case rel =>
                  have hc1 := Hc1.out
                  exact ⟨c1, d + 4294967295, rfl, rfl, by omega, by omega, by omega, by omega, by omega⟩
                case measure =>
                  have hc1 := Hc1.out
                  simp [intOf]; omega
            · have hD := HD.out
              obtain ⟨E, hE⟩ : ∃ E, E = D * 4294967296 + N0 - c * 18446744073709526384 := ⟨_, rfl⟩
              obtain ⟨Z1, hZ1⟩ : ∃ Z, Z = IntKind.u64.wrap (D * 4294967296) := ⟨_, rfl⟩
              obtain ⟨Z2, hZ2⟩ : ∃ Z, Z = IntKind.u64.wrap (Z1 + N0) := ⟨_, rfl⟩
              obtain ⟨Z3, hZ3⟩ : ∃ Z, Z = IntKind.u64.wrap (c * 18446744073709526384) := ⟨_, rfl⟩
              have g0 : 0 ≤ E ∧ E < 18446744073709526384 := by omega
              have z4 : IntKind.u64.wrap (Z2 - Z3) = E := by rw [hZ2, hZ3, hZ1]; simp only [IntKind.wrap_u64]; omega
              have hres : (hi * 18446744073709551616 + lo) % 1152921504606845399 = E / 16 := by have hfin := Hfin.out; omega
              have z1 := hZ1.symm
              have z2 := hZ2.symm
              have z3 := hZ3.symm
              clear hZ1 hZ2 hZ3 hE hD
              go_wp2
              go_ret2
              exact ⟨⟨_, rfl⟩, rfl⟩
      · go_wp2
        go_round
        case rel =>
          have ha1 := Ha1.out
          exact ⟨a1, b + 4294967295, rfl, rfl, by omega, by omega, by omega, by omega, by omega⟩
        case measure =>
          have ha1 := Ha1.out
          simp [intOf]; omega
    · have w3a : IntKind.u64.wrap (a * 4294942064) = a * 4294942064 := by rw [IntKind.wrap_u64]; omega
      have w4a : IntKind.u64.wrap (4294967296 * b) = 4294967296 * b := by rw [IntKind.wrap_u64]; omega
      have w5a : IntKind.u64.wrap (4294967296 * b + N1) = 4294967296 * b + N1 := by rw [IntKind.wrap_u64]; omega
      by_cases hBa : 4294967296 * b + N1 < a * 4294942064
      · obtain ⟨a1, ha1⟩ : ∃ z, z = a - 1 := ⟨_, rfl⟩
        have v1 : IntKind.u64.wrap (a - 1) = a1 := by rw [IntKind.wrap_u64]; omega
        have v2 : IntKind.u64.wrap (b + 4294967295) = b + 4294967295 := by rw [IntKind.wrap_u64]; omega
        have Ha1 := Lib.hid ha1; clear ha1
        by_cases hbra1 : 4294967296 ≤ b + 4294967295
        · have ha1 := Ha1.out
          obtain ⟨D, hD⟩ : ∃ D, D = U * 4294967296 + N1 - a1 * 18446744073709526384 := ⟨_, rfl⟩
          obtain ⟨X1, hX1⟩ : ∃ X, X = IntKind.u64.wrap (U * 4294967296) := ⟨_, rfl⟩
          obtain ⟨X2, hX2⟩ : ∃ X, X = IntKind.u64.wrap (X1 + N1) := ⟨_, rfl⟩
          obtain ⟨X3, hX3⟩ : ∃ X, X = IntKind.u64.wrap (a1 * 18446744073709526384) := ⟨_, rfl⟩
          have d0 : 0 ≤ D ∧ D < 18446744073709526384 := by omega
          have x4 : IntKind.u64.wrap (X2 - X3) = D := by rw [hX2, hX3, hX1]; simp only [IntKind.wrap_u64]; omega
          have x1 := hX1.symm
          have x2 := hX2.symm
          have x3 := hX3.symm
          clear hX1 hX2 hX3 ha1
          have HD := Lib.hid hD; clear hD
          obtain ⟨C0, hC0⟩ : ∃ C0, C0 = D / 4294967295 := ⟨_, rfl⟩
          have x5 : IntKind.u64.wrap (D.tdiv 4294967295) = C0 := by rw [Int.tdiv_eq_ediv_of_nonneg d0.1, IntKind.wrap_u64]; omega
          have x6 : IntKind.u64.wrap (C0 * 4294967295) = C0 * 4294967295 := by rw [IntKind.wrap_u64]; omega
          have x7 : IntKind.u64.wrap (D - C0 * 4294967295) = D - C0 * 4294967295 := by rw [IntKind.wrap_u64]; omega
          have j0 : 0 ≤ C0 ∧ 0 ≤ D - C0 * 4294967295 ∧ D - C0 * 4294967295 < 4294967295 := by omega
          clear hC0
          go_wp2
          go_loop [18, 16] (fun q r => ∃ c b : Int, q = .int .u64 c ∧ r = .int .u64 b ∧ 0 ≤ c ∧ 0 ≤ b ∧ b < 4294967296 ∧ c * 4294967295 + b = D ∧ D * 4294967296 + N0 < (c + 1) * 18446744073709526384) (fun q _ => (intOf q).toNat)
          case atStart => exact ⟨C0, D - C0 * 4294967295, rfl, rfl, by omega, by omega, by omega, by omega, by omega⟩
          case round =>
            obtain ⟨c, d, rfl, rfl, c0, d0', d1, hcd, hlt2⟩ := hrel
            by_cases hAc : 4294967296 ≤ c
            · obtain ⟨c1, hc1⟩ : ∃ z, z = c - 1 := ⟨_, rfl⟩
              have v1 : IntKind.u64.wrap (c - 1) = c1 := by rw [IntKind.wrap_u64]; omega
              have v2 : IntKind.u64.wrap (d + 4294967295) = d + 4294967295 := by rw [IntKind.wrap_u64]; omega
              have Hc1 := Lib.hid hc1; clear hc1
              by_cases hbrc1 : 4294967296 ≤ d + 4294967295
              · have hD := HD.out; have hc1 := Hc1.out
                obtain ⟨E, hE⟩ : ∃ E, E = D * 4294967296 + N0 - c1 * 18446744073709526384 := ⟨_, rfl⟩
                obtain ⟨Z1, hZ1⟩ : ∃ Z, Z = IntKind.u64.wrap (D * 4294967296) := ⟨_, rfl⟩
                obtain ⟨Z2, hZ2⟩ : ∃ Z, Z = IntKind.u64.wrap (Z1 + N0) := ⟨_, rfl⟩
                obtain ⟨Z3, hZ3⟩ : ∃ Z, Z = IntKind.u64.wrap (c1 * 18446744073709526384) := ⟨_, rfl⟩
                have g0 : 0 ≤ E ∧ E < 18446744073709526384 := by omega
                have z4 : IntKind.u64.wrap (Z2 - Z3) = E := by rw [hZ2, hZ3, hZ1]; simp only [IntKind.wrap_u64]; omega
                have hres : (hi * 18446744073709551616 + lo) % 1152921504606845399 = E / 16 := by have hfin := Hfin.out; omega
                have z1 := hZ1.symm
                have z2 := hZ2.symm
                have z3 := hZ3.symm
                clear hZ1 hZ2 hZ3 hE hD hc1
                go_wp2
                go_ret2
                exact ⟨⟨_, rfl⟩, rfl⟩
              · go_wp2
                go_round
                case rel =>
                  have hc1 := Hc1.out
                  exact ⟨c1, d + 4294967295, rfl, rfl, by omega, by omega, by omega, by omega, by omega⟩
                case measure =>
                  have hc1 := Hc1.out
                  simp [intOf]; omega
            · have w3c : IntKind.u64.wrap (c * 4294942064) = c * 4294942064 := by rw [IntKind.wrap_u64]; omega
              have w4c : IntKind.u64.wrap (4294967296 * d) = 4294967296 * d := by rw [IntKind.wrap_u64]; omega
              have w5c : IntKind.u64.wrap (4294967296 * d + N0) = 4294967296 * d + N0 := by rw [IntKind.wrap_u64]; omega
              by_cases hBc : 4294967296 * d + N0 < c * 4294942064
              · obtain ⟨c1, hc1⟩ : ∃ z, z = c - 1 := ⟨_, rfl⟩
                have v1 : IntKind.u64.wrap (c - 1) = c1 := by rw [IntKind.wrap_u64]; omega
                have v2 : IntKind.u64.wrap (d + 4294967295) = d + 4294967295 := by rw [IntKind.wrap_u64]; omega
                have Hc1 := Lib.hid hc1; clear hc1
                by_cases hbrc1 : 4294967296 ≤ d + 4294967295
                · have hD := HD.out; have hc1 := Hc1.out
                  obtain ⟨E, hE⟩ : ∃ E, E = D * 4294967296 + N0 - c1 * 18446744073709526384 := ⟨_, rfl⟩
                  obtain ⟨Z1, hZ1⟩ : ∃ Z, Z = IntKind.u64.wrap (D * 4294967296) := ⟨_, rfl⟩
                  obtain ⟨Z2, hZ2⟩ : ∃ Z, Z = IntKind.u64.wrap (Z1 + N0) := ⟨_, rfl⟩
                  obtain ⟨Z3, hZ3⟩ : ∃ Z, Z = IntKind.u64.wrap (c1 * 18446744073709526384) := ⟨_, rfl⟩
                  have g0 : 0 ≤ E ∧ E < 18446744073709526384 := by omega
                  have z4 : IntKind.u64.wrap (Z2 - Z3) = E := by rw [hZ2, hZ3, hZ1]; simp only [IntKind.wrap_u64]; omega
                  have hres : (hi * 18446744073709551616 + lo) % 1152921504606845399 = E / 16 := by have hfin := Hfin.out; omega
                  have z1 := hZ1.symm
                  have z2 := hZ2.symm
                  have z3 := hZ3.symm
                  clear hZ1 hZ2 hZ3 hE hD hc1
                  go_wp2
                  go_ret2
                  exact ⟨⟨_, rfl⟩, rfl⟩
                · go_wp2
                  go_round
                  case rel =>
                    have hc1 := Hc1.out
                    exact ⟨c1, d + 4294967295, rfl, rfl, by omega, by omega, by omega, by omega, by omega⟩
                  case measure =>
                    have hc1 := Hc1.out
                    simp [intOf]; omega
              · have hD := HD.out
                obtain ⟨E, hE⟩ : ∃ E, E = D * 4294967296 + N0 - c * 18446744073709526384 := ⟨_, rfl⟩
                obtain ⟨Z1, hZ1⟩ : ∃ Z, Z = IntKind.u64.wrap (D * 4294967296) := ⟨_, rfl⟩
                obtain ⟨Z2, hZ2⟩ : ∃ Z, Z = IntKind.u64.wrap (Z1 + N0) := ⟨_, rfl⟩
                obtain ⟨Z3, hZ3⟩ : ∃ Z, Z = IntKind.u64.wrap (c * 18446744073709526384) := ⟨_, rfl⟩
                have g0 : 0 ≤ E ∧ E < 18446744073709526384 := by omega
                have z4 : IntKind.u64.wrap (Z2 - Z3) = E := by rw [hZ2, hZ3, hZ1]; simp only [IntKind.wrap_u64]; omega
                have hres : (hi * 18446744073709551616 + lo) % 1152921504606845399 = E / 16 := by have hfin := Hfin.out; omega
                have z1 := hZ1.symm
                have z2 := hZ2.symm
                have z3 := hZ3.symm
                clear hZ1 hZ2 hZ3 hE hD
                go_wp2
                go_ret2
                exact ⟨⟨_, rfl⟩, rfl⟩
        · go_wp2
          go_round
          case rel =>
            have ha1 := Ha1.out
            exact ⟨a1, b + 4294967295, rfl, rfl, by omega, by omega, by omega, by omega, by omega⟩
          case measure =>
            have ha1 := Ha1.out
            simp [intOf]; omega
      · obtain ⟨D, hD⟩ : ∃ D, D = U * 4294967296 + N1 - a * 18446744073709526384 := ⟨_, rfl⟩
        obtain ⟨X1, hX1⟩ : ∃ X, X = IntKind.u64.wrap (U * 4294967296) := ⟨_, rfl⟩
        obtain ⟨X2, hX2⟩ : ∃ X, X = IntKind.u64.wrap (X1 + N1) := ⟨_, rfl⟩
        obtain ⟨X3, hX3⟩ : ∃ X, X = IntKind.u64.wrap (a * 18446744073709526384) := ⟨_, rfl⟩
        have d0 : 0 ≤ D ∧ D < 18446744073709526384 := by omega
        have x4 : IntKind.u64.wrap (X2 - X3) = D := by rw [hX2, hX3, hX1]; simp only [IntKind.wrap_u64]; omega
        have x1 := hX1.symm
        have x2 := hX2.symm
        have x3 := hX3.symm
        clear hX1 hX2 hX3
        have HD := Lib.hid hD; clear hD
        obtain ⟨C0, hC0⟩ : ∃ C0, C0 = D / 4294967295 := ⟨_, rfl⟩
        have x5 : IntKind.u64.wrap (D.tdiv 4294967295) = C0 := by rw [Int.tdiv_eq_ediv_of_nonneg d0.1, IntKind.wrap_u64]; omega
        have x6 : IntKind.u64.wrap (C0 * 4294967295) = C0 * 4294967295 := by rw [IntKind.wrap_u64]; omega
        have x7 : IntKind.u64.wrap (D - C0 * 4294967295) = D - C0 * 4294967295 := by rw [IntKind.wrap_u64]; omega
        have j0 : 0 ≤ C0 ∧ 0 ≤ D - C0 * 4294967295 ∧ D - C0 * 4294967295 < 4294967295 := by omega
        clear hC0
        go_wp2
        go_loop [18, 16] (fun q r => ∃ c b : Int, q = .int .u64 c ∧ r = .int .u64 b ∧ 0 ≤ c ∧ 0 ≤ b ∧ b < 4294967296 ∧ c * 4294967295 + b = D ∧ D * 4294967296 + N0 < (c + 1) * 18446744073709526384) (fun q _ => (intOf q).toNat)
        case atStart => exact ⟨C0, D - C0 * 4294967295, rfl, rfl, by omega, by omega, by omega, by omega, by omega⟩
        case round =>
          obtain ⟨c, d, rfl, rfl, c0, d0', d1, hcd, hlt2⟩ := hrel
          by_cases hAc : 4294967296 ≤ c
          · obtain ⟨c1, hc1⟩ : ∃ z, z = c - 1 := ⟨_, rfl⟩
            have v1 : IntKind.u64.wrap (c - 1) = c1 := by rw [IntKind.wrap_u64]; omega
            have v2 : IntKind.u64.wrap (d + 4294967295) = d + 4294967295 := by rw [IntKind.wrap_u64]; omega
            have Hc1 := Lib.hid hc1; clear hc1
            by_cases hbrc1 : 4294967296 ≤ d + 4294967295
            · have hD := HD.out; have hc1 := Hc1.out
              obtain ⟨E, hE⟩ : ∃ E, E = D * 4294967296 + N0 - c1 * 18446744073709526384 := ⟨_, rfl⟩
              obtain ⟨Z1, hZ1⟩ : ∃ Z, Z = IntKind.u64.wrap (D * 4294967296) := ⟨_, rfl⟩
              obtain ⟨Z2, hZ2⟩ : ∃ Z, Z = IntKind.u64.wrap (Z1 + N0) := ⟨_, rfl⟩
              obtain ⟨Z3, hZ3⟩ : ∃ Z, Z = IntKind.u64.wrap (c1 * 18446744073709526384) := ⟨_, rfl⟩
              have g0 : 0 ≤ E ∧ E < 18446744073709526384 := by omega
              have z4 : IntKind.u64.wrap (Z2 - Z3) = E := by rw [hZ2, hZ3, hZ1]; simp only [IntKind.wrap_u64]; omega
              have hres : (hi * 18446744073709551616 + lo) % 1152921504606845399 = E / 16 := by have hfin := Hfin.out; omega
              have z1 := hZ1.symm
              have z2 := hZ2.symm
              have z3 := hZ3.symm
              clear hZ1 hZ2 hZ3 hE hD hc1
              go_wp2
              go_ret2
              exact ⟨⟨_, rfl⟩, rfl⟩
            · go_wp2
              go_round
              case rel =>
                have hc1 := Hc1.out
                exact ⟨c1, d + 4294967295, rfl, rfl, by omega, by omega, by omega, by omega, by omega⟩
              case measure =>
                have hc1 := Hc1.out
                simp [intOf]; omega
          · have w3c : IntKind.u64.wrap (c * 4294942064) = c * 4294942064 := by rw [IntKind.wrap_u64]; omega
            have w4c : IntKind.u64.wrap (4294967296 * d) = 4294967296 * d := by rw [IntKind.wrap_u64]; omega
            have w5c : IntKind.u64.wrap (4294967296 * d + N0) = 4294967296 * d + N0 := by rw [IntKind.wrap_u64]; omega
            by_cases hBc : 4294967296 * d + N0 < c * 4294942064
            · obtain ⟨c1, hc1⟩ : ∃ z, z = c - 1 := ⟨_, rfl⟩
              have v1 : IntKind.u64.wrap (c - 1) = c1 := by rw [IntKind.wrap_u64]; omega
              have v2 : IntKind.u64.wrap (d + 4294967295) = d + 4294967295 := by rw [IntKind.wrap_u64]; omega
              have Hc1 := Lib.hid hc1; clear hc1
              by_cases hbrc1 : 4294967296 ≤ d + 4294967295
              · have hD := HD.out; have hc1 := Hc1.out
                obtain ⟨E, hE⟩ : ∃ E, E = D * 4294967296 + N0 - c1 * 18446744073709526384 := ⟨_, rfl⟩
                obtain ⟨Z1, hZ1⟩ : ∃ Z, Z = IntKind.u64.wrap (D * 4294967296) := ⟨_, rfl⟩
                obtain ⟨Z2, hZ2⟩ : ∃ Z, Z = IntKind.u64.wrap (Z1 + N0) := ⟨_, rfl⟩
                obtain ⟨Z3, hZ3⟩ : ∃ Z, Z = IntKind.u64.wrap (c1 * 18446744073709526384) := ⟨_, rfl⟩
                have g0 : 0 ≤ E ∧ E < 18446744073709526384 := by omega
                have z4 : IntKind.u64.wrap (Z2 - Z3) = E := by rw [hZ2, hZ3, hZ1]; simp only [IntKind.wrap_u64]; omega
                have hres : (hi * 18446744073709551616 + lo) % 1152921504606845399 = E / 16 := by have hfin := Hfin.out; omega
                have z1 := hZ1.symm
                have z2 := hZ2.symm
                have z3 := hZ3.symm
                clear hZ1 hZ2 hZ3 hE hD hc1
                go_wp2
                go_ret2
                exact ⟨⟨_, rfl⟩, rfl⟩
              · go_wp2
                go_round
                case rel =>
                  have hc1 := Hc1.out
                  exact ⟨c1, d + 4294967295, rfl, rfl, by omega, by omega, by omega, by omega, by omega⟩
                case measure =>
                  have hc1 := Hc1.out
                  simp [intOf]; omega
            · have hD := HD.out
              obtain ⟨E, hE⟩ : ∃ E, E = D * 4294967296 + N0 - c * 18446744073709526384 := ⟨_, rfl⟩
              obtain ⟨Z1, hZ1⟩ : ∃ Z, Z = IntKind.u64.wrap (D * 4294967296) := ⟨_, rfl⟩
              obtain ⟨Z2, hZ2⟩ : ∃ Z, Z = IntKind.u64.wrap (Z1 + N0) := ⟨_, rfl⟩
              obtain ⟨Z3, hZ3⟩ : ∃ Z, Z = IntKind.u64.wrap (c * 18446744073709526384) := ⟨_, rfl⟩
              have g0 : 0 ≤ E ∧ E < 18446744073709526384 := by omega
              have z4 : IntKind.u64.wrap (Z2 - Z3) = E := by rw [hZ2, hZ3, hZ1]; simp only [IntKind.wrap_u64]; omega
              have hres : (hi * 18446744073709551616 + lo) % 1152921504606845399 = E / 16 := by have hfin := Hfin.out; omega
              have z1 := hZ1.symm
              have z2 := hZ2.symm
              have z3 := hZ3.symm
              clear hZ1 hZ2 hZ3 hE hD
              go_wp2
              go_ret2
              exact ⟨⟨_, rfl⟩, rfl⟩

end Go.Proofs.YtlfjcifeiihmfaaDoor
