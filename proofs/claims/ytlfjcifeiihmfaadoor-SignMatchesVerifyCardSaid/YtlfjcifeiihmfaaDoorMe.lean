/-
  Walks of math/bits: Rem64 by P and by Q; products modulo them.
-/
import Derived.Test.YtlfjcifeiihmfaaDoorMc
import Derived.Test.YtlfjcifeiihmfaaDoorMd
import Derived.RegionTactic
import Derived.BigRegion
import Derived.Deep.QuietTactic
import Derived.BigQuiet
namespace Go.Proofs.YtlfjcifeiihmfaaDoor
open Go.RowKit

set_option maxHeartbeats 400000 in
theorem div0_P (lo : Int) (w : World) (l0 : 0 ≤ lo) (l1 : lo < 18446744073709551616) :
    Calls Tryd.prog 54 #[.int .u64 0, .int .u64 lo, .int .u64 2305843009213690799] w fun e w' => ∃ q : Int, e = .returned (.tuple #[.int .u64 q, .int .u64 (lo % 2305843009213690799)]) ∧ Below w.heap.size w w' := by
  have e1 : IntKind.u64.wrap (lo.tmod 2305843009213690799) = lo % 2305843009213690799 := by rw [Int.tmod_eq_emod_of_nonneg l0, IntKind.wrap_u64]; omega
  go_enter Tryd.func54, Tryd.ntmps54
  go_wp2
  go_quiet (fail)
  go_wp2
  go_ret2
  exact ⟨_, rfl, bdrewN (Below.refl _ _) _⟩

set_option maxHeartbeats 400000 in
theorem rem_P (hi lo : Int) (w : World) (h0 : 0 ≤ hi) (h1 : hi < 18446744073709551616) (l0 : 0 ≤ lo) (l1 : lo < 18446744073709551616) :
    Calls Tryd.prog 47 #[.int .u64 hi, .int .u64 lo, .int .u64 2305843009213690799] w fun e w' => e = .returned (.int .u64 ((hi * 18446744073709551616 + lo) % 2305843009213690799)) ∧ Below w.heap.size w w' := by
  have H : Calls Tryd.prog 54 #[.int .u64 (hi % 2305843009213690799), .int .u64 lo, .int .u64 2305843009213690799] w fun e w' => ∃ q : Int, e = .returned (.tuple #[.int .u64 q, .int .u64 ((hi * 18446744073709551616 + lo) % 2305843009213690799)]) ∧ Below w.heap.size w w' := by
    by_cases hz : hi % 2305843009213690799 = 0
    · rw [hz]
      have e : (hi * 18446744073709551616 + lo) % 2305843009213690799 = lo % 2305843009213690799 := by omega
      rw [e]
      exact div0_P lo w l0 l1
    · have e : (hi * 18446744073709551616 + lo) % 2305843009213690799 = (hi % 2305843009213690799 * 18446744073709551616 + lo) % 2305843009213690799 := by omega
      rw [e]
      refine (div_P (hi % 2305843009213690799) lo w (by omega) (by omega) l0 l1).mono ?_
      rintro e w' ⟨q, rfl, rfl⟩
      exact ⟨q, rfl, Below.refl _ _⟩
  have e1 : IntKind.u64.wrap (hi.tmod 2305843009213690799) = hi % 2305843009213690799 := by rw [Int.tmod_eq_emod_of_nonneg h0, IntKind.wrap_u64]; omega
  have e2 : IntKind.u64.wrap (hi % 2305843009213690799) = hi % 2305843009213690799 := by rw [IntKind.wrap_u64]; omega
  generalize (hi * 18446744073709551616 + lo) % 2305843009213690799 = R at *
  go_enter Tryd.func47, Tryd.ntmps47
  go_wp2_with (go_at_call 54; refine H.mono ?_; rintro e w' ⟨q, rfl, hb⟩)
  go_ret
  exact ⟨rfl, hb⟩

set_option maxHeartbeats 400000 in
theorem times_P (a b : Int) (g : Nat) (w : World) (hg : w.heap[g]? = some (.cells #[.int .u64 2305843009213690799] 23 (0, 0))) (a0 : 0 ≤ a) (a1 : a < 18446744073709551616) (b0 : 0 ≤ b) (b1 : b < 18446744073709551616) :
    Calls Tryd.prog 45 #[.int .u64 a, .int .u64 b, .pointer (some ⟨g, 0, none⟩)] w fun e w' => e = .returned (.int .u64 (a * b % 2305843009213690799)) ∧ Below w.heap.size w w' := by
  have hc := cell_of_one hg
  have H := mul64_any a.toNat b.toNat (by omega) (by omega) w
  rw [Int.toNat_of_nonneg a0, Int.toNat_of_nonneg b0] at H
  have hp : (a.toNat * b.toNat : Nat) < 18446744073709551616 * 18446744073709551616 := Nat.mul_lt_mul'' (by omega) (by omega)
  have hab : ((a.toNat * b.toNat : Nat) : Int) = a * b := by rw [Int.natCast_mul, Int.toNat_of_nonneg a0, Int.toNat_of_nonneg b0]
  rw [← hab]
  generalize a.toNat * b.toNat = n at *
  have H2 := rem_P ((n / 18446744073709551616 : Nat) : Int) ((n % 18446744073709551616 : Nat) : Int) w (by omega) (by omega) (by omega) (by omega)
  rw [show (((n / 18446744073709551616 : Nat) : Int) * 18446744073709551616 + ((n % 18446744073709551616 : Nat) : Int)) = (n : Int) by omega] at H2
  clear hp hab
  generalize ((n / 18446744073709551616 : Nat) : Int) = x at *
  generalize ((n % 18446744073709551616 : Nat) : Int) = y at *
  go_enter Tryd.func45, Tryd.ntmps45
  go_wp2_with (first | (go_at_call 46; refine H.mono ?_; rintro e w' ⟨rfl, rfl⟩) | (go_at_call 47; refine H2.mono ?_; rintro e w' ⟨rfl, hb⟩))
  go_ret
  exact ⟨rfl, hb⟩

set_option maxHeartbeats 400000 in
theorem div0_Q (lo : Int) (w : World) (l0 : 0 ≤ lo) (l1 : lo < 18446744073709551616) :
    Calls Tryd.prog 54 #[.int .u64 0, .int .u64 lo, .int .u64 1152921504606845399] w fun e w' => ∃ q : Int, e = .returned (.tuple #[.int .u64 q, .int .u64 (lo % 1152921504606845399)]) ∧ Below w.heap.size w w' := by
  have e1 : IntKind.u64.wrap (lo.tmod 1152921504606845399) = lo % 1152921504606845399 := by rw [Int.tmod_eq_emod_of_nonneg l0, IntKind.wrap_u64]; omega
  go_enter Tryd.func54, Tryd.ntmps54
  go_wp2
  go_quiet (fail)
  go_wp2
  go_ret2
  exact ⟨_, rfl, bdrewN (Below.refl _ _) _⟩

set_option maxHeartbeats 400000 in
theorem rem_Q (hi lo : Int) (w : World) (h0 : 0 ≤ hi) (h1 : hi < 18446744073709551616) (l0 : 0 ≤ lo) (l1 : lo < 18446744073709551616) :
    Calls Tryd.prog 47 #[.int .u64 hi, .int .u64 lo, .int .u64 1152921504606845399] w fun e w' => e = .returned (.int .u64 ((hi * 18446744073709551616 + lo) % 1152921504606845399)) ∧ Below w.heap.size w w' := by
  have H : Calls Tryd.prog 54 #[.int .u64 (hi % 1152921504606845399), .int .u64 lo, .int .u64 1152921504606845399] w fun e w' => ∃ q : Int, e = .returned (.tuple #[.int .u64 q, .int .u64 ((hi * 18446744073709551616 + lo) % 1152921504606845399)]) ∧ Below w.heap.size w w' := by
    by_cases hz : hi % 1152921504606845399 = 0
    · rw [hz]
      have e : (hi * 18446744073709551616 + lo) % 1152921504606845399 = lo % 1152921504606845399 := by omega
      rw [e]
      exact div0_Q lo w l0 l1
    · have e : (hi * 18446744073709551616 + lo) % 1152921504606845399 = (hi % 1152921504606845399 * 18446744073709551616 + lo) % 1152921504606845399 := by omega
      rw [e]
      refine (div_Q (hi % 1152921504606845399) lo w (by omega) (by omega) l0 l1).mono ?_
      rintro e w' ⟨q, rfl, rfl⟩
      exact ⟨q, rfl, Below.refl _ _⟩
  have e1 : IntKind.u64.wrap (hi.tmod 1152921504606845399) = hi % 1152921504606845399 := by rw [Int.tmod_eq_emod_of_nonneg h0, IntKind.wrap_u64]; omega
  have e2 : IntKind.u64.wrap (hi % 1152921504606845399) = hi % 1152921504606845399 := by rw [IntKind.wrap_u64]; omega
  generalize (hi * 18446744073709551616 + lo) % 1152921504606845399 = R at *
  go_enter Tryd.func47, Tryd.ntmps47
  go_wp2_with (go_at_call 54; refine H.mono ?_; rintro e w' ⟨q, rfl, hb⟩)
  go_ret
  exact ⟨rfl, hb⟩

set_option maxHeartbeats 400000 in
theorem times_Q (a b : Int) (g : Nat) (w : World) (hg : w.heap[g]? = some (.cells #[.int .u64 1152921504606845399] 23 (0, 0))) (a0 : 0 ≤ a) (a1 : a < 18446744073709551616) (b0 : 0 ≤ b) (b1 : b < 18446744073709551616) :
    Calls Tryd.prog 45 #[.int .u64 a, .int .u64 b, .pointer (some ⟨g, 0, none⟩)] w fun e w' => e = .returned (.int .u64 (a * b % 1152921504606845399)) ∧ Below w.heap.size w w' := by
  have hc := cell_of_one hg
  have H := mul64_any a.toNat b.toNat (by omega) (by omega) w
  rw [Int.toNat_of_nonneg a0, Int.toNat_of_nonneg b0] at H
  have hp : (a.toNat * b.toNat : Nat) < 18446744073709551616 * 18446744073709551616 := Nat.mul_lt_mul'' (by omega) (by omega)
  have hab : ((a.toNat * b.toNat : Nat) : Int) = a * b := by rw [Int.natCast_mul, Int.toNat_of_nonneg a0, Int.toNat_of_nonneg b0]
  rw [← hab]
  generalize a.toNat * b.toNat = n at *
  have H2 := rem_Q ((n / 18446744073709551616 : Nat) : Int) ((n % 18446744073709551616 : Nat) : Int) w (by omega) (by omega) (by omega) (by omega)
  rw [show (((n / 18446744073709551616 : Nat) : Int) * 18446744073709551616 + ((n % 18446744073709551616 : Nat) : Int)) = (n : Int) by omega] at H2
  clear hp hab
  generalize ((n / 18446744073709551616 : Nat) : Int) = x at *
  generalize ((n % 18446744073709551616 : Nat) : Int) = y at *
  go_enter Tryd.func45, Tryd.ntmps45
  go_wp2_with (first | (go_at_call 46; refine H.mono ?_; rintro e w' ⟨rfl, rfl⟩) | (go_at_call 47; refine H2.mono ?_; rintro e w' ⟨rfl, hb⟩))
  go_ret
  exact ⟨rfl, hb⟩

theorem pm_any (m : Int) (w : World) : Calls Tryd.prog 35 #[.int .u64 m] w fun e w' =>
    e = .returned (.func (.func 45) #[] #[.pointer (some ⟨w.heap.size, 0, none⟩)]) ∧ w' = w.alloc (.cells #[.int .u64 m] 23) := by
  go_enter Tryd.func35, Tryd.ntmps35
  go_wp2
  go_ret
  exact ⟨rfl, rfl⟩

end Go.Proofs.YtlfjcifeiihmfaaDoor
