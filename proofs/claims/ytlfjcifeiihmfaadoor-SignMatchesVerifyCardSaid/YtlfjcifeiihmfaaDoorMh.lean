/-
  Walks: products by doubling (the reference's and the laws'), powers of the reference.
-/
import Derived.Test.YtlfjcifeiihmfaaDoorMf
namespace Go.Proofs.YtlfjcifeiihmfaaDoor
open Go.RowKit

theorem dbl (m x y z : Nat) : (z + (x + x) % m * (y / 2)) % m = (z + x * (2 * (y / 2))) % m := by
  rw [Nat.add_mod, Nat.mul_mod, Nat.mod_mod, ← Nat.mul_mod, ← Nat.add_mod]
  congr 2
  rw [← Nat.two_mul, Nat.mul_comm 2 x, Nat.mul_assoc]

theorem dbl1 (m x y z : Nat) (h : y % 2 = 1) : ((z + x) % m + (x + x) % m * (y / 2)) % m = (z + x * y) % m := by
  rw [dbl, Nat.add_mod, Nat.mod_mod, ← Nat.add_mod]
  congr 1
  have : x * y = x * (2 * (y / 2)) + x := by
    rw [← Nat.mul_succ]; congr 1; omega
  omega

theorem dbl0 (m x y z : Nat) (h : y % 2 = 0) : (z + (x + x) % m * (y / 2)) % m = (z + x * y) % m := by
  rw [dbl, show 2 * (y / 2) = y by omega]

set_option maxHeartbeats 1000000 in
theorem rtimes_any (a b m : Nat) (w : World) (ha : a < m) (hm : m ≤ 4611686018427387904) (hb : b < 18446744073709551616) :
    Calls Tryd.prog 38 #[.int .u64 (a : Int), .int .u64 (b : Int), .int .u64 (m : Int)] w fun e w' => e = .returned (.int .u64 ((a * b % m : Nat) : Int)) ∧ w = w' := by
  obtain ⟨R, hR⟩ : ∃ R, R = a * b % m := ⟨_, rfl⟩
  rw [← hR]
  have HR := Lib.hid hR; clear hR
  go_enter Tryd.func38, Tryd.ntmps38
  go_wp2
  go_loop [0, 1, 7] (fun aa bb o => ∃ x y z : Nat, aa = .int .u64 (x : Int) ∧ bb = .int .u64 (y : Int) ∧ o = .int .u64 (z : Int) ∧ x < m ∧ y ≤ b ∧ z < m ∧ Hid ((z + x * y) % m = R)) (fun _ bb _ => (intOf bb).toNat)
  case atStart => exact ⟨a, b, 0, rfl, rfl, rfl, ha, Nat.le_refl _, by omega, Lib.hid (by rw [Nat.zero_add, HR.out])⟩
  case round =>
    obtain ⟨x, y, z, rfl, rfl, rfl, hx, hy, hz, H⟩ := hrel
    by_cases h0 : 0 < y
    · by_cases h1 : y % 2 = 1
      · have hr := Lib.hid (dbl1 m x y z h1)
        go_wp2
        refine ⟨⟨(x + x) % m, y / 2, (z + x) % m, by simp, by simp, by simp, Nat.mod_lt _ (by omega), by omega, Nat.mod_lt _ (by omega), Lib.hid (hr.out.trans H.out)⟩, by simp [intOf]; omega⟩
      · have hr := Lib.hid (dbl0 m x y z (by omega))
        go_wp2
        refine ⟨⟨(x + x) % m, y / 2, z, by simp, by simp, rfl, Nat.mod_lt _ (by omega), by omega, hz, Lib.hid (hr.out.trans H.out)⟩, by simp [intOf]; omega⟩
    · have hy0 : y = 0 := by omega
      subst hy0
      have hh := H.out
      rw [Nat.mul_zero, Nat.add_zero, Nat.mod_eq_of_lt hz] at hh
      have HH := Lib.hid hh
      clear hh
      go_wp2
      go_ret
      exact ⟨by rw [← HH.out]; rfl, rfl⟩

set_option maxHeartbeats 400000 in
theorem ltimes_any (a b m : Nat) (w : World) (ha : a < m) (hm : m ≤ 4611686018427387904) (hb : b < 18446744073709551616) :
    Calls Tryd.prog 25 #[.int .u64 (a : Int), .int .u64 (b : Int), .int .u64 (m : Int)] w fun e w' => e = .returned (.int .u64 ((a * b % m : Nat) : Int)) ∧ w = w' := by
  have H := rtimes_any a b m w ha hm hb
  generalize a * b % m = r at *
  go_enter Tryd.func25, Tryd.ntmps25
  go_wp2_with (go_at_call 38; refine H.mono ?_; rintro e w' ⟨rfl, rfl⟩)
  go_ret
  exact ⟨rfl, rfl⟩

/-- The power of the reference, step by step. -/
theorem rpow_step (b n x y : Nat) (c : Nat) (hn : 0 < n) (h : x * c ^ n % PP = y) :
    (n % 2 = 1 → (x * c % PP) * (c * c % PP) ^ (n / 2) % PP = y) ∧ (n % 2 = 0 → x * (c * c % PP) ^ (n / 2) % PP = y) := by
  have e : (c * c % PP) ^ (n / 2) % PP = c ^ (2 * (n / 2)) % PP := by
    rw [← Nat.pow_mod, Nat.pow_mul, Nat.pow_two]
  refine ⟨fun h1 => ?_, fun h0 => ?_⟩
  · rw [Nat.mul_mod, Nat.mod_mod, e, ← Nat.mul_mod, ← h, Nat.mul_assoc, Nat.mul_comm c, ← Nat.pow_succ]
    congr 3; omega
  · rw [Nat.mul_mod, e, ← Nat.mul_mod, ← h, show 2 * (n / 2) = n by omega]

set_option maxHeartbeats 1000000 in
theorem rpow_any (b n : Nat) (w : World) (hb : b < 18446744073709551616) (hn : n < 18446744073709551616) :
    Calls Tryd.prog 24 #[.int .u64 (b : Int), .int .u64 (n : Int)] w fun e w' => e = .returned (.int .u64 ((b ^ n % PP : Nat) : Int)) ∧ w = w' := by
  have hinit : 1 * (b % PP) ^ n % PP = b ^ n % PP := by rw [Nat.one_mul, ← Nat.pow_mod]
  obtain ⟨R, hR⟩ : ∃ R, R = b ^ n % PP := ⟨_, rfl⟩
  rw [← hR] at hinit ⊢
  have HI := Lib.hid hinit
  clear hR hinit
  have e0 : IntKind.u64.wrap ((b : Int).tmod 2305843009213690799) = ((b % PP : Nat) : Int) := by
    rw [Int.tmod_eq_emod_of_nonneg (by omega), IntKind.wrap_u64]; unfold PP; omega
  have hb' : b % PP < PP := Nat.mod_lt _ (by decide)
  go_enter Tryd.func24, Tryd.ntmps24
  go_wp2
  go_loop [0, 1, 5] (fun cc nn xx => ∃ c m x : Nat, cc = .int .u64 (c : Int) ∧ nn = .int .u64 (m : Int) ∧ xx = .int .u64 (x : Int) ∧ c < 2305843009213690799 ∧ m ≤ n ∧ x < 2305843009213690799 ∧ Hid (x * c ^ m % PP = R)) (fun _ nn _ => (intOf nn).toNat)
  case atStart => exact ⟨b % PP, n, 1, by simp, rfl, rfl, hb', Nat.le_refl _, by omega, HI⟩
  case round =>
    obtain ⟨c, m, x, rfl, rfl, rfl, hc, hm, hx, H⟩ := hrel
    clear hb' e0 HI hb
    obtain ⟨cc, hcc, T2⟩ : ∃ cc : Nat, Hid (cc = c * c % PP) ∧ Calls Tryd.prog 38 #[.int .u64 (c : Int), .int .u64 (c : Int), .int .u64 2305843009213690799] w fun e w' => e = .returned (.int .u64 (cc : Int)) ∧ w = w' :=
      ⟨_, Lib.hid rfl, rtimes_any c c 2305843009213690799 w hc (by decide) (by omega)⟩
    obtain ⟨xc, hxc, T1⟩ : ∃ xc : Nat, Hid (xc = x * c % PP) ∧ Calls Tryd.prog 38 #[.int .u64 (x : Int), .int .u64 (c : Int), .int .u64 2305843009213690799] w fun e w' => e = .returned (.int .u64 (xc : Int)) ∧ w = w' :=
      ⟨_, Lib.hid rfl, rtimes_any x c 2305843009213690799 w hx (by decide) (by omega)⟩
    have l1 : xc < 2305843009213690799 := by rw [hxc.out]; exact Nat.mod_lt _ (by decide)
    have l2 : cc < 2305843009213690799 := by rw [hcc.out]; exact Nat.mod_lt _ (by decide)
    by_cases h0 : 0 < m
    · by_cases h1 : m % 2 = 1
      · have hr2 : Hid (xc * cc ^ (m / 2) % PP = R) := Lib.hid (by rw [hcc.out, hxc.out]; exact (rpow_step b m x R c h0 H.out).1 h1)
        clear hcc hxc H
        go_wp2_with fail
        refine T1.mono ?_
        rintro e w' ⟨rfl, rfl⟩
        go_wp2_with fail
        refine T2.mono ?_
        rintro e w' ⟨rfl, rfl⟩
        go_wp2
        refine ⟨⟨cc, m / 2, xc, rfl, by simp, rfl, l2, by omega, l1, hr2⟩, by simp [intOf]; omega⟩
      · have hr2 : Hid (x * cc ^ (m / 2) % PP = R) := Lib.hid (by rw [hcc.out]; exact (rpow_step b m x R c h0 H.out).2 (by omega))
        clear hcc hxc H T1 l1
        go_wp2_with (go_at_call 38; refine T2.mono ?_; rintro e w' ⟨rfl, rfl⟩)
        refine ⟨⟨cc, m / 2, x, rfl, by simp, rfl, l2, by omega, hx, hr2⟩, by simp [intOf]; omega⟩
    · have hy0 : m = 0 := by omega
      subst hy0
      have hh := H.out
      rw [Nat.pow_zero, Nat.mul_one, Nat.mod_eq_of_lt hx] at hh
      subst hh
      clear T1 T2 l1 l2 hcc hxc H
      go_wp2
      go_ret
      exact ⟨rfl, rfl⟩

end Go.Proofs.YtlfjcifeiihmfaaDoor
