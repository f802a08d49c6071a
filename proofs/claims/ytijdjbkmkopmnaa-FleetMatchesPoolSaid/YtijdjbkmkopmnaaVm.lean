/-
  Walks of math/bits: Mul64, Len64, Div64; the proportion of money.
-/
import Derived.Test.YtijdjbkmkopmnaaCa
import Derived.Lib.Mul64
import Derived.Laws.Bits64b
import Derived.Lib.Strings
import Derived.Lib.Slices
import Derived.Lib.Small
import Derived.Lib.Walk
import Derived.Lib.BitFns
import Derived.Deep.CutBlock
namespace Go.Proofs.Ytijdjbkmkopmnaa
open Go.RowKit Go.Lib
set_option linter.unusedVariables false
set_option linter.unusedSimpArgs false

theorem retI {a b : Int} (h : a = b) : Ending.returned (Value.int .i64 a) = Ending.returned (Value.int .i64 b) := by rw [h]
theorem retP {a b c d : Int} (h : a = b ∧ c = d) : Ending.returned (.tuple #[Value.int .i64 a, Value.int .i64 c]) = Ending.returned (.tuple #[Value.int .i64 b, Value.int .i64 d]) := by rw [h.1, h.2]

theorem maskN (a : Nat) (ha : a < 18446744073709551616) : bits .and .u64 (a : Int) 4294967295 = ((a % 4294967296 : Nat) : Int) := by
  have h := bits_and_u64_nat a 4294967295 ha (by omega)
  have e : a &&& 4294967295 = a % 4294967296 := Nat.and_two_pow_sub_one_eq_mod a 32
  rw [e] at h
  exact h
theorem divN (a : Nat) : (a : Int) / 4294967296 = ((a / 4294967296 : Nat) : Int) := by omega
theorem mulN (a b : Nat) : (a : Int) * (b : Int) = ((a * b : Nat) : Int) := (Int.natCast_mul a b).symm
theorem addN (a b : Nat) : (a : Int) + (b : Int) = ((a + b : Nat) : Int) := (Int.natCast_add a b).symm
theorem wrapN (a : Nat) (ha : a < 18446744073709551616) : IntKind.u64.wrap (a : Int) = (a : Int) := by rw [IntKind.wrap_u64]; omega
theorem wrapM (a : Nat) : IntKind.u64.wrap (a : Int) = ((a % 18446744073709551616 : Nat) : Int) := by rw [IntKind.wrap_u64]; omega

set_option maxHeartbeats 1000000 in
theorem mul64_any (x y : Nat) (hx : x < 18446744073709551616) (hy : y < 18446744073709551616) (w : World) :
    Calls Try.prog 103 #[.int .u64 x, .int .u64 y] w fun e w' => e = .returned (.tuple #[.int .u64 ((x * y / 18446744073709551616 : Nat) : Int), .int .u64 ((x * y % 18446744073709551616 : Nat) : Int)]) ∧ w = w' := by
  obtain ⟨bd, bt, bw, hhi⟩ := Lib.mul64_hi x y hx hy
  have ba := Lib.half_mul_le (a := x / 4294967296) (b := y / 4294967296) (by omega) (by omega)
  have bb := Lib.half_mul_le (a := x / 4294967296) (b := y % 4294967296) (by omega) (by omega)
  have bc := Lib.half_mul_le (a := x % 4294967296) (b := y / 4294967296) (by omega) (by omega)
  have ba' : x / 4294967296 * (y / 4294967296) < 18446744073709551616 := by omega
  have bb' : x / 4294967296 * (y % 4294967296) < 18446744073709551616 := by omega
  have bc' : x % 4294967296 * (y / 4294967296) < 18446744073709551616 := by omega
  have bh1 : x / 4294967296 * (y / 4294967296) + (x / 4294967296 * (y % 4294967296) + x % 4294967296 * (y % 4294967296) / 4294967296) / 4294967296 < 18446744073709551616 := by omega
  have bh : x / 4294967296 * (y / 4294967296) + (x / 4294967296 * (y % 4294967296) + x % 4294967296 * (y % 4294967296) / 4294967296) / 4294967296 + ((x / 4294967296 * (y % 4294967296) + x % 4294967296 * (y % 4294967296) / 4294967296) % 4294967296 + x % 4294967296 * (y / 4294967296)) / 4294967296 < 18446744073709551616 := by omega
  go_enter Try.func103, Try.ntmps103
  go_wp2
  simp only [maskN x hx, maskN y hy, divN, mulN, addN, wrapN _ bd, wrapN _ bb', wrapN _ bt, maskN _ bt, wrapN _ bc', wrapN _ bw, wrapN _ ba', wrapN _ bh1, wrapN _ bh, wrapM (x * y)]
  rw [hhi]
  go_ret2
  exact ⟨rfl, rfl⟩


theorem tab_size : Lib.len8tab.size = 256 := by decide +kernel
theorem tab_all : ∀ n : Fin Lib.len8tab.size, (Lib.len8tab[n.val].toNat : Int) = Lib.bitLen n.val := by decide +kernel
theorem tabv (i : Nat) (h : i < Lib.len8tab.size) : (Lib.len8tab[i].toNat : Int) = Lib.bitLen i := tab_all ⟨i, h⟩

theorem arm (x y : Int) (k : Nat) (K : Int) (hK : K = (k : Int)) (hk : k ≤ 56) (hy : y.toNat = x.toNat / 2 ^ k) (h : 2 ^ k ≤ x.toNat) (hx : x.toNat < 18446744073709551616) (hb : y.toNat < 256) :
    wrap64 (K + wrap64 (Lib.bitLen y.toNat : Int)) = (Lib.bitLen x.toNat : Int) := by
  have s := Lib.bitLen_shift k x.toNat h hx
  have l := Lib.bitLen_le y.toNat 8 (by decide) hb
  rw [← hy] at s
  rw [s]
  generalize Lib.bitLen y.toNat = n at *
  subst hK
  simp only [wrap64]
  omega

theorem arm0 (x : Int) (_h0 : 0 ≤ x) (hb : x < 256) : wrap64 (wrap64 (Lib.bitLen x.toNat : Int)) = (Lib.bitLen x.toNat : Int) := by
  have l := Lib.bitLen_le x.toNat 8 (by decide) (show x.toNat < 256 by omega)
  generalize Lib.bitLen x.toNat = n at *
  simp only [wrap64]
  omega

set_option maxHeartbeats 400000 in
set_option maxRecDepth 100000 in
theorem len64_any (x : Int) (w : World) (h0 : 0 ≤ x) (h1 : x ≤ 18446744073709551615) :
    Calls Try.prog 102 #[.int .u64 x] w fun e w' => e = .returned (.int .i64 (Lib.bitLen x.toNat)) ∧ w' = w := by
  have hsz : (Lib.len8tab.size : Int) = 256 := by decide +kernel
  go_enter Try.func102, Try.ntmps102
  go_wp2
  all_goals (go_ret; refine ⟨congrArg Ending.returned (congrArg (Value.int IntKind.i64) ?_), rfl⟩)
  all_goals rw [tabv]
  all_goals clear hsz
  · exact arm x (x / 4294967296 / 65536 / 256) 56 56 rfl (by decide) (by omega) (by omega) (by omega) (by omega)
  · exact arm x (x / 4294967296 / 65536) 48 48 rfl (by decide) (by omega) (by omega) (by omega) (by omega)
  · exact arm x (x / 4294967296 / 256) 40 40 rfl (by decide) (by omega) (by omega) (by omega) (by omega)
  · exact arm x (x / 4294967296) 32 32 rfl (by decide) (by omega) (by omega) (by omega) (by omega)
  · exact arm x (x / 65536 / 256) 24 24 rfl (by decide) (by omega) (by omega) (by omega) (by omega)
  · exact arm x (x / 65536) 16 16 rfl (by decide) (by omega) (by omega) (by omega) (by omega)
  · exact arm x (x / 256) 8 8 rfl (by decide) (by omega) (by omega) (by omega) (by omega)
  · exact arm0 x (by omega) (by omega)

end Go.Proofs.Ytijdjbkmkopmnaa
