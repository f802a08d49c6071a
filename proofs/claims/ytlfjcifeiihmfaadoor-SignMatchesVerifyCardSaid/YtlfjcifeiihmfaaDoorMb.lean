/-
  Walks of math/bits: Len64, LeadingZeros64.
-/
import Derived.Test.YtlfjcifeiihmfaaDoorMa
import Derived.Lib.Strings
import Derived.Lib.Slices
import Derived.Lib.Small
import Derived.Lib.Walk
import Derived.Lib.BitFns
namespace Go.Proofs.YtlfjcifeiihmfaaDoor
open Go.RowKit

theorem tab_size : Lib.len8tab.size = 256 := by decide +kernel
theorem tab_all : ∀ n : Fin Lib.len8tab.size, (Lib.len8tab[n.val].toNat : Int) = Lib.bitLen n.val := by decide +kernel
theorem tabv (i : Nat) (h : i < Lib.len8tab.size) : (Lib.len8tab[i].toNat : Int) = Lib.bitLen i := tab_all ⟨i, h⟩

theorem arm (x y : Int) (k : Nat) (K : Int) (hK : K = (k : Int)) (hk : k ≤ 56) (hy : y.toNat = x.toNat / 2 ^ k) (h : 2 ^ k ≤ x.toNat) (hx : x.toNat < 18446744073709551616) (hb : y.toNat < 256) :
    wrap64 (K + wrap64 (Lib.bitLen y.toNat : Int)) = (Lib.bitLen x.toNat : Int) := by
  have s := Lib.bitLen_shift k x.toNat h hx
  have l := Lib.bitLen_le y.toNat 8 (by decide) hb
  rw [← hy] at s
  rw [s]
  generalize Lib.bitLen y.toNat = n at *
  subst hK
  simp only [wrap64]
  omega

theorem arm0 (x : Int) (_h0 : 0 ≤ x) (hb : x < 256) : wrap64 (wrap64 (Lib.bitLen x.toNat : Int)) = (Lib.bitLen x.toNat : Int) := by
  have l := Lib.bitLen_le x.toNat 8 (by decide) (show x.toNat < 256 by omega)
  generalize Lib.bitLen x.toNat = n at *
  simp only [wrap64]
  omega

set_option maxHeartbeats 400000 in
set_option maxRecDepth 100000 in
theorem len64_any (x : Int) (w : World) (h0 : 0 ≤ x) (h1 : x ≤ 18446744073709551615) :
    Calls Tryd.prog 39 #[.int .u64 x] w fun e w' => e = .returned (.int .i64 (Lib.bitLen x.toNat)) ∧ w' = w := by
  have hsz : (Lib.len8tab.size : Int) = 256 := by decide +kernel
  go_enter Tryd.func39, Tryd.ntmps39
  go_wp2
  all_goals (go_ret; refine ⟨congrArg Ending.returned (congrArg (Value.int IntKind.i64) ?_), rfl⟩)
  all_goals rw [tabv]
  all_goals clear hsz
  · exact arm x (x / 4294967296 / 65536 / 256) 56 56 rfl (by decide) (by omega) (by omega) (by omega) (by omega)
  · exact arm x (x / 4294967296 / 65536) 48 48 rfl (by decide) (by omega) (by omega) (by omega) (by omega)
  · exact arm x (x / 4294967296 / 256) 40 40 rfl (by decide) (by omega) (by omega) (by omega) (by omega)
  · exact arm x (x / 4294967296) 32 32 rfl (by decide) (by omega) (by omega) (by omega) (by omega)
  · exact arm x (x / 65536 / 256) 24 24 rfl (by decide) (by omega) (by omega) (by omega) (by omega)
  · exact arm x (x / 65536) 16 16 rfl (by decide) (by omega) (by omega) (by omega) (by omega)
  · exact arm x (x / 256) 8 8 rfl (by decide) (by omega) (by omega) (by omega) (by omega)
  · exact arm0 x (by omega) (by omega)

theorem lead_P (w : World) : Calls Tryd.prog 59 #[.int .u64 2305843009213690799] w fun e w' => e = .returned (.int .i64 3) ∧ w = w' := by
  have H := len64_any 2305843009213690799 w (by decide) (by decide)
  rw [show (Lib.bitLen (2305843009213690799 : Int).toNat) = 61 by decide +kernel] at H
  go_enter Tryd.func59, Tryd.ntmps59
  go_wp2_with (go_at_call 39; refine H.mono ?_; rintro e w' ⟨rfl, rfl⟩)
  go_ret
  exact ⟨rfl, rfl⟩

theorem lead_Q (w : World) : Calls Tryd.prog 59 #[.int .u64 1152921504606845399] w fun e w' => e = .returned (.int .i64 4) ∧ w = w' := by
  have H := len64_any 1152921504606845399 w (by decide) (by decide)
  rw [show (Lib.bitLen (1152921504606845399 : Int).toNat) = 60 by decide +kernel] at H
  go_enter Tryd.func59, Tryd.ntmps59
  go_wp2_with (go_at_call 39; refine H.mono ?_; rintro e w' ⟨rfl, rfl⟩)
  go_ret
  exact ⟨rfl, rfl⟩

end Go.Proofs.YtlfjcifeiihmfaaDoor
