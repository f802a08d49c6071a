/-
  Walks: magnitude, width.
-/
import Derived.Test.YtjhjcigappkebaaRows
import Derived.Test.YtjhjcigappkebaaAr
import Derived.WalkKit
import Derived.WalkSpells
import Derived.WalkLawsBesides
import Derived.Lib.Hide
namespace Go.Proofs.Ytjhjcigappkebaa
open Go.RowKit

theorem ret_int {k : IntKind} {a b : Int} (h : a = b) : Ending.returned (.int k a) = .returned (.int k b) := by rw [h]

set_option maxHeartbeats 400000 in
theorem magnitude_any (n : Int) (w : World) (h0 : -9223372036854775808 ≤ n) (h1 : n ≤ 9223372036854775807) :
    Calls Try.prog 58 #[.int .i64 n] w fun e w' => e = .returned (.int .u64 (mag n)) ∧ w = w' := by
  by_cases h : n < 0
  · go_enter Try.func58, Try.ntmps58
    go_wp2
    go_ret
    exact ⟨ret_int (by rw [i64_not_neg n h0 h1, IntWalk.u64_in _ (by omega)]; unfold mag; split <;> omega), rfl⟩
  · go_enter Try.func58, Try.ntmps58
    go_wp2
    go_ret
    exact ⟨ret_int (by rw [mag, if_neg (by omega)]), rfl⟩

set_option maxHeartbeats 400000 in
theorem width_any (m : Int) (w : World) (h0 : 0 ≤ m) (h1 : m ≤ 9223372036854775807) :
    Calls Try.prog 57 #[.int .u64 m] w fun e w' => e = .returned (.int .i64 (wid m)) ∧ w = w' := by
  have hw := wid_le m
  go_enter Try.func57, Try.ntmps57
  go_wp2
  go_loop [4] (fun i => ∃ k : Nat, k ≤ 8 ∧ k ≤ wid m ∧ i = .int .i64 k) (fun i => 8 - (intOf i).toNat)
  case atStart => exact ⟨0, by omega, by omega, rfl⟩
  case round =>
    obtain ⟨k, hk, hkw, rfl⟩ := hrel
    by_cases hlt : k < 8
    · have hs := wid_stop m h0 k hlt
      rw [← shr_pow] at hs
      by_cases hz : wid m ≤ k
      · have ht : (m / 2 ^ (8 * k) == 0) = true := by simpa using hs.2 hz
        clear hs
        go_wp2
        go_ret
        exact ⟨ret_int (by omega), rfl⟩
      · have ht : (m / 2 ^ (8 * k) == 0) = false := by simpa using fun h => hz (hs.1 h)
        clear hs
        go_wp2
        go_round
        case rel => exact ⟨k + 1, by omega, by omega, by go_num⟩
        case measure => simp [intOf]; omega
    · go_wp2
      go_ret
      exact ⟨ret_int (by omega), rfl⟩

end Go.Proofs.Ytjhjcigappkebaa
