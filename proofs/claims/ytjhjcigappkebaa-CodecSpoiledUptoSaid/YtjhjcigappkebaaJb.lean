/-
  Walk: the helper Around of the laws.
-/
import Derived.Test.YtjhjcigappkebaaJa
namespace Go.Proofs.Ytjhjcigappkebaa
open Go.RowKit

theorem tmod_bounds (x n : Int) (hn : 0 < n) : -n < x.tmod n ∧ x.tmod n < n := by
  have h := Int.tmod_lt_of_pos x hn
  rcases Int.le_total 0 x with h0 | h0
  · have := Int.tmod_nonneg n h0
    omega
  · have h1 := Int.tmod_lt_of_pos (-x) hn
    have h2 : (-x).tmod n = -(x.tmod n) := Int.neg_tmod x n
    omega

set_option maxHeartbeats 400000 in
theorem around_any (x n : Int) (hx : I64 x) (hn : 0 < n) (hn' : n ≤ 140737488355328) (w : World) :
    Calls Try.prog 25 #[.int .i64 x, .int .i64 n] w fun e w' => ∃ k : Nat, (k : Int) < n ∧ e = .returned (.int .i64 k) ∧ w = w' := by
  obtain ⟨b1, b2⟩ := tmod_bounds x n hn
  have hz : (n == 0) = false := by rw [beq_eq_false_iff_ne]; omega
  by_cases hneg : x.tmod n < 0
  · go_enter Try.func25, Try.ntmps25
    go_wp2
    go_ret
    exact ⟨(x.tmod n + n).toNat, by omega, ret_int (by omega), rfl⟩
  · go_enter Try.func25, Try.ntmps25
    go_wp2
    go_ret
    exact ⟨(x.tmod n).toNat, by omega, ret_int (by omega), rfl⟩

end Go.Proofs.Ytjhjcigappkebaa
