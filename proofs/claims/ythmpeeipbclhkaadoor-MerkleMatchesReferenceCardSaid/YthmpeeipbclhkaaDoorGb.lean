/-
  Walks: Depth.
-/
import Derived.Test.YthmpeeipbclhkaaDoorGa
namespace Go.Proofs.YthmpeeipbclhkaaDoor
open Go.RowKit

/-- What Depth returns. -/
def dep (n : Int) : Int := if n < 0 ∨ 65536 < n then -1 else (dpt n.toNat : Int)

set_option maxHeartbeats 1000000 in
theorem depth_any (n : Int) (w : World) : Calls Tryd.prog 24 #[.int .i64 n] w fun e w' => e = .returned (.int .i64 (dep n)) ∧ w' = w := by
  by_cases h0 : n < 0
  · have hd : dep n = -1 := by unfold dep; rw [if_pos (Or.inl h0)]
    rw [hd]
    clear hd
    go_enter Tryd.func24, Tryd.ntmps24
    go_wp2
    go_ret
    exact ⟨rfl, rfl⟩
  · by_cases h1 : 65536 < n
    · have hd : dep n = -1 := by unfold dep; rw [if_pos (Or.inr h1)]
      rw [hd]
      clear hd
      go_enter Tryd.func24, Tryd.ntmps24
      go_wp2
      go_ret
      exact ⟨rfl, rfl⟩
    · obtain ⟨m, rfl⟩ := Int.eq_ofNat_of_zero_le (by omega : 0 ≤ n)
      have hd : dep (m : Int) = (dpt m : Int) := by unfold dep; rw [if_neg (by omega)]; rfl
      rw [hd]
      have hm : m ≤ 65536 := by omega
      have h16 := dpt_le16 hm
      clear hd
      go_enter Tryd.func24, Tryd.ntmps24
      go_wp2
      go_loop [2] (fun d => ∃ k : Nat, k ≤ dpt m ∧ d = .int .i64 k) (fun d => 16 - (intOf d).toNat)
      case atStart => exact ⟨0, by omega, rfl⟩
      case round =>
        obtain ⟨k, hk, rfl⟩ := hrel
        obtain ⟨P, hP⟩ : ∃ P, P = 2 ^ k := ⟨_, rfl⟩
        have hP1 : 2 ^ k ≤ 2 ^ 16 := Nat.pow_le_pow_right (by decide) (by omega)
        have e : wrap64 (2 ^ k) = (P : Int) := by
          have e1 : (2 : Int) ^ k = (P : Int) := by rw [hP]; simp
          have hP2 : P ≤ 65536 := by rw [hP]; simpa using hP1
          rw [e1]
          exact IntWalk.wrap64_in _ (by omega)
        have hlo : P < m → k < dpt m := by
          intro h
          rcases Nat.lt_or_ge k (dpt m) with h2 | h2
          · exact h2
          · have := Nat.pow_le_pow_right (n := 2) (by decide) h2
            have := dpt_ge m
            omega
        have hhi : m ≤ P → k = dpt m := by
          intro h
          have := dpt_least m k (by rw [← hP]; exact h)
          omega
        have Hlo := Lib.hid hlo; have Hhi := Lib.hid hhi
        clear hlo hhi hP hP1
        by_cases hlt : (P : Int) < m
        · go_wp2
          go_round
          case rel => exact ⟨k + 1, by have := Hlo.out (by omega); omega, by go_num⟩
          case measure => have := Hlo.out (by omega); simp [intOf]; omega
        · have hk2 := Hhi.out (by omega)
          subst hk2
          go_wp2
          go_ret
          exact ⟨rfl, rfl⟩
end Go.Proofs.YthmpeeipbclhkaaDoor
