/-
  Walks: the orders of numbers and of bytes.
-/
import Derived.Test.YtecgcnfjpaemcaaDoorWb
namespace Go.Proofs.YtecgcnfjpaemcaaDoor
open Go.RowKit

def ordI (a b : Int) : Int := if a < b then -1 else if b < a then 1 else 0

set_option maxHeartbeats 400000 in
theorem cmpInt_any (a b : Int) (w : World) : Calls Tryd.prog 37 #[.int .i64 a, .int .i64 b] w fun e w' => e = .returned (.int .i64 (ordI a b)) ∧ w = w' := by
  have ta : (a != a) = false := by simp
  have tb : (b != b) = false := by simp
  by_cases h1 : a < b
  · go_enter Tryd.func37, Tryd.ntmps37
    go_wp2
    go_ret
    exact ⟨ret_int (by unfold ordI; rw [if_pos h1]), rfl⟩
  · by_cases h2 : b < a
    · have h1' : b ≤ a := by omega
      go_enter Tryd.func37, Tryd.ntmps37
      go_wp2
      go_ret
      exact ⟨ret_int (by unfold ordI; rw [if_neg (by omega), if_pos h2]), rfl⟩
    · have h1' : b ≤ a := by omega
      have h2' : a ≤ b := by omega
      go_enter Tryd.func37, Tryd.ntmps37
      go_wp2
      go_ret
      exact ⟨ret_int (by unfold ordI; rw [if_neg (by omega), if_neg (by omega)]), rfl⟩

theorem cmpB_drop (a b : List Int) (k : Nat) (ha : k < a.length) (hb : k < b.length) : cmpB (a.drop k) (b.drop k) = if a[k] < b[k] then -1 else if b[k] < a[k] then 1 else cmpB (a.drop (k + 1)) (b.drop (k + 1)) := by
  rw [List.drop_eq_getElem_cons ha, List.drop_eq_getElem_cons hb]
  simp only [cmpB]
theorem cmpB_end (a b : List Int) (k : Nat) (h : a.length ≤ k ∨ b.length ≤ k) (hk : k ≤ a.length) (hk' : k ≤ b.length) : cmpB (a.drop k) (b.drop k) = ordI a.length b.length := by
  unfold ordI
  rcases Nat.lt_or_ge k a.length with ha | ha
  · have hb : b.length ≤ k := by omega
    rw [List.drop_eq_getElem_cons ha, List.drop_eq_nil_of_le hb]
    simp only [cmpB]
    rw [if_neg (by omega), if_pos (by omega)]
  · rw [List.drop_eq_nil_of_le ha]
    rcases Nat.lt_or_ge k b.length with hb | hb
    · rw [List.drop_eq_getElem_cons hb]
      simp only [cmpB]
      rw [if_pos (by omega)]
    · rw [List.drop_eq_nil_of_le hb]
      simp only [cmpB]
      rw [if_neg (by omega), if_neg (by omega)]

end Go.Proofs.YtecgcnfjpaemcaaDoor
