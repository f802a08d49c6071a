/-
  Walks: Contains and holds of the reference.
-/
import Derived.Test.YtboojinokljelaaPn
import Derived.Test.YtboojinokljelaaCa
namespace Go.Proofs.Ytboojinokljelaa
open Go.RowKit

set_option maxRecDepth 100000 in
set_option maxHeartbeats 1000000 in
theorem rcontains_any (l : List (Int × Int)) (m : Int) (a : Option Addr) (cap : Nat) (w : World) (hv : Sl (fun k => k < w.heap.size) w (.slice a l.length cap) l) :
    Calls Try.prog 28 #[.slice a l.length cap, .int .i64 m] w fun e w' => e = .returned (.bool (inB l m)) ∧ w' = w := by
  have HV := Lib.hid hv
  have hl := hv.1
  clear hv
  obtain ⟨n, hn⟩ : ∃ n, n = l.length := ⟨_, rfl⟩
  obtain ⟨R, hR⟩ : ∃ R, R = inB l m := ⟨_, rfl⟩
  have HN := Lib.hid hn; have HR := Lib.hid hR
  rw [← hn] at hl
  rw [← hR]
  go_enter Try.func28, Try.ntmps28
  rw [← hn]
  clear hn hR
  go_wp2
  go_loopw [5] (fun t wr => ∃ (k : Nat), k ≤ n ∧ t = .int .i64 k ∧ Hid (∀ (j : Nat) (s : Int × Int), j < k → l[j]? = some s → ¬ (s.1 ≤ m ∧ m < s.2)) ∧ wr = w) (fun t _ => n - (intOf t).toNat)
  case atStart => exact ⟨0, by omega, rfl, Lib.hid (fun j s hj => by omega), rfl⟩
  case round =>
    obtain ⟨k, hk, rfl, HF, rfl⟩ := hrel
    by_cases hlt : k < n
    · have hlt2 : (k : Int) < (n : Int) := by omega
      obtain ⟨g, off, x, y, rfl, hg, hx, hxi, hyi, c0, c1, hcap⟩ := HV.out.pick k (by have := HN.out; omega)
      have hstep : ¬ (x ≤ m ∧ m < y) → ∀ (j : Nat) (s : Int × Int), j < k + 1 → l[j]? = some s → ¬ (s.1 ≤ m ∧ m < s.2) := by
        intro h j s hj hs
        rcases Nat.lt_or_ge j k with h1 | h1
        · exact HF.out j s h1 hs
        · have : j = k := by omega
          subst this
          rw [hx] at hs
          obtain rfl := Option.some.inj hs
          exact h
      have hyes : (x ≤ m ∧ m < y) → R = decide (0 ≤ m ∧ m < 1073741824) := fun h => HR.out.trans (inB_take hx h)
      have HS := Lib.hid hstep; have HY := Lib.hid hyes
      clear hx HF hstep hyes
      by_cases h1 : x ≤ m
      · by_cases h2 : m < y
        · have hR1 := HY.out ⟨h1, h2⟩
          by_cases h3 : 0 ≤ m
          · by_cases h4 : m < 1073741824
            · rw [decide_eq_true ⟨h3, h4⟩] at hR1
              subst hR1
              go_wp2
              go_ret
              exact ⟨rfl, rfl⟩
            · rw [decide_eq_false (fun h => h4 h.2)] at hR1
              subst hR1
              go_wp2
              go_ret
              exact ⟨rfl, rfl⟩
          · rw [decide_eq_false (fun h => h3 h.1)] at hR1
            subst hR1
            go_wp2
            go_ret
            exact ⟨rfl, rfl⟩
        · have HS2 := Lib.hid (HS.out (fun h => h2 h.2))
          clear HS HY
          go_wp2
          go_roundw
          case rel => exact ⟨k + 1, by omega, by go_num, HS2, trivial⟩
          case measure => simp [intOf]; omega
      · have HS2 := Lib.hid (HS.out (fun h => h1 h.1))
        clear HS HY
        go_wp2
        go_roundw
        case rel => exact ⟨k + 1, by omega, by go_num, HS2, trivial⟩
        case measure => simp [intOf]; omega
    · have hk2 : k = n := by omega
      subst hk2
      have hR1 : R = false := by
        rw [HR.out]
        refine inB_none (fun j s hj => HF.out j s ?_ hj)
        have := (List.getElem?_eq_some_iff.1 hj).1
        have := HN.out
        omega
      subst hR1
      have hlt2 : ¬ ((k : Int) < (k : Int)) := by omega
      clear HF
      go_wp2
      go_ret
      exact ⟨rfl, rfl⟩

set_option maxHeartbeats 1000000 in
theorem holds0_any (x y : Bool) (w : World) : Calls Try.prog 47 #[.int .i64 0, .bool x, .bool y] w fun e w' => e = .returned (.bool (x || y)) ∧ w' = w := by
  cases x <;> cases y
  all_goals
    go_enter Try.func47, Try.ntmps47
    go_wp2
    go_ret
    exact ⟨rfl, rfl⟩
set_option maxHeartbeats 1000000 in
theorem holds1_any (x y : Bool) (w : World) : Calls Try.prog 47 #[.int .i64 1, .bool x, .bool y] w fun e w' => e = .returned (.bool (x && y)) ∧ w' = w := by
  cases x <;> cases y
  all_goals
    go_enter Try.func47, Try.ntmps47
    go_wp2
    go_ret
    exact ⟨rfl, rfl⟩
set_option maxHeartbeats 1000000 in
theorem holds2_any (x y : Bool) (w : World) : Calls Try.prog 47 #[.int .i64 2, .bool x, .bool y] w fun e w' => e = .returned (.bool (x && !y)) ∧ w' = w := by
  cases x <;> cases y
  all_goals
    go_enter Try.func47, Try.ntmps47
    go_wp2
    go_ret
    exact ⟨rfl, rfl⟩
end Go.Proofs.Ytboojinokljelaa
