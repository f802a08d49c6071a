/-
  Walks: public keys and their validity (the program's and the reference's).
-/
import Derived.Test.YtlfjcifeiihmfaaDoorMh
namespace Go.Proofs.YtlfjcifeiihmfaaDoor
open Go.RowKit

/-- The power modulo P. -/
def powP (b n : Nat) : Nat := b ^ n % PP
theorem powP_lt (b n : Nat) : powP b n < 2305843009213690799 := Nat.mod_lt _ (by decide)
theorem powP_lt' (b n : Nat) : powP b n < 18446744073709551616 := Nat.lt_trans (powP_lt b n) (by decide)

theorem powP_any (b n : Nat) (w : World) (hb : b < 18446744073709551616) (hn : n < 18446744073709551616) :
    Calls Tryd.prog 23 #[.int .u64 (b : Int), .int .u64 (n : Int)] w fun e w' => e = .returned (.int .u64 (powP b n : Int)) ∧ Below w.heap.size w w' := pow_any b n w hb hn
theorem rpowP_any (b n : Nat) (w : World) (hb : b < 18446744073709551616) (hn : n < 18446744073709551616) :
    Calls Tryd.prog 24 #[.int .u64 (b : Int), .int .u64 (n : Int)] w fun e w' => e = .returned (.int .u64 (powP b n : Int)) ∧ w = w' := rpow_any b n w hb hn

/-- A valid key. -/
def vld (x : Nat) : Bool := decide (2 ≤ x) && (decide (x < 2305843009213690799) && decide (powP x 1152921504606845399 = 1))

set_option maxHeartbeats 400000 in
theorem valid_any (x : Nat) (w : World) (hx : x < 18446744073709551616) :
    Calls Tryd.prog 21 #[.int .u64 (x : Int)] w fun e w' => e = .returned (.bool (vld x)) ∧ Below w.heap.size w w' := by
  have H := powP_any x 1152921504606845399 w hx (by decide)
  obtain ⟨V, hV⟩ : ∃ V, V = vld x := ⟨_, rfl⟩
  rw [← hV]
  unfold vld at hV
  generalize powP x 1152921504606845399 = y at *
  have e : (((1152921504606845399 : Nat)) : Int) = 1152921504606845399 := rfl
  rw [e] at H
  have HV := Lib.hid hV; clear hV e
  by_cases h1 : 2 ≤ (x : Int)
  · by_cases h2 : (x : Int) < 2305843009213690799
    · by_cases h3 : y = 1
      · have hv : V = true := by
          have h1' : 2 ≤ x := by omega
          have h2' : x < 2305843009213690799 := by omega
          rw [HV.out, decide_eq_true h1', decide_eq_true h2', decide_eq_true h3]; rfl
        subst h3
        rw [show ((1 : Nat) : Int) = 1 from rfl] at H
        subst hv
        clear HV
        go_enter Tryd.func21, Tryd.ntmps21
        go_wp2_with (go_at_call 23; refine H.mono ?_; rintro e w' ⟨rfl, hb⟩)
        go_ret
        exact ⟨rfl, hb⟩
      · have hv : V = false := by rw [HV.out, decide_eq_false h3]; simp only [Bool.and_false]
        subst hv
        clear HV
        have h3' : (((y : Nat) : Int) == 1) = false := by rw [beq_eq_false_iff_ne]; omega
        clear h3
        go_enter Tryd.func21, Tryd.ntmps21
        go_wp2_with (go_at_call 23; refine H.mono ?_; rintro e w' ⟨rfl, hb⟩)
        go_ret
        exact ⟨rfl, hb⟩
    · have hv : V = false := by
        have h2' : ¬ x < 2305843009213690799 := by omega
        rw [HV.out, decide_eq_false h2']; simp only [Bool.and_false, Bool.false_and]
      subst hv
      clear HV H
      go_enter Tryd.func21, Tryd.ntmps21
      go_wp2
      go_ret
      exact ⟨rfl, Below.refl _ _⟩
  · have hv : V = false := by
      have h1' : ¬ 2 ≤ x := by omega
      rw [HV.out, decide_eq_false h1']; simp only [Bool.false_and]
    subst hv
    clear HV H
    go_enter Tryd.func21, Tryd.ntmps21
    go_wp2
    go_ret
    exact ⟨rfl, Below.refl _ _⟩

set_option maxHeartbeats 400000 in
theorem rvalid_any (x : Nat) (w : World) (hx : x < 18446744073709551616) :
    Calls Tryd.prog 22 #[.int .u64 (x : Int)] w fun e w' => e = .returned (.bool (vld x)) ∧ w = w' := by
  have H := rpowP_any x 1152921504606845399 w hx (by decide)
  obtain ⟨V, hV⟩ : ∃ V, V = vld x := ⟨_, rfl⟩
  rw [← hV]
  unfold vld at hV
  generalize powP x 1152921504606845399 = y at *
  have e : (((1152921504606845399 : Nat)) : Int) = 1152921504606845399 := rfl
  rw [e] at H
  have HV := Lib.hid hV; clear hV e
  by_cases h1 : 2 ≤ (x : Int)
  · by_cases h2 : (x : Int) < 2305843009213690799
    · by_cases h3 : y = 1
      · have hv : V = true := by
          have h1' : 2 ≤ x := by omega
          have h2' : x < 2305843009213690799 := by omega
          rw [HV.out, decide_eq_true h1', decide_eq_true h2', decide_eq_true h3]; rfl
        subst h3
        rw [show ((1 : Nat) : Int) = 1 from rfl] at H
        subst hv
        clear HV
        go_enter Tryd.func22, Tryd.ntmps22
        go_wp2_with (go_at_call 24; refine H.mono ?_; rintro e w' ⟨rfl, rfl⟩)
        go_ret
        exact ⟨rfl, rfl⟩
      · have hv : V = false := by rw [HV.out, decide_eq_false h3]; simp only [Bool.and_false]
        subst hv
        clear HV
        have h3' : (((y : Nat) : Int) == 1) = false := by rw [beq_eq_false_iff_ne]; omega
        clear h3
        go_enter Tryd.func22, Tryd.ntmps22
        go_wp2_with (go_at_call 24; refine H.mono ?_; rintro e w' ⟨rfl, rfl⟩)
        go_ret
        exact ⟨rfl, rfl⟩
    · have hv : V = false := by
        have h2' : ¬ x < 2305843009213690799 := by omega
        rw [HV.out, decide_eq_false h2']; simp only [Bool.and_false, Bool.false_and]
      subst hv
      clear HV H
      go_enter Tryd.func22, Tryd.ntmps22
      go_wp2
      go_ret
      exact ⟨rfl, rfl⟩
  · have hv : V = false := by
      have h1' : ¬ 2 ≤ x := by omega
      rw [HV.out, decide_eq_false h1']; simp only [Bool.false_and]
    subst hv
    clear HV H
    go_enter Tryd.func22, Tryd.ntmps22
    go_wp2
    go_ret
    exact ⟨rfl, rfl⟩

set_option maxHeartbeats 400000 in
theorem public_ok (x : Nat) (w : World) (h0 : 0 < x) (hx : x < 1152921504606845399) :
    Calls Tryd.prog 15 #[.int .u64 (x : Int)] w fun e w' => e = .returned (.tuple #[.int .u64 (powP 4 x : Int), .int .i64 0]) ∧ Below w.heap.size w w' := by
  have H := powP_any 4 x w (by decide) (by omega)
  generalize powP 4 x = y at *
  have e : (((4 : Nat)) : Int) = 4 := rfl
  rw [e] at H
  obtain ⟨z, hz⟩ : ∃ z : Int, z = ((x : Nat) : Int) := ⟨_, rfl⟩
  have z0 : 1 ≤ z := by omega
  have z1 : z < 1152921504606845399 := by omega
  rw [← hz] at H ⊢
  clear h0 hx e hz
  have hz0 : (z == 0) = false := by rw [beq_eq_false_iff_ne]; omega
  go_enter Tryd.func15, Tryd.ntmps15
  go_wp2_with (go_at_call 23; refine H.mono ?_; rintro e w' ⟨rfl, hb⟩)
  go_ret2
  exact ⟨rfl, hb⟩

set_option maxHeartbeats 400000 in
theorem public_bad (x : Nat) (w : World) (hx : x = 0 ∨ 1152921504606845399 ≤ x) :
    Calls Tryd.prog 15 #[.int .u64 (x : Int)] w fun e w' => e = .returned (.tuple #[.int .u64 0, .int .i64 30]) ∧ Below w.heap.size w w' := by
  obtain ⟨z, hz⟩ : ∃ z : Int, z = ((x : Nat) : Int) := ⟨_, rfl⟩
  have hx : z = 0 ∨ 1152921504606845399 ≤ z := by omega
  rw [← hz]
  clear hz
  rcases hx with rfl | hx
  · go_enter Tryd.func15, Tryd.ntmps15
    go_wp2
    go_ret2
    exact ⟨rfl, Below.refl _ _⟩
  · go_enter Tryd.func15, Tryd.ntmps15
    go_wp2
    go_ret2
    exact ⟨rfl, Below.refl _ _⟩

set_option maxHeartbeats 400000 in
theorem rpublic_ok (x : Nat) (w : World) (h0 : 0 < x) (hx : x < 1152921504606845399) :
    Calls Tryd.prog 16 #[.int .u64 (x : Int)] w fun e w' => e = .returned (.tuple #[.int .u64 (powP 4 x : Int), .int .i64 0]) ∧ w = w' := by
  have H := rpowP_any 4 x w (by decide) (by omega)
  generalize powP 4 x = y at *
  have e : (((4 : Nat)) : Int) = 4 := rfl
  rw [e] at H
  obtain ⟨z, hz⟩ : ∃ z : Int, z = ((x : Nat) : Int) := ⟨_, rfl⟩
  have z0 : 1 ≤ z := by omega
  have z1 : z < 1152921504606845399 := by omega
  rw [← hz] at H ⊢
  clear h0 hx e hz
  have hz0 : (z == 0) = false := by rw [beq_eq_false_iff_ne]; omega
  go_enter Tryd.func16, Tryd.ntmps16
  go_wp2_with (go_at_call 24; refine H.mono ?_; rintro e w' ⟨rfl, rfl⟩)
  go_ret2
  exact ⟨rfl, rfl⟩

set_option maxHeartbeats 400000 in
theorem rpublic_bad (x : Nat) (w : World) (hx : x = 0 ∨ 1152921504606845399 ≤ x) :
    Calls Tryd.prog 16 #[.int .u64 (x : Int)] w fun e w' => e = .returned (.tuple #[.int .u64 0, .int .i64 30]) ∧ w = w' := by
  obtain ⟨z, hz⟩ : ∃ z : Int, z = ((x : Nat) : Int) := ⟨_, rfl⟩
  have hx : z = 0 ∨ 1152921504606845399 ≤ z := by omega
  rw [← hz]
  clear hz
  rcases hx with rfl | hx
  · go_enter Tryd.func16, Tryd.ntmps16
    go_wp2
    go_ret2
    exact ⟨rfl, rfl⟩
  · go_enter Tryd.func16, Tryd.ntmps16
    go_wp2
    go_ret2
    exact ⟨rfl, rfl⟩

end Go.Proofs.YtlfjcifeiihmfaaDoor
