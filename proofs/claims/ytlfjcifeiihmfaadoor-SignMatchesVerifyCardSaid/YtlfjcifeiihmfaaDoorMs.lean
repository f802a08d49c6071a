/-
  Walks: the laws' examples (sane): true.
-/
import Derived.Test.YtlfjcifeiihmfaaDoorMj
namespace Go.Proofs.YtlfjcifeiihmfaaDoor
open Go.RowKit

theorem powP_pw (b n : Nat) (h : n < 2 ^ 64) : powP b n = pw 2305843009213690799 64 b n := (pw_eq 2305843009213690799 64 b n h).symm

theorem pub_lit (n : Nat) (k : Int) (hk : k = (n : Int)) (r : Int) (hr : r = (pw 2305843009213690799 64 4 n : Int)) (h0 : 0 < n) (h1 : n < 1152921504606845399) (w : World) :
    Calls Tryd.prog 15 #[.int .u64 k] w fun e w' => e = .returned (.tuple #[.int .u64 r, .int .i64 0]) ∧ Below w.heap.size w w' := by
  have := public_ok n w h0 h1
  rw [powP_pw _ _ (by omega), ← hr, ← hk] at this
  exact this

theorem pubbad_lit (n : Nat) (k : Int) (hk : k = (n : Int)) (h : n = 0 ∨ 1152921504606845399 ≤ n) (w : World) :
    Calls Tryd.prog 15 #[.int .u64 k] w fun e w' => e = .returned (.tuple #[.int .u64 0, .int .i64 30]) ∧ Below w.heap.size w w' := by
  have := public_bad n w h
  rw [← hk] at this
  exact this

theorem pow_lit (b n : Nat) (kb k : Int) (hb : kb = (b : Int)) (hk : k = (n : Int)) (r : Int) (hr : r = (pw 2305843009213690799 64 b n : Int)) (h0 : b < 18446744073709551616) (h1 : n < 18446744073709551616) (w : World) :
    Calls Tryd.prog 23 #[.int .u64 kb, .int .u64 k] w fun e w' => e = .returned (.int .u64 r) ∧ Below w.heap.size w w' := by
  have := powP_any b n w h0 h1
  rw [powP_pw _ _ h1, ← hr, ← hb, ← hk] at this
  exact this

theorem val_lit (x : Nat) (k : Int) (hk : k = (x : Int)) (v : Bool) (hv : v = (decide (2 ≤ x) && (decide (x < 2305843009213690799) && decide (pw 2305843009213690799 64 x 1152921504606845399 = 1)))) (h0 : x < 18446744073709551616) (w : World) :
    Calls Tryd.prog 21 #[.int .u64 k] w fun e w' => e = .returned (.bool v) ∧ Below w.heap.size w w' := by
  have := valid_any x w h0
  unfold vld at this
  rw [powP_pw _ _ (by decide), ← hv, ← hk] at this
  exact this

theorem run_makeN (n : Nat) (h : n ≤ 1000000) (w : World) : (Instr.makeSlice 22 (.int .i64 (n : Int)) (.int .i64 (n : Int))).run Tryd.prog w = .ok (.slice (some ⟨w.heap.size, 0, none⟩) n n) (w.alloc (.cells (madeCells #[.int .u8 0] n) 5)) := by
  obtain ⟨i0, hi, hz0, hz1, hz2⟩ := info_parts Tryd.info5
  have hr := run_make (P := Tryd.prog) w 22 5 i0 (.int .u8 0) Tryd.underlying22 hi hz0 .i64 .i64 n n (by omega) (by omega) (by rw [hz2]; omega) (by omega)
  simpa [hz1, Value.cells] using hr

set_option maxRecDepth 100000 in
set_option maxHeartbeats 4000000 in
theorem sane_true (w : World) : Calls Tryd.prog 11 #[] w fun e w' => e = .returned (.bool true) ∧ Below w.heap.size w w' := by
  have p1 := Lib.hid (pub_lit 1 1 rfl 4 (by decide +kernel) (by decide) (by decide))
  have p5 := Lib.hid (pub_lit 5 5 rfl 1024 (by decide +kernel) (by decide) (by decide))
  have p0 := Lib.hid (pubbad_lit 0 0 rfl (by decide))
  have pQ := Lib.hid (pubbad_lit 1152921504606845399 1152921504606845399 rfl (by decide))
  have s0 := Lib.hid (fun w => secret_bad 0 none 0 w (by decide))
  have s65 := Lib.hid (fun a w => secret_bad 65 a 65 w (by decide))
  have q1 := Lib.hid (pow_lit 2 10 2 10 rfl rfl 1024 (by decide +kernel) (by decide) (by decide))
  have q2 := Lib.hid (pow_lit 3 0 3 0 rfl rfl 1 (by decide +kernel) (by decide) (by decide))
  have q3 := Lib.hid (pow_lit 2305843009213690799 5 2305843009213690799 5 rfl rfl 0 (by decide +kernel) (by decide) (by decide))
  have q4 := Lib.hid (pow_lit 2305843009213690798 3 2305843009213690798 3 rfl rfl 2305843009213690798 (by decide +kernel) (by decide) (by decide))
  have q5 := Lib.hid (pow_lit 4 1152921504606845399 4 1152921504606845399 rfl rfl 1 (by decide +kernel) (by decide) (by decide))
  have v4 := Lib.hid (val_lit 4 4 rfl true (by decide +kernel) (by decide))
  have vm := Lib.hid (val_lit 2305843009213690795 2305843009213690795 rfl false (by decide +kernel) (by decide))
  have v1 := Lib.hid (val_lit 1 1 rfl false (by decide +kernel) (by decide))
  have v0 := Lib.hid (val_lit 0 0 rfl false (by decide +kernel) (by decide))
  go_enter Tryd.func11, Tryd.ntmps11
  go_wp2_with fail
  refine (p1.out _).mono ?_
  rintro e w1 ⟨rfl, hb1⟩
  have B1 := Lib.hid hb1; clear hb1
  go_wp2_with fail
  refine (p5.out _).mono ?_
  rintro e w2 ⟨rfl, hb2⟩
  have B2 := Lib.hid (B1.out.trans (hb2.mono B1.out.size)); clear hb2
  go_wp2_with fail
  refine (p0.out _).mono ?_
  rintro e w3 ⟨rfl, hb3⟩
  have B3 := Lib.hid (B2.out.trans (hb3.mono B2.out.size)); clear hb3
  go_wp2_with fail
  refine (pQ.out _).mono ?_
  rintro e w4 ⟨rfl, hb4⟩
  have B4 := Lib.hid (B3.out.trans (hb4.mono B3.out.size)); clear hb4
  go_wp2_with fail
  refine (s0.out _).mono ?_
  rintro e w5 ⟨rfl, rfl⟩
  have hmk : (Instr.makeSlice 22 (.int .i64 65) (.int .i64 65)).run Tryd.prog w4 = _ := run_makeN 65 (by decide) w4
  go_wp2_with fail
  refine (s65.out _ _).mono ?_
  rintro e w5 ⟨rfl, rfl⟩
  have B5 := Lib.hid (ball' B4.out (Obj.cells (madeCells #[Value.int .u8 0] 65) 5) B4.out.size); clear hmk
  go_wp2_with fail
  refine (q1.out _).mono ?_
  rintro e w6 ⟨rfl, hb6⟩
  have B6 := Lib.hid (B5.out.trans (hb6.mono B5.out.size)); clear hb6
  go_wp2_with fail
  refine (q2.out _).mono ?_
  rintro e w7 ⟨rfl, hb7⟩
  have B7 := Lib.hid (B6.out.trans (hb7.mono B6.out.size)); clear hb7
  go_wp2_with fail
  refine (q3.out _).mono ?_
  rintro e w8 ⟨rfl, hb8⟩
  have B8 := Lib.hid (B7.out.trans (hb8.mono B7.out.size)); clear hb8
  go_wp2_with fail
  refine (q4.out _).mono ?_
  rintro e w9 ⟨rfl, hb9⟩
  have B9 := Lib.hid (B8.out.trans (hb9.mono B8.out.size)); clear hb9
  go_wp2_with fail
  refine (q5.out _).mono ?_
  rintro e w10 ⟨rfl, hb10⟩
  have B10 := Lib.hid (B9.out.trans (hb10.mono B9.out.size)); clear hb10
  go_wp2_with fail
  refine (v4.out _).mono ?_
  rintro e w11 ⟨rfl, hb11⟩
  have B11 := Lib.hid (B10.out.trans (hb11.mono B10.out.size)); clear hb11
  go_wp2_with fail
  refine (vm.out _).mono ?_
  rintro e w12 ⟨rfl, hb12⟩
  have B12 := Lib.hid (B11.out.trans (hb12.mono B11.out.size)); clear hb12
  go_wp2_with fail
  refine (v1.out _).mono ?_
  rintro e w13 ⟨rfl, hb13⟩
  have B13 := Lib.hid (B12.out.trans (hb13.mono B12.out.size)); clear hb13
  go_wp2_with fail
  refine (v0.out _).mono ?_
  rintro e w14 ⟨rfl, hb14⟩
  have B14 := Lib.hid (B13.out.trans (hb14.mono B13.out.size)); clear hb14
  go_wp2
  go_ret
  exact ⟨rfl, B14.out⟩

end Go.Proofs.YtlfjcifeiihmfaaDoor
