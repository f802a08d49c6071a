/-
  Valid readers, shippers, railways of a pool.
-/
import Derived.Test.YtijdjbkmkopmnaaHa
import Derived.Test.YtijdjbkmkopmnaaKb
import Derived.Test.YtijdjbkmkopmnaaOa
namespace Go.Proofs.Ytijdjbkmkopmnaa
open Go.RowKit
set_option linter.unusedVariables false
set_option linter.unusedSimpArgs false

def rdOk (n : Nat) (x : RdC) : Bool := rng 0 x.pl ((n : Int) - 1) && (decide (-1000 ≤ x.lo) && (decide (x.lo ≤ x.hi) && decide (x.hi ≤ 1000)))
set_option maxRecDepth 100000 in
set_option maxHeartbeats 4000000 in
theorem reader_any {a0 a1 a2 a3 a4 a5 a6 a7 a8 : Option Addr} {n0 c0 n1 c1 n2 c2 n3 c3 n4 c4 n5 c5 n6 c6 n7 c7 n8 c8 : Nat} (x : RdC) (hn : n0 ≤ 70368744177664) (w : World) (R : Bool) (hR : R = rdOk n0 x) : Calls Try.prog 58 #[.agg #[.slice a0 n0 c0, .slice a1 n1 c1, .slice a2 n2 c2, .slice a3 n3 c3, .slice a4 n4 c4, .slice a5 n5 c5, .slice a6 n6 c6, .slice a7 n7 c7, .slice a8 n8 c8], .agg x.cs.toArray] w fun e w' => e = .returned (.bool R) ∧ Below w.heap.size w w' := by
  obtain ⟨P, L, H⟩ := x
  change Calls Try.prog 58 #[.agg #[.slice a0 n0 c0, .slice a1 n1 c1, .slice a2 n2 c2, .slice a3 n3 c3, .slice a4 n4 c4, .slice a5 n5 c5, .slice a6 n6 c6, .slice a7 n7 c7, .slice a8 n8 c8], .agg #[.int .i64 P, .int .i64 L, .int .i64 H]] w _
  have HC : Hid (∀ w, Calls Try.prog 63 #[.agg #[.slice a0 n0 c0, .slice a1 n1 c1, .slice a2 n2 c2, .slice a3 n3 c3, .slice a4 n4 c4, .slice a5 n5 c5, .slice a6 n6 c6, .slice a7 n7 c7, .slice a8 n8 c8], .int .i64 P] w fun e w' => e = .returned (.bool (rng 0 P ((n0 : Int) - 1))) ∧ Below w.heap.size w w') := Lib.hid (fun w => pplace_any P hn w)
  have HR := Lib.hid (show R = (rng 0 P ((n0 : Int) - 1) && (decide (-1000 ≤ L) && (decide (L ≤ H) && decide (H ≤ 1000)))) from hR)
  clear hR hn
  obtain ⟨W, hW⟩ : ∃ W, W = ((w.alloc (.cells #[.slice a0 n0 c0, .slice a1 n1 c1, .slice a2 n2 c2, .slice a3 n3 c3, .slice a4 n4 c4, .slice a5 n5 c5, .slice a6 n6 c6, .slice a7 n7 c7, .slice a8 n8 c8] 49)).alloc (.cells #[.int .i64 P, .int .i64 L, .int .i64 H] 75)) := ⟨_, rfl⟩
  have hsz : W.heap.size = w.heap.size + 2 := by rw [hW]; simp
  have hB : Below w.heap.size w W := by rw [hW]; exact (ball (ball (Below.refl w.heap.size w) _) _)
  have hr0 : W.heap[w.heap.size]? = some (.cells #[.slice a0 n0 c0, .slice a1 n1 c1, .slice a2 n2 c2, .slice a3 n3 c3, .slice a4 n4 c4, .slice a5 n5 c5, .slice a6 n6 c6, .slice a7 n7 c7, .slice a8 n8 c8] 49 (0, 0)) := by rw [hW]; exact bold ((have h := bnew w (.cells #[.slice a0 n0 c0, .slice a1 n1 c1, .slice a2 n2 c2, .slice a3 n3 c3, .slice a4 n4 c4, .slice a5 n5 c5, .slice a6 n6 c6, .slice a7 n7 c7, .slice a8 n8 c8] 49); by simpa using h : (w.alloc (.cells #[.slice a0 n0 c0, .slice a1 n1 c1, .slice a2 n2 c2, .slice a3 n3 c3, .slice a4 n4 c4, .slice a5 n5 c5, .slice a6 n6 c6, .slice a7 n7 c7, .slice a8 n8 c8] 49)).heap[w.heap.size]? = some (.cells #[.slice a0 n0 c0, .slice a1 n1 c1, .slice a2 n2 c2, .slice a3 n3 c3, .slice a4 n4 c4, .slice a5 n5 c5, .slice a6 n6 c6, .slice a7 n7 c7, .slice a8 n8 c8] 49 (0, 0))))
  have c10_0 : W.cell? ⟨w.heap.size, 0, none⟩ = some (.slice a0 n0 c0) := by rw [cell_of_row W _ 0 _ 49 (0, 0) hr0]; rfl
  have c10_1 : W.cell? ⟨w.heap.size, 1, none⟩ = some (.slice a1 n1 c1) := by rw [cell_of_row W _ 1 _ 49 (0, 0) hr0]; rfl
  have c10_2 : W.cell? ⟨w.heap.size, 2, none⟩ = some (.slice a2 n2 c2) := by rw [cell_of_row W _ 2 _ 49 (0, 0) hr0]; rfl
  have c10_3 : W.cell? ⟨w.heap.size, 3, none⟩ = some (.slice a3 n3 c3) := by rw [cell_of_row W _ 3 _ 49 (0, 0) hr0]; rfl
  have c10_4 : W.cell? ⟨w.heap.size, 4, none⟩ = some (.slice a4 n4 c4) := by rw [cell_of_row W _ 4 _ 49 (0, 0) hr0]; rfl
  have c10_5 : W.cell? ⟨w.heap.size, 5, none⟩ = some (.slice a5 n5 c5) := by rw [cell_of_row W _ 5 _ 49 (0, 0) hr0]; rfl
  have c10_6 : W.cell? ⟨w.heap.size, 6, none⟩ = some (.slice a6 n6 c6) := by rw [cell_of_row W _ 6 _ 49 (0, 0) hr0]; rfl
  have c10_7 : W.cell? ⟨w.heap.size, 7, none⟩ = some (.slice a7 n7 c7) := by rw [cell_of_row W _ 7 _ 49 (0, 0) hr0]; rfl
  have c10_8 : W.cell? ⟨w.heap.size, 8, none⟩ = some (.slice a8 n8 c8) := by rw [cell_of_row W _ 8 _ 49 (0, 0) hr0]; rfl
  have hr1 : W.heap[w.heap.size + 1]? = some (.cells #[.int .i64 P, .int .i64 L, .int .i64 H] 75 (0, 0)) := by rw [hW]; exact (have h := bnew (w.alloc (.cells #[.slice a0 n0 c0, .slice a1 n1 c1, .slice a2 n2 c2, .slice a3 n3 c3, .slice a4 n4 c4, .slice a5 n5 c5, .slice a6 n6 c6, .slice a7 n7 c7, .slice a8 n8 c8] 49)) (.cells #[.int .i64 P, .int .i64 L, .int .i64 H] 75); by simpa using h : ((w.alloc (.cells #[.slice a0 n0 c0, .slice a1 n1 c1, .slice a2 n2 c2, .slice a3 n3 c3, .slice a4 n4 c4, .slice a5 n5 c5, .slice a6 n6 c6, .slice a7 n7 c7, .slice a8 n8 c8] 49)).alloc (.cells #[.int .i64 P, .int .i64 L, .int .i64 H] 75)).heap[w.heap.size + 1]? = some (.cells #[.int .i64 P, .int .i64 L, .int .i64 H] 75 (0, 0)))
  have c11_0 : W.cell? ⟨w.heap.size + 1, 0, none⟩ = some (.int .i64 P) := by rw [cell_of_row W _ 0 _ 75 (0, 0) hr1]; rfl
  have c11_1 : W.cell? ⟨w.heap.size + 1, 1, none⟩ = some (.int .i64 L) := by rw [cell_of_row W _ 1 _ 75 (0, 0) hr1]; rfl
  have c11_2 : W.cell? ⟨w.heap.size + 1, 2, none⟩ = some (.int .i64 H) := by rw [cell_of_row W _ 2 _ 75 (0, 0) hr1]; rfl
  have HW := Lib.hid hW; have HB := Lib.hid hB; have HSZ := Lib.hid hsz
  clear hW hB hsz hr0 hr1
  cases hq : rng 0 P ((n0 : Int) - 1) with
  | false =>
    rw [hq] at HC
    obtain rfl : R = false := by rw [HR.out, hq]; rfl
    clear HR hq
    go_enter Try.func58, Try.ntmps58
    go_upto_region 1 with (fail)
    rw [← HW.out]
    clear HW
    go_wp2_with fail
    refine (HC.out _).mono ?_
    rintro e w1 ⟨rfl, hb⟩
    have HZ := Lib.hid (btrans HB.out hb)
    have d_0_0 : w1.cell? ⟨w.heap.size, 0, none⟩ = some (.slice a0 n0 c0) := (hb.cell (p := ⟨w.heap.size, 0, none⟩) (by have := HSZ.out; simp; omega)).trans c10_0
    have d_0_1 : w1.cell? ⟨w.heap.size, 1, none⟩ = some (.slice a1 n1 c1) := (hb.cell (p := ⟨w.heap.size, 1, none⟩) (by have := HSZ.out; simp; omega)).trans c10_1
    have d_0_2 : w1.cell? ⟨w.heap.size, 2, none⟩ = some (.slice a2 n2 c2) := (hb.cell (p := ⟨w.heap.size, 2, none⟩) (by have := HSZ.out; simp; omega)).trans c10_2
    have d_0_3 : w1.cell? ⟨w.heap.size, 3, none⟩ = some (.slice a3 n3 c3) := (hb.cell (p := ⟨w.heap.size, 3, none⟩) (by have := HSZ.out; simp; omega)).trans c10_3
    have d_0_4 : w1.cell? ⟨w.heap.size, 4, none⟩ = some (.slice a4 n4 c4) := (hb.cell (p := ⟨w.heap.size, 4, none⟩) (by have := HSZ.out; simp; omega)).trans c10_4
    have d_0_5 : w1.cell? ⟨w.heap.size, 5, none⟩ = some (.slice a5 n5 c5) := (hb.cell (p := ⟨w.heap.size, 5, none⟩) (by have := HSZ.out; simp; omega)).trans c10_5
    have d_0_6 : w1.cell? ⟨w.heap.size, 6, none⟩ = some (.slice a6 n6 c6) := (hb.cell (p := ⟨w.heap.size, 6, none⟩) (by have := HSZ.out; simp; omega)).trans c10_6
    have d_0_7 : w1.cell? ⟨w.heap.size, 7, none⟩ = some (.slice a7 n7 c7) := (hb.cell (p := ⟨w.heap.size, 7, none⟩) (by have := HSZ.out; simp; omega)).trans c10_7
    have d_0_8 : w1.cell? ⟨w.heap.size, 8, none⟩ = some (.slice a8 n8 c8) := (hb.cell (p := ⟨w.heap.size, 8, none⟩) (by have := HSZ.out; simp; omega)).trans c10_8
    have d_1_0 : w1.cell? ⟨w.heap.size + 1, 0, none⟩ = some (.int .i64 P) := (hb.cell (p := ⟨w.heap.size + 1, 0, none⟩) (by have := HSZ.out; simp; omega)).trans c11_0
    have d_1_1 : w1.cell? ⟨w.heap.size + 1, 1, none⟩ = some (.int .i64 L) := (hb.cell (p := ⟨w.heap.size + 1, 1, none⟩) (by have := HSZ.out; simp; omega)).trans c11_1
    have d_1_2 : w1.cell? ⟨w.heap.size + 1, 2, none⟩ = some (.int .i64 H) := (hb.cell (p := ⟨w.heap.size + 1, 2, none⟩) (by have := HSZ.out; simp; omega)).trans c11_2
    clear hb c10_0 c10_1 c10_2 c10_3 c10_4 c10_5 c10_6 c10_7 c10_8 c11_0 c11_1 c11_2
    go_wp2
    go_ret
    exact ⟨rfl, HZ.out⟩
  | true =>
    rw [hq] at HC
    by_cases hq1 : -1000 ≤ L
    · have q1 : decide (-1000 ≤ L) = true := decide_eq_true hq1
      clear hq1
      by_cases hq2 : L ≤ H
      · have q2 : decide (L ≤ H) = true := decide_eq_true hq2
        clear hq2
        by_cases hq3 : H ≤ 1000
        · have q3 : decide (H ≤ 1000) = true := decide_eq_true hq3
          clear hq3
          obtain rfl : R = true := by rw [HR.out, hq, q1, q2, q3]; rfl
          clear HR hq
          go_enter Try.func58, Try.ntmps58
          go_upto_region 1 with (fail)
          rw [← HW.out]
          clear HW
          go_wp2_with fail
          refine (HC.out _).mono ?_
          rintro e w1 ⟨rfl, hb⟩
          have HZ := Lib.hid (btrans HB.out hb)
          have d_0_0 : w1.cell? ⟨w.heap.size, 0, none⟩ = some (.slice a0 n0 c0) := (hb.cell (p := ⟨w.heap.size, 0, none⟩) (by have := HSZ.out; simp; omega)).trans c10_0
          have d_0_1 : w1.cell? ⟨w.heap.size, 1, none⟩ = some (.slice a1 n1 c1) := (hb.cell (p := ⟨w.heap.size, 1, none⟩) (by have := HSZ.out; simp; omega)).trans c10_1
          have d_0_2 : w1.cell? ⟨w.heap.size, 2, none⟩ = some (.slice a2 n2 c2) := (hb.cell (p := ⟨w.heap.size, 2, none⟩) (by have := HSZ.out; simp; omega)).trans c10_2
          have d_0_3 : w1.cell? ⟨w.heap.size, 3, none⟩ = some (.slice a3 n3 c3) := (hb.cell (p := ⟨w.heap.size, 3, none⟩) (by have := HSZ.out; simp; omega)).trans c10_3
          have d_0_4 : w1.cell? ⟨w.heap.size, 4, none⟩ = some (.slice a4 n4 c4) := (hb.cell (p := ⟨w.heap.size, 4, none⟩) (by have := HSZ.out; simp; omega)).trans c10_4
          have d_0_5 : w1.cell? ⟨w.heap.size, 5, none⟩ = some (.slice a5 n5 c5) := (hb.cell (p := ⟨w.heap.size, 5, none⟩) (by have := HSZ.out; simp; omega)).trans c10_5
          have d_0_6 : w1.cell? ⟨w.heap.size, 6, none⟩ = some (.slice a6 n6 c6) := (hb.cell (p := ⟨w.heap.size, 6, none⟩) (by have := HSZ.out; simp; omega)).trans c10_6
          have d_0_7 : w1.cell? ⟨w.heap.size, 7, none⟩ = some (.slice a7 n7 c7) := (hb.cell (p := ⟨w.heap.size, 7, none⟩) (by have := HSZ.out; simp; omega)).trans c10_7
          have d_0_8 : w1.cell? ⟨w.heap.size, 8, none⟩ = some (.slice a8 n8 c8) := (hb.cell (p := ⟨w.heap.size, 8, none⟩) (by have := HSZ.out; simp; omega)).trans c10_8
          have d_1_0 : w1.cell? ⟨w.heap.size + 1, 0, none⟩ = some (.int .i64 P) := (hb.cell (p := ⟨w.heap.size + 1, 0, none⟩) (by have := HSZ.out; simp; omega)).trans c11_0
          have d_1_1 : w1.cell? ⟨w.heap.size + 1, 1, none⟩ = some (.int .i64 L) := (hb.cell (p := ⟨w.heap.size + 1, 1, none⟩) (by have := HSZ.out; simp; omega)).trans c11_1
          have d_1_2 : w1.cell? ⟨w.heap.size + 1, 2, none⟩ = some (.int .i64 H) := (hb.cell (p := ⟨w.heap.size + 1, 2, none⟩) (by have := HSZ.out; simp; omega)).trans c11_2
          clear hb c10_0 c10_1 c10_2 c10_3 c10_4 c10_5 c10_6 c10_7 c10_8 c11_0 c11_1 c11_2
          go_wp2
          go_ret
          exact ⟨rfl, HZ.out⟩
        · have q3 : decide (H ≤ 1000) = false := decide_eq_false hq3
          clear hq3
          obtain rfl : R = false := by rw [HR.out, hq, q1, q2, q3]; rfl
          clear HR hq
          go_enter Try.func58, Try.ntmps58
          go_upto_region 1 with (fail)
          rw [← HW.out]
          clear HW
          go_wp2_with fail
          refine (HC.out _).mono ?_
          rintro e w1 ⟨rfl, hb⟩
          have HZ := Lib.hid (btrans HB.out hb)
          have d_0_0 : w1.cell? ⟨w.heap.size, 0, none⟩ = some (.slice a0 n0 c0) := (hb.cell (p := ⟨w.heap.size, 0, none⟩) (by have := HSZ.out; simp; omega)).trans c10_0
          have d_0_1 : w1.cell? ⟨w.heap.size, 1, none⟩ = some (.slice a1 n1 c1) := (hb.cell (p := ⟨w.heap.size, 1, none⟩) (by have := HSZ.out; simp; omega)).trans c10_1
          have d_0_2 : w1.cell? ⟨w.heap.size, 2, none⟩ = some (.slice a2 n2 c2) := (hb.cell (p := ⟨w.heap.size, 2, none⟩) (by have := HSZ.out; simp; omega)).trans c10_2
          have d_0_3 : w1.cell? ⟨w.heap.size, 3, none⟩ = some (.slice a3 n3 c3) := (hb.cell (p := ⟨w.heap.size, 3, none⟩) (by have := HSZ.out; simp; omega)).trans c10_3
          have d_0_4 : w1.cell? ⟨w.heap.size, 4, none⟩ = some (.slice a4 n4 c4) := (hb.cell (p := ⟨w.heap.size, 4, none⟩) (by have := HSZ.out; simp; omega)).trans c10_4
          have d_0_5 : w1.cell? ⟨w.heap.size, 5, none⟩ = some (.slice a5 n5 c5) := (hb.cell (p := ⟨w.heap.size, 5, none⟩) (by have := HSZ.out; simp; omega)).trans c10_5
          have d_0_6 : w1.cell? ⟨w.heap.size, 6, none⟩ = some (.slice a6 n6 c6) := (hb.cell (p := ⟨w.heap.size, 6, none⟩) (by have := HSZ.out; simp; omega)).trans c10_6
          have d_0_7 : w1.cell? ⟨w.heap.size, 7, none⟩ = some (.slice a7 n7 c7) := (hb.cell (p := ⟨w.heap.size, 7, none⟩) (by have := HSZ.out; simp; omega)).trans c10_7
          have d_0_8 : w1.cell? ⟨w.heap.size, 8, none⟩ = some (.slice a8 n8 c8) := (hb.cell (p := ⟨w.heap.size, 8, none⟩) (by have := HSZ.out; simp; omega)).trans c10_8
          have d_1_0 : w1.cell? ⟨w.heap.size + 1, 0, none⟩ = some (.int .i64 P) := (hb.cell (p := ⟨w.heap.size + 1, 0, none⟩) (by have := HSZ.out; simp; omega)).trans c11_0
          have d_1_1 : w1.cell? ⟨w.heap.size + 1, 1, none⟩ = some (.int .i64 L) := (hb.cell (p := ⟨w.heap.size + 1, 1, none⟩) (by have := HSZ.out; simp; omega)).trans c11_1
          have d_1_2 : w1.cell? ⟨w.heap.size + 1, 2, none⟩ = some (.int .i64 H) := (hb.cell (p := ⟨w.heap.size + 1, 2, none⟩) (by have := HSZ.out; simp; omega)).trans c11_2
          clear hb c10_0 c10_1 c10_2 c10_3 c10_4 c10_5 c10_6 c10_7 c10_8 c11_0 c11_1 c11_2
          go_wp2
          go_ret
          exact ⟨rfl, HZ.out⟩
      · have q2 : decide (L ≤ H) = false := decide_eq_false hq2
        clear hq2
        obtain rfl : R = false := by rw [HR.out, hq, q1, q2]; rfl
        clear HR hq
        go_enter Try.func58, Try.ntmps58
        go_upto_region 1 with (fail)
        rw [← HW.out]
        clear HW
        go_wp2_with fail
        refine (HC.out _).mono ?_
        rintro e w1 ⟨rfl, hb⟩
        have HZ := Lib.hid (btrans HB.out hb)
        have d_0_0 : w1.cell? ⟨w.heap.size, 0, none⟩ = some (.slice a0 n0 c0) := (hb.cell (p := ⟨w.heap.size, 0, none⟩) (by have := HSZ.out; simp; omega)).trans c10_0
        have d_0_1 : w1.cell? ⟨w.heap.size, 1, none⟩ = some (.slice a1 n1 c1) := (hb.cell (p := ⟨w.heap.size, 1, none⟩) (by have := HSZ.out; simp; omega)).trans c10_1
        have d_0_2 : w1.cell? ⟨w.heap.size, 2, none⟩ = some (.slice a2 n2 c2) := (hb.cell (p := ⟨w.heap.size, 2, none⟩) (by have := HSZ.out; simp; omega)).trans c10_2
        have d_0_3 : w1.cell? ⟨w.heap.size, 3, none⟩ = some (.slice a3 n3 c3) := (hb.cell (p := ⟨w.heap.size, 3, none⟩) (by have := HSZ.out; simp; omega)).trans c10_3
        have d_0_4 : w1.cell? ⟨w.heap.size, 4, none⟩ = some (.slice a4 n4 c4) := (hb.cell (p := ⟨w.heap.size, 4, none⟩) (by have := HSZ.out; simp; omega)).trans c10_4
        have d_0_5 : w1.cell? ⟨w.heap.size, 5, none⟩ = some (.slice a5 n5 c5) := (hb.cell (p := ⟨w.heap.size, 5, none⟩) (by have := HSZ.out; simp; omega)).trans c10_5
        have d_0_6 : w1.cell? ⟨w.heap.size, 6, none⟩ = some (.slice a6 n6 c6) := (hb.cell (p := ⟨w.heap.size, 6, none⟩) (by have := HSZ.out; simp; omega)).trans c10_6
        have d_0_7 : w1.cell? ⟨w.heap.size, 7, none⟩ = some (.slice a7 n7 c7) := (hb.cell (p := ⟨w.heap.size, 7, none⟩) (by have := HSZ.out; simp; omega)).trans c10_7
        have d_0_8 : w1.cell? ⟨w.heap.size, 8, none⟩ = some (.slice a8 n8 c8) := (hb.cell (p := ⟨w.heap.size, 8, none⟩) (by have := HSZ.out; simp; omega)).trans c10_8
        have d_1_0 : w1.cell? ⟨w.heap.size + 1, 0, none⟩ = some (.int .i64 P) := (hb.cell (p := ⟨w.heap.size + 1, 0, none⟩) (by have := HSZ.out; simp; omega)).trans c11_0
        have d_1_1 : w1.cell? ⟨w.heap.size + 1, 1, none⟩ = some (.int .i64 L) := (hb.cell (p := ⟨w.heap.size + 1, 1, none⟩) (by have := HSZ.out; simp; omega)).trans c11_1
        have d_1_2 : w1.cell? ⟨w.heap.size + 1, 2, none⟩ = some (.int .i64 H) := (hb.cell (p := ⟨w.heap.size + 1, 2, none⟩) (by have := HSZ.out; simp; omega)).trans c11_2
        clear hb c10_0 c10_1 c10_2 c10_3 c10_4 c10_5 c10_6 c10_7 c10_8 c11_0 c11_1 c11_2
        go_wp2
        go_ret
        exact ⟨rfl, HZ.out⟩
    · have q1 : decide (-1000 ≤ L) = false := decide_eq_false hq1
      clear hq1
      obtain rfl : R = false := by rw [HR.out, hq, q1]; rfl
      clear HR hq
      go_enter Try.func58, Try.ntmps58
      go_upto_region 1 with (fail)
      rw [← HW.out]
      clear HW
      go_wp2_with fail
      refine (HC.out _).mono ?_
      rintro e w1 ⟨rfl, hb⟩
      have HZ := Lib.hid (btrans HB.out hb)
      have d_0_0 : w1.cell? ⟨w.heap.size, 0, none⟩ = some (.slice a0 n0 c0) := (hb.cell (p := ⟨w.heap.size, 0, none⟩) (by have := HSZ.out; simp; omega)).trans c10_0
      have d_0_1 : w1.cell? ⟨w.heap.size, 1, none⟩ = some (.slice a1 n1 c1) := (hb.cell (p := ⟨w.heap.size, 1, none⟩) (by have := HSZ.out; simp; omega)).trans c10_1
      have d_0_2 : w1.cell? ⟨w.heap.size, 2, none⟩ = some (.slice a2 n2 c2) := (hb.cell (p := ⟨w.heap.size, 2, none⟩) (by have := HSZ.out; simp; omega)).trans c10_2
      have d_0_3 : w1.cell? ⟨w.heap.size, 3, none⟩ = some (.slice a3 n3 c3) := (hb.cell (p := ⟨w.heap.size, 3, none⟩) (by have := HSZ.out; simp; omega)).trans c10_3
      have d_0_4 : w1.cell? ⟨w.heap.size, 4, none⟩ = some (.slice a4 n4 c4) := (hb.cell (p := ⟨w.heap.size, 4, none⟩) (by have := HSZ.out; simp; omega)).trans c10_4
      have d_0_5 : w1.cell? ⟨w.heap.size, 5, none⟩ = some (.slice a5 n5 c5) := (hb.cell (p := ⟨w.heap.size, 5, none⟩) (by have := HSZ.out; simp; omega)).trans c10_5
      have d_0_6 : w1.cell? ⟨w.heap.size, 6, none⟩ = some (.slice a6 n6 c6) := (hb.cell (p := ⟨w.heap.size, 6, none⟩) (by have := HSZ.out; simp; omega)).trans c10_6
      have d_0_7 : w1.cell? ⟨w.heap.size, 7, none⟩ = some (.slice a7 n7 c7) := (hb.cell (p := ⟨w.heap.size, 7, none⟩) (by have := HSZ.out; simp; omega)).trans c10_7
      have d_0_8 : w1.cell? ⟨w.heap.size, 8, none⟩ = some (.slice a8 n8 c8) := (hb.cell (p := ⟨w.heap.size, 8, none⟩) (by have := HSZ.out; simp; omega)).trans c10_8
      have d_1_0 : w1.cell? ⟨w.heap.size + 1, 0, none⟩ = some (.int .i64 P) := (hb.cell (p := ⟨w.heap.size + 1, 0, none⟩) (by have := HSZ.out; simp; omega)).trans c11_0
      have d_1_1 : w1.cell? ⟨w.heap.size + 1, 1, none⟩ = some (.int .i64 L) := (hb.cell (p := ⟨w.heap.size + 1, 1, none⟩) (by have := HSZ.out; simp; omega)).trans c11_1
      have d_1_2 : w1.cell? ⟨w.heap.size + 1, 2, none⟩ = some (.int .i64 H) := (hb.cell (p := ⟨w.heap.size + 1, 2, none⟩) (by have := HSZ.out; simp; omega)).trans c11_2
      clear hb c10_0 c10_1 c10_2 c10_3 c10_4 c10_5 c10_6 c10_7 c10_8 c11_0 c11_1 c11_2
      go_wp2
      go_ret
      exact ⟨rfl, HZ.out⟩
/-- Whether a shipper stands at a siding. -/
def shOk (ps : List PlC) (x : ShC) : Bool := rng 0 x.pl ((ps.length : Int) - 1) && ((ps[x.pl.toNat]?.map fun y => decide (y.k = 4)).getD false)
set_option maxRecDepth 100000 in
set_option maxHeartbeats 4000000 in
theorem shipper_any {a0 a1 a2 a3 a4 a5 a6 a7 a8 : Option Addr} {n0 c0 n1 c1 n2 c2 n3 c3 n4 c4 n5 c5 n6 c6 n7 c7 n8 c8 : Nat} (x : ShC) {ps : List PlC} (hn : n0 = ps.length) (w : World) (hp : PlS (fun k => k < w.heap.size) w (.slice a0 n0 c0) ps) (R : Bool) (hR : R = shOk ps x) : Calls Try.prog 61 #[.agg #[.slice a0 n0 c0, .slice a1 n1 c1, .slice a2 n2 c2, .slice a3 n3 c3, .slice a4 n4 c4, .slice a5 n5 c5, .slice a6 n6 c6, .slice a7 n7 c7, .slice a8 n8 c8], .agg x.cs.toArray] w fun e w' => e = .returned (.bool R) ∧ Below w.heap.size w w' := by
  obtain ⟨P⟩ := x
  change Calls Try.prog 61 #[.agg #[.slice a0 n0 c0, .slice a1 n1 c1, .slice a2 n2 c2, .slice a3 n3 c3, .slice a4 n4 c4, .slice a5 n5 c5, .slice a6 n6 c6, .slice a7 n7 c7, .slice a8 n8 c8], .agg #[.int .i64 P]] w _
  have hn1 := hp.1
  have hn2 : n0 ≤ 70368744177664 := by omega
  have HC : Hid (∀ w, Calls Try.prog 63 #[.agg #[.slice a0 n0 c0, .slice a1 n1 c1, .slice a2 n2 c2, .slice a3 n3 c3, .slice a4 n4 c4, .slice a5 n5 c5, .slice a6 n6 c6, .slice a7 n7 c7, .slice a8 n8 c8], .int .i64 P] w fun e w' => e = .returned (.bool (rng 0 P ((n0 : Int) - 1))) ∧ Below w.heap.size w w') := Lib.hid (fun w => pplace_any P hn2 w)
  have HR := Lib.hid (show R = (rng 0 P ((ps.length : Int) - 1) && ((ps[P.toNat]?.map fun y => decide (y.k = 4)).getD false)) from hR)
  have HP := Lib.hid hp
  have HN := Lib.hid hn
  clear hR hn hp hn1
  obtain ⟨W, hW⟩ : ∃ W, W = ((w.alloc (.cells #[.slice a0 n0 c0, .slice a1 n1 c1, .slice a2 n2 c2, .slice a3 n3 c3, .slice a4 n4 c4, .slice a5 n5 c5, .slice a6 n6 c6, .slice a7 n7 c7, .slice a8 n8 c8] 49)).alloc (.cells #[.int .i64 P] 79)) := ⟨_, rfl⟩
  have hsz : W.heap.size = w.heap.size + 2 := by rw [hW]; simp
  have hB : Below w.heap.size w W := by rw [hW]; exact (ball (ball (Below.refl w.heap.size w) _) _)
  have hr0 : W.heap[w.heap.size]? = some (.cells #[.slice a0 n0 c0, .slice a1 n1 c1, .slice a2 n2 c2, .slice a3 n3 c3, .slice a4 n4 c4, .slice a5 n5 c5, .slice a6 n6 c6, .slice a7 n7 c7, .slice a8 n8 c8] 49 (0, 0)) := by rw [hW]; exact bold ((have h := bnew w (.cells #[.slice a0 n0 c0, .slice a1 n1 c1, .slice a2 n2 c2, .slice a3 n3 c3, .slice a4 n4 c4, .slice a5 n5 c5, .slice a6 n6 c6, .slice a7 n7 c7, .slice a8 n8 c8] 49); by simpa using h : (w.alloc (.cells #[.slice a0 n0 c0, .slice a1 n1 c1, .slice a2 n2 c2, .slice a3 n3 c3, .slice a4 n4 c4, .slice a5 n5 c5, .slice a6 n6 c6, .slice a7 n7 c7, .slice a8 n8 c8] 49)).heap[w.heap.size]? = some (.cells #[.slice a0 n0 c0, .slice a1 n1 c1, .slice a2 n2 c2, .slice a3 n3 c3, .slice a4 n4 c4, .slice a5 n5 c5, .slice a6 n6 c6, .slice a7 n7 c7, .slice a8 n8 c8] 49 (0, 0))))
  have c10_0 : W.cell? ⟨w.heap.size, 0, none⟩ = some (.slice a0 n0 c0) := by rw [cell_of_row W _ 0 _ 49 (0, 0) hr0]; rfl
  have c10_1 : W.cell? ⟨w.heap.size, 1, none⟩ = some (.slice a1 n1 c1) := by rw [cell_of_row W _ 1 _ 49 (0, 0) hr0]; rfl
  have c10_2 : W.cell? ⟨w.heap.size, 2, none⟩ = some (.slice a2 n2 c2) := by rw [cell_of_row W _ 2 _ 49 (0, 0) hr0]; rfl
  have c10_3 : W.cell? ⟨w.heap.size, 3, none⟩ = some (.slice a3 n3 c3) := by rw [cell_of_row W _ 3 _ 49 (0, 0) hr0]; rfl
  have c10_4 : W.cell? ⟨w.heap.size, 4, none⟩ = some (.slice a4 n4 c4) := by rw [cell_of_row W _ 4 _ 49 (0, 0) hr0]; rfl
  have c10_5 : W.cell? ⟨w.heap.size, 5, none⟩ = some (.slice a5 n5 c5) := by rw [cell_of_row W _ 5 _ 49 (0, 0) hr0]; rfl
  have c10_6 : W.cell? ⟨w.heap.size, 6, none⟩ = some (.slice a6 n6 c6) := by rw [cell_of_row W _ 6 _ 49 (0, 0) hr0]; rfl
  have c10_7 : W.cell? ⟨w.heap.size, 7, none⟩ = some (.slice a7 n7 c7) := by rw [cell_of_row W _ 7 _ 49 (0, 0) hr0]; rfl
  have c10_8 : W.cell? ⟨w.heap.size, 8, none⟩ = some (.slice a8 n8 c8) := by rw [cell_of_row W _ 8 _ 49 (0, 0) hr0]; rfl
  have hr1 : W.heap[w.heap.size + 1]? = some (.cells #[.int .i64 P] 79 (0, 0)) := by rw [hW]; exact (have h := bnew (w.alloc (.cells #[.slice a0 n0 c0, .slice a1 n1 c1, .slice a2 n2 c2, .slice a3 n3 c3, .slice a4 n4 c4, .slice a5 n5 c5, .slice a6 n6 c6, .slice a7 n7 c7, .slice a8 n8 c8] 49)) (.cells #[.int .i64 P] 79); by simpa using h : ((w.alloc (.cells #[.slice a0 n0 c0, .slice a1 n1 c1, .slice a2 n2 c2, .slice a3 n3 c3, .slice a4 n4 c4, .slice a5 n5 c5, .slice a6 n6 c6, .slice a7 n7 c7, .slice a8 n8 c8] 49)).alloc (.cells #[.int .i64 P] 79)).heap[w.heap.size + 1]? = some (.cells #[.int .i64 P] 79 (0, 0)))
  have c11_0 : W.cell? ⟨w.heap.size + 1, 0, none⟩ = some (.int .i64 P) := by rw [cell_of_row W _ 0 _ 79 (0, 0) hr1]; rfl
  have HW := Lib.hid hW; have HB := Lib.hid hB; have HSZ := Lib.hid hsz
  clear hW hB hsz hr0 hr1
  cases hq : rng 0 P ((n0 : Int) - 1) with
  | false =>
    rw [hq] at HC
    obtain rfl : R = false := by rw [HR.out, ← HN.out, hq]; rfl
    clear HR hq
    go_enter Try.func61, Try.ntmps61
    go_upto_region 1 with (fail)
    rw [← HW.out]
    clear HW
    go_wp2_with fail
    refine (HC.out _).mono ?_
    rintro e w1 ⟨rfl, hb⟩
    have HZ := Lib.hid (btrans HB.out hb)
    have d_0_0 : w1.cell? ⟨w.heap.size, 0, none⟩ = some (.slice a0 n0 c0) := (hb.cell (p := ⟨w.heap.size, 0, none⟩) (by have := HSZ.out; simp; omega)).trans c10_0
    have d_0_1 : w1.cell? ⟨w.heap.size, 1, none⟩ = some (.slice a1 n1 c1) := (hb.cell (p := ⟨w.heap.size, 1, none⟩) (by have := HSZ.out; simp; omega)).trans c10_1
    have d_0_2 : w1.cell? ⟨w.heap.size, 2, none⟩ = some (.slice a2 n2 c2) := (hb.cell (p := ⟨w.heap.size, 2, none⟩) (by have := HSZ.out; simp; omega)).trans c10_2
    have d_0_3 : w1.cell? ⟨w.heap.size, 3, none⟩ = some (.slice a3 n3 c3) := (hb.cell (p := ⟨w.heap.size, 3, none⟩) (by have := HSZ.out; simp; omega)).trans c10_3
    have d_0_4 : w1.cell? ⟨w.heap.size, 4, none⟩ = some (.slice a4 n4 c4) := (hb.cell (p := ⟨w.heap.size, 4, none⟩) (by have := HSZ.out; simp; omega)).trans c10_4
    have d_0_5 : w1.cell? ⟨w.heap.size, 5, none⟩ = some (.slice a5 n5 c5) := (hb.cell (p := ⟨w.heap.size, 5, none⟩) (by have := HSZ.out; simp; omega)).trans c10_5
    have d_0_6 : w1.cell? ⟨w.heap.size, 6, none⟩ = some (.slice a6 n6 c6) := (hb.cell (p := ⟨w.heap.size, 6, none⟩) (by have := HSZ.out; simp; omega)).trans c10_6
    have d_0_7 : w1.cell? ⟨w.heap.size, 7, none⟩ = some (.slice a7 n7 c7) := (hb.cell (p := ⟨w.heap.size, 7, none⟩) (by have := HSZ.out; simp; omega)).trans c10_7
    have d_0_8 : w1.cell? ⟨w.heap.size, 8, none⟩ = some (.slice a8 n8 c8) := (hb.cell (p := ⟨w.heap.size, 8, none⟩) (by have := HSZ.out; simp; omega)).trans c10_8
    have d_1_0 : w1.cell? ⟨w.heap.size + 1, 0, none⟩ = some (.int .i64 P) := (hb.cell (p := ⟨w.heap.size + 1, 0, none⟩) (by have := HSZ.out; simp; omega)).trans c11_0
    clear hb c10_0 c10_1 c10_2 c10_3 c10_4 c10_5 c10_6 c10_7 c10_8 c11_0
    go_wp2
    go_ret
    exact ⟨rfl, HZ.out⟩
  | true =>
    have hr := rng_iff.1 hq
    rw [hq] at HC
    obtain ⟨k, rfl⟩ : ∃ k : Nat, P = (k : Int) := ⟨P.toNat, by omega⟩
    obtain ⟨g, off, y, rfl, hg, hy, _, hra, _⟩ := HP.out.pick k (by have := HN.out; omega)
    have hcell : w.cell? ⟨g, off + k * 3, none⟩ = some (.int .i64 y.k) := hra 0 _ rfl
    have hkk : k < n0 := by omega
    have hRR : R = decide (y.k = 4) := by rw [HR.out, ← HN.out, hq, Int.toNat_natCast, hy]; rfl
    have HG := Lib.hid hg
    clear HR hq hra hy hg
    by_cases h4 : y.k = 4
    · obtain rfl : R = true := by rw [hRR]; exact decide_eq_true h4
      clear hRR
      go_enter Try.func61, Try.ntmps61
      go_upto_region 1 with (fail)
      rw [← HW.out]
      clear HW
      go_wp2_with fail
      refine (HC.out _).mono ?_
      rintro e w1 ⟨rfl, hb⟩
      have HZ := Lib.hid (btrans HB.out hb)
      have d_0_0 : w1.cell? ⟨w.heap.size, 0, none⟩ = some (.slice (some ⟨g, off, none⟩) n0 c0) := (hb.cell (p := ⟨w.heap.size, 0, none⟩) (by have := HSZ.out; simp; omega)).trans c10_0
      have d_0_1 : w1.cell? ⟨w.heap.size, 1, none⟩ = some (.slice a1 n1 c1) := (hb.cell (p := ⟨w.heap.size, 1, none⟩) (by have := HSZ.out; simp; omega)).trans c10_1
      have d_0_2 : w1.cell? ⟨w.heap.size, 2, none⟩ = some (.slice a2 n2 c2) := (hb.cell (p := ⟨w.heap.size, 2, none⟩) (by have := HSZ.out; simp; omega)).trans c10_2
      have d_0_3 : w1.cell? ⟨w.heap.size, 3, none⟩ = some (.slice a3 n3 c3) := (hb.cell (p := ⟨w.heap.size, 3, none⟩) (by have := HSZ.out; simp; omega)).trans c10_3
      have d_0_4 : w1.cell? ⟨w.heap.size, 4, none⟩ = some (.slice a4 n4 c4) := (hb.cell (p := ⟨w.heap.size, 4, none⟩) (by have := HSZ.out; simp; omega)).trans c10_4
      have d_0_5 : w1.cell? ⟨w.heap.size, 5, none⟩ = some (.slice a5 n5 c5) := (hb.cell (p := ⟨w.heap.size, 5, none⟩) (by have := HSZ.out; simp; omega)).trans c10_5
      have d_0_6 : w1.cell? ⟨w.heap.size, 6, none⟩ = some (.slice a6 n6 c6) := (hb.cell (p := ⟨w.heap.size, 6, none⟩) (by have := HSZ.out; simp; omega)).trans c10_6
      have d_0_7 : w1.cell? ⟨w.heap.size, 7, none⟩ = some (.slice a7 n7 c7) := (hb.cell (p := ⟨w.heap.size, 7, none⟩) (by have := HSZ.out; simp; omega)).trans c10_7
      have d_0_8 : w1.cell? ⟨w.heap.size, 8, none⟩ = some (.slice a8 n8 c8) := (hb.cell (p := ⟨w.heap.size, 8, none⟩) (by have := HSZ.out; simp; omega)).trans c10_8
      have d_1_0 : w1.cell? ⟨w.heap.size + 1, 0, none⟩ = some (.int .i64 (k : Int)) := (hb.cell (p := ⟨w.heap.size + 1, 0, none⟩) (by have := HSZ.out; simp; omega)).trans c11_0
      have hk1 : w1.cell? ⟨g, off + k * 3, none⟩ = some (.int .i64 y.k) := (HZ.out.cell (p := ⟨g, off + k * 3, none⟩) HG.out).trans hcell
      rw [h4] at hk1
      clear hcell
      clear hb c10_0 c10_1 c10_2 c10_3 c10_4 c10_5 c10_6 c10_7 c10_8 c11_0
      go_wp2
      go_ret
      exact ⟨rfl, HZ.out⟩
    · obtain rfl : R = false := by rw [hRR]; exact decide_eq_false h4
      have h4b : (y.k == 4) = false := by simpa using h4
      clear hRR
      go_enter Try.func61, Try.ntmps61
      go_upto_region 1 with (fail)
      rw [← HW.out]
      clear HW
      go_wp2_with fail
      refine (HC.out _).mono ?_
      rintro e w1 ⟨rfl, hb⟩
      have HZ := Lib.hid (btrans HB.out hb)
      have d_0_0 : w1.cell? ⟨w.heap.size, 0, none⟩ = some (.slice (some ⟨g, off, none⟩) n0 c0) := (hb.cell (p := ⟨w.heap.size, 0, none⟩) (by have := HSZ.out; simp; omega)).trans c10_0
      have d_0_1 : w1.cell? ⟨w.heap.size, 1, none⟩ = some (.slice a1 n1 c1) := (hb.cell (p := ⟨w.heap.size, 1, none⟩) (by have := HSZ.out; simp; omega)).trans c10_1
      have d_0_2 : w1.cell? ⟨w.heap.size, 2, none⟩ = some (.slice a2 n2 c2) := (hb.cell (p := ⟨w.heap.size, 2, none⟩) (by have := HSZ.out; simp; omega)).trans c10_2
      have d_0_3 : w1.cell? ⟨w.heap.size, 3, none⟩ = some (.slice a3 n3 c3) := (hb.cell (p := ⟨w.heap.size, 3, none⟩) (by have := HSZ.out; simp; omega)).trans c10_3
      have d_0_4 : w1.cell? ⟨w.heap.size, 4, none⟩ = some (.slice a4 n4 c4) := (hb.cell (p := ⟨w.heap.size, 4, none⟩) (by have := HSZ.out; simp; omega)).trans c10_4
      have d_0_5 : w1.cell? ⟨w.heap.size, 5, none⟩ = some (.slice a5 n5 c5) := (hb.cell (p := ⟨w.heap.size, 5, none⟩) (by have := HSZ.out; simp; omega)).trans c10_5
      have d_0_6 : w1.cell? ⟨w.heap.size, 6, none⟩ = some (.slice a6 n6 c6) := (hb.cell (p := ⟨w.heap.size, 6, none⟩) (by have := HSZ.out; simp; omega)).trans c10_6
      have d_0_7 : w1.cell? ⟨w.heap.size, 7, none⟩ = some (.slice a7 n7 c7) := (hb.cell (p := ⟨w.heap.size, 7, none⟩) (by have := HSZ.out; simp; omega)).trans c10_7
      have d_0_8 : w1.cell? ⟨w.heap.size, 8, none⟩ = some (.slice a8 n8 c8) := (hb.cell (p := ⟨w.heap.size, 8, none⟩) (by have := HSZ.out; simp; omega)).trans c10_8
      have d_1_0 : w1.cell? ⟨w.heap.size + 1, 0, none⟩ = some (.int .i64 (k : Int)) := (hb.cell (p := ⟨w.heap.size + 1, 0, none⟩) (by have := HSZ.out; simp; omega)).trans c11_0
      have hk1 : w1.cell? ⟨g, off + k * 3, none⟩ = some (.int .i64 y.k) := (HZ.out.cell (p := ⟨g, off + k * 3, none⟩) HG.out).trans hcell
      clear hcell
      clear hb c10_0 c10_1 c10_2 c10_3 c10_4 c10_5 c10_6 c10_7 c10_8 c11_0
      go_wp2
      go_ret
      exact ⟨rfl, HZ.out⟩
def plOk (n : Nat) (x : PlC) : Bool := rng 0 x.r ((n : Int) - 1) && (decide (x.k ≠ 3) || rng 0 x.o ((n : Int) - 1))
set_option maxRecDepth 100000 in
set_option maxHeartbeats 4000000 in
theorem known_any {a0 a1 a2 a3 a4 a5 a6 a7 a8 : Option Addr} {n0 c0 n1 c1 n2 c2 n3 c3 n4 c4 n5 c5 n6 c6 n7 c7 n8 c8 : Nat} (x : PlC) (hn : n8 ≤ 70368744177664) (w : World) (R : Bool) (hR : R = plOk n8 x) : Calls Try.prog 66 #[.agg #[.slice a0 n0 c0, .slice a1 n1 c1, .slice a2 n2 c2, .slice a3 n3 c3, .slice a4 n4 c4, .slice a5 n5 c5, .slice a6 n6 c6, .slice a7 n7 c7, .slice a8 n8 c8], .agg x.cs.toArray] w fun e w' => e = .returned (.bool R) ∧ Below w.heap.size w w' := by
  obtain ⟨K, A, O⟩ := x
  change Calls Try.prog 66 #[.agg #[.slice a0 n0 c0, .slice a1 n1 c1, .slice a2 n2 c2, .slice a3 n3 c3, .slice a4 n4 c4, .slice a5 n5 c5, .slice a6 n6 c6, .slice a7 n7 c7, .slice a8 n8 c8], .agg #[.int .i64 K, .int .i64 A, .int .i64 O]] w _
  have HC : Hid (∀ w, Calls Try.prog 69 #[.agg #[.slice a0 n0 c0, .slice a1 n1 c1, .slice a2 n2 c2, .slice a3 n3 c3, .slice a4 n4 c4, .slice a5 n5 c5, .slice a6 n6 c6, .slice a7 n7 c7, .slice a8 n8 c8], .int .i64 A] w fun e w' => e = .returned (.bool (rng 0 A ((n8 : Int) - 1))) ∧ Below w.heap.size w w') := Lib.hid (fun w => prail_any A hn w)
  have HC2 : Hid (∀ w, Calls Try.prog 69 #[.agg #[.slice a0 n0 c0, .slice a1 n1 c1, .slice a2 n2 c2, .slice a3 n3 c3, .slice a4 n4 c4, .slice a5 n5 c5, .slice a6 n6 c6, .slice a7 n7 c7, .slice a8 n8 c8], .int .i64 O] w fun e w' => e = .returned (.bool (rng 0 O ((n8 : Int) - 1))) ∧ Below w.heap.size w w') := Lib.hid (fun w => prail_any O hn w)
  have HR := Lib.hid (show R = (rng 0 A ((n8 : Int) - 1) && (decide (K ≠ 3) || rng 0 O ((n8 : Int) - 1))) from hR)
  clear hR hn
  obtain ⟨W, hW⟩ : ∃ W, W = ((w.alloc (.cells #[.slice a0 n0 c0, .slice a1 n1 c1, .slice a2 n2 c2, .slice a3 n3 c3, .slice a4 n4 c4, .slice a5 n5 c5, .slice a6 n6 c6, .slice a7 n7 c7, .slice a8 n8 c8] 49)).alloc (.cells #[.int .i64 K, .int .i64 A, .int .i64 O] 77)) := ⟨_, rfl⟩
  have hsz : W.heap.size = w.heap.size + 2 := by rw [hW]; simp
  have hB : Below w.heap.size w W := by rw [hW]; exact (ball (ball (Below.refl w.heap.size w) _) _)
  have hr0 : W.heap[w.heap.size]? = some (.cells #[.slice a0 n0 c0, .slice a1 n1 c1, .slice a2 n2 c2, .slice a3 n3 c3, .slice a4 n4 c4, .slice a5 n5 c5, .slice a6 n6 c6, .slice a7 n7 c7, .slice a8 n8 c8] 49 (0, 0)) := by rw [hW]; exact bold ((have h := bnew w (.cells #[.slice a0 n0 c0, .slice a1 n1 c1, .slice a2 n2 c2, .slice a3 n3 c3, .slice a4 n4 c4, .slice a5 n5 c5, .slice a6 n6 c6, .slice a7 n7 c7, .slice a8 n8 c8] 49); by simpa using h : (w.alloc (.cells #[.slice a0 n0 c0, .slice a1 n1 c1, .slice a2 n2 c2, .slice a3 n3 c3, .slice a4 n4 c4, .slice a5 n5 c5, .slice a6 n6 c6, .slice a7 n7 c7, .slice a8 n8 c8] 49)).heap[w.heap.size]? = some (.cells #[.slice a0 n0 c0, .slice a1 n1 c1, .slice a2 n2 c2, .slice a3 n3 c3, .slice a4 n4 c4, .slice a5 n5 c5, .slice a6 n6 c6, .slice a7 n7 c7, .slice a8 n8 c8] 49 (0, 0))))
  have c10_0 : W.cell? ⟨w.heap.size, 0, none⟩ = some (.slice a0 n0 c0) := by rw [cell_of_row W _ 0 _ 49 (0, 0) hr0]; rfl
  have c10_1 : W.cell? ⟨w.heap.size, 1, none⟩ = some (.slice a1 n1 c1) := by rw [cell_of_row W _ 1 _ 49 (0, 0) hr0]; rfl
  have c10_2 : W.cell? ⟨w.heap.size, 2, none⟩ = some (.slice a2 n2 c2) := by rw [cell_of_row W _ 2 _ 49 (0, 0) hr0]; rfl
  have c10_3 : W.cell? ⟨w.heap.size, 3, none⟩ = some (.slice a3 n3 c3) := by rw [cell_of_row W _ 3 _ 49 (0, 0) hr0]; rfl
  have c10_4 : W.cell? ⟨w.heap.size, 4, none⟩ = some (.slice a4 n4 c4) := by rw [cell_of_row W _ 4 _ 49 (0, 0) hr0]; rfl
  have c10_5 : W.cell? ⟨w.heap.size, 5, none⟩ = some (.slice a5 n5 c5) := by rw [cell_of_row W _ 5 _ 49 (0, 0) hr0]; rfl
  have c10_6 : W.cell? ⟨w.heap.size, 6, none⟩ = some (.slice a6 n6 c6) := by rw [cell_of_row W _ 6 _ 49 (0, 0) hr0]; rfl
  have c10_7 : W.cell? ⟨w.heap.size, 7, none⟩ = some (.slice a7 n7 c7) := by rw [cell_of_row W _ 7 _ 49 (0, 0) hr0]; rfl
  have c10_8 : W.cell? ⟨w.heap.size, 8, none⟩ = some (.slice a8 n8 c8) := by rw [cell_of_row W _ 8 _ 49 (0, 0) hr0]; rfl
  have hr1 : W.heap[w.heap.size + 1]? = some (.cells #[.int .i64 K, .int .i64 A, .int .i64 O] 77 (0, 0)) := by rw [hW]; exact (have h := bnew (w.alloc (.cells #[.slice a0 n0 c0, .slice a1 n1 c1, .slice a2 n2 c2, .slice a3 n3 c3, .slice a4 n4 c4, .slice a5 n5 c5, .slice a6 n6 c6, .slice a7 n7 c7, .slice a8 n8 c8] 49)) (.cells #[.int .i64 K, .int .i64 A, .int .i64 O] 77); by simpa using h : ((w.alloc (.cells #[.slice a0 n0 c0, .slice a1 n1 c1, .slice a2 n2 c2, .slice a3 n3 c3, .slice a4 n4 c4, .slice a5 n5 c5, .slice a6 n6 c6, .slice a7 n7 c7, .slice a8 n8 c8] 49)).alloc (.cells #[.int .i64 K, .int .i64 A, .int .i64 O] 77)).heap[w.heap.size + 1]? = some (.cells #[.int .i64 K, .int .i64 A, .int .i64 O] 77 (0, 0)))
  have c11_0 : W.cell? ⟨w.heap.size + 1, 0, none⟩ = some (.int .i64 K) := by rw [cell_of_row W _ 0 _ 77 (0, 0) hr1]; rfl
  have c11_1 : W.cell? ⟨w.heap.size + 1, 1, none⟩ = some (.int .i64 A) := by rw [cell_of_row W _ 1 _ 77 (0, 0) hr1]; rfl
  have c11_2 : W.cell? ⟨w.heap.size + 1, 2, none⟩ = some (.int .i64 O) := by rw [cell_of_row W _ 2 _ 77 (0, 0) hr1]; rfl
  have HW := Lib.hid hW; have HB := Lib.hid hB; have HSZ := Lib.hid hsz
  clear hW hB hsz hr0 hr1
  cases hq : rng 0 A ((n8 : Int) - 1) with
  | false =>
    rw [hq] at HC
    obtain rfl : R = false := by rw [HR.out, hq]; rfl
    clear HR hq
    go_enter Try.func66, Try.ntmps66
    go_upto_region 1 with (fail)
    rw [← HW.out]
    clear HW
    go_wp2_with fail
    refine (HC.out _).mono ?_
    rintro e w1 ⟨rfl, hb⟩
    have HZ := Lib.hid (btrans HB.out hb)
    have d_0_0 : w1.cell? ⟨w.heap.size, 0, none⟩ = some (.slice a0 n0 c0) := (hb.cell (p := ⟨w.heap.size, 0, none⟩) (by have := HSZ.out; simp; omega)).trans c10_0
    have d_0_1 : w1.cell? ⟨w.heap.size, 1, none⟩ = some (.slice a1 n1 c1) := (hb.cell (p := ⟨w.heap.size, 1, none⟩) (by have := HSZ.out; simp; omega)).trans c10_1
    have d_0_2 : w1.cell? ⟨w.heap.size, 2, none⟩ = some (.slice a2 n2 c2) := (hb.cell (p := ⟨w.heap.size, 2, none⟩) (by have := HSZ.out; simp; omega)).trans c10_2
    have d_0_3 : w1.cell? ⟨w.heap.size, 3, none⟩ = some (.slice a3 n3 c3) := (hb.cell (p := ⟨w.heap.size, 3, none⟩) (by have := HSZ.out; simp; omega)).trans c10_3
    have d_0_4 : w1.cell? ⟨w.heap.size, 4, none⟩ = some (.slice a4 n4 c4) := (hb.cell (p := ⟨w.heap.size, 4, none⟩) (by have := HSZ.out; simp; omega)).trans c10_4
    have d_0_5 : w1.cell? ⟨w.heap.size, 5, none⟩ = some (.slice a5 n5 c5) := (hb.cell (p := ⟨w.heap.size, 5, none⟩) (by have := HSZ.out; simp; omega)).trans c10_5
    have d_0_6 : w1.cell? ⟨w.heap.size, 6, none⟩ = some (.slice a6 n6 c6) := (hb.cell (p := ⟨w.heap.size, 6, none⟩) (by have := HSZ.out; simp; omega)).trans c10_6
    have d_0_7 : w1.cell? ⟨w.heap.size, 7, none⟩ = some (.slice a7 n7 c7) := (hb.cell (p := ⟨w.heap.size, 7, none⟩) (by have := HSZ.out; simp; omega)).trans c10_7
    have d_0_8 : w1.cell? ⟨w.heap.size, 8, none⟩ = some (.slice a8 n8 c8) := (hb.cell (p := ⟨w.heap.size, 8, none⟩) (by have := HSZ.out; simp; omega)).trans c10_8
    have d_1_0 : w1.cell? ⟨w.heap.size + 1, 0, none⟩ = some (.int .i64 K) := (hb.cell (p := ⟨w.heap.size + 1, 0, none⟩) (by have := HSZ.out; simp; omega)).trans c11_0
    have d_1_1 : w1.cell? ⟨w.heap.size + 1, 1, none⟩ = some (.int .i64 A) := (hb.cell (p := ⟨w.heap.size + 1, 1, none⟩) (by have := HSZ.out; simp; omega)).trans c11_1
    have d_1_2 : w1.cell? ⟨w.heap.size + 1, 2, none⟩ = some (.int .i64 O) := (hb.cell (p := ⟨w.heap.size + 1, 2, none⟩) (by have := HSZ.out; simp; omega)).trans c11_2
    have HSW := Lib.hid hb.size
    clear hb c10_0 c10_1 c10_2 c10_3 c10_4 c10_5 c10_6 c10_7 c10_8 c11_0 c11_1 c11_2
    go_wp2
    go_ret
    exact ⟨rfl, HZ.out⟩
  | true =>
    rw [hq] at HC
    by_cases h3 : K = 3
    · subst h3
      obtain ⟨Q, hQ⟩ : ∃ Q, rng 0 O ((n8 : Int) - 1) = Q := ⟨_, rfl⟩
      rw [hQ] at HC2
      obtain rfl : R = Q := by rw [HR.out, hq, hQ]; rfl
      clear HR hq hQ
      go_enter Try.func66, Try.ntmps66
      go_upto_region 1 with (fail)
      rw [← HW.out]
      clear HW
      go_wp2_with fail
      refine (HC.out _).mono ?_
      rintro e w1 ⟨rfl, hb⟩
      have HZ := Lib.hid (btrans HB.out hb)
      have d_0_0 : w1.cell? ⟨w.heap.size, 0, none⟩ = some (.slice a0 n0 c0) := (hb.cell (p := ⟨w.heap.size, 0, none⟩) (by have := HSZ.out; simp; omega)).trans c10_0
      have d_0_1 : w1.cell? ⟨w.heap.size, 1, none⟩ = some (.slice a1 n1 c1) := (hb.cell (p := ⟨w.heap.size, 1, none⟩) (by have := HSZ.out; simp; omega)).trans c10_1
      have d_0_2 : w1.cell? ⟨w.heap.size, 2, none⟩ = some (.slice a2 n2 c2) := (hb.cell (p := ⟨w.heap.size, 2, none⟩) (by have := HSZ.out; simp; omega)).trans c10_2
      have d_0_3 : w1.cell? ⟨w.heap.size, 3, none⟩ = some (.slice a3 n3 c3) := (hb.cell (p := ⟨w.heap.size, 3, none⟩) (by have := HSZ.out; simp; omega)).trans c10_3
      have d_0_4 : w1.cell? ⟨w.heap.size, 4, none⟩ = some (.slice a4 n4 c4) := (hb.cell (p := ⟨w.heap.size, 4, none⟩) (by have := HSZ.out; simp; omega)).trans c10_4
      have d_0_5 : w1.cell? ⟨w.heap.size, 5, none⟩ = some (.slice a5 n5 c5) := (hb.cell (p := ⟨w.heap.size, 5, none⟩) (by have := HSZ.out; simp; omega)).trans c10_5
      have d_0_6 : w1.cell? ⟨w.heap.size, 6, none⟩ = some (.slice a6 n6 c6) := (hb.cell (p := ⟨w.heap.size, 6, none⟩) (by have := HSZ.out; simp; omega)).trans c10_6
      have d_0_7 : w1.cell? ⟨w.heap.size, 7, none⟩ = some (.slice a7 n7 c7) := (hb.cell (p := ⟨w.heap.size, 7, none⟩) (by have := HSZ.out; simp; omega)).trans c10_7
      have d_0_8 : w1.cell? ⟨w.heap.size, 8, none⟩ = some (.slice a8 n8 c8) := (hb.cell (p := ⟨w.heap.size, 8, none⟩) (by have := HSZ.out; simp; omega)).trans c10_8
      have d_1_0 : w1.cell? ⟨w.heap.size + 1, 0, none⟩ = some (.int .i64 3) := (hb.cell (p := ⟨w.heap.size + 1, 0, none⟩) (by have := HSZ.out; simp; omega)).trans c11_0
      have d_1_1 : w1.cell? ⟨w.heap.size + 1, 1, none⟩ = some (.int .i64 A) := (hb.cell (p := ⟨w.heap.size + 1, 1, none⟩) (by have := HSZ.out; simp; omega)).trans c11_1
      have d_1_2 : w1.cell? ⟨w.heap.size + 1, 2, none⟩ = some (.int .i64 O) := (hb.cell (p := ⟨w.heap.size + 1, 2, none⟩) (by have := HSZ.out; simp; omega)).trans c11_2
      have HSW := Lib.hid hb.size
      clear hb c10_0 c10_1 c10_2 c10_3 c10_4 c10_5 c10_6 c10_7 c10_8 c11_0 c11_1 c11_2
      go_wp2_with fail
      refine (HC2.out _).mono ?_
      rintro e w2 ⟨rfl, hb⟩
      have HZ2 := Lib.hid (btrans HZ.out hb)
      clear hb d_0_0 d_0_1 d_0_2 d_0_3 d_0_4 d_0_5 d_0_6 d_0_7 d_0_8 d_1_0 d_1_1 d_1_2
      go_wp2
      go_ret
      exact ⟨rfl, HZ2.out⟩
    · have h3b : (K != 3) = true := by simpa using h3
      obtain rfl : R = true := by rw [HR.out, hq, decide_eq_true h3]; rfl
      clear HR hq
      go_enter Try.func66, Try.ntmps66
      go_upto_region 1 with (fail)
      rw [← HW.out]
      clear HW
      go_wp2_with fail
      refine (HC.out _).mono ?_
      rintro e w1 ⟨rfl, hb⟩
      have HZ := Lib.hid (btrans HB.out hb)
      have d_0_0 : w1.cell? ⟨w.heap.size, 0, none⟩ = some (.slice a0 n0 c0) := (hb.cell (p := ⟨w.heap.size, 0, none⟩) (by have := HSZ.out; simp; omega)).trans c10_0
      have d_0_1 : w1.cell? ⟨w.heap.size, 1, none⟩ = some (.slice a1 n1 c1) := (hb.cell (p := ⟨w.heap.size, 1, none⟩) (by have := HSZ.out; simp; omega)).trans c10_1
      have d_0_2 : w1.cell? ⟨w.heap.size, 2, none⟩ = some (.slice a2 n2 c2) := (hb.cell (p := ⟨w.heap.size, 2, none⟩) (by have := HSZ.out; simp; omega)).trans c10_2
      have d_0_3 : w1.cell? ⟨w.heap.size, 3, none⟩ = some (.slice a3 n3 c3) := (hb.cell (p := ⟨w.heap.size, 3, none⟩) (by have := HSZ.out; simp; omega)).trans c10_3
      have d_0_4 : w1.cell? ⟨w.heap.size, 4, none⟩ = some (.slice a4 n4 c4) := (hb.cell (p := ⟨w.heap.size, 4, none⟩) (by have := HSZ.out; simp; omega)).trans c10_4
      have d_0_5 : w1.cell? ⟨w.heap.size, 5, none⟩ = some (.slice a5 n5 c5) := (hb.cell (p := ⟨w.heap.size, 5, none⟩) (by have := HSZ.out; simp; omega)).trans c10_5
      have d_0_6 : w1.cell? ⟨w.heap.size, 6, none⟩ = some (.slice a6 n6 c6) := (hb.cell (p := ⟨w.heap.size, 6, none⟩) (by have := HSZ.out; simp; omega)).trans c10_6
      have d_0_7 : w1.cell? ⟨w.heap.size, 7, none⟩ = some (.slice a7 n7 c7) := (hb.cell (p := ⟨w.heap.size, 7, none⟩) (by have := HSZ.out; simp; omega)).trans c10_7
      have d_0_8 : w1.cell? ⟨w.heap.size, 8, none⟩ = some (.slice a8 n8 c8) := (hb.cell (p := ⟨w.heap.size, 8, none⟩) (by have := HSZ.out; simp; omega)).trans c10_8
      have d_1_0 : w1.cell? ⟨w.heap.size + 1, 0, none⟩ = some (.int .i64 K) := (hb.cell (p := ⟨w.heap.size + 1, 0, none⟩) (by have := HSZ.out; simp; omega)).trans c11_0
      have d_1_1 : w1.cell? ⟨w.heap.size + 1, 1, none⟩ = some (.int .i64 A) := (hb.cell (p := ⟨w.heap.size + 1, 1, none⟩) (by have := HSZ.out; simp; omega)).trans c11_1
      have d_1_2 : w1.cell? ⟨w.heap.size + 1, 2, none⟩ = some (.int .i64 O) := (hb.cell (p := ⟨w.heap.size + 1, 2, none⟩) (by have := HSZ.out; simp; omega)).trans c11_2
      have HSW := Lib.hid hb.size
      clear hb c10_0 c10_1 c10_2 c10_3 c10_4 c10_5 c10_6 c10_7 c10_8 c11_0 c11_1 c11_2
      go_wp2
      go_ret
      exact ⟨rfl, HZ.out⟩
end Go.Proofs.Ytijdjbkmkopmnaa
