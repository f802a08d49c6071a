/-
  Walks: valid wagons and swaps, both sides.
-/
import Derived.Test.YtijdjbkmkopmnaaCb
import Derived.Test.YtijdjbkmkopmnaaEb
import Derived.Test.YtijdjbkmkopmnaaEc
namespace Go.Proofs.Ytijdjbkmkopmnaa
open Go.RowKit
set_option linter.unusedVariables false
set_option linter.unusedSimpArgs false

theorem isTypeB_any {a1 a2 a3 a4 : Option Addr} {n c1 m c2 k c3 h c4 : Nat} (t : Int) (hn : n ≤ 70368744177664) (w : World) : Calls Try.prog 29 #[.agg #[.slice a1 n c1, .slice a2 m c2, .slice a3 k c3, .slice a4 h c4], .int .i64 t] w fun e w' => e = .returned (.bool (rng 0 t ((n : Int) - 1))) ∧ Below w.heap.size w w' :=
  (isType_any w t hn).mono fun e w' h => ⟨h.1, h.2 ▸ ball (Below.refl _ _) _⟩
theorem index_at (i n m : Int) (hm : m = n - 1) (h : -9223372036854775807 ≤ n ∧ n ≤ 9223372036854775807) (w : World) : Calls Try.prog 79 #[.int .i64 i, .int .i64 n] w fun e w' => e = .returned (.bool (rng 0 i m)) ∧ w = w' := by
  subst hm; exact index_any i n w h
/-- A valid wagon; a valid swap. -/
def wOk (n : Int) (x : Wn) : Bool := rng 0 x.ty (n - 1) && (rng 0 x.ow 63 && (rng 0 x.ho 511 && (rng 0 x.bu 1073741824 && rng 0 x.wo 1099511627776)))
def sOk (n : Int) (x : Sw) : Bool := rng 0 x.wa (n - 1) && (rng 0 x.gi (n - 1) && ((x.wa != x.gi) && rng 0 x.co 1000000000))
set_option maxRecDepth 100000 in
set_option maxHeartbeats 4000000 in
theorem wagon_any {a1 a2 a3 a4 : Option Addr} {n c1 m c2 k c3 h c4 : Nat} (x : Wn) (hn : n ≤ 70368744177664) (w : World) (R : Bool) (hR : R = wOk n x) : Calls Try.prog 42 #[.agg #[.slice a1 n c1, .slice a2 m c2, .slice a3 k c3, .slice a4 h c4], .agg x.cs.toArray] w fun e w' => e = .returned (.bool R) ∧ Below w.heap.size w w' := by
  obtain ⟨A, B, C, D, E⟩ := x
  change Calls Try.prog 42 #[.agg #[.slice a1 n c1, .slice a2 m c2, .slice a3 k c3, .slice a4 h c4], .agg #[.int .i64 A, .int .i64 B, .int .i64 C, .int .i64 D, .int .i64 E]] w _
  obtain ⟨W, hW⟩ : ∃ W, W = ((w.alloc (.cells #[.slice a1 n c1, .slice a2 m c2, .slice a3 k c3, .slice a4 h c4] 27)).alloc (.cells #[.int .i64 A, .int .i64 B, .int .i64 C, .int .i64 D, .int .i64 E] 66)) := ⟨_, rfl⟩
  have hsz : W.heap.size = w.heap.size + 2 := by rw [hW]; simp
  have hB : Below w.heap.size w W := by rw [hW]; exact (ball (ball (Below.refl w.heap.size w) _) _)
  have hr0 : W.heap[w.heap.size]? = some (.cells #[.slice a1 n c1, .slice a2 m c2, .slice a3 k c3, .slice a4 h c4] 27 (0, 0)) := by rw [hW]; exact bold (bnew _ _)
  have hr1 : W.heap[w.heap.size + 1]? = some (.cells #[.int .i64 A, .int .i64 B, .int .i64 C, .int .i64 D, .int .i64 E] 66 (0, 0)) := by rw [hW]; have h := bnew (w.alloc (.cells #[.slice a1 n c1, .slice a2 m c2, .slice a3 k c3, .slice a4 h c4] 27)) (.cells #[.int .i64 A, .int .i64 B, .int .i64 C, .int .i64 D, .int .i64 E] 66); simpa using h
  have c0_0 : W.cell? ⟨w.heap.size, 0, none⟩ = some (.slice a1 n c1) := by rw [cell_of_row W _ 0 _ 27 (0, 0) hr0]; rfl
  have c0_1 : W.cell? ⟨w.heap.size, 1, none⟩ = some (.slice a2 m c2) := by rw [cell_of_row W _ 1 _ 27 (0, 0) hr0]; rfl
  have c0_2 : W.cell? ⟨w.heap.size, 2, none⟩ = some (.slice a3 k c3) := by rw [cell_of_row W _ 2 _ 27 (0, 0) hr0]; rfl
  have c0_3 : W.cell? ⟨w.heap.size, 3, none⟩ = some (.slice a4 h c4) := by rw [cell_of_row W _ 3 _ 27 (0, 0) hr0]; rfl
  have c1_0 : W.cell? ⟨w.heap.size + 1, 0, none⟩ = some (.int .i64 A) := by rw [cell_of_row W _ 0 _ 66 (0, 0) hr1]; rfl
  have c1_1 : W.cell? ⟨w.heap.size + 1, 1, none⟩ = some (.int .i64 B) := by rw [cell_of_row W _ 1 _ 66 (0, 0) hr1]; rfl
  have c1_2 : W.cell? ⟨w.heap.size + 1, 2, none⟩ = some (.int .i64 C) := by rw [cell_of_row W _ 2 _ 66 (0, 0) hr1]; rfl
  have c1_3 : W.cell? ⟨w.heap.size + 1, 3, none⟩ = some (.int .i64 D) := by rw [cell_of_row W _ 3 _ 66 (0, 0) hr1]; rfl
  have c1_4 : W.cell? ⟨w.heap.size + 1, 4, none⟩ = some (.int .i64 E) := by rw [cell_of_row W _ 4 _ 66 (0, 0) hr1]; rfl
  have HW := Lib.hid hW; have HB := Lib.hid hB; have HSZ := Lib.hid hsz
  clear hW hB hsz hr0 hr1
  cases hB0 : rng 0 A ((n : Int) - 1) with
  | false =>
    have H0 := Lib.hid (isTypeB_any (a1 := a1) (a2 := a2) (a3 := a3) (a4 := a4) (n := n) (c1 := c1) (m := m) (c2 := c2) (k := k) (c3 := c3) (h := h) (c4 := c4) A hn)
    rw [hB0] at H0
    obtain rfl : R = false := by rw [hR]; unfold wOk; simp only [hB0, Bool.false_and, Bool.true_and]
    clear hR hB0
    go_enter Try.func42, Try.ntmps42
    go_upto_region 1 with (fail)
    rw [← HW.out]
    clear HW
    go_wp2_with fail
    refine (H0.out _).mono ?_
    rintro e w0 ⟨rfl, hb⟩
    have HB0 := Lib.hid hb
    have d0_0_0 : w0.cell? ⟨w.heap.size, 0, none⟩ = some (.slice a1 n c1) := (hb.cell (p := ⟨w.heap.size, 0, none⟩) (by have := HSZ.out; simp; omega)).trans c0_0
    have d0_0_1 : w0.cell? ⟨w.heap.size, 1, none⟩ = some (.slice a2 m c2) := (hb.cell (p := ⟨w.heap.size, 1, none⟩) (by have := HSZ.out; simp; omega)).trans c0_1
    have d0_0_2 : w0.cell? ⟨w.heap.size, 2, none⟩ = some (.slice a3 k c3) := (hb.cell (p := ⟨w.heap.size, 2, none⟩) (by have := HSZ.out; simp; omega)).trans c0_2
    have d0_0_3 : w0.cell? ⟨w.heap.size, 3, none⟩ = some (.slice a4 h c4) := (hb.cell (p := ⟨w.heap.size, 3, none⟩) (by have := HSZ.out; simp; omega)).trans c0_3
    have d0_1_0 : w0.cell? ⟨w.heap.size + 1, 0, none⟩ = some (.int .i64 A) := (hb.cell (p := ⟨w.heap.size + 1, 0, none⟩) (by have := HSZ.out; simp; omega)).trans c1_0
    have d0_1_1 : w0.cell? ⟨w.heap.size + 1, 1, none⟩ = some (.int .i64 B) := (hb.cell (p := ⟨w.heap.size + 1, 1, none⟩) (by have := HSZ.out; simp; omega)).trans c1_1
    have d0_1_2 : w0.cell? ⟨w.heap.size + 1, 2, none⟩ = some (.int .i64 C) := (hb.cell (p := ⟨w.heap.size + 1, 2, none⟩) (by have := HSZ.out; simp; omega)).trans c1_2
    have d0_1_3 : w0.cell? ⟨w.heap.size + 1, 3, none⟩ = some (.int .i64 D) := (hb.cell (p := ⟨w.heap.size + 1, 3, none⟩) (by have := HSZ.out; simp; omega)).trans c1_3
    have d0_1_4 : w0.cell? ⟨w.heap.size + 1, 4, none⟩ = some (.int .i64 E) := (hb.cell (p := ⟨w.heap.size + 1, 4, none⟩) (by have := HSZ.out; simp; omega)).trans c1_4
    clear hb c0_0 c0_1 c0_2 c0_3 c1_0 c1_1 c1_2 c1_3 c1_4
    go_wp2
    go_ret
    exact ⟨rfl, (btrans HB.out HB0.out)⟩
  | true =>
    have H0 := Lib.hid (isTypeB_any (a1 := a1) (a2 := a2) (a3 := a3) (a4 := a4) (n := n) (c1 := c1) (m := m) (c2 := c2) (k := k) (c3 := c3) (h := h) (c4 := c4) A hn)
    rw [hB0] at H0
    cases hB1 : rng 0 B 63 with
    | false =>
      have H1 := Lib.hid (index_at B 64 63 (by omega) (by omega))
      rw [hB1] at H1
      obtain rfl : R = false := by rw [hR]; unfold wOk; simp only [hB0, hB1, Bool.false_and, Bool.true_and]
      clear hR hB0 hB1
      go_enter Try.func42, Try.ntmps42
      go_upto_region 1 with (fail)
      rw [← HW.out]
      clear HW
      go_wp2_with fail
      refine (H0.out _).mono ?_
      rintro e w0 ⟨rfl, hb⟩
      have HB0 := Lib.hid hb
      have d0_0_0 : w0.cell? ⟨w.heap.size, 0, none⟩ = some (.slice a1 n c1) := (hb.cell (p := ⟨w.heap.size, 0, none⟩) (by have := HSZ.out; simp; omega)).trans c0_0
      have d0_0_1 : w0.cell? ⟨w.heap.size, 1, none⟩ = some (.slice a2 m c2) := (hb.cell (p := ⟨w.heap.size, 1, none⟩) (by have := HSZ.out; simp; omega)).trans c0_1
      have d0_0_2 : w0.cell? ⟨w.heap.size, 2, none⟩ = some (.slice a3 k c3) := (hb.cell (p := ⟨w.heap.size, 2, none⟩) (by have := HSZ.out; simp; omega)).trans c0_2
      have d0_0_3 : w0.cell? ⟨w.heap.size, 3, none⟩ = some (.slice a4 h c4) := (hb.cell (p := ⟨w.heap.size, 3, none⟩) (by have := HSZ.out; simp; omega)).trans c0_3
      have d0_1_0 : w0.cell? ⟨w.heap.size + 1, 0, none⟩ = some (.int .i64 A) := (hb.cell (p := ⟨w.heap.size + 1, 0, none⟩) (by have := HSZ.out; simp; omega)).trans c1_0
      have d0_1_1 : w0.cell? ⟨w.heap.size + 1, 1, none⟩ = some (.int .i64 B) := (hb.cell (p := ⟨w.heap.size + 1, 1, none⟩) (by have := HSZ.out; simp; omega)).trans c1_1
      have d0_1_2 : w0.cell? ⟨w.heap.size + 1, 2, none⟩ = some (.int .i64 C) := (hb.cell (p := ⟨w.heap.size + 1, 2, none⟩) (by have := HSZ.out; simp; omega)).trans c1_2
      have d0_1_3 : w0.cell? ⟨w.heap.size + 1, 3, none⟩ = some (.int .i64 D) := (hb.cell (p := ⟨w.heap.size + 1, 3, none⟩) (by have := HSZ.out; simp; omega)).trans c1_3
      have d0_1_4 : w0.cell? ⟨w.heap.size + 1, 4, none⟩ = some (.int .i64 E) := (hb.cell (p := ⟨w.heap.size + 1, 4, none⟩) (by have := HSZ.out; simp; omega)).trans c1_4
      clear hb c0_0 c0_1 c0_2 c0_3 c1_0 c1_1 c1_2 c1_3 c1_4
      go_wp2_with fail
      refine (H1.out _).mono ?_
      rintro e w' ⟨rfl, rfl⟩
      go_wp2
      go_ret
      exact ⟨rfl, (btrans HB.out HB0.out)⟩
    | true =>
      have H1 := Lib.hid (index_at B 64 63 (by omega) (by omega))
      rw [hB1] at H1
      cases hB2 : rng 0 C 511 with
      | false =>
        have H2 := Lib.hid (index_at C 512 511 (by omega) (by omega))
        rw [hB2] at H2
        obtain rfl : R = false := by rw [hR]; unfold wOk; simp only [hB0, hB1, hB2, Bool.false_and, Bool.true_and]
        clear hR hB0 hB1 hB2
        go_enter Try.func42, Try.ntmps42
        go_upto_region 1 with (fail)
        rw [← HW.out]
        clear HW
        go_wp2_with fail
        refine (H0.out _).mono ?_
        rintro e w0 ⟨rfl, hb⟩
        have HB0 := Lib.hid hb
        have d0_0_0 : w0.cell? ⟨w.heap.size, 0, none⟩ = some (.slice a1 n c1) := (hb.cell (p := ⟨w.heap.size, 0, none⟩) (by have := HSZ.out; simp; omega)).trans c0_0
        have d0_0_1 : w0.cell? ⟨w.heap.size, 1, none⟩ = some (.slice a2 m c2) := (hb.cell (p := ⟨w.heap.size, 1, none⟩) (by have := HSZ.out; simp; omega)).trans c0_1
        have d0_0_2 : w0.cell? ⟨w.heap.size, 2, none⟩ = some (.slice a3 k c3) := (hb.cell (p := ⟨w.heap.size, 2, none⟩) (by have := HSZ.out; simp; omega)).trans c0_2
        have d0_0_3 : w0.cell? ⟨w.heap.size, 3, none⟩ = some (.slice a4 h c4) := (hb.cell (p := ⟨w.heap.size, 3, none⟩) (by have := HSZ.out; simp; omega)).trans c0_3
        have d0_1_0 : w0.cell? ⟨w.heap.size + 1, 0, none⟩ = some (.int .i64 A) := (hb.cell (p := ⟨w.heap.size + 1, 0, none⟩) (by have := HSZ.out; simp; omega)).trans c1_0
        have d0_1_1 : w0.cell? ⟨w.heap.size + 1, 1, none⟩ = some (.int .i64 B) := (hb.cell (p := ⟨w.heap.size + 1, 1, none⟩) (by have := HSZ.out; simp; omega)).trans c1_1
        have d0_1_2 : w0.cell? ⟨w.heap.size + 1, 2, none⟩ = some (.int .i64 C) := (hb.cell (p := ⟨w.heap.size + 1, 2, none⟩) (by have := HSZ.out; simp; omega)).trans c1_2
        have d0_1_3 : w0.cell? ⟨w.heap.size + 1, 3, none⟩ = some (.int .i64 D) := (hb.cell (p := ⟨w.heap.size + 1, 3, none⟩) (by have := HSZ.out; simp; omega)).trans c1_3
        have d0_1_4 : w0.cell? ⟨w.heap.size + 1, 4, none⟩ = some (.int .i64 E) := (hb.cell (p := ⟨w.heap.size + 1, 4, none⟩) (by have := HSZ.out; simp; omega)).trans c1_4
        clear hb c0_0 c0_1 c0_2 c0_3 c1_0 c1_1 c1_2 c1_3 c1_4
        go_wp2_with fail
        refine (H1.out _).mono ?_
        rintro e w' ⟨rfl, rfl⟩
        go_wp2_with fail
        refine (H2.out _).mono ?_
        rintro e w' ⟨rfl, rfl⟩
        go_wp2
        go_ret
        exact ⟨rfl, (btrans HB.out HB0.out)⟩
      | true =>
        have H2 := Lib.hid (index_at C 512 511 (by omega) (by omega))
        rw [hB2] at H2
        cases hB3 : rng 0 D 1073741824 with
        | false =>
          have H3 := Lib.hid (between_any 0 D 1073741824)
          rw [hB3] at H3
          obtain rfl : R = false := by rw [hR]; unfold wOk; simp only [hB0, hB1, hB2, hB3, Bool.false_and, Bool.true_and]
          clear hR hB0 hB1 hB2 hB3
          go_enter Try.func42, Try.ntmps42
          go_upto_region 1 with (fail)
          rw [← HW.out]
          clear HW
          go_wp2_with fail
          refine (H0.out _).mono ?_
          rintro e w0 ⟨rfl, hb⟩
          have HB0 := Lib.hid hb
          have d0_0_0 : w0.cell? ⟨w.heap.size, 0, none⟩ = some (.slice a1 n c1) := (hb.cell (p := ⟨w.heap.size, 0, none⟩) (by have := HSZ.out; simp; omega)).trans c0_0
          have d0_0_1 : w0.cell? ⟨w.heap.size, 1, none⟩ = some (.slice a2 m c2) := (hb.cell (p := ⟨w.heap.size, 1, none⟩) (by have := HSZ.out; simp; omega)).trans c0_1
          have d0_0_2 : w0.cell? ⟨w.heap.size, 2, none⟩ = some (.slice a3 k c3) := (hb.cell (p := ⟨w.heap.size, 2, none⟩) (by have := HSZ.out; simp; omega)).trans c0_2
          have d0_0_3 : w0.cell? ⟨w.heap.size, 3, none⟩ = some (.slice a4 h c4) := (hb.cell (p := ⟨w.heap.size, 3, none⟩) (by have := HSZ.out; simp; omega)).trans c0_3
          have d0_1_0 : w0.cell? ⟨w.heap.size + 1, 0, none⟩ = some (.int .i64 A) := (hb.cell (p := ⟨w.heap.size + 1, 0, none⟩) (by have := HSZ.out; simp; omega)).trans c1_0
          have d0_1_1 : w0.cell? ⟨w.heap.size + 1, 1, none⟩ = some (.int .i64 B) := (hb.cell (p := ⟨w.heap.size + 1, 1, none⟩) (by have := HSZ.out; simp; omega)).trans c1_1
          have d0_1_2 : w0.cell? ⟨w.heap.size + 1, 2, none⟩ = some (.int .i64 C) := (hb.cell (p := ⟨w.heap.size + 1, 2, none⟩) (by have := HSZ.out; simp; omega)).trans c1_2
          have d0_1_3 : w0.cell? ⟨w.heap.size + 1, 3, none⟩ = some (.int .i64 D) := (hb.cell (p := ⟨w.heap.size + 1, 3, none⟩) (by have := HSZ.out; simp; omega)).trans c1_3
          have d0_1_4 : w0.cell? ⟨w.heap.size + 1, 4, none⟩ = some (.int .i64 E) := (hb.cell (p := ⟨w.heap.size + 1, 4, none⟩) (by have := HSZ.out; simp; omega)).trans c1_4
          clear hb c0_0 c0_1 c0_2 c0_3 c1_0 c1_1 c1_2 c1_3 c1_4
          go_wp2_with fail
          refine (H1.out _).mono ?_
          rintro e w' ⟨rfl, rfl⟩
          go_wp2_with fail
          refine (H2.out _).mono ?_
          rintro e w' ⟨rfl, rfl⟩
          go_wp2_with fail
          refine (H3.out _).mono ?_
          rintro e w' ⟨rfl, rfl⟩
          go_wp2
          go_ret
          exact ⟨rfl, (btrans HB.out HB0.out)⟩
        | true =>
          have H3 := Lib.hid (between_any 0 D 1073741824)
          rw [hB3] at H3
          cases hB4 : rng 0 E 1099511627776 with
          | false =>
            have H4 := Lib.hid (between_any 0 E 1099511627776)
            rw [hB4] at H4
            obtain rfl : R = false := by rw [hR]; unfold wOk; simp only [hB0, hB1, hB2, hB3, hB4, Bool.false_and, Bool.true_and]
            clear hR hB0 hB1 hB2 hB3 hB4
            go_enter Try.func42, Try.ntmps42
            go_upto_region 1 with (fail)
            rw [← HW.out]
            clear HW
            go_wp2_with fail
            refine (H0.out _).mono ?_
            rintro e w0 ⟨rfl, hb⟩
            have HB0 := Lib.hid hb
            have d0_0_0 : w0.cell? ⟨w.heap.size, 0, none⟩ = some (.slice a1 n c1) := (hb.cell (p := ⟨w.heap.size, 0, none⟩) (by have := HSZ.out; simp; omega)).trans c0_0
            have d0_0_1 : w0.cell? ⟨w.heap.size, 1, none⟩ = some (.slice a2 m c2) := (hb.cell (p := ⟨w.heap.size, 1, none⟩) (by have := HSZ.out; simp; omega)).trans c0_1
            have d0_0_2 : w0.cell? ⟨w.heap.size, 2, none⟩ = some (.slice a3 k c3) := (hb.cell (p := ⟨w.heap.size, 2, none⟩) (by have := HSZ.out; simp; omega)).trans c0_2
            have d0_0_3 : w0.cell? ⟨w.heap.size, 3, none⟩ = some (.slice a4 h c4) := (hb.cell (p := ⟨w.heap.size, 3, none⟩) (by have := HSZ.out; simp; omega)).trans c0_3
            have d0_1_0 : w0.cell? ⟨w.heap.size + 1, 0, none⟩ = some (.int .i64 A) := (hb.cell (p := ⟨w.heap.size + 1, 0, none⟩) (by have := HSZ.out; simp; omega)).trans c1_0
            have d0_1_1 : w0.cell? ⟨w.heap.size + 1, 1, none⟩ = some (.int .i64 B) := (hb.cell (p := ⟨w.heap.size + 1, 1, none⟩) (by have := HSZ.out; simp; omega)).trans c1_1
            have d0_1_2 : w0.cell? ⟨w.heap.size + 1, 2, none⟩ = some (.int .i64 C) := (hb.cell (p := ⟨w.heap.size + 1, 2, none⟩) (by have := HSZ.out; simp; omega)).trans c1_2
            have d0_1_3 : w0.cell? ⟨w.heap.size + 1, 3, none⟩ = some (.int .i64 D) := (hb.cell (p := ⟨w.heap.size + 1, 3, none⟩) (by have := HSZ.out; simp; omega)).trans c1_3
            have d0_1_4 : w0.cell? ⟨w.heap.size + 1, 4, none⟩ = some (.int .i64 E) := (hb.cell (p := ⟨w.heap.size + 1, 4, none⟩) (by have := HSZ.out; simp; omega)).trans c1_4
            clear hb c0_0 c0_1 c0_2 c0_3 c1_0 c1_1 c1_2 c1_3 c1_4
            go_wp2_with fail
            refine (H1.out _).mono ?_
            rintro e w' ⟨rfl, rfl⟩
            go_wp2_with fail
            refine (H2.out _).mono ?_
            rintro e w' ⟨rfl, rfl⟩
            go_wp2_with fail
            refine (H3.out _).mono ?_
            rintro e w' ⟨rfl, rfl⟩
            go_wp2_with fail
            refine (H4.out _).mono ?_
            rintro e w' ⟨rfl, rfl⟩
            go_wp2
            go_ret
            exact ⟨rfl, (btrans HB.out HB0.out)⟩
          | true =>
            have H4 := Lib.hid (between_any 0 E 1099511627776)
            rw [hB4] at H4
            obtain rfl : R = true := by rw [hR]; unfold wOk; simp only [hB0, hB1, hB2, hB3, hB4, Bool.true_and]
            clear hR hB0 hB1 hB2 hB3 hB4
            go_enter Try.func42, Try.ntmps42
            go_upto_region 1 with (fail)
            rw [← HW.out]
            clear HW
            go_wp2_with fail
            refine (H0.out _).mono ?_
            rintro e w0 ⟨rfl, hb⟩
            have HB0 := Lib.hid hb
            have d0_0_0 : w0.cell? ⟨w.heap.size, 0, none⟩ = some (.slice a1 n c1) := (hb.cell (p := ⟨w.heap.size, 0, none⟩) (by have := HSZ.out; simp; omega)).trans c0_0
            have d0_0_1 : w0.cell? ⟨w.heap.size, 1, none⟩ = some (.slice a2 m c2) := (hb.cell (p := ⟨w.heap.size, 1, none⟩) (by have := HSZ.out; simp; omega)).trans c0_1
            have d0_0_2 : w0.cell? ⟨w.heap.size, 2, none⟩ = some (.slice a3 k c3) := (hb.cell (p := ⟨w.heap.size, 2, none⟩) (by have := HSZ.out; simp; omega)).trans c0_2
            have d0_0_3 : w0.cell? ⟨w.heap.size, 3, none⟩ = some (.slice a4 h c4) := (hb.cell (p := ⟨w.heap.size, 3, none⟩) (by have := HSZ.out; simp; omega)).trans c0_3
            have d0_1_0 : w0.cell? ⟨w.heap.size + 1, 0, none⟩ = some (.int .i64 A) := (hb.cell (p := ⟨w.heap.size + 1, 0, none⟩) (by have := HSZ.out; simp; omega)).trans c1_0
            have d0_1_1 : w0.cell? ⟨w.heap.size + 1, 1, none⟩ = some (.int .i64 B) := (hb.cell (p := ⟨w.heap.size + 1, 1, none⟩) (by have := HSZ.out; simp; omega)).trans c1_1
            have d0_1_2 : w0.cell? ⟨w.heap.size + 1, 2, none⟩ = some (.int .i64 C) := (hb.cell (p := ⟨w.heap.size + 1, 2, none⟩) (by have := HSZ.out; simp; omega)).trans c1_2
            have d0_1_3 : w0.cell? ⟨w.heap.size + 1, 3, none⟩ = some (.int .i64 D) := (hb.cell (p := ⟨w.heap.size + 1, 3, none⟩) (by have := HSZ.out; simp; omega)).trans c1_3
            have d0_1_4 : w0.cell? ⟨w.heap.size + 1, 4, none⟩ = some (.int .i64 E) := (hb.cell (p := ⟨w.heap.size + 1, 4, none⟩) (by have := HSZ.out; simp; omega)).trans c1_4
            clear hb c0_0 c0_1 c0_2 c0_3 c1_0 c1_1 c1_2 c1_3 c1_4
            go_wp2_with fail
            refine (H1.out _).mono ?_
            rintro e w' ⟨rfl, rfl⟩
            go_wp2_with fail
            refine (H2.out _).mono ?_
            rintro e w' ⟨rfl, rfl⟩
            go_wp2_with fail
            refine (H3.out _).mono ?_
            rintro e w' ⟨rfl, rfl⟩
            go_wp2_with fail
            refine (H4.out _).mono ?_
            rintro e w' ⟨rfl, rfl⟩
            go_wp2
            go_ret
            exact ⟨rfl, (btrans HB.out HB0.out)⟩
set_option maxRecDepth 100000 in
set_option maxHeartbeats 4000000 in
theorem rwagon_any (x : Wn) (n : Nat) (hn : n ≤ 70368744177664) (w : World) (R : Bool) (hR : R = wOk n x) : Calls Try.prog 49 #[.agg x.cs.toArray, .int .i64 (n : Int)] w fun e w' => e = .returned (.bool R) ∧ Below w.heap.size w w' := by
  obtain ⟨A, B, C, D, E⟩ := x
  change Calls Try.prog 49 #[.agg #[.int .i64 A, .int .i64 B, .int .i64 C, .int .i64 D, .int .i64 E], .int .i64 (n : Int)] w _
  have hwr : IntKind.i64.wrap ((n : Int) - 1) = (n : Int) - 1 := wrap_in (by omega) (by omega)
  obtain ⟨W, hW⟩ : ∃ W, W = (w.alloc (.cells #[.int .i64 A, .int .i64 B, .int .i64 C, .int .i64 D, .int .i64 E] 66)) := ⟨_, rfl⟩
  have hsz : W.heap.size = w.heap.size + 1 := by rw [hW]; simp
  have hB : Below w.heap.size w W := by rw [hW]; exact (ball (Below.refl w.heap.size w) _)
  have hr0 : W.heap[w.heap.size]? = some (.cells #[.int .i64 A, .int .i64 B, .int .i64 C, .int .i64 D, .int .i64 E] 66 (0, 0)) := by rw [hW]; have h := bnew w (.cells #[.int .i64 A, .int .i64 B, .int .i64 C, .int .i64 D, .int .i64 E] 66); simpa using h
  have c0_0 : W.cell? ⟨w.heap.size, 0, none⟩ = some (.int .i64 A) := by rw [cell_of_row W _ 0 _ 66 (0, 0) hr0]; rfl
  have c0_1 : W.cell? ⟨w.heap.size, 1, none⟩ = some (.int .i64 B) := by rw [cell_of_row W _ 1 _ 66 (0, 0) hr0]; rfl
  have c0_2 : W.cell? ⟨w.heap.size, 2, none⟩ = some (.int .i64 C) := by rw [cell_of_row W _ 2 _ 66 (0, 0) hr0]; rfl
  have c0_3 : W.cell? ⟨w.heap.size, 3, none⟩ = some (.int .i64 D) := by rw [cell_of_row W _ 3 _ 66 (0, 0) hr0]; rfl
  have c0_4 : W.cell? ⟨w.heap.size, 4, none⟩ = some (.int .i64 E) := by rw [cell_of_row W _ 4 _ 66 (0, 0) hr0]; rfl
  have HW := Lib.hid hW; have HB := Lib.hid hB; have HSZ := Lib.hid hsz
  clear hW hB hsz hr0
  cases hB0 : rng 0 A ((n : Int) - 1) with
  | false =>
    have H0 := Lib.hid (within_any 0 A ((n : Int) - 1))
    rw [hB0] at H0
    obtain rfl : R = false := by rw [hR]; unfold wOk; simp only [hB0, Bool.false_and, Bool.true_and]
    clear hR hB0
    go_enter Try.func49, Try.ntmps49
    go_upto_region 1 with (fail)
    rw [← HW.out]
    clear HW
    go_wp2_with fail
    refine (H0.out _).mono ?_
    rintro e w' ⟨rfl, rfl⟩
    go_wp2
    go_ret
    exact ⟨rfl, HB.out⟩
  | true =>
    have H0 := Lib.hid (within_any 0 A ((n : Int) - 1))
    rw [hB0] at H0
    cases hB1 : rng 0 B 63 with
    | false =>
      have H1 := Lib.hid (within_any 0 B 63)
      rw [hB1] at H1
      obtain rfl : R = false := by rw [hR]; unfold wOk; simp only [hB0, hB1, Bool.false_and, Bool.true_and]
      clear hR hB0 hB1
      go_enter Try.func49, Try.ntmps49
      go_upto_region 1 with (fail)
      rw [← HW.out]
      clear HW
      go_wp2_with fail
      refine (H0.out _).mono ?_
      rintro e w' ⟨rfl, rfl⟩
      go_wp2_with fail
      refine (H1.out _).mono ?_
      rintro e w' ⟨rfl, rfl⟩
      go_wp2
      go_ret
      exact ⟨rfl, HB.out⟩
    | true =>
      have H1 := Lib.hid (within_any 0 B 63)
      rw [hB1] at H1
      cases hB2 : rng 0 C 511 with
      | false =>
        have H2 := Lib.hid (within_any 0 C 511)
        rw [hB2] at H2
        obtain rfl : R = false := by rw [hR]; unfold wOk; simp only [hB0, hB1, hB2, Bool.false_and, Bool.true_and]
        clear hR hB0 hB1 hB2
        go_enter Try.func49, Try.ntmps49
        go_upto_region 1 with (fail)
        rw [← HW.out]
        clear HW
        go_wp2_with fail
        refine (H0.out _).mono ?_
        rintro e w' ⟨rfl, rfl⟩
        go_wp2_with fail
        refine (H1.out _).mono ?_
        rintro e w' ⟨rfl, rfl⟩
        go_wp2_with fail
        refine (H2.out _).mono ?_
        rintro e w' ⟨rfl, rfl⟩
        go_wp2
        go_ret
        exact ⟨rfl, HB.out⟩
      | true =>
        have H2 := Lib.hid (within_any 0 C 511)
        rw [hB2] at H2
        cases hB3 : rng 0 D 1073741824 with
        | false =>
          have H3 := Lib.hid (within_any 0 D 1073741824)
          rw [hB3] at H3
          obtain rfl : R = false := by rw [hR]; unfold wOk; simp only [hB0, hB1, hB2, hB3, Bool.false_and, Bool.true_and]
          clear hR hB0 hB1 hB2 hB3
          go_enter Try.func49, Try.ntmps49
          go_upto_region 1 with (fail)
          rw [← HW.out]
          clear HW
          go_wp2_with fail
          refine (H0.out _).mono ?_
          rintro e w' ⟨rfl, rfl⟩
          go_wp2_with fail
          refine (H1.out _).mono ?_
          rintro e w' ⟨rfl, rfl⟩
          go_wp2_with fail
          refine (H2.out _).mono ?_
          rintro e w' ⟨rfl, rfl⟩
          go_wp2_with fail
          refine (H3.out _).mono ?_
          rintro e w' ⟨rfl, rfl⟩
          go_wp2
          go_ret
          exact ⟨rfl, HB.out⟩
        | true =>
          have H3 := Lib.hid (within_any 0 D 1073741824)
          rw [hB3] at H3
          cases hB4 : rng 0 E 1099511627776 with
          | false =>
            have H4 := Lib.hid (within_any 0 E 1099511627776)
            rw [hB4] at H4
            obtain rfl : R = false := by rw [hR]; unfold wOk; simp only [hB0, hB1, hB2, hB3, hB4, Bool.false_and, Bool.true_and]
            clear hR hB0 hB1 hB2 hB3 hB4
            go_enter Try.func49, Try.ntmps49
            go_upto_region 1 with (fail)
            rw [← HW.out]
            clear HW
            go_wp2_with fail
            refine (H0.out _).mono ?_
            rintro e w' ⟨rfl, rfl⟩
            go_wp2_with fail
            refine (H1.out _).mono ?_
            rintro e w' ⟨rfl, rfl⟩
            go_wp2_with fail
            refine (H2.out _).mono ?_
            rintro e w' ⟨rfl, rfl⟩
            go_wp2_with fail
            refine (H3.out _).mono ?_
            rintro e w' ⟨rfl, rfl⟩
            go_wp2_with fail
            refine (H4.out _).mono ?_
            rintro e w' ⟨rfl, rfl⟩
            go_wp2
            go_ret
            exact ⟨rfl, HB.out⟩
          | true =>
            have H4 := Lib.hid (within_any 0 E 1099511627776)
            rw [hB4] at H4
            obtain rfl : R = true := by rw [hR]; unfold wOk; simp only [hB0, hB1, hB2, hB3, hB4, Bool.true_and]
            clear hR hB0 hB1 hB2 hB3 hB4
            go_enter Try.func49, Try.ntmps49
            go_upto_region 1 with (fail)
            rw [← HW.out]
            clear HW
            go_wp2_with fail
            refine (H0.out _).mono ?_
            rintro e w' ⟨rfl, rfl⟩
            go_wp2_with fail
            refine (H1.out _).mono ?_
            rintro e w' ⟨rfl, rfl⟩
            go_wp2_with fail
            refine (H2.out _).mono ?_
            rintro e w' ⟨rfl, rfl⟩
            go_wp2_with fail
            refine (H3.out _).mono ?_
            rintro e w' ⟨rfl, rfl⟩
            go_wp2_with fail
            refine (H4.out _).mono ?_
            rintro e w' ⟨rfl, rfl⟩
            go_wp2
            go_ret
            exact ⟨rfl, HB.out⟩
set_option maxRecDepth 100000 in
set_option maxHeartbeats 4000000 in
theorem swap_any {a1 a2 a3 a4 : Option Addr} {n c1 m c2 k c3 h c4 : Nat} (x : Sw) (hn : n ≤ 70368744177664) (w : World) (R : Bool) (hR : R = sOk n x) : Calls Try.prog 45 #[.agg #[.slice a1 n c1, .slice a2 m c2, .slice a3 k c3, .slice a4 h c4], .agg x.cs.toArray] w fun e w' => e = .returned (.bool R) ∧ Below w.heap.size w w' := by
  obtain ⟨A, B, C⟩ := x
  change Calls Try.prog 45 #[.agg #[.slice a1 n c1, .slice a2 m c2, .slice a3 k c3, .slice a4 h c4], .agg #[.int .i64 A, .int .i64 B, .int .i64 C]] w _
  by_cases hne : A = B
  · have d0 : (A != B) = false := by simpa using hne
    replace hR : R = (rng 0 A ((n : Int) - 1) && (rng 0 B ((n : Int) - 1) && false)) := by rw [hR]; unfold sOk; simp only [d0, Bool.false_and]
    clear hne
    obtain ⟨W, hW⟩ : ∃ W, W = ((w.alloc (.cells #[.slice a1 n c1, .slice a2 m c2, .slice a3 k c3, .slice a4 h c4] 27)).alloc (.cells #[.int .i64 A, .int .i64 B, .int .i64 C] 62)) := ⟨_, rfl⟩
    have hsz : W.heap.size = w.heap.size + 2 := by rw [hW]; simp
    have hB : Below w.heap.size w W := by rw [hW]; exact (ball (ball (Below.refl w.heap.size w) _) _)
    have hr0 : W.heap[w.heap.size]? = some (.cells #[.slice a1 n c1, .slice a2 m c2, .slice a3 k c3, .slice a4 h c4] 27 (0, 0)) := by rw [hW]; exact bold (bnew _ _)
    have hr1 : W.heap[w.heap.size + 1]? = some (.cells #[.int .i64 A, .int .i64 B, .int .i64 C] 62 (0, 0)) := by rw [hW]; have h := bnew (w.alloc (.cells #[.slice a1 n c1, .slice a2 m c2, .slice a3 k c3, .slice a4 h c4] 27)) (.cells #[.int .i64 A, .int .i64 B, .int .i64 C] 62); simpa using h
    have c0_0 : W.cell? ⟨w.heap.size, 0, none⟩ = some (.slice a1 n c1) := by rw [cell_of_row W _ 0 _ 27 (0, 0) hr0]; rfl
    have c0_1 : W.cell? ⟨w.heap.size, 1, none⟩ = some (.slice a2 m c2) := by rw [cell_of_row W _ 1 _ 27 (0, 0) hr0]; rfl
    have c0_2 : W.cell? ⟨w.heap.size, 2, none⟩ = some (.slice a3 k c3) := by rw [cell_of_row W _ 2 _ 27 (0, 0) hr0]; rfl
    have c0_3 : W.cell? ⟨w.heap.size, 3, none⟩ = some (.slice a4 h c4) := by rw [cell_of_row W _ 3 _ 27 (0, 0) hr0]; rfl
    have c1_0 : W.cell? ⟨w.heap.size + 1, 0, none⟩ = some (.int .i64 A) := by rw [cell_of_row W _ 0 _ 62 (0, 0) hr1]; rfl
    have c1_1 : W.cell? ⟨w.heap.size + 1, 1, none⟩ = some (.int .i64 B) := by rw [cell_of_row W _ 1 _ 62 (0, 0) hr1]; rfl
    have c1_2 : W.cell? ⟨w.heap.size + 1, 2, none⟩ = some (.int .i64 C) := by rw [cell_of_row W _ 2 _ 62 (0, 0) hr1]; rfl
    have HW := Lib.hid hW; have HB := Lib.hid hB; have HSZ := Lib.hid hsz
    clear hW hB hsz hr0 hr1
    cases hB0 : rng 0 A ((n : Int) - 1) with
    | false =>
      have H0 := Lib.hid (isTypeB_any (a1 := a1) (a2 := a2) (a3 := a3) (a4 := a4) (n := n) (c1 := c1) (m := m) (c2 := c2) (k := k) (c3 := c3) (h := h) (c4 := c4) A hn)
      rw [hB0] at H0
      obtain rfl : R = false := by rw [hR]; simp only [hB0, Bool.false_and, Bool.and_false]
      clear hR hB0
      go_enter Try.func45, Try.ntmps45
      go_upto_region 1 with (fail)
      rw [← HW.out]
      clear HW
      go_wp2_with fail
      refine (H0.out _).mono ?_
      rintro e w0 ⟨rfl, hb⟩
      have HB0 := Lib.hid hb
      have d0_0_0 : w0.cell? ⟨w.heap.size, 0, none⟩ = some (.slice a1 n c1) := (hb.cell (p := ⟨w.heap.size, 0, none⟩) (by have := HSZ.out; simp; omega)).trans c0_0
      have d0_0_1 : w0.cell? ⟨w.heap.size, 1, none⟩ = some (.slice a2 m c2) := (hb.cell (p := ⟨w.heap.size, 1, none⟩) (by have := HSZ.out; simp; omega)).trans c0_1
      have d0_0_2 : w0.cell? ⟨w.heap.size, 2, none⟩ = some (.slice a3 k c3) := (hb.cell (p := ⟨w.heap.size, 2, none⟩) (by have := HSZ.out; simp; omega)).trans c0_2
      have d0_0_3 : w0.cell? ⟨w.heap.size, 3, none⟩ = some (.slice a4 h c4) := (hb.cell (p := ⟨w.heap.size, 3, none⟩) (by have := HSZ.out; simp; omega)).trans c0_3
      have d0_1_0 : w0.cell? ⟨w.heap.size + 1, 0, none⟩ = some (.int .i64 A) := (hb.cell (p := ⟨w.heap.size + 1, 0, none⟩) (by have := HSZ.out; simp; omega)).trans c1_0
      have d0_1_1 : w0.cell? ⟨w.heap.size + 1, 1, none⟩ = some (.int .i64 B) := (hb.cell (p := ⟨w.heap.size + 1, 1, none⟩) (by have := HSZ.out; simp; omega)).trans c1_1
      have d0_1_2 : w0.cell? ⟨w.heap.size + 1, 2, none⟩ = some (.int .i64 C) := (hb.cell (p := ⟨w.heap.size + 1, 2, none⟩) (by have := HSZ.out; simp; omega)).trans c1_2
      clear hb c0_0 c0_1 c0_2 c0_3 c1_0 c1_1 c1_2
      go_wp2
      go_ret
      exact ⟨rfl, (btrans HB.out HB0.out)⟩
    | true =>
      have H0 := Lib.hid (isTypeB_any (a1 := a1) (a2 := a2) (a3 := a3) (a4 := a4) (n := n) (c1 := c1) (m := m) (c2 := c2) (k := k) (c3 := c3) (h := h) (c4 := c4) A hn)
      rw [hB0] at H0
      cases hB1 : rng 0 B ((n : Int) - 1) with
      | false =>
        have H1 := Lib.hid (isTypeB_any (a1 := a1) (a2 := a2) (a3 := a3) (a4 := a4) (n := n) (c1 := c1) (m := m) (c2 := c2) (k := k) (c3 := c3) (h := h) (c4 := c4) B hn)
        rw [hB1] at H1
        obtain rfl : R = false := by rw [hR]; simp only [hB0, hB1, Bool.false_and, Bool.and_false]
        clear hR hB0 hB1
        go_enter Try.func45, Try.ntmps45
        go_upto_region 1 with (fail)
        rw [← HW.out]
        clear HW
        go_wp2_with fail
        refine (H0.out _).mono ?_
        rintro e w0 ⟨rfl, hb⟩
        have HB0 := Lib.hid hb
        have d0_0_0 : w0.cell? ⟨w.heap.size, 0, none⟩ = some (.slice a1 n c1) := (hb.cell (p := ⟨w.heap.size, 0, none⟩) (by have := HSZ.out; simp; omega)).trans c0_0
        have d0_0_1 : w0.cell? ⟨w.heap.size, 1, none⟩ = some (.slice a2 m c2) := (hb.cell (p := ⟨w.heap.size, 1, none⟩) (by have := HSZ.out; simp; omega)).trans c0_1
        have d0_0_2 : w0.cell? ⟨w.heap.size, 2, none⟩ = some (.slice a3 k c3) := (hb.cell (p := ⟨w.heap.size, 2, none⟩) (by have := HSZ.out; simp; omega)).trans c0_2
        have d0_0_3 : w0.cell? ⟨w.heap.size, 3, none⟩ = some (.slice a4 h c4) := (hb.cell (p := ⟨w.heap.size, 3, none⟩) (by have := HSZ.out; simp; omega)).trans c0_3
        have d0_1_0 : w0.cell? ⟨w.heap.size + 1, 0, none⟩ = some (.int .i64 A) := (hb.cell (p := ⟨w.heap.size + 1, 0, none⟩) (by have := HSZ.out; simp; omega)).trans c1_0
        have d0_1_1 : w0.cell? ⟨w.heap.size + 1, 1, none⟩ = some (.int .i64 B) := (hb.cell (p := ⟨w.heap.size + 1, 1, none⟩) (by have := HSZ.out; simp; omega)).trans c1_1
        have d0_1_2 : w0.cell? ⟨w.heap.size + 1, 2, none⟩ = some (.int .i64 C) := (hb.cell (p := ⟨w.heap.size + 1, 2, none⟩) (by have := HSZ.out; simp; omega)).trans c1_2
        clear hb c0_0 c0_1 c0_2 c0_3 c1_0 c1_1 c1_2
        go_wp2_with fail
        refine (H1.out _).mono ?_
        rintro e w1 ⟨rfl, hb⟩
        have HB1 := Lib.hid hb
        have d1_0_0 : w1.cell? ⟨w.heap.size, 0, none⟩ = some (.slice a1 n c1) := (hb.cell (p := ⟨w.heap.size, 0, none⟩) (by have := HSZ.out; have := HB0.out.size; simp; omega)).trans d0_0_0
        have d1_0_1 : w1.cell? ⟨w.heap.size, 1, none⟩ = some (.slice a2 m c2) := (hb.cell (p := ⟨w.heap.size, 1, none⟩) (by have := HSZ.out; have := HB0.out.size; simp; omega)).trans d0_0_1
        have d1_0_2 : w1.cell? ⟨w.heap.size, 2, none⟩ = some (.slice a3 k c3) := (hb.cell (p := ⟨w.heap.size, 2, none⟩) (by have := HSZ.out; have := HB0.out.size; simp; omega)).trans d0_0_2
        have d1_0_3 : w1.cell? ⟨w.heap.size, 3, none⟩ = some (.slice a4 h c4) := (hb.cell (p := ⟨w.heap.size, 3, none⟩) (by have := HSZ.out; have := HB0.out.size; simp; omega)).trans d0_0_3
        have d1_1_0 : w1.cell? ⟨w.heap.size + 1, 0, none⟩ = some (.int .i64 A) := (hb.cell (p := ⟨w.heap.size + 1, 0, none⟩) (by have := HSZ.out; have := HB0.out.size; simp; omega)).trans d0_1_0
        have d1_1_1 : w1.cell? ⟨w.heap.size + 1, 1, none⟩ = some (.int .i64 B) := (hb.cell (p := ⟨w.heap.size + 1, 1, none⟩) (by have := HSZ.out; have := HB0.out.size; simp; omega)).trans d0_1_1
        have d1_1_2 : w1.cell? ⟨w.heap.size + 1, 2, none⟩ = some (.int .i64 C) := (hb.cell (p := ⟨w.heap.size + 1, 2, none⟩) (by have := HSZ.out; have := HB0.out.size; simp; omega)).trans d0_1_2
        clear hb d0_0_0 d0_0_1 d0_0_2 d0_0_3 d0_1_0 d0_1_1 d0_1_2
        go_wp2
        go_ret
        exact ⟨rfl, (btrans (btrans HB.out HB0.out) HB1.out)⟩
      | true =>
        have H1 := Lib.hid (isTypeB_any (a1 := a1) (a2 := a2) (a3 := a3) (a4 := a4) (n := n) (c1 := c1) (m := m) (c2 := c2) (k := k) (c3 := c3) (h := h) (c4 := c4) B hn)
        rw [hB1] at H1
        obtain rfl : R = false := by rw [hR]; simp only [Bool.and_false]
        clear hR hB0 hB1
        go_enter Try.func45, Try.ntmps45
        go_upto_region 1 with (fail)
        rw [← HW.out]
        clear HW
        go_wp2_with fail
        refine (H0.out _).mono ?_
        rintro e w0 ⟨rfl, hb⟩
        have HB0 := Lib.hid hb
        have d0_0_0 : w0.cell? ⟨w.heap.size, 0, none⟩ = some (.slice a1 n c1) := (hb.cell (p := ⟨w.heap.size, 0, none⟩) (by have := HSZ.out; simp; omega)).trans c0_0
        have d0_0_1 : w0.cell? ⟨w.heap.size, 1, none⟩ = some (.slice a2 m c2) := (hb.cell (p := ⟨w.heap.size, 1, none⟩) (by have := HSZ.out; simp; omega)).trans c0_1
        have d0_0_2 : w0.cell? ⟨w.heap.size, 2, none⟩ = some (.slice a3 k c3) := (hb.cell (p := ⟨w.heap.size, 2, none⟩) (by have := HSZ.out; simp; omega)).trans c0_2
        have d0_0_3 : w0.cell? ⟨w.heap.size, 3, none⟩ = some (.slice a4 h c4) := (hb.cell (p := ⟨w.heap.size, 3, none⟩) (by have := HSZ.out; simp; omega)).trans c0_3
        have d0_1_0 : w0.cell? ⟨w.heap.size + 1, 0, none⟩ = some (.int .i64 A) := (hb.cell (p := ⟨w.heap.size + 1, 0, none⟩) (by have := HSZ.out; simp; omega)).trans c1_0
        have d0_1_1 : w0.cell? ⟨w.heap.size + 1, 1, none⟩ = some (.int .i64 B) := (hb.cell (p := ⟨w.heap.size + 1, 1, none⟩) (by have := HSZ.out; simp; omega)).trans c1_1
        have d0_1_2 : w0.cell? ⟨w.heap.size + 1, 2, none⟩ = some (.int .i64 C) := (hb.cell (p := ⟨w.heap.size + 1, 2, none⟩) (by have := HSZ.out; simp; omega)).trans c1_2
        clear hb c0_0 c0_1 c0_2 c0_3 c1_0 c1_1 c1_2
        go_wp2_with fail
        refine (H1.out _).mono ?_
        rintro e w1 ⟨rfl, hb⟩
        have HB1 := Lib.hid hb
        have d1_0_0 : w1.cell? ⟨w.heap.size, 0, none⟩ = some (.slice a1 n c1) := (hb.cell (p := ⟨w.heap.size, 0, none⟩) (by have := HSZ.out; have := HB0.out.size; simp; omega)).trans d0_0_0
        have d1_0_1 : w1.cell? ⟨w.heap.size, 1, none⟩ = some (.slice a2 m c2) := (hb.cell (p := ⟨w.heap.size, 1, none⟩) (by have := HSZ.out; have := HB0.out.size; simp; omega)).trans d0_0_1
        have d1_0_2 : w1.cell? ⟨w.heap.size, 2, none⟩ = some (.slice a3 k c3) := (hb.cell (p := ⟨w.heap.size, 2, none⟩) (by have := HSZ.out; have := HB0.out.size; simp; omega)).trans d0_0_2
        have d1_0_3 : w1.cell? ⟨w.heap.size, 3, none⟩ = some (.slice a4 h c4) := (hb.cell (p := ⟨w.heap.size, 3, none⟩) (by have := HSZ.out; have := HB0.out.size; simp; omega)).trans d0_0_3
        have d1_1_0 : w1.cell? ⟨w.heap.size + 1, 0, none⟩ = some (.int .i64 A) := (hb.cell (p := ⟨w.heap.size + 1, 0, none⟩) (by have := HSZ.out; have := HB0.out.size; simp; omega)).trans d0_1_0
        have d1_1_1 : w1.cell? ⟨w.heap.size + 1, 1, none⟩ = some (.int .i64 B) := (hb.cell (p := ⟨w.heap.size + 1, 1, none⟩) (by have := HSZ.out; have := HB0.out.size; simp; omega)).trans d0_1_1
        have d1_1_2 : w1.cell? ⟨w.heap.size + 1, 2, none⟩ = some (.int .i64 C) := (hb.cell (p := ⟨w.heap.size + 1, 2, none⟩) (by have := HSZ.out; have := HB0.out.size; simp; omega)).trans d0_1_2
        clear hb d0_0_0 d0_0_1 d0_0_2 d0_0_3 d0_1_0 d0_1_1 d0_1_2
        go_wp2
        go_ret
        exact ⟨rfl, (btrans (btrans HB.out HB0.out) HB1.out)⟩
  · have d0 : (A != B) = true := by simpa using hne
    replace hR : R = (rng 0 A ((n : Int) - 1) && (rng 0 B ((n : Int) - 1) && rng 0 C 1000000000)) := by rw [hR]; unfold sOk; simp only [d0, Bool.true_and]
    clear hne
    obtain ⟨W, hW⟩ : ∃ W, W = ((w.alloc (.cells #[.slice a1 n c1, .slice a2 m c2, .slice a3 k c3, .slice a4 h c4] 27)).alloc (.cells #[.int .i64 A, .int .i64 B, .int .i64 C] 62)) := ⟨_, rfl⟩
    have hsz : W.heap.size = w.heap.size + 2 := by rw [hW]; simp
    have hB : Below w.heap.size w W := by rw [hW]; exact (ball (ball (Below.refl w.heap.size w) _) _)
    have hr0 : W.heap[w.heap.size]? = some (.cells #[.slice a1 n c1, .slice a2 m c2, .slice a3 k c3, .slice a4 h c4] 27 (0, 0)) := by rw [hW]; exact bold (bnew _ _)
    have hr1 : W.heap[w.heap.size + 1]? = some (.cells #[.int .i64 A, .int .i64 B, .int .i64 C] 62 (0, 0)) := by rw [hW]; have h := bnew (w.alloc (.cells #[.slice a1 n c1, .slice a2 m c2, .slice a3 k c3, .slice a4 h c4] 27)) (.cells #[.int .i64 A, .int .i64 B, .int .i64 C] 62); simpa using h
    have c0_0 : W.cell? ⟨w.heap.size, 0, none⟩ = some (.slice a1 n c1) := by rw [cell_of_row W _ 0 _ 27 (0, 0) hr0]; rfl
    have c0_1 : W.cell? ⟨w.heap.size, 1, none⟩ = some (.slice a2 m c2) := by rw [cell_of_row W _ 1 _ 27 (0, 0) hr0]; rfl
    have c0_2 : W.cell? ⟨w.heap.size, 2, none⟩ = some (.slice a3 k c3) := by rw [cell_of_row W _ 2 _ 27 (0, 0) hr0]; rfl
    have c0_3 : W.cell? ⟨w.heap.size, 3, none⟩ = some (.slice a4 h c4) := by rw [cell_of_row W _ 3 _ 27 (0, 0) hr0]; rfl
    have c1_0 : W.cell? ⟨w.heap.size + 1, 0, none⟩ = some (.int .i64 A) := by rw [cell_of_row W _ 0 _ 62 (0, 0) hr1]; rfl
    have c1_1 : W.cell? ⟨w.heap.size + 1, 1, none⟩ = some (.int .i64 B) := by rw [cell_of_row W _ 1 _ 62 (0, 0) hr1]; rfl
    have c1_2 : W.cell? ⟨w.heap.size + 1, 2, none⟩ = some (.int .i64 C) := by rw [cell_of_row W _ 2 _ 62 (0, 0) hr1]; rfl
    have HW := Lib.hid hW; have HB := Lib.hid hB; have HSZ := Lib.hid hsz
    clear hW hB hsz hr0 hr1
    cases hB0 : rng 0 A ((n : Int) - 1) with
    | false =>
      have H0 := Lib.hid (isTypeB_any (a1 := a1) (a2 := a2) (a3 := a3) (a4 := a4) (n := n) (c1 := c1) (m := m) (c2 := c2) (k := k) (c3 := c3) (h := h) (c4 := c4) A hn)
      rw [hB0] at H0
      obtain rfl : R = false := by rw [hR]; simp only [hB0, Bool.false_and, Bool.true_and]
      clear hR hB0
      go_enter Try.func45, Try.ntmps45
      go_upto_region 1 with (fail)
      rw [← HW.out]
      clear HW
      go_wp2_with fail
      refine (H0.out _).mono ?_
      rintro e w0 ⟨rfl, hb⟩
      have HB0 := Lib.hid hb
      have d0_0_0 : w0.cell? ⟨w.heap.size, 0, none⟩ = some (.slice a1 n c1) := (hb.cell (p := ⟨w.heap.size, 0, none⟩) (by have := HSZ.out; simp; omega)).trans c0_0
      have d0_0_1 : w0.cell? ⟨w.heap.size, 1, none⟩ = some (.slice a2 m c2) := (hb.cell (p := ⟨w.heap.size, 1, none⟩) (by have := HSZ.out; simp; omega)).trans c0_1
      have d0_0_2 : w0.cell? ⟨w.heap.size, 2, none⟩ = some (.slice a3 k c3) := (hb.cell (p := ⟨w.heap.size, 2, none⟩) (by have := HSZ.out; simp; omega)).trans c0_2
      have d0_0_3 : w0.cell? ⟨w.heap.size, 3, none⟩ = some (.slice a4 h c4) := (hb.cell (p := ⟨w.heap.size, 3, none⟩) (by have := HSZ.out; simp; omega)).trans c0_3
      have d0_1_0 : w0.cell? ⟨w.heap.size + 1, 0, none⟩ = some (.int .i64 A) := (hb.cell (p := ⟨w.heap.size + 1, 0, none⟩) (by have := HSZ.out; simp; omega)).trans c1_0
      have d0_1_1 : w0.cell? ⟨w.heap.size + 1, 1, none⟩ = some (.int .i64 B) := (hb.cell (p := ⟨w.heap.size + 1, 1, none⟩) (by have := HSZ.out; simp; omega)).trans c1_1
      have d0_1_2 : w0.cell? ⟨w.heap.size + 1, 2, none⟩ = some (.int .i64 C) := (hb.cell (p := ⟨w.heap.size + 1, 2, none⟩) (by have := HSZ.out; simp; omega)).trans c1_2
      clear hb c0_0 c0_1 c0_2 c0_3 c1_0 c1_1 c1_2
      go_wp2
      go_ret
      exact ⟨rfl, (btrans HB.out HB0.out)⟩
    | true =>
      have H0 := Lib.hid (isTypeB_any (a1 := a1) (a2 := a2) (a3 := a3) (a4 := a4) (n := n) (c1 := c1) (m := m) (c2 := c2) (k := k) (c3 := c3) (h := h) (c4 := c4) A hn)
      rw [hB0] at H0
      cases hB1 : rng 0 B ((n : Int) - 1) with
      | false =>
        have H1 := Lib.hid (isTypeB_any (a1 := a1) (a2 := a2) (a3 := a3) (a4 := a4) (n := n) (c1 := c1) (m := m) (c2 := c2) (k := k) (c3 := c3) (h := h) (c4 := c4) B hn)
        rw [hB1] at H1
        obtain rfl : R = false := by rw [hR]; simp only [hB0, hB1, Bool.false_and, Bool.true_and]
        clear hR hB0 hB1
        go_enter Try.func45, Try.ntmps45
        go_upto_region 1 with (fail)
        rw [← HW.out]
        clear HW
        go_wp2_with fail
        refine (H0.out _).mono ?_
        rintro e w0 ⟨rfl, hb⟩
        have HB0 := Lib.hid hb
        have d0_0_0 : w0.cell? ⟨w.heap.size, 0, none⟩ = some (.slice a1 n c1) := (hb.cell (p := ⟨w.heap.size, 0, none⟩) (by have := HSZ.out; simp; omega)).trans c0_0
        have d0_0_1 : w0.cell? ⟨w.heap.size, 1, none⟩ = some (.slice a2 m c2) := (hb.cell (p := ⟨w.heap.size, 1, none⟩) (by have := HSZ.out; simp; omega)).trans c0_1
        have d0_0_2 : w0.cell? ⟨w.heap.size, 2, none⟩ = some (.slice a3 k c3) := (hb.cell (p := ⟨w.heap.size, 2, none⟩) (by have := HSZ.out; simp; omega)).trans c0_2
        have d0_0_3 : w0.cell? ⟨w.heap.size, 3, none⟩ = some (.slice a4 h c4) := (hb.cell (p := ⟨w.heap.size, 3, none⟩) (by have := HSZ.out; simp; omega)).trans c0_3
        have d0_1_0 : w0.cell? ⟨w.heap.size + 1, 0, none⟩ = some (.int .i64 A) := (hb.cell (p := ⟨w.heap.size + 1, 0, none⟩) (by have := HSZ.out; simp; omega)).trans c1_0
        have d0_1_1 : w0.cell? ⟨w.heap.size + 1, 1, none⟩ = some (.int .i64 B) := (hb.cell (p := ⟨w.heap.size + 1, 1, none⟩) (by have := HSZ.out; simp; omega)).trans c1_1
        have d0_1_2 : w0.cell? ⟨w.heap.size + 1, 2, none⟩ = some (.int .i64 C) := (hb.cell (p := ⟨w.heap.size + 1, 2, none⟩) (by have := HSZ.out; simp; omega)).trans c1_2
        clear hb c0_0 c0_1 c0_2 c0_3 c1_0 c1_1 c1_2
        go_wp2_with fail
        refine (H1.out _).mono ?_
        rintro e w1 ⟨rfl, hb⟩
        have HB1 := Lib.hid hb
        have d1_0_0 : w1.cell? ⟨w.heap.size, 0, none⟩ = some (.slice a1 n c1) := (hb.cell (p := ⟨w.heap.size, 0, none⟩) (by have := HSZ.out; have := HB0.out.size; simp; omega)).trans d0_0_0
        have d1_0_1 : w1.cell? ⟨w.heap.size, 1, none⟩ = some (.slice a2 m c2) := (hb.cell (p := ⟨w.heap.size, 1, none⟩) (by have := HSZ.out; have := HB0.out.size; simp; omega)).trans d0_0_1
        have d1_0_2 : w1.cell? ⟨w.heap.size, 2, none⟩ = some (.slice a3 k c3) := (hb.cell (p := ⟨w.heap.size, 2, none⟩) (by have := HSZ.out; have := HB0.out.size; simp; omega)).trans d0_0_2
        have d1_0_3 : w1.cell? ⟨w.heap.size, 3, none⟩ = some (.slice a4 h c4) := (hb.cell (p := ⟨w.heap.size, 3, none⟩) (by have := HSZ.out; have := HB0.out.size; simp; omega)).trans d0_0_3
        have d1_1_0 : w1.cell? ⟨w.heap.size + 1, 0, none⟩ = some (.int .i64 A) := (hb.cell (p := ⟨w.heap.size + 1, 0, none⟩) (by have := HSZ.out; have := HB0.out.size; simp; omega)).trans d0_1_0
        have d1_1_1 : w1.cell? ⟨w.heap.size + 1, 1, none⟩ = some (.int .i64 B) := (hb.cell (p := ⟨w.heap.size + 1, 1, none⟩) (by have := HSZ.out; have := HB0.out.size; simp; omega)).trans d0_1_1
        have d1_1_2 : w1.cell? ⟨w.heap.size + 1, 2, none⟩ = some (.int .i64 C) := (hb.cell (p := ⟨w.heap.size + 1, 2, none⟩) (by have := HSZ.out; have := HB0.out.size; simp; omega)).trans d0_1_2
        clear hb d0_0_0 d0_0_1 d0_0_2 d0_0_3 d0_1_0 d0_1_1 d0_1_2
        go_wp2
        go_ret
        exact ⟨rfl, (btrans (btrans HB.out HB0.out) HB1.out)⟩
      | true =>
        have H1 := Lib.hid (isTypeB_any (a1 := a1) (a2 := a2) (a3 := a3) (a4 := a4) (n := n) (c1 := c1) (m := m) (c2 := c2) (k := k) (c3 := c3) (h := h) (c4 := c4) B hn)
        rw [hB1] at H1
        cases hB2 : rng 0 C 1000000000 with
        | false =>
          have H2 := Lib.hid (between_any 0 C 1000000000)
          rw [hB2] at H2
          obtain rfl : R = false := by rw [hR]; simp only [hB0, hB1, hB2, Bool.false_and, Bool.true_and]
          clear hR hB0 hB1 hB2
          go_enter Try.func45, Try.ntmps45
          go_upto_region 1 with (fail)
          rw [← HW.out]
          clear HW
          go_wp2_with fail
          refine (H0.out _).mono ?_
          rintro e w0 ⟨rfl, hb⟩
          have HB0 := Lib.hid hb
          have d0_0_0 : w0.cell? ⟨w.heap.size, 0, none⟩ = some (.slice a1 n c1) := (hb.cell (p := ⟨w.heap.size, 0, none⟩) (by have := HSZ.out; simp; omega)).trans c0_0
          have d0_0_1 : w0.cell? ⟨w.heap.size, 1, none⟩ = some (.slice a2 m c2) := (hb.cell (p := ⟨w.heap.size, 1, none⟩) (by have := HSZ.out; simp; omega)).trans c0_1
          have d0_0_2 : w0.cell? ⟨w.heap.size, 2, none⟩ = some (.slice a3 k c3) := (hb.cell (p := ⟨w.heap.size, 2, none⟩) (by have := HSZ.out; simp; omega)).trans c0_2
          have d0_0_3 : w0.cell? ⟨w.heap.size, 3, none⟩ = some (.slice a4 h c4) := (hb.cell (p := ⟨w.heap.size, 3, none⟩) (by have := HSZ.out; simp; omega)).trans c0_3
          have d0_1_0 : w0.cell? ⟨w.heap.size + 1, 0, none⟩ = some (.int .i64 A) := (hb.cell (p := ⟨w.heap.size + 1, 0, none⟩) (by have := HSZ.out; simp; omega)).trans c1_0
          have d0_1_1 : w0.cell? ⟨w.heap.size + 1, 1, none⟩ = some (.int .i64 B) := (hb.cell (p := ⟨w.heap.size + 1, 1, none⟩) (by have := HSZ.out; simp; omega)).trans c1_1
          have d0_1_2 : w0.cell? ⟨w.heap.size + 1, 2, none⟩ = some (.int .i64 C) := (hb.cell (p := ⟨w.heap.size + 1, 2, none⟩) (by have := HSZ.out; simp; omega)).trans c1_2
          clear hb c0_0 c0_1 c0_2 c0_3 c1_0 c1_1 c1_2
          go_wp2_with fail
          refine (H1.out _).mono ?_
          rintro e w1 ⟨rfl, hb⟩
          have HB1 := Lib.hid hb
          have d1_0_0 : w1.cell? ⟨w.heap.size, 0, none⟩ = some (.slice a1 n c1) := (hb.cell (p := ⟨w.heap.size, 0, none⟩) (by have := HSZ.out; have := HB0.out.size; simp; omega)).trans d0_0_0
          have d1_0_1 : w1.cell? ⟨w.heap.size, 1, none⟩ = some (.slice a2 m c2) := (hb.cell (p := ⟨w.heap.size, 1, none⟩) (by have := HSZ.out; have := HB0.out.size; simp; omega)).trans d0_0_1
          have d1_0_2 : w1.cell? ⟨w.heap.size, 2, none⟩ = some (.slice a3 k c3) := (hb.cell (p := ⟨w.heap.size, 2, none⟩) (by have := HSZ.out; have := HB0.out.size; simp; omega)).trans d0_0_2
          have d1_0_3 : w1.cell? ⟨w.heap.size, 3, none⟩ = some (.slice a4 h c4) := (hb.cell (p := ⟨w.heap.size, 3, none⟩) (by have := HSZ.out; have := HB0.out.size; simp; omega)).trans d0_0_3
          have d1_1_0 : w1.cell? ⟨w.heap.size + 1, 0, none⟩ = some (.int .i64 A) := (hb.cell (p := ⟨w.heap.size + 1, 0, none⟩) (by have := HSZ.out; have := HB0.out.size; simp; omega)).trans d0_1_0
          have d1_1_1 : w1.cell? ⟨w.heap.size + 1, 1, none⟩ = some (.int .i64 B) := (hb.cell (p := ⟨w.heap.size + 1, 1, none⟩) (by have := HSZ.out; have := HB0.out.size; simp; omega)).trans d0_1_1
          have d1_1_2 : w1.cell? ⟨w.heap.size + 1, 2, none⟩ = some (.int .i64 C) := (hb.cell (p := ⟨w.heap.size + 1, 2, none⟩) (by have := HSZ.out; have := HB0.out.size; simp; omega)).trans d0_1_2
          clear hb d0_0_0 d0_0_1 d0_0_2 d0_0_3 d0_1_0 d0_1_1 d0_1_2
          go_wp2_with fail
          refine (H2.out _).mono ?_
          rintro e w' ⟨rfl, rfl⟩
          go_wp2
          go_ret
          exact ⟨rfl, (btrans (btrans HB.out HB0.out) HB1.out)⟩
        | true =>
          have H2 := Lib.hid (between_any 0 C 1000000000)
          rw [hB2] at H2
          obtain rfl : R = true := by rw [hR]; simp only [hB0, hB1, hB2, Bool.true_and]
          clear hR hB0 hB1 hB2
          go_enter Try.func45, Try.ntmps45
          go_upto_region 1 with (fail)
          rw [← HW.out]
          clear HW
          go_wp2_with fail
          refine (H0.out _).mono ?_
          rintro e w0 ⟨rfl, hb⟩
          have HB0 := Lib.hid hb
          have d0_0_0 : w0.cell? ⟨w.heap.size, 0, none⟩ = some (.slice a1 n c1) := (hb.cell (p := ⟨w.heap.size, 0, none⟩) (by have := HSZ.out; simp; omega)).trans c0_0
          have d0_0_1 : w0.cell? ⟨w.heap.size, 1, none⟩ = some (.slice a2 m c2) := (hb.cell (p := ⟨w.heap.size, 1, none⟩) (by have := HSZ.out; simp; omega)).trans c0_1
          have d0_0_2 : w0.cell? ⟨w.heap.size, 2, none⟩ = some (.slice a3 k c3) := (hb.cell (p := ⟨w.heap.size, 2, none⟩) (by have := HSZ.out; simp; omega)).trans c0_2
          have d0_0_3 : w0.cell? ⟨w.heap.size, 3, none⟩ = some (.slice a4 h c4) := (hb.cell (p := ⟨w.heap.size, 3, none⟩) (by have := HSZ.out; simp; omega)).trans c0_3
          have d0_1_0 : w0.cell? ⟨w.heap.size + 1, 0, none⟩ = some (.int .i64 A) := (hb.cell (p := ⟨w.heap.size + 1, 0, none⟩) (by have := HSZ.out; simp; omega)).trans c1_0
          have d0_1_1 : w0.cell? ⟨w.heap.size + 1, 1, none⟩ = some (.int .i64 B) := (hb.cell (p := ⟨w.heap.size + 1, 1, none⟩) (by have := HSZ.out; simp; omega)).trans c1_1
          have d0_1_2 : w0.cell? ⟨w.heap.size + 1, 2, none⟩ = some (.int .i64 C) := (hb.cell (p := ⟨w.heap.size + 1, 2, none⟩) (by have := HSZ.out; simp; omega)).trans c1_2
          clear hb c0_0 c0_1 c0_2 c0_3 c1_0 c1_1 c1_2
          go_wp2_with fail
          refine (H1.out _).mono ?_
          rintro e w1 ⟨rfl, hb⟩
          have HB1 := Lib.hid hb
          have d1_0_0 : w1.cell? ⟨w.heap.size, 0, none⟩ = some (.slice a1 n c1) := (hb.cell (p := ⟨w.heap.size, 0, none⟩) (by have := HSZ.out; have := HB0.out.size; simp; omega)).trans d0_0_0
          have d1_0_1 : w1.cell? ⟨w.heap.size, 1, none⟩ = some (.slice a2 m c2) := (hb.cell (p := ⟨w.heap.size, 1, none⟩) (by have := HSZ.out; have := HB0.out.size; simp; omega)).trans d0_0_1
          have d1_0_2 : w1.cell? ⟨w.heap.size, 2, none⟩ = some (.slice a3 k c3) := (hb.cell (p := ⟨w.heap.size, 2, none⟩) (by have := HSZ.out; have := HB0.out.size; simp; omega)).trans d0_0_2
          have d1_0_3 : w1.cell? ⟨w.heap.size, 3, none⟩ = some (.slice a4 h c4) := (hb.cell (p := ⟨w.heap.size, 3, none⟩) (by have := HSZ.out; have := HB0.out.size; simp; omega)).trans d0_0_3
          have d1_1_0 : w1.cell? ⟨w.heap.size + 1, 0, none⟩ = some (.int .i64 A) := (hb.cell (p := ⟨w.heap.size + 1, 0, none⟩) (by have := HSZ.out; have := HB0.out.size; simp; omega)).trans d0_1_0
          have d1_1_1 : w1.cell? ⟨w.heap.size + 1, 1, none⟩ = some (.int .i64 B) := (hb.cell (p := ⟨w.heap.size + 1, 1, none⟩) (by have := HSZ.out; have := HB0.out.size; simp; omega)).trans d0_1_1
          have d1_1_2 : w1.cell? ⟨w.heap.size + 1, 2, none⟩ = some (.int .i64 C) := (hb.cell (p := ⟨w.heap.size + 1, 2, none⟩) (by have := HSZ.out; have := HB0.out.size; simp; omega)).trans d0_1_2
          clear hb d0_0_0 d0_0_1 d0_0_2 d0_0_3 d0_1_0 d0_1_1 d0_1_2
          go_wp2_with fail
          refine (H2.out _).mono ?_
          rintro e w' ⟨rfl, rfl⟩
          go_wp2
          go_ret
          exact ⟨rfl, (btrans (btrans HB.out HB0.out) HB1.out)⟩
end Go.Proofs.Ytijdjbkmkopmnaa
