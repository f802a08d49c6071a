/-
  Walks: types of a fleet, valid types, both sides.
-/
import Derived.Test.YtijdjbkmkopmnaaCa
namespace Go.Proofs.Ytijdjbkmkopmnaa
open Go.RowKit
set_option linter.unusedVariables false
set_option linter.unusedSimpArgs false

theorem isType_any {a1 a2 a3 a4 : Option Addr} {n c1 m c2 k c3 h c4 : Nat} (w : World) (t : Int) (hn : n ≤ 70368744177664) :
    Calls Try.prog 29 #[.agg #[.slice a1 n c1, .slice a2 m c2, .slice a3 k c3, .slice a4 h c4], .int .i64 t] w fun e w' => e = .returned (.bool (rng 0 t ((n : Int) - 1))) ∧ w.alloc (.cells #[.slice a1 n c1, .slice a2 m c2, .slice a3 k c3, .slice a4 h c4] 27) = w' := by
  have Hc := Lib.hid (index_any t (n : Int) (w.alloc (.cells #[.slice a1 n c1, .slice a2 m c2, .slice a3 k c3, .slice a4 h c4] 27)) (by omega))
  clear hn
  go_enter Try.func29, Try.ntmps29
  go_wp2_with fail
  refine Hc.out.mono ?_
  rintro e w' ⟨rfl, rfl⟩
  go_wp2
  go_ret
  exact ⟨rfl, rfl⟩
theorem idx129_0 (A B C E : Int) (w : World) : Sem.run Try.prog (Instr.index 129 (.agg #[.int .i64 A, .int .i64 B, .int .i64 C, .int .i64 E]) (.int .i64 0)) w = .ok (.int .i64 A) w := by kernel_rfl
theorem idx129_1 (A B C E : Int) (w : World) : Sem.run Try.prog (Instr.index 129 (.agg #[.int .i64 A, .int .i64 B, .int .i64 C, .int .i64 E]) (.int .i64 1)) w = .ok (.int .i64 B) w := by kernel_rfl
theorem idx129_2 (A B C E : Int) (w : World) : Sem.run Try.prog (Instr.index 129 (.agg #[.int .i64 A, .int .i64 B, .int .i64 C, .int .i64 E]) (.int .i64 2)) w = .ok (.int .i64 C) w := by kernel_rfl
theorem idx129_3 (A B C E : Int) (w : World) : Sem.run Try.prog (Instr.index 129 (.agg #[.int .i64 A, .int .i64 B, .int .i64 C, .int .i64 E]) (.int .i64 3)) w = .ok (.int .i64 E) w := by kernel_rfl
def tl4 (x : Ty) : Bool := rng 0 x.ga 7 && (rng 1 x.li 1073741824 && rng 0 x.fl 100)
def tl (x : Ty) : Nat → Bool
  | 0 => rng 0 x.ld 1000000 && (rng 0 x.ta 1000000 && (rng 0 x.ln 1000000 && (rng 0 x.br 1000000 && tl4 x)))
  | 1 => rng 0 x.ta 1000000 && (rng 0 x.ln 1000000 && (rng 0 x.br 1000000 && tl4 x))
  | 2 => rng 0 x.ln 1000000 && (rng 0 x.br 1000000 && tl4 x)
  | 3 => rng 0 x.br 1000000 && tl4 x
  | _ => tl4 x
/-- A valid type. -/
def tOk (x : Ty) : Bool := tl x 0
set_option maxRecDepth 100000 in
set_option maxHeartbeats 4000000 in
theorem rtype_any (x : Ty) (w : World) (R : Bool) (hR : R = tOk x) : Calls Try.prog 48 #[.agg x.cs.toArray] w fun e w' => e = .returned (.bool R) ∧ Below w.heap.size w w' := by
  obtain ⟨A, B, C, D, E, G, I, J⟩ := x
  change Calls Try.prog 48 #[.agg #[.int .i64 A, .int .i64 B, .int .i64 C, .int .i64 D, .int .i64 E, .int .u64 G, .int .i64 I, .int .i64 J]] w _
  have HB := Lib.hid (ball (Below.refl w.heap.size w) (.cells #[.int .i64 A, .int .i64 B, .int .i64 C, .int .i64 D, .int .i64 E, .int .u64 G, .int .i64 I, .int .i64 J] 68))
  cases hB0 : rng 0 A 1000000 with
  | false =>
    have H1 := Lib.hid (within_any 0 A 1000000)
    rw [hB0] at H1
    obtain rfl : R = false := by rw [hR]; unfold tOk tl tl4; simp only [hB0, Bool.false_and, Bool.true_and]
    clear hB0
    clear hR
    go_enter Try.func48, Try.ntmps48
    go_wp2_with fail
    refine (H1.out _).mono ?_
    rintro e w' ⟨rfl, rfl⟩
    go_wp2
    go_ret
    exact ⟨rfl, HB.out⟩
  | true =>
    have H1 := Lib.hid (within_any 0 A 1000000)
    rw [hB0] at H1
    cases hB1 : rng 0 B 1000000 with
    | false =>
      have H2 := Lib.hid (within_any 0 B 1000000)
      rw [hB1] at H2
      obtain rfl : R = false := by rw [hR]; unfold tOk tl tl4; simp only [hB0, hB1, Bool.false_and, Bool.true_and]
      clear hB0 hB1
      clear hR
      go_enter Try.func48, Try.ntmps48
      go_wp2_with fail
      refine (H1.out _).mono ?_
      rintro e w' ⟨rfl, rfl⟩
      go_wp2_with fail
      refine (H2.out _).mono ?_
      rintro e w' ⟨rfl, rfl⟩
      go_wp2
      go_ret
      exact ⟨rfl, HB.out⟩
    | true =>
      have H2 := Lib.hid (within_any 0 B 1000000)
      rw [hB1] at H2
      cases hB2 : rng 0 C 1000000 with
      | false =>
        have H3 := Lib.hid (within_any 0 C 1000000)
        rw [hB2] at H3
        obtain rfl : R = false := by rw [hR]; unfold tOk tl tl4; simp only [hB0, hB1, hB2, Bool.false_and, Bool.true_and]
        clear hB0 hB1 hB2
        clear hR
        go_enter Try.func48, Try.ntmps48
        go_wp2_with fail
        refine (H1.out _).mono ?_
        rintro e w' ⟨rfl, rfl⟩
        go_wp2_with fail
        refine (H2.out _).mono ?_
        rintro e w' ⟨rfl, rfl⟩
        go_wp2_with fail
        refine (H3.out _).mono ?_
        rintro e w' ⟨rfl, rfl⟩
        go_wp2
        go_ret
        exact ⟨rfl, HB.out⟩
      | true =>
        have H3 := Lib.hid (within_any 0 C 1000000)
        rw [hB2] at H3
        cases hB3 : rng 0 E 1000000 with
        | false =>
          have H4 := Lib.hid (within_any 0 E 1000000)
          rw [hB3] at H4
          obtain rfl : R = false := by rw [hR]; unfold tOk tl tl4; simp only [hB0, hB1, hB2, hB3, Bool.false_and, Bool.true_and]
          clear hB0 hB1 hB2 hB3
          clear hR
          go_enter Try.func48, Try.ntmps48
          go_wp2_with fail
          refine (H1.out _).mono ?_
          rintro e w' ⟨rfl, rfl⟩
          go_wp2_with fail
          refine (H2.out _).mono ?_
          rintro e w' ⟨rfl, rfl⟩
          go_wp2_with fail
          refine (H3.out _).mono ?_
          rintro e w' ⟨rfl, rfl⟩
          go_wp2_with fail
          refine (H4.out _).mono ?_
          rintro e w' ⟨rfl, rfl⟩
          go_wp2
          go_ret
          exact ⟨rfl, HB.out⟩
        | true =>
          have H4 := Lib.hid (within_any 0 E 1000000)
          rw [hB3] at H4
          cases hB4 : rng 0 D 7 with
          | false =>
            have H5 := Lib.hid (within_any 0 D 7)
            rw [hB4] at H5
            obtain rfl : R = false := by rw [hR]; unfold tOk tl tl4; simp only [hB0, hB1, hB2, hB3, hB4, Bool.false_and, Bool.true_and]
            clear hB0 hB1 hB2 hB3 hB4
            clear hR
            go_enter Try.func48, Try.ntmps48
            go_wp2_with fail
            refine (H1.out _).mono ?_
            rintro e w' ⟨rfl, rfl⟩
            go_wp2_with fail
            refine (H2.out _).mono ?_
            rintro e w' ⟨rfl, rfl⟩
            go_wp2_with fail
            refine (H3.out _).mono ?_
            rintro e w' ⟨rfl, rfl⟩
            go_wp2_with fail
            refine (H4.out _).mono ?_
            rintro e w' ⟨rfl, rfl⟩
            go_wp2_with fail
            refine (H5.out _).mono ?_
            rintro e w' ⟨rfl, rfl⟩
            go_wp2
            go_ret
            exact ⟨rfl, HB.out⟩
          | true =>
            have H5 := Lib.hid (within_any 0 D 7)
            rw [hB4] at H5
            cases hB5 : rng 1 I 1073741824 with
            | false =>
              have H6 := Lib.hid (within_any 1 I 1073741824)
              rw [hB5] at H6
              obtain rfl : R = false := by rw [hR]; unfold tOk tl tl4; simp only [hB0, hB1, hB2, hB3, hB4, hB5, Bool.false_and, Bool.true_and]
              clear hB0 hB1 hB2 hB3 hB4 hB5
              clear hR
              go_enter Try.func48, Try.ntmps48
              go_wp2_with fail
              refine (H1.out _).mono ?_
              rintro e w' ⟨rfl, rfl⟩
              go_wp2_with fail
              refine (H2.out _).mono ?_
              rintro e w' ⟨rfl, rfl⟩
              go_wp2_with fail
              refine (H3.out _).mono ?_
              rintro e w' ⟨rfl, rfl⟩
              go_wp2_with fail
              refine (H4.out _).mono ?_
              rintro e w' ⟨rfl, rfl⟩
              go_wp2_with fail
              refine (H5.out _).mono ?_
              rintro e w' ⟨rfl, rfl⟩
              go_wp2_with fail
              refine (H6.out _).mono ?_
              rintro e w' ⟨rfl, rfl⟩
              go_wp2
              go_ret
              exact ⟨rfl, HB.out⟩
            | true =>
              have H6 := Lib.hid (within_any 1 I 1073741824)
              rw [hB5] at H6
              cases hB6 : rng 0 J 100 with
              | false =>
                have H7 := Lib.hid (within_any 0 J 100)
                rw [hB6] at H7
                obtain rfl : R = false := by rw [hR]; unfold tOk tl tl4; simp only [hB0, hB1, hB2, hB3, hB4, hB5, hB6, Bool.false_and, Bool.true_and]
                clear hB0 hB1 hB2 hB3 hB4 hB5 hB6
                clear hR
                go_enter Try.func48, Try.ntmps48
                go_wp2_with fail
                refine (H1.out _).mono ?_
                rintro e w' ⟨rfl, rfl⟩
                go_wp2_with fail
                refine (H2.out _).mono ?_
                rintro e w' ⟨rfl, rfl⟩
                go_wp2_with fail
                refine (H3.out _).mono ?_
                rintro e w' ⟨rfl, rfl⟩
                go_wp2_with fail
                refine (H4.out _).mono ?_
                rintro e w' ⟨rfl, rfl⟩
                go_wp2_with fail
                refine (H5.out _).mono ?_
                rintro e w' ⟨rfl, rfl⟩
                go_wp2_with fail
                refine (H6.out _).mono ?_
                rintro e w' ⟨rfl, rfl⟩
                go_wp2_with fail
                refine (H7.out _).mono ?_
                rintro e w' ⟨rfl, rfl⟩
                go_wp2
                go_ret
                exact ⟨rfl, HB.out⟩
              | true =>
                have H7 := Lib.hid (within_any 0 J 100)
                rw [hB6] at H7
                obtain rfl : R = true := by rw [hR]; unfold tOk tl tl4; simp only [hB0, hB1, hB2, hB3, hB4, hB5, hB6, Bool.true_and]
                clear hB0 hB1 hB2 hB3 hB4 hB5 hB6
                clear hR
                go_enter Try.func48, Try.ntmps48
                go_wp2_with fail
                refine (H1.out _).mono ?_
                rintro e w' ⟨rfl, rfl⟩
                go_wp2_with fail
                refine (H2.out _).mono ?_
                rintro e w' ⟨rfl, rfl⟩
                go_wp2_with fail
                refine (H3.out _).mono ?_
                rintro e w' ⟨rfl, rfl⟩
                go_wp2_with fail
                refine (H4.out _).mono ?_
                rintro e w' ⟨rfl, rfl⟩
                go_wp2_with fail
                refine (H5.out _).mono ?_
                rintro e w' ⟨rfl, rfl⟩
                go_wp2_with fail
                refine (H6.out _).mono ?_
                rintro e w' ⟨rfl, rfl⟩
                go_wp2_with fail
                refine (H7.out _).mono ?_
                rintro e w' ⟨rfl, rfl⟩
                go_wp2
                go_ret
                exact ⟨rfl, HB.out⟩
set_option maxRecDepth 100000 in
set_option maxHeartbeats 4000000 in
theorem type_any (x : Ty) (w : World) (R : Bool) (hR : R = tOk x) : Calls Try.prog 39 #[.agg x.cs.toArray] w fun e w' => e = .returned (.bool R) ∧ Below w.heap.size w w' := by
  obtain ⟨A, B, C, D, E, G, I, J⟩ := x
  change Calls Try.prog 39 #[.agg #[.int .i64 A, .int .i64 B, .int .i64 C, .int .i64 D, .int .i64 E, .int .u64 G, .int .i64 I, .int .i64 J]] w _
  have HB := Lib.hid (ball (Below.refl w.heap.size w) (.cells #[.int .i64 A, .int .i64 B, .int .i64 C, .int .i64 D, .int .i64 E, .int .u64 G, .int .i64 I, .int .i64 J] 68))
  obtain ⟨y, hy⟩ : ∃ y, y = Ty.mk A B C D E G I J := ⟨_, rfl⟩
  rw [← hy] at hR
  obtain ⟨W, hW⟩ : ∃ W, W = w.alloc (.cells #[.int .i64 A, .int .i64 B, .int .i64 C, .int .i64 D, .int .i64 E, .int .u64 G, .int .i64 I, .int .i64 J] 68) := ⟨_, rfl⟩
  have hrow : W.heap[w.heap.size]? = some (.cells #[.int .i64 A, .int .i64 B, .int .i64 C, .int .i64 D, .int .i64 E, .int .u64 G, .int .i64 I, .int .i64 J] 68 (0, 0)) := by rw [hW]; exact bnew _ _
  rw [← hW] at HB
  have c0 : W.cell? ⟨w.heap.size, 0, none⟩ = some (.int .i64 A) := by rw [cell_of_row W _ 0 _ 68 (0, 0) hrow]; rfl
  have c1 : W.cell? ⟨w.heap.size, 1, none⟩ = some (.int .i64 B) := by rw [cell_of_row W _ 1 _ 68 (0, 0) hrow]; rfl
  have c2 : W.cell? ⟨w.heap.size, 2, none⟩ = some (.int .i64 C) := by rw [cell_of_row W _ 2 _ 68 (0, 0) hrow]; rfl
  have c3 : W.cell? ⟨w.heap.size, 3, none⟩ = some (.int .i64 D) := by rw [cell_of_row W _ 3 _ 68 (0, 0) hrow]; rfl
  have c4 : W.cell? ⟨w.heap.size, 4, none⟩ = some (.int .i64 E) := by rw [cell_of_row W _ 4 _ 68 (0, 0) hrow]; rfl
  have c6 : W.cell? ⟨w.heap.size, 6, none⟩ = some (.int .i64 I) := by rw [cell_of_row W _ 6 _ 68 (0, 0) hrow]; rfl
  have c7 : W.cell? ⟨w.heap.size, 7, none⟩ = some (.int .i64 J) := by rw [cell_of_row W _ 7 _ 68 (0, 0) hrow]; rfl
  have HR := Lib.hid hR; have HY := Lib.hid hy; have HW := Lib.hid hW
  clear hR hy hW hrow
  go_enter Try.func39, Try.ntmps39
  go_wp2_with fail
  rw [← HW.out]
  clear HW
  go_wp2
  go_loopw [14] (fun s wr => ∃ k : Nat, k ≤ 4 ∧ s = .int .i64 (k : Int) ∧ Hid (tl y k = R) ∧ W = wr) (fun s _ => 4 - (intOf s).toNat)
  case atStart => exact ⟨0, by omega, rfl, Lib.hid HR.out.symm, rfl⟩
  case round =>
    obtain ⟨k, hk, rfl, HK, rfl⟩ := hrel
    by_cases hlt : k < 4
    · rcases (show k = 0 ∨ k = 1 ∨ k = 2 ∨ k = 3 by omega) with rfl | rfl | rfl | rfl
      · have Hc := Lib.hid (between_any 0 A 1000000 W)
        have hst : (rng 0 A 1000000 && tl y 1) = R := by rw [← HK.out, HY.out]; rfl
        have p1 := idx129_0 A B C E W
        clear hlt hk HK
        cases hB : rng 0 A 1000000 with
        | false =>
          rw [hB] at Hc hst
          obtain rfl : R = false := by rw [← hst]; rfl
          clear hst hB
          go_wp2_with fail
          refine Hc.out.mono ?_
          rintro e w' ⟨rfl, rfl⟩
          go_wp2
          go_ret
          exact ⟨rfl, HB.out⟩
        | true =>
          rw [hB, Bool.true_and] at hst
          rw [hB] at Hc
          have HST := Lib.hid hst
          clear hst hB
          go_wp2_with fail
          refine Hc.out.mono ?_
          rintro e w' ⟨rfl, rfl⟩
          go_wp2
          go_roundw
          case rel => exact ⟨1, by omega, rfl, HST, trivial⟩
          case measure => simp [intOf]
      · have Hc := Lib.hid (between_any 0 B 1000000 W)
        have hst : (rng 0 B 1000000 && tl y 2) = R := by rw [← HK.out, HY.out]; rfl
        have p1 := idx129_1 A B C E W
        clear hlt hk HK
        cases hB : rng 0 B 1000000 with
        | false =>
          rw [hB] at Hc hst
          obtain rfl : R = false := by rw [← hst]; rfl
          clear hst hB
          go_wp2_with fail
          refine Hc.out.mono ?_
          rintro e w' ⟨rfl, rfl⟩
          go_wp2
          go_ret
          exact ⟨rfl, HB.out⟩
        | true =>
          rw [hB, Bool.true_and] at hst
          rw [hB] at Hc
          have HST := Lib.hid hst
          clear hst hB
          go_wp2_with fail
          refine Hc.out.mono ?_
          rintro e w' ⟨rfl, rfl⟩
          go_wp2
          go_roundw
          case rel => exact ⟨2, by omega, rfl, HST, trivial⟩
          case measure => simp [intOf]
      · have Hc := Lib.hid (between_any 0 C 1000000 W)
        have hst : (rng 0 C 1000000 && tl y 3) = R := by rw [← HK.out, HY.out]; rfl
        have p1 := idx129_2 A B C E W
        clear hlt hk HK
        cases hB : rng 0 C 1000000 with
        | false =>
          rw [hB] at Hc hst
          obtain rfl : R = false := by rw [← hst]; rfl
          clear hst hB
          go_wp2_with fail
          refine Hc.out.mono ?_
          rintro e w' ⟨rfl, rfl⟩
          go_wp2
          go_ret
          exact ⟨rfl, HB.out⟩
        | true =>
          rw [hB, Bool.true_and] at hst
          rw [hB] at Hc
          have HST := Lib.hid hst
          clear hst hB
          go_wp2_with fail
          refine Hc.out.mono ?_
          rintro e w' ⟨rfl, rfl⟩
          go_wp2
          go_roundw
          case rel => exact ⟨3, by omega, rfl, HST, trivial⟩
          case measure => simp [intOf]
      · have Hc := Lib.hid (between_any 0 E 1000000 W)
        have hst : (rng 0 E 1000000 && tl y 4) = R := by rw [← HK.out, HY.out]; rfl
        have p1 := idx129_3 A B C E W
        clear hlt hk HK
        cases hB : rng 0 E 1000000 with
        | false =>
          rw [hB] at Hc hst
          obtain rfl : R = false := by rw [← hst]; rfl
          clear hst hB
          go_wp2_with fail
          refine Hc.out.mono ?_
          rintro e w' ⟨rfl, rfl⟩
          go_wp2
          go_ret
          exact ⟨rfl, HB.out⟩
        | true =>
          rw [hB, Bool.true_and] at hst
          rw [hB] at Hc
          have HST := Lib.hid hst
          clear hst hB
          go_wp2_with fail
          refine Hc.out.mono ?_
          rintro e w' ⟨rfl, rfl⟩
          go_wp2
          go_roundw
          case rel => exact ⟨4, by omega, rfl, HST, trivial⟩
          case measure => simp [intOf]
    · obtain rfl : k = 4 := by omega
      have hst : tl4 y = R := HK.out
      have hy := HY.out
      subst hy
      unfold tl4 at hst
      simp only at hst
      have HST := Lib.hid hst
      clear hst HK hk hlt
      cases hB0 : rng 0 D 7 with
      | false =>
        have H5 := Lib.hid (between_any 0 D 7)
        rw [hB0] at H5
        obtain rfl : R = false := by rw [← HST.out]; simp only [hB0, Bool.false_and, Bool.true_and]
        clear hB0
        go_wp2_with fail
        refine (H5.out _).mono ?_
        rintro e w' ⟨rfl, rfl⟩
        go_wp2
        go_ret
        exact ⟨rfl, HB.out⟩
      | true =>
        have H5 := Lib.hid (between_any 0 D 7)
        rw [hB0] at H5
        cases hB1 : rng 1 I 1073741824 with
        | false =>
          have H6 := Lib.hid (between_any 1 I 1073741824)
          rw [hB1] at H6
          obtain rfl : R = false := by rw [← HST.out]; simp only [hB0, hB1, Bool.false_and, Bool.true_and]
          clear hB0 hB1
          go_wp2_with fail
          refine (H5.out _).mono ?_
          rintro e w' ⟨rfl, rfl⟩
          go_wp2_with fail
          refine (H6.out _).mono ?_
          rintro e w' ⟨rfl, rfl⟩
          go_wp2
          go_ret
          exact ⟨rfl, HB.out⟩
        | true =>
          have H6 := Lib.hid (between_any 1 I 1073741824)
          rw [hB1] at H6
          cases hB2 : rng 0 J 100 with
          | false =>
            have H7 := Lib.hid (between_any 0 J 100)
            rw [hB2] at H7
            obtain rfl : R = false := by rw [← HST.out]; simp only [hB0, hB1, hB2, Bool.false_and, Bool.true_and]
            clear hB0 hB1 hB2
            go_wp2_with fail
            refine (H5.out _).mono ?_
            rintro e w' ⟨rfl, rfl⟩
            go_wp2_with fail
            refine (H6.out _).mono ?_
            rintro e w' ⟨rfl, rfl⟩
            go_wp2_with fail
            refine (H7.out _).mono ?_
            rintro e w' ⟨rfl, rfl⟩
            go_wp2
            go_ret
            exact ⟨rfl, HB.out⟩
          | true =>
            have H7 := Lib.hid (between_any 0 J 100)
            rw [hB2] at H7
            obtain rfl : R = true := by rw [← HST.out]; simp only [hB0, hB1, hB2, Bool.false_and, Bool.true_and]
            clear hB0 hB1 hB2
            go_wp2_with fail
            refine (H5.out _).mono ?_
            rintro e w' ⟨rfl, rfl⟩
            go_wp2_with fail
            refine (H6.out _).mono ?_
            rintro e w' ⟨rfl, rfl⟩
            go_wp2_with fail
            refine (H7.out _).mono ?_
            rintro e w' ⟨rfl, rfl⟩
            go_wp2
            go_ret
            exact ⟨rfl, HB.out⟩
end Go.Proofs.Ytijdjbkmkopmnaa
