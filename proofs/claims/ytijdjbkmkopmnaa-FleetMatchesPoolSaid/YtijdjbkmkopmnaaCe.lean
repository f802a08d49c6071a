/-
  Walks: the closures of Check.
-/
import Derived.Test.YtijdjbkmkopmnaaCc
namespace Go.Proofs.Ytijdjbkmkopmnaa
open Go.RowKit
set_option linter.unusedVariables false
set_option linter.unusedSimpArgs false

set_option maxRecDepth 100000 in
set_option maxHeartbeats 4000000 in
theorem cwagon_any {a1 a2 a3 a4 : Option Addr} {n c1 m c2 k c3 h c4 : Nat} (x : Wn) (hn : n ≤ 70368744177664) (Bf : Nat) (w : World) (hbox : w.heap[Bf]? = some (.cells #[.slice a1 n c1, .slice a2 m c2, .slice a3 k c3, .slice a4 h c4] 27 (0, 0))) (R : Bool) (hR : R = wOk n x) : Calls Try.prog 41 #[.agg x.cs.toArray, .pointer (some ⟨Bf, 0, none⟩)] w fun e w' => e = .returned (.bool R) ∧ Below w.heap.size w w' := by
  obtain ⟨A, B, C, D, E⟩ := x
  have HC : Hid (∀ w, Calls Try.prog 42 #[.agg #[.slice a1 n c1, .slice a2 m c2, .slice a3 k c3, .slice a4 h c4], .agg #[.int .i64 A, .int .i64 B, .int .i64 C, .int .i64 D, .int .i64 E]] w fun e w' => e = .returned (.bool R) ∧ Below w.heap.size w w') := Lib.hid (fun w => wagon_any (a1 := a1) (a2 := a2) (a3 := a3) (a4 := a4) (n := n) (c1 := c1) (m := m) (c2 := c2) (k := k) (c3 := c3) (h := h) (c4 := c4) ⟨A, B, C, D, E⟩ hn w R hR)
  change Calls Try.prog 41 #[.agg #[.int .i64 A, .int .i64 B, .int .i64 C, .int .i64 D, .int .i64 E], .pointer (some ⟨Bf, 0, none⟩)] w _
  obtain ⟨W, hW⟩ : ∃ W, W = w.alloc (.cells #[.int .i64 A, .int .i64 B, .int .i64 C, .int .i64 D, .int .i64 E] 66) := ⟨_, rfl⟩
  have hB : Below w.heap.size w W := by rw [hW]; exact ball (Below.refl _ _) _
  have hr : W.heap[w.heap.size]? = some (.cells #[.int .i64 A, .int .i64 B, .int .i64 C, .int .i64 D, .int .i64 E] 66 (0, 0)) := by rw [hW]; exact bnew _ _
  obtain ⟨f0, f1, f2, f3⟩ := box4 (bon hbox hB)
  have e0 : W.cell? ⟨w.heap.size, 0, none⟩ = some (.int .i64 A) := by rw [cell_of_row W _ 0 _ 66 (0, 0) hr]; rfl
  have e1 : W.cell? ⟨w.heap.size, 1, none⟩ = some (.int .i64 B) := by rw [cell_of_row W _ 1 _ 66 (0, 0) hr]; rfl
  have e2 : W.cell? ⟨w.heap.size, 2, none⟩ = some (.int .i64 C) := by rw [cell_of_row W _ 2 _ 66 (0, 0) hr]; rfl
  have e3 : W.cell? ⟨w.heap.size, 3, none⟩ = some (.int .i64 D) := by rw [cell_of_row W _ 3 _ 66 (0, 0) hr]; rfl
  have e4 : W.cell? ⟨w.heap.size, 4, none⟩ = some (.int .i64 E) := by rw [cell_of_row W _ 4 _ 66 (0, 0) hr]; rfl
  have HW := Lib.hid hW; have HB := Lib.hid hB
  clear hW hB hr hbox hR hn
  go_enter Try.func41, Try.ntmps41
  go_upto_region 1 with (fail)
  rw [← HW.out]
  clear HW
  go_wp2_with fail
  refine (HC.out _).mono ?_
  rintro e w1 ⟨rfl, hb⟩
  have HZ := Lib.hid (btrans HB.out hb)
  clear hb e0 e1 e2 e3 e4 f0 f1 f2 f3
  go_wp2
  go_ret
  exact ⟨rfl, HZ.out⟩
set_option maxRecDepth 100000 in
set_option maxHeartbeats 4000000 in
theorem cswap_any {a1 a2 a3 a4 : Option Addr} {n c1 m c2 k c3 h c4 : Nat} (x : Sw) (hn : n ≤ 70368744177664) (Bf : Nat) (w : World) (hbox : w.heap[Bf]? = some (.cells #[.slice a1 n c1, .slice a2 m c2, .slice a3 k c3, .slice a4 h c4] 27 (0, 0))) (R : Bool) (hR : R = sOk n x) : Calls Try.prog 44 #[.agg x.cs.toArray, .pointer (some ⟨Bf, 0, none⟩)] w fun e w' => e = .returned (.bool R) ∧ Below w.heap.size w w' := by
  obtain ⟨A, B, C⟩ := x
  have HC : Hid (∀ w, Calls Try.prog 45 #[.agg #[.slice a1 n c1, .slice a2 m c2, .slice a3 k c3, .slice a4 h c4], .agg #[.int .i64 A, .int .i64 B, .int .i64 C]] w fun e w' => e = .returned (.bool R) ∧ Below w.heap.size w w') := Lib.hid (fun w => swap_any (a1 := a1) (a2 := a2) (a3 := a3) (a4 := a4) (n := n) (c1 := c1) (m := m) (c2 := c2) (k := k) (c3 := c3) (h := h) (c4 := c4) ⟨A, B, C⟩ hn w R hR)
  change Calls Try.prog 44 #[.agg #[.int .i64 A, .int .i64 B, .int .i64 C], .pointer (some ⟨Bf, 0, none⟩)] w _
  obtain ⟨W, hW⟩ : ∃ W, W = w.alloc (.cells #[.int .i64 A, .int .i64 B, .int .i64 C] 62) := ⟨_, rfl⟩
  have hB : Below w.heap.size w W := by rw [hW]; exact ball (Below.refl _ _) _
  have hr : W.heap[w.heap.size]? = some (.cells #[.int .i64 A, .int .i64 B, .int .i64 C] 62 (0, 0)) := by rw [hW]; exact bnew _ _
  obtain ⟨f0, f1, f2, f3⟩ := box4 (bon hbox hB)
  have e0 : W.cell? ⟨w.heap.size, 0, none⟩ = some (.int .i64 A) := by rw [cell_of_row W _ 0 _ 62 (0, 0) hr]; rfl
  have e1 : W.cell? ⟨w.heap.size, 1, none⟩ = some (.int .i64 B) := by rw [cell_of_row W _ 1 _ 62 (0, 0) hr]; rfl
  have e2 : W.cell? ⟨w.heap.size, 2, none⟩ = some (.int .i64 C) := by rw [cell_of_row W _ 2 _ 62 (0, 0) hr]; rfl
  have HW := Lib.hid hW; have HB := Lib.hid hB
  clear hW hB hr hbox hR hn
  go_enter Try.func44, Try.ntmps44
  go_upto_region 1 with (fail)
  rw [← HW.out]
  clear HW
  go_wp2_with fail
  refine (HC.out _).mono ?_
  rintro e w1 ⟨rfl, hb⟩
  have HZ := Lib.hid (btrans HB.out hb)
  clear hb e0 e1 e2 f0 f1 f2 f3
  go_wp2
  go_ret
  exact ⟨rfl, HZ.out⟩
end Go.Proofs.Ytijdjbkmkopmnaa
