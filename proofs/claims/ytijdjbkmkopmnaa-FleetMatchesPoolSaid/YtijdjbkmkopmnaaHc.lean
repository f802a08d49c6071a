/-
  A railway of a pool is valid; the closures of CheckPool.
-/
import Derived.Test.YtijdjbkmkopmnaaHb
namespace Go.Proofs.Ytijdjbkmkopmnaa
open Go.RowKit
set_option linter.unusedVariables false
set_option linter.unusedSimpArgs false

def rwOk (x : RwC) : Bool := Sgn.vld x.key.toNat && decide (Kal.chkC x.op x.hol = 0)
set_option maxRecDepth 100000 in
set_option maxHeartbeats 4000000 in
theorem railway_any (x : RwC) (hok : x.ok) (w : World) (hl : Kal.Hl (fun k => k < w.heap.size) w (.slice x.ha x.hol.length x.hc) x.hol) (R : Bool) (hR : R = rwOk x) : Calls Try.prog 55 #[.agg x.cs.toArray] w fun e w' => e = .returned (.bool R) ∧ Below w.heap.size w w' := by
  have HK : Hid (∀ w2, Below w.heap.size w w2 → ∀ R2, R2 = Kal.chkC x.op x.hol → Calls Try.prog 27 #[.agg x.cal.toArray] w2 fun e w3 => e = .returned (.int .i64 R2) ∧ Below w2.heap.size w2 w3) := Lib.hid (fun w2 hb R2 hR2 => Kal.ccheck_any x.cal.toArray x.op x.hol w2 (rw_cal hok (hl_on hl hb)) R2 hR2)
  have hv : ∀ w2, Calls Try.prog 26 #[.int .u64 (x.key.toNat : Int)] w2 fun e w3 => e = .returned (.bool (Sgn.vld x.key.toNat)) ∧ Below w2.heap.size w2 w3 := fun w2 => Sgn.valid_any x.key.toNat w2 (by have := hok.1; omega)
  obtain ⟨V1, hV1⟩ : ∃ V, Sgn.vld x.key.toNat = V := ⟨_, rfl⟩
  obtain ⟨R2, hR2⟩ : ∃ V, Kal.chkC x.op x.hol = V := ⟨_, rfl⟩
  unfold rwOk at hR
  rw [hV1, hR2] at hR
  rw [hV1] at hv
  obtain ⟨y, hy⟩ : ∃ y : Nat, x.key = (y : Int) := ⟨x.key.toNat, by have := hok.1; omega⟩
  have hy2 : x.key.toNat = y := by omega
  rw [hy2] at hv
  have HK2 := Lib.hid (fun w2 hb => HK.out w2 hb R2 hR2.symm)
  have HV := Lib.hid hv
  have HR := Lib.hid hR
  clear HK hv hR hV1 hR2 hok hl hy2
  obtain ⟨key, ⟨p0, q0⟩, ⟨p1, q1⟩, ⟨p2, q2⟩, ⟨p3, q3⟩, ⟨p4, q4⟩, ⟨p5, q5⟩, ⟨p6, q6⟩, ha, hc, hol⟩ := x
  dsimp only at hy
  subst hy
  change Hid (∀ w2, Below w.heap.size w w2 → Calls Try.prog 27 #[.agg #[.int .i64 p0, .int .i64 q0, .int .i64 p1, .int .i64 q1, .int .i64 p2, .int .i64 q2, .int .i64 p3, .int .i64 q3, .int .i64 p4, .int .i64 q4, .int .i64 p5, .int .i64 q5, .int .i64 p6, .int .i64 q6, .slice ha hol.length hc]] w2 fun e w3 => e = .returned (.int .i64 R2) ∧ Below w2.heap.size w2 w3) at HK2
  change Calls Try.prog 55 #[.agg #[.int .u64 (y : Int), .int .i64 p0, .int .i64 q0, .int .i64 p1, .int .i64 q1, .int .i64 p2, .int .i64 q2, .int .i64 p3, .int .i64 q3, .int .i64 p4, .int .i64 q4, .int .i64 p5, .int .i64 q5, .int .i64 p6, .int .i64 q6, .slice ha hol.length hc]] w _
  obtain ⟨W, hW⟩ : ∃ W, W = (w.alloc (.cells #[.int .u64 (y : Int), .int .i64 p0, .int .i64 q0, .int .i64 p1, .int .i64 q1, .int .i64 p2, .int .i64 q2, .int .i64 p3, .int .i64 q3, .int .i64 p4, .int .i64 q4, .int .i64 p5, .int .i64 q5, .int .i64 p6, .int .i64 q6, .slice ha hol.length hc] 58)) := ⟨_, rfl⟩
  have hsz : W.heap.size = w.heap.size + 1 := by rw [hW]; simp
  have hB : Below w.heap.size w W := by rw [hW]; exact (ball (Below.refl w.heap.size w) _)
  have hr0 : W.heap[w.heap.size]? = some (.cells #[.int .u64 (y : Int), .int .i64 p0, .int .i64 q0, .int .i64 p1, .int .i64 q1, .int .i64 p2, .int .i64 q2, .int .i64 p3, .int .i64 q3, .int .i64 p4, .int .i64 q4, .int .i64 p5, .int .i64 q5, .int .i64 p6, .int .i64 q6, .slice ha hol.length hc] 58 (0, 0)) := by rw [hW]; exact (have h := bnew w (.cells #[.int .u64 (y : Int), .int .i64 p0, .int .i64 q0, .int .i64 p1, .int .i64 q1, .int .i64 p2, .int .i64 q2, .int .i64 p3, .int .i64 q3, .int .i64 p4, .int .i64 q4, .int .i64 p5, .int .i64 q5, .int .i64 p6, .int .i64 q6, .slice ha hol.length hc] 58); by simpa using h : (w.alloc (.cells #[.int .u64 (y : Int), .int .i64 p0, .int .i64 q0, .int .i64 p1, .int .i64 q1, .int .i64 p2, .int .i64 q2, .int .i64 p3, .int .i64 q3, .int .i64 p4, .int .i64 q4, .int .i64 p5, .int .i64 q5, .int .i64 p6, .int .i64 q6, .slice ha hol.length hc] 58)).heap[w.heap.size]? = some (.cells #[.int .u64 (y : Int), .int .i64 p0, .int .i64 q0, .int .i64 p1, .int .i64 q1, .int .i64 p2, .int .i64 q2, .int .i64 p3, .int .i64 q3, .int .i64 p4, .int .i64 q4, .int .i64 p5, .int .i64 q5, .int .i64 p6, .int .i64 q6, .slice ha hol.length hc] 58 (0, 0)))
  have c10_0 : W.cell? ⟨w.heap.size, 0, none⟩ = some (.int .u64 (y : Int)) := by rw [cell_of_row W _ 0 _ 58 (0, 0) hr0]; rfl
  have c10_1 : W.cell? ⟨w.heap.size, 1, none⟩ = some (.int .i64 p0) := by rw [cell_of_row W _ 1 _ 58 (0, 0) hr0]; rfl
  have c10_2 : W.cell? ⟨w.heap.size, 2, none⟩ = some (.int .i64 q0) := by rw [cell_of_row W _ 2 _ 58 (0, 0) hr0]; rfl
  have c10_3 : W.cell? ⟨w.heap.size, 3, none⟩ = some (.int .i64 p1) := by rw [cell_of_row W _ 3 _ 58 (0, 0) hr0]; rfl
  have c10_4 : W.cell? ⟨w.heap.size, 4, none⟩ = some (.int .i64 q1) := by rw [cell_of_row W _ 4 _ 58 (0, 0) hr0]; rfl
  have c10_5 : W.cell? ⟨w.heap.size, 5, none⟩ = some (.int .i64 p2) := by rw [cell_of_row W _ 5 _ 58 (0, 0) hr0]; rfl
  have c10_6 : W.cell? ⟨w.heap.size, 6, none⟩ = some (.int .i64 q2) := by rw [cell_of_row W _ 6 _ 58 (0, 0) hr0]; rfl
  have c10_7 : W.cell? ⟨w.heap.size, 7, none⟩ = some (.int .i64 p3) := by rw [cell_of_row W _ 7 _ 58 (0, 0) hr0]; rfl
  have c10_8 : W.cell? ⟨w.heap.size, 8, none⟩ = some (.int .i64 q3) := by rw [cell_of_row W _ 8 _ 58 (0, 0) hr0]; rfl
  have c10_9 : W.cell? ⟨w.heap.size, 9, none⟩ = some (.int .i64 p4) := by rw [cell_of_row W _ 9 _ 58 (0, 0) hr0]; rfl
  have c10_10 : W.cell? ⟨w.heap.size, 10, none⟩ = some (.int .i64 q4) := by rw [cell_of_row W _ 10 _ 58 (0, 0) hr0]; rfl
  have c10_11 : W.cell? ⟨w.heap.size, 11, none⟩ = some (.int .i64 p5) := by rw [cell_of_row W _ 11 _ 58 (0, 0) hr0]; rfl
  have c10_12 : W.cell? ⟨w.heap.size, 12, none⟩ = some (.int .i64 q5) := by rw [cell_of_row W _ 12 _ 58 (0, 0) hr0]; rfl
  have c10_13 : W.cell? ⟨w.heap.size, 13, none⟩ = some (.int .i64 p6) := by rw [cell_of_row W _ 13 _ 58 (0, 0) hr0]; rfl
  have c10_14 : W.cell? ⟨w.heap.size, 14, none⟩ = some (.int .i64 q6) := by rw [cell_of_row W _ 14 _ 58 (0, 0) hr0]; rfl
  have c10_15 : W.cell? ⟨w.heap.size, 15, none⟩ = some (.slice ha hol.length hc) := by rw [cell_of_row W _ 15 _ 58 (0, 0) hr0]; rfl
  have HW := Lib.hid hW; have HB := Lib.hid hB; have HSZ := Lib.hid hsz
  clear hW hB hsz hr0
  cases V1 with
  | false =>
    obtain rfl : R = false := by rw [HR.out]; rfl
    clear HR
    go_enter Try.func55, Try.ntmps55
    go_upto_region 1 with (fail)
    rw [← HW.out]
    clear HW
    go_wp2_with fail
    refine (HV.out _).mono ?_
    rintro e w1 ⟨rfl, hb⟩
    have HZ := Lib.hid (btrans HB.out hb)
    have d_0_0 : w1.cell? ⟨w.heap.size, 0, none⟩ = some (.int .u64 (y : Int)) := (hb.cell (p := ⟨w.heap.size, 0, none⟩) (by have := HSZ.out; simp; omega)).trans c10_0
    have d_0_1 : w1.cell? ⟨w.heap.size, 1, none⟩ = some (.int .i64 p0) := (hb.cell (p := ⟨w.heap.size, 1, none⟩) (by have := HSZ.out; simp; omega)).trans c10_1
    have d_0_2 : w1.cell? ⟨w.heap.size, 2, none⟩ = some (.int .i64 q0) := (hb.cell (p := ⟨w.heap.size, 2, none⟩) (by have := HSZ.out; simp; omega)).trans c10_2
    have d_0_3 : w1.cell? ⟨w.heap.size, 3, none⟩ = some (.int .i64 p1) := (hb.cell (p := ⟨w.heap.size, 3, none⟩) (by have := HSZ.out; simp; omega)).trans c10_3
    have d_0_4 : w1.cell? ⟨w.heap.size, 4, none⟩ = some (.int .i64 q1) := (hb.cell (p := ⟨w.heap.size, 4, none⟩) (by have := HSZ.out; simp; omega)).trans c10_4
    have d_0_5 : w1.cell? ⟨w.heap.size, 5, none⟩ = some (.int .i64 p2) := (hb.cell (p := ⟨w.heap.size, 5, none⟩) (by have := HSZ.out; simp; omega)).trans c10_5
    have d_0_6 : w1.cell? ⟨w.heap.size, 6, none⟩ = some (.int .i64 q2) := (hb.cell (p := ⟨w.heap.size, 6, none⟩) (by have := HSZ.out; simp; omega)).trans c10_6
    have d_0_7 : w1.cell? ⟨w.heap.size, 7, none⟩ = some (.int .i64 p3) := (hb.cell (p := ⟨w.heap.size, 7, none⟩) (by have := HSZ.out; simp; omega)).trans c10_7
    have d_0_8 : w1.cell? ⟨w.heap.size, 8, none⟩ = some (.int .i64 q3) := (hb.cell (p := ⟨w.heap.size, 8, none⟩) (by have := HSZ.out; simp; omega)).trans c10_8
    have d_0_9 : w1.cell? ⟨w.heap.size, 9, none⟩ = some (.int .i64 p4) := (hb.cell (p := ⟨w.heap.size, 9, none⟩) (by have := HSZ.out; simp; omega)).trans c10_9
    have d_0_10 : w1.cell? ⟨w.heap.size, 10, none⟩ = some (.int .i64 q4) := (hb.cell (p := ⟨w.heap.size, 10, none⟩) (by have := HSZ.out; simp; omega)).trans c10_10
    have d_0_11 : w1.cell? ⟨w.heap.size, 11, none⟩ = some (.int .i64 p5) := (hb.cell (p := ⟨w.heap.size, 11, none⟩) (by have := HSZ.out; simp; omega)).trans c10_11
    have d_0_12 : w1.cell? ⟨w.heap.size, 12, none⟩ = some (.int .i64 q5) := (hb.cell (p := ⟨w.heap.size, 12, none⟩) (by have := HSZ.out; simp; omega)).trans c10_12
    have d_0_13 : w1.cell? ⟨w.heap.size, 13, none⟩ = some (.int .i64 p6) := (hb.cell (p := ⟨w.heap.size, 13, none⟩) (by have := HSZ.out; simp; omega)).trans c10_13
    have d_0_14 : w1.cell? ⟨w.heap.size, 14, none⟩ = some (.int .i64 q6) := (hb.cell (p := ⟨w.heap.size, 14, none⟩) (by have := HSZ.out; simp; omega)).trans c10_14
    have d_0_15 : w1.cell? ⟨w.heap.size, 15, none⟩ = some (.slice ha hol.length hc) := (hb.cell (p := ⟨w.heap.size, 15, none⟩) (by have := HSZ.out; simp; omega)).trans c10_15
    clear hb c10_0 c10_1 c10_2 c10_3 c10_4 c10_5 c10_6 c10_7 c10_8 c10_9 c10_10 c10_11 c10_12 c10_13 c10_14 c10_15
    go_wp2
    go_ret
    exact ⟨rfl, HZ.out⟩
  | true =>
    by_cases h0 : R2 = 0
    · obtain rfl : R = true := by rw [HR.out, h0]; rfl
      subst h0
      clear HR
      go_enter Try.func55, Try.ntmps55
      go_upto_region 1 with (fail)
      rw [← HW.out]
      clear HW
      go_wp2_with fail
      refine (HV.out _).mono ?_
      rintro e w1 ⟨rfl, hb⟩
      have HZ := Lib.hid (btrans HB.out hb)
      have d_0_0 : w1.cell? ⟨w.heap.size, 0, none⟩ = some (.int .u64 (y : Int)) := (hb.cell (p := ⟨w.heap.size, 0, none⟩) (by have := HSZ.out; simp; omega)).trans c10_0
      have d_0_1 : w1.cell? ⟨w.heap.size, 1, none⟩ = some (.int .i64 p0) := (hb.cell (p := ⟨w.heap.size, 1, none⟩) (by have := HSZ.out; simp; omega)).trans c10_1
      have d_0_2 : w1.cell? ⟨w.heap.size, 2, none⟩ = some (.int .i64 q0) := (hb.cell (p := ⟨w.heap.size, 2, none⟩) (by have := HSZ.out; simp; omega)).trans c10_2
      have d_0_3 : w1.cell? ⟨w.heap.size, 3, none⟩ = some (.int .i64 p1) := (hb.cell (p := ⟨w.heap.size, 3, none⟩) (by have := HSZ.out; simp; omega)).trans c10_3
      have d_0_4 : w1.cell? ⟨w.heap.size, 4, none⟩ = some (.int .i64 q1) := (hb.cell (p := ⟨w.heap.size, 4, none⟩) (by have := HSZ.out; simp; omega)).trans c10_4
      have d_0_5 : w1.cell? ⟨w.heap.size, 5, none⟩ = some (.int .i64 p2) := (hb.cell (p := ⟨w.heap.size, 5, none⟩) (by have := HSZ.out; simp; omega)).trans c10_5
      have d_0_6 : w1.cell? ⟨w.heap.size, 6, none⟩ = some (.int .i64 q2) := (hb.cell (p := ⟨w.heap.size, 6, none⟩) (by have := HSZ.out; simp; omega)).trans c10_6
      have d_0_7 : w1.cell? ⟨w.heap.size, 7, none⟩ = some (.int .i64 p3) := (hb.cell (p := ⟨w.heap.size, 7, none⟩) (by have := HSZ.out; simp; omega)).trans c10_7
      have d_0_8 : w1.cell? ⟨w.heap.size, 8, none⟩ = some (.int .i64 q3) := (hb.cell (p := ⟨w.heap.size, 8, none⟩) (by have := HSZ.out; simp; omega)).trans c10_8
      have d_0_9 : w1.cell? ⟨w.heap.size, 9, none⟩ = some (.int .i64 p4) := (hb.cell (p := ⟨w.heap.size, 9, none⟩) (by have := HSZ.out; simp; omega)).trans c10_9
      have d_0_10 : w1.cell? ⟨w.heap.size, 10, none⟩ = some (.int .i64 q4) := (hb.cell (p := ⟨w.heap.size, 10, none⟩) (by have := HSZ.out; simp; omega)).trans c10_10
      have d_0_11 : w1.cell? ⟨w.heap.size, 11, none⟩ = some (.int .i64 p5) := (hb.cell (p := ⟨w.heap.size, 11, none⟩) (by have := HSZ.out; simp; omega)).trans c10_11
      have d_0_12 : w1.cell? ⟨w.heap.size, 12, none⟩ = some (.int .i64 q5) := (hb.cell (p := ⟨w.heap.size, 12, none⟩) (by have := HSZ.out; simp; omega)).trans c10_12
      have d_0_13 : w1.cell? ⟨w.heap.size, 13, none⟩ = some (.int .i64 p6) := (hb.cell (p := ⟨w.heap.size, 13, none⟩) (by have := HSZ.out; simp; omega)).trans c10_13
      have d_0_14 : w1.cell? ⟨w.heap.size, 14, none⟩ = some (.int .i64 q6) := (hb.cell (p := ⟨w.heap.size, 14, none⟩) (by have := HSZ.out; simp; omega)).trans c10_14
      have d_0_15 : w1.cell? ⟨w.heap.size, 15, none⟩ = some (.slice ha hol.length hc) := (hb.cell (p := ⟨w.heap.size, 15, none⟩) (by have := HSZ.out; simp; omega)).trans c10_15
      clear hb c10_0 c10_1 c10_2 c10_3 c10_4 c10_5 c10_6 c10_7 c10_8 c10_9 c10_10 c10_11 c10_12 c10_13 c10_14 c10_15
      go_wp2_with fail
      refine (HK2.out _ HZ.out).mono ?_
      rintro e w2 ⟨rfl, hb⟩
      have HZ2 := Lib.hid (btrans HZ.out hb)
      clear hb d_0_0 d_0_1 d_0_2 d_0_3 d_0_4 d_0_5 d_0_6 d_0_7 d_0_8 d_0_9 d_0_10 d_0_11 d_0_12 d_0_13 d_0_14 d_0_15
      go_wp2
      go_ret
      exact ⟨rfl, HZ2.out⟩
    · obtain rfl : R = false := by rw [HR.out, decide_eq_false h0]; rfl
      have h0b : (R2 == 0) = false := by simpa using h0
      clear HR h0
      go_enter Try.func55, Try.ntmps55
      go_upto_region 1 with (fail)
      rw [← HW.out]
      clear HW
      go_wp2_with fail
      refine (HV.out _).mono ?_
      rintro e w1 ⟨rfl, hb⟩
      have HZ := Lib.hid (btrans HB.out hb)
      have d_0_0 : w1.cell? ⟨w.heap.size, 0, none⟩ = some (.int .u64 (y : Int)) := (hb.cell (p := ⟨w.heap.size, 0, none⟩) (by have := HSZ.out; simp; omega)).trans c10_0
      have d_0_1 : w1.cell? ⟨w.heap.size, 1, none⟩ = some (.int .i64 p0) := (hb.cell (p := ⟨w.heap.size, 1, none⟩) (by have := HSZ.out; simp; omega)).trans c10_1
      have d_0_2 : w1.cell? ⟨w.heap.size, 2, none⟩ = some (.int .i64 q0) := (hb.cell (p := ⟨w.heap.size, 2, none⟩) (by have := HSZ.out; simp; omega)).trans c10_2
      have d_0_3 : w1.cell? ⟨w.heap.size, 3, none⟩ = some (.int .i64 p1) := (hb.cell (p := ⟨w.heap.size, 3, none⟩) (by have := HSZ.out; simp; omega)).trans c10_3
      have d_0_4 : w1.cell? ⟨w.heap.size, 4, none⟩ = some (.int .i64 q1) := (hb.cell (p := ⟨w.heap.size, 4, none⟩) (by have := HSZ.out; simp; omega)).trans c10_4
      have d_0_5 : w1.cell? ⟨w.heap.size, 5, none⟩ = some (.int .i64 p2) := (hb.cell (p := ⟨w.heap.size, 5, none⟩) (by have := HSZ.out; simp; omega)).trans c10_5
      have d_0_6 : w1.cell? ⟨w.heap.size, 6, none⟩ = some (.int .i64 q2) := (hb.cell (p := ⟨w.heap.size, 6, none⟩) (by have := HSZ.out; simp; omega)).trans c10_6
      have d_0_7 : w1.cell? ⟨w.heap.size, 7, none⟩ = some (.int .i64 p3) := (hb.cell (p := ⟨w.heap.size, 7, none⟩) (by have := HSZ.out; simp; omega)).trans c10_7
      have d_0_8 : w1.cell? ⟨w.heap.size, 8, none⟩ = some (.int .i64 q3) := (hb.cell (p := ⟨w.heap.size, 8, none⟩) (by have := HSZ.out; simp; omega)).trans c10_8
      have d_0_9 : w1.cell? ⟨w.heap.size, 9, none⟩ = some (.int .i64 p4) := (hb.cell (p := ⟨w.heap.size, 9, none⟩) (by have := HSZ.out; simp; omega)).trans c10_9
      have d_0_10 : w1.cell? ⟨w.heap.size, 10, none⟩ = some (.int .i64 q4) := (hb.cell (p := ⟨w.heap.size, 10, none⟩) (by have := HSZ.out; simp; omega)).trans c10_10
      have d_0_11 : w1.cell? ⟨w.heap.size, 11, none⟩ = some (.int .i64 p5) := (hb.cell (p := ⟨w.heap.size, 11, none⟩) (by have := HSZ.out; simp; omega)).trans c10_11
      have d_0_12 : w1.cell? ⟨w.heap.size, 12, none⟩ = some (.int .i64 q5) := (hb.cell (p := ⟨w.heap.size, 12, none⟩) (by have := HSZ.out; simp; omega)).trans c10_12
      have d_0_13 : w1.cell? ⟨w.heap.size, 13, none⟩ = some (.int .i64 p6) := (hb.cell (p := ⟨w.heap.size, 13, none⟩) (by have := HSZ.out; simp; omega)).trans c10_13
      have d_0_14 : w1.cell? ⟨w.heap.size, 14, none⟩ = some (.int .i64 q6) := (hb.cell (p := ⟨w.heap.size, 14, none⟩) (by have := HSZ.out; simp; omega)).trans c10_14
      have d_0_15 : w1.cell? ⟨w.heap.size, 15, none⟩ = some (.slice ha hol.length hc) := (hb.cell (p := ⟨w.heap.size, 15, none⟩) (by have := HSZ.out; simp; omega)).trans c10_15
      clear hb c10_0 c10_1 c10_2 c10_3 c10_4 c10_5 c10_6 c10_7 c10_8 c10_9 c10_10 c10_11 c10_12 c10_13 c10_14 c10_15
      go_wp2_with fail
      refine (HK2.out _ HZ.out).mono ?_
      rintro e w2 ⟨rfl, hb⟩
      have HZ2 := Lib.hid (btrans HZ.out hb)
      clear hb d_0_0 d_0_1 d_0_2 d_0_3 d_0_4 d_0_5 d_0_6 d_0_7 d_0_8 d_0_9 d_0_10 d_0_11 d_0_12 d_0_13 d_0_14 d_0_15
      go_wp2
      go_ret
      exact ⟨rfl, HZ2.out⟩
set_option maxRecDepth 100000 in
set_option maxHeartbeats 4000000 in
theorem cl57_any {a0 a1 a2 a3 a4 a5 a6 a7 a8 : Option Addr} {n0 c0 n1 c1 n2 c2 n3 c3 n4 c4 n5 c5 n6 c6 n7 c7 n8 c8 : Nat} (x : RdC) (Bf : Nat) (w : World) (hbox : w.heap[Bf]? = some (.cells #[.slice a0 n0 c0, .slice a1 n1 c1, .slice a2 n2 c2, .slice a3 n3 c3, .slice a4 n4 c4, .slice a5 n5 c5, .slice a6 n6 c6, .slice a7 n7 c7, .slice a8 n8 c8] 49 (0, 0))) (hn : n0 ≤ 70368744177664) (R : Bool) (hR : R = rdOk n0 x) : Calls Try.prog 57 #[.agg x.cs.toArray, .pointer (some ⟨Bf, 0, none⟩)] w fun e w' => e = .returned (.bool R) ∧ Below w.heap.size w w' := by
  have HC : Hid (∀ w1, Below w.heap.size w w1 → Calls Try.prog 58 #[.agg #[.slice a0 n0 c0, .slice a1 n1 c1, .slice a2 n2 c2, .slice a3 n3 c3, .slice a4 n4 c4, .slice a5 n5 c5, .slice a6 n6 c6, .slice a7 n7 c7, .slice a8 n8 c8], .agg x.cs.toArray] w1 fun e w2 => e = .returned (.bool R) ∧ Below w1.heap.size w1 w2) := Lib.hid (fun w1 hb => reader_any  x hn w1 R hR)
  clear hR hn
  obtain ⟨P, L, H⟩ := x
  change Hid (∀ w1, Below w.heap.size w w1 → Calls Try.prog 58 #[.agg #[.slice a0 n0 c0, .slice a1 n1 c1, .slice a2 n2 c2, .slice a3 n3 c3, .slice a4 n4 c4, .slice a5 n5 c5, .slice a6 n6 c6, .slice a7 n7 c7, .slice a8 n8 c8], .agg #[.int .i64 P, .int .i64 L, .int .i64 H]] w1 fun e w2 => e = .returned (.bool R) ∧ Below w1.heap.size w1 w2) at HC
  change Calls Try.prog 57 #[.agg #[.int .i64 P, .int .i64 L, .int .i64 H], .pointer (some ⟨Bf, 0, none⟩)] w _
  obtain ⟨W, hW⟩ : ∃ W, W = (w.alloc (.cells #[.int .i64 P, .int .i64 L, .int .i64 H] 75)) := ⟨_, rfl⟩
  have hsz : W.heap.size = w.heap.size + 1 := by rw [hW]; simp
  have hB : Below w.heap.size w W := by rw [hW]; exact (ball (Below.refl w.heap.size w) _)
  have hr0 : W.heap[w.heap.size]? = some (.cells #[.int .i64 P, .int .i64 L, .int .i64 H] 75 (0, 0)) := by rw [hW]; exact (have h := bnew w (.cells #[.int .i64 P, .int .i64 L, .int .i64 H] 75); by simpa using h : (w.alloc (.cells #[.int .i64 P, .int .i64 L, .int .i64 H] 75)).heap[w.heap.size]? = some (.cells #[.int .i64 P, .int .i64 L, .int .i64 H] 75 (0, 0)))
  have c10_0 : W.cell? ⟨w.heap.size, 0, none⟩ = some (.int .i64 P) := by rw [cell_of_row W _ 0 _ 75 (0, 0) hr0]; rfl
  have c10_1 : W.cell? ⟨w.heap.size, 1, none⟩ = some (.int .i64 L) := by rw [cell_of_row W _ 1 _ 75 (0, 0) hr0]; rfl
  have c10_2 : W.cell? ⟨w.heap.size, 2, none⟩ = some (.int .i64 H) := by rw [cell_of_row W _ 2 _ 75 (0, 0) hr0]; rfl
  obtain ⟨f0, f1, f2, f3, f4, f5, f6, f7, f8⟩ := box9 (bon hbox hB)
  have HW := Lib.hid hW; have HB := Lib.hid hB; have HSZ := Lib.hid hsz
  clear hW hB hsz hr0 hbox
  go_enter Try.func57, Try.ntmps57
  go_upto_region 1 with (fail)
  rw [← HW.out]
  clear HW
  go_wp2_with fail
  refine (HC.out _ HB.out).mono ?_
  rintro e w1 ⟨rfl, hb⟩
  have HZ := Lib.hid (btrans HB.out hb)
  clear hb f0 f1 f2 f3 f4 f5 f6 f7 f8 c10_0 c10_1 c10_2
  go_wp2
  go_ret
  exact ⟨rfl, HZ.out⟩
set_option maxRecDepth 100000 in
set_option maxHeartbeats 4000000 in
theorem cl60_any {a0 a1 a2 a3 a4 a5 a6 a7 a8 : Option Addr} {n0 c0 n1 c1 n2 c2 n3 c3 n4 c4 n5 c5 n6 c6 n7 c7 n8 c8 : Nat} (x : ShC) (Bf : Nat) (w : World) (hbox : w.heap[Bf]? = some (.cells #[.slice a0 n0 c0, .slice a1 n1 c1, .slice a2 n2 c2, .slice a3 n3 c3, .slice a4 n4 c4, .slice a5 n5 c5, .slice a6 n6 c6, .slice a7 n7 c7, .slice a8 n8 c8] 49 (0, 0))) {ps : List PlC} (hn : n0 = ps.length) (hp : PlS (fun k => k < w.heap.size) w (.slice a0 n0 c0) ps) (R : Bool) (hR : R = shOk ps x) : Calls Try.prog 60 #[.agg x.cs.toArray, .pointer (some ⟨Bf, 0, none⟩)] w fun e w' => e = .returned (.bool R) ∧ Below w.heap.size w w' := by
  have HC : Hid (∀ w1, Below w.heap.size w w1 → Calls Try.prog 61 #[.agg #[.slice a0 n0 c0, .slice a1 n1 c1, .slice a2 n2 c2, .slice a3 n3 c3, .slice a4 n4 c4, .slice a5 n5 c5, .slice a6 n6 c6, .slice a7 n7 c7, .slice a8 n8 c8], .agg x.cs.toArray] w1 fun e w2 => e = .returned (.bool R) ∧ Below w1.heap.size w1 w2) := Lib.hid (fun w1 hb => shipper_any  x hn w1 (hp.on hb) R hR)
  clear hR hn hp
  obtain ⟨P⟩ := x
  change Hid (∀ w1, Below w.heap.size w w1 → Calls Try.prog 61 #[.agg #[.slice a0 n0 c0, .slice a1 n1 c1, .slice a2 n2 c2, .slice a3 n3 c3, .slice a4 n4 c4, .slice a5 n5 c5, .slice a6 n6 c6, .slice a7 n7 c7, .slice a8 n8 c8], .agg #[.int .i64 P]] w1 fun e w2 => e = .returned (.bool R) ∧ Below w1.heap.size w1 w2) at HC
  change Calls Try.prog 60 #[.agg #[.int .i64 P], .pointer (some ⟨Bf, 0, none⟩)] w _
  obtain ⟨W, hW⟩ : ∃ W, W = (w.alloc (.cells #[.int .i64 P] 79)) := ⟨_, rfl⟩
  have hsz : W.heap.size = w.heap.size + 1 := by rw [hW]; simp
  have hB : Below w.heap.size w W := by rw [hW]; exact (ball (Below.refl w.heap.size w) _)
  have hr0 : W.heap[w.heap.size]? = some (.cells #[.int .i64 P] 79 (0, 0)) := by rw [hW]; exact (have h := bnew w (.cells #[.int .i64 P] 79); by simpa using h : (w.alloc (.cells #[.int .i64 P] 79)).heap[w.heap.size]? = some (.cells #[.int .i64 P] 79 (0, 0)))
  have c10_0 : W.cell? ⟨w.heap.size, 0, none⟩ = some (.int .i64 P) := by rw [cell_of_row W _ 0 _ 79 (0, 0) hr0]; rfl
  obtain ⟨f0, f1, f2, f3, f4, f5, f6, f7, f8⟩ := box9 (bon hbox hB)
  have HW := Lib.hid hW; have HB := Lib.hid hB; have HSZ := Lib.hid hsz
  clear hW hB hsz hr0 hbox
  go_enter Try.func60, Try.ntmps60
  go_upto_region 1 with (fail)
  rw [← HW.out]
  clear HW
  go_wp2_with fail
  refine (HC.out _ HB.out).mono ?_
  rintro e w1 ⟨rfl, hb⟩
  have HZ := Lib.hid (btrans HB.out hb)
  clear hb f0 f1 f2 f3 f4 f5 f6 f7 f8 c10_0
  go_wp2
  go_ret
  exact ⟨rfl, HZ.out⟩
set_option maxRecDepth 100000 in
set_option maxHeartbeats 4000000 in
theorem cl65_any {a0 a1 a2 a3 a4 a5 a6 a7 a8 : Option Addr} {n0 c0 n1 c1 n2 c2 n3 c3 n4 c4 n5 c5 n6 c6 n7 c7 n8 c8 : Nat} (x : PlC) (Bf : Nat) (w : World) (hbox : w.heap[Bf]? = some (.cells #[.slice a0 n0 c0, .slice a1 n1 c1, .slice a2 n2 c2, .slice a3 n3 c3, .slice a4 n4 c4, .slice a5 n5 c5, .slice a6 n6 c6, .slice a7 n7 c7, .slice a8 n8 c8] 49 (0, 0))) (hn : n8 ≤ 70368744177664) (R : Bool) (hR : R = plOk n8 x) : Calls Try.prog 65 #[.agg x.cs.toArray, .pointer (some ⟨Bf, 0, none⟩)] w fun e w' => e = .returned (.bool R) ∧ Below w.heap.size w w' := by
  have HC : Hid (∀ w1, Below w.heap.size w w1 → Calls Try.prog 66 #[.agg #[.slice a0 n0 c0, .slice a1 n1 c1, .slice a2 n2 c2, .slice a3 n3 c3, .slice a4 n4 c4, .slice a5 n5 c5, .slice a6 n6 c6, .slice a7 n7 c7, .slice a8 n8 c8], .agg x.cs.toArray] w1 fun e w2 => e = .returned (.bool R) ∧ Below w1.heap.size w1 w2) := Lib.hid (fun w1 hb => known_any  x hn w1 R hR)
  clear hR hn
  obtain ⟨K, A, O⟩ := x
  change Hid (∀ w1, Below w.heap.size w w1 → Calls Try.prog 66 #[.agg #[.slice a0 n0 c0, .slice a1 n1 c1, .slice a2 n2 c2, .slice a3 n3 c3, .slice a4 n4 c4, .slice a5 n5 c5, .slice a6 n6 c6, .slice a7 n7 c7, .slice a8 n8 c8], .agg #[.int .i64 K, .int .i64 A, .int .i64 O]] w1 fun e w2 => e = .returned (.bool R) ∧ Below w1.heap.size w1 w2) at HC
  change Calls Try.prog 65 #[.agg #[.int .i64 K, .int .i64 A, .int .i64 O], .pointer (some ⟨Bf, 0, none⟩)] w _
  obtain ⟨W, hW⟩ : ∃ W, W = (w.alloc (.cells #[.int .i64 K, .int .i64 A, .int .i64 O] 77)) := ⟨_, rfl⟩
  have hsz : W.heap.size = w.heap.size + 1 := by rw [hW]; simp
  have hB : Below w.heap.size w W := by rw [hW]; exact (ball (Below.refl w.heap.size w) _)
  have hr0 : W.heap[w.heap.size]? = some (.cells #[.int .i64 K, .int .i64 A, .int .i64 O] 77 (0, 0)) := by rw [hW]; exact (have h := bnew w (.cells #[.int .i64 K, .int .i64 A, .int .i64 O] 77); by simpa using h : (w.alloc (.cells #[.int .i64 K, .int .i64 A, .int .i64 O] 77)).heap[w.heap.size]? = some (.cells #[.int .i64 K, .int .i64 A, .int .i64 O] 77 (0, 0)))
  have c10_0 : W.cell? ⟨w.heap.size, 0, none⟩ = some (.int .i64 K) := by rw [cell_of_row W _ 0 _ 77 (0, 0) hr0]; rfl
  have c10_1 : W.cell? ⟨w.heap.size, 1, none⟩ = some (.int .i64 A) := by rw [cell_of_row W _ 1 _ 77 (0, 0) hr0]; rfl
  have c10_2 : W.cell? ⟨w.heap.size, 2, none⟩ = some (.int .i64 O) := by rw [cell_of_row W _ 2 _ 77 (0, 0) hr0]; rfl
  obtain ⟨f0, f1, f2, f3, f4, f5, f6, f7, f8⟩ := box9 (bon hbox hB)
  have HW := Lib.hid hW; have HB := Lib.hid hB; have HSZ := Lib.hid hsz
  clear hW hB hsz hr0 hbox
  go_enter Try.func65, Try.ntmps65
  go_upto_region 1 with (fail)
  rw [← HW.out]
  clear HW
  go_wp2_with fail
  refine (HC.out _ HB.out).mono ?_
  rintro e w1 ⟨rfl, hb⟩
  have HZ := Lib.hid (btrans HB.out hb)
  clear hb f0 f1 f2 f3 f4 f5 f6 f7 f8 c10_0 c10_1 c10_2
  go_wp2
  go_ret
  exact ⟨rfl, HZ.out⟩
set_option maxRecDepth 100000 in
set_option maxHeartbeats 4000000 in
theorem cl62_any {a0 a1 a2 a3 a4 a5 a6 a7 a8 : Option Addr} {n0 c0 n1 c1 n2 c2 n3 c3 n4 c4 n5 c5 n6 c6 n7 c7 n8 c8 : Nat} (x : Wn) (Bf : Nat) (w : World) (hbox : w.heap[Bf]? = some (.cells #[.slice a0 n0 c0, .slice a1 n1 c1, .slice a2 n2 c2, .slice a3 n3 c3, .slice a4 n4 c4, .slice a5 n5 c5, .slice a6 n6 c6, .slice a7 n7 c7, .slice a8 n8 c8] 49 (0, 0))) (hn : n0 ≤ 70368744177664) (R : Bool) (hR : R = rng 0 x.ho ((n0 : Int) - 1)) : Calls Try.prog 62 #[.agg x.cs.toArray, .pointer (some ⟨Bf, 0, none⟩)] w fun e w' => e = .returned (.bool R) ∧ Below w.heap.size w w' := by
  subst hR
  obtain ⟨R, hR⟩ : ∃ R, R = rng 0 x.ho ((n0 : Int) - 1) := ⟨_, rfl⟩
  rw [← hR]
  have HC : Hid (∀ w1, Calls Try.prog 63 #[.agg #[.slice a0 n0 c0, .slice a1 n1 c1, .slice a2 n2 c2, .slice a3 n3 c3, .slice a4 n4 c4, .slice a5 n5 c5, .slice a6 n6 c6, .slice a7 n7 c7, .slice a8 n8 c8], .int .i64 x.ho] w1 fun e w2 => e = .returned (.bool R) ∧ Below w1.heap.size w1 w2) := Lib.hid (fun w1 => by rw [hR]; exact pplace_any x.ho hn w1)
  clear hR hn
  obtain ⟨A, B, C, D, E⟩ := x
  change Hid (∀ w1, Calls Try.prog 63 #[.agg #[.slice a0 n0 c0, .slice a1 n1 c1, .slice a2 n2 c2, .slice a3 n3 c3, .slice a4 n4 c4, .slice a5 n5 c5, .slice a6 n6 c6, .slice a7 n7 c7, .slice a8 n8 c8], .int .i64 C] w1 fun e w2 => e = .returned (.bool R) ∧ Below w1.heap.size w1 w2) at HC
  change Calls Try.prog 62 #[.agg #[.int .i64 A, .int .i64 B, .int .i64 C, .int .i64 D, .int .i64 E], .pointer (some ⟨Bf, 0, none⟩)] w _
  obtain ⟨W, hW⟩ : ∃ W, W = (w.alloc (.cells #[.int .i64 A, .int .i64 B, .int .i64 C, .int .i64 D, .int .i64 E] 66)) := ⟨_, rfl⟩
  have hsz : W.heap.size = w.heap.size + 1 := by rw [hW]; simp
  have hB : Below w.heap.size w W := by rw [hW]; exact (ball (Below.refl w.heap.size w) _)
  have hr0 : W.heap[w.heap.size]? = some (.cells #[.int .i64 A, .int .i64 B, .int .i64 C, .int .i64 D, .int .i64 E] 66 (0, 0)) := by rw [hW]; exact (have h := bnew w (.cells #[.int .i64 A, .int .i64 B, .int .i64 C, .int .i64 D, .int .i64 E] 66); by simpa using h : (w.alloc (.cells #[.int .i64 A, .int .i64 B, .int .i64 C, .int .i64 D, .int .i64 E] 66)).heap[w.heap.size]? = some (.cells #[.int .i64 A, .int .i64 B, .int .i64 C, .int .i64 D, .int .i64 E] 66 (0, 0)))
  have c10_0 : W.cell? ⟨w.heap.size, 0, none⟩ = some (.int .i64 A) := by rw [cell_of_row W _ 0 _ 66 (0, 0) hr0]; rfl
  have c10_1 : W.cell? ⟨w.heap.size, 1, none⟩ = some (.int .i64 B) := by rw [cell_of_row W _ 1 _ 66 (0, 0) hr0]; rfl
  have c10_2 : W.cell? ⟨w.heap.size, 2, none⟩ = some (.int .i64 C) := by rw [cell_of_row W _ 2 _ 66 (0, 0) hr0]; rfl
  have c10_3 : W.cell? ⟨w.heap.size, 3, none⟩ = some (.int .i64 D) := by rw [cell_of_row W _ 3 _ 66 (0, 0) hr0]; rfl
  have c10_4 : W.cell? ⟨w.heap.size, 4, none⟩ = some (.int .i64 E) := by rw [cell_of_row W _ 4 _ 66 (0, 0) hr0]; rfl
  obtain ⟨f0, f1, f2, f3, f4, f5, f6, f7, f8⟩ := box9 (bon hbox hB)
  have HW := Lib.hid hW; have HB := Lib.hid hB; have HSZ := Lib.hid hsz
  clear hW hB hsz hr0 hbox
  go_enter Try.func62, Try.ntmps62
  go_upto_region 1 with (fail)
  rw [← HW.out]
  clear HW
  go_wp2_with fail
  refine (HC.out _).mono ?_
  rintro e w1 ⟨rfl, hb⟩
  have HZ := Lib.hid (btrans HB.out hb)
  clear hb f0 f1 f2 f3 f4 f5 f6 f7 f8 c10_0 c10_1 c10_2 c10_3 c10_4
  go_wp2
  go_ret
  exact ⟨rfl, HZ.out⟩
set_option maxRecDepth 100000 in
set_option maxHeartbeats 4000000 in
theorem cl68_any {a0 a1 a2 a3 a4 a5 a6 a7 a8 : Option Addr} {n0 c0 n1 c1 n2 c2 n3 c3 n4 c4 n5 c5 n6 c6 n7 c7 n8 c8 : Nat} (x : EdC) (Bf : Nat) (w : World) (hbox : w.heap[Bf]? = some (.cells #[.slice a0 n0 c0, .slice a1 n1 c1, .slice a2 n2 c2, .slice a3 n3 c3, .slice a4 n4 c4, .slice a5 n5 c5, .slice a6 n6 c6, .slice a7 n7 c7, .slice a8 n8 c8] 49 (0, 0))) (hn : n8 ≤ 70368744177664) (R : Bool) (hR : R = rng 0 x.r ((n8 : Int) - 1)) : Calls Try.prog 68 #[.agg x.cs.toArray, .pointer (some ⟨Bf, 0, none⟩)] w fun e w' => e = .returned (.bool R) ∧ Below w.heap.size w w' := by
  subst hR
  obtain ⟨R, hR⟩ : ∃ R, R = rng 0 x.r ((n8 : Int) - 1) := ⟨_, rfl⟩
  rw [← hR]
  have HC : Hid (∀ w1, Calls Try.prog 69 #[.agg #[.slice a0 n0 c0, .slice a1 n1 c1, .slice a2 n2 c2, .slice a3 n3 c3, .slice a4 n4 c4, .slice a5 n5 c5, .slice a6 n6 c6, .slice a7 n7 c7, .slice a8 n8 c8], .int .i64 x.r] w1 fun e w2 => e = .returned (.bool R) ∧ Below w1.heap.size w1 w2) := Lib.hid (fun w1 => by rw [hR]; exact prail_any x.r hn w1)
  clear hR hn
  obtain ⟨A, B, C, D, E⟩ := x
  change Hid (∀ w1, Calls Try.prog 69 #[.agg #[.slice a0 n0 c0, .slice a1 n1 c1, .slice a2 n2 c2, .slice a3 n3 c3, .slice a4 n4 c4, .slice a5 n5 c5, .slice a6 n6 c6, .slice a7 n7 c7, .slice a8 n8 c8], .int .i64 C] w1 fun e w2 => e = .returned (.bool R) ∧ Below w1.heap.size w1 w2) at HC
  change Calls Try.prog 68 #[.agg #[.int .i64 A, .int .i64 B, .int .i64 C, .int .i64 D, .int .i64 E], .pointer (some ⟨Bf, 0, none⟩)] w _
  obtain ⟨W, hW⟩ : ∃ W, W = (w.alloc (.cells #[.int .i64 A, .int .i64 B, .int .i64 C, .int .i64 D, .int .i64 E] 120)) := ⟨_, rfl⟩
  have hsz : W.heap.size = w.heap.size + 1 := by rw [hW]; simp
  have hB : Below w.heap.size w W := by rw [hW]; exact (ball (Below.refl w.heap.size w) _)
  have hr0 : W.heap[w.heap.size]? = some (.cells #[.int .i64 A, .int .i64 B, .int .i64 C, .int .i64 D, .int .i64 E] 120 (0, 0)) := by rw [hW]; exact (have h := bnew w (.cells #[.int .i64 A, .int .i64 B, .int .i64 C, .int .i64 D, .int .i64 E] 120); by simpa using h : (w.alloc (.cells #[.int .i64 A, .int .i64 B, .int .i64 C, .int .i64 D, .int .i64 E] 120)).heap[w.heap.size]? = some (.cells #[.int .i64 A, .int .i64 B, .int .i64 C, .int .i64 D, .int .i64 E] 120 (0, 0)))
  have c10_0 : W.cell? ⟨w.heap.size, 0, none⟩ = some (.int .i64 A) := by rw [cell_of_row W _ 0 _ 120 (0, 0) hr0]; rfl
  have c10_1 : W.cell? ⟨w.heap.size, 1, none⟩ = some (.int .i64 B) := by rw [cell_of_row W _ 1 _ 120 (0, 0) hr0]; rfl
  have c10_2 : W.cell? ⟨w.heap.size, 2, none⟩ = some (.int .i64 C) := by rw [cell_of_row W _ 2 _ 120 (0, 0) hr0]; rfl
  have c10_3 : W.cell? ⟨w.heap.size, 3, none⟩ = some (.int .i64 D) := by rw [cell_of_row W _ 3 _ 120 (0, 0) hr0]; rfl
  have c10_4 : W.cell? ⟨w.heap.size, 4, none⟩ = some (.int .i64 E) := by rw [cell_of_row W _ 4 _ 120 (0, 0) hr0]; rfl
  obtain ⟨f0, f1, f2, f3, f4, f5, f6, f7, f8⟩ := box9 (bon hbox hB)
  have HW := Lib.hid hW; have HB := Lib.hid hB; have HSZ := Lib.hid hsz
  clear hW hB hsz hr0 hbox
  go_enter Try.func68, Try.ntmps68
  go_upto_region 1 with (fail)
  rw [← HW.out]
  clear HW
  go_wp2_with fail
  refine (HC.out _).mono ?_
  rintro e w1 ⟨rfl, hb⟩
  have HZ := Lib.hid (btrans HB.out hb)
  clear hb f0 f1 f2 f3 f4 f5 f6 f7 f8 c10_0 c10_1 c10_2 c10_3 c10_4
  go_wp2
  go_ret
  exact ⟨rfl, HZ.out⟩
set_option maxRecDepth 100000 in
set_option maxHeartbeats 4000000 in
theorem cl52_any {a0 a1 a2 a3 a4 a5 a6 a7 a8 : Option Addr} {n0 c0 n1 c1 n2 c2 n3 c3 n4 c4 n5 c5 n6 c6 n7 c7 n8 c8 : Nat} (Bf : Nat) (w : World) (hbox : w.heap[Bf]? = some (.cells #[.slice a0 n0 c0, .slice a1 n1 c1, .slice a2 n2 c2, .slice a3 n3 c3, .slice a4 n4 c4, .slice a5 n5 c5, .slice a6 n6 c6, .slice a7 n7 c7, .slice a8 n8 c8] 49 (0, 0))) (R : Int) (hc : Calls Try.prog 25 #[.agg #[.slice a0 n0 c0, .slice a1 n1 c1]] w fun e w' => e = .returned (.int .i64 R) ∧ Below w.heap.size w w') : Calls Try.prog 52 #[.pointer (some ⟨Bf, 0, none⟩)] w fun e w' => e = .returned (.int .i64 R) ∧ Below w.heap.size w w' := by
  obtain ⟨f0, f1, f2, f3, f4, f5, f6, f7, f8⟩ := box9 hbox
  have HC := Lib.hid hc
  clear hc hbox
  go_enter Try.func52, Try.ntmps52
  go_wp2_with fail
  refine HC.out.mono ?_
  rintro e w1 ⟨rfl, hb⟩
  have HZ := Lib.hid hb
  clear hb f0 f1 f2 f3 f4 f5 f6 f7 f8
  go_wp2
  go_ret
  exact ⟨rfl, HZ.out⟩
set_option maxRecDepth 100000 in
set_option maxHeartbeats 4000000 in
theorem cl53_any {a0 a1 a2 a3 a4 a5 a6 a7 a8 : Option Addr} {n0 c0 n1 c1 n2 c2 n3 c3 n4 c4 n5 c5 n6 c6 n7 c7 n8 c8 : Nat} (Bf : Nat) (w : World) (hbox : w.heap[Bf]? = some (.cells #[.slice a0 n0 c0, .slice a1 n1 c1, .slice a2 n2 c2, .slice a3 n3 c3, .slice a4 n4 c4, .slice a5 n5 c5, .slice a6 n6 c6, .slice a7 n7 c7, .slice a8 n8 c8] 49 (0, 0))) (R : Int) (hc : Calls Try.prog 18 #[.agg #[.slice a2 n2 c2, .slice a3 n3 c3, .slice a4 n4 c4, .slice a5 n5 c5]] w fun e w' => e = .returned (.int .i64 R) ∧ Below w.heap.size w w') : Calls Try.prog 53 #[.pointer (some ⟨Bf, 0, none⟩)] w fun e w' => e = .returned (.int .i64 R) ∧ Below w.heap.size w w' := by
  obtain ⟨f0, f1, f2, f3, f4, f5, f6, f7, f8⟩ := box9 hbox
  have HC := Lib.hid hc
  clear hc hbox
  go_enter Try.func53, Try.ntmps53
  go_wp2_with fail
  refine HC.out.mono ?_
  rintro e w1 ⟨rfl, hb⟩
  have HZ := Lib.hid hb
  clear hb f0 f1 f2 f3 f4 f5 f6 f7 f8
  go_wp2
  go_ret
  exact ⟨rfl, HZ.out⟩
end Go.Proofs.Ytijdjbkmkopmnaa
