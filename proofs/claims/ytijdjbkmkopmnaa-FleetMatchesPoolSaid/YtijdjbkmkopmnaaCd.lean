/-
  Walks: washes, both sides.
-/
import Derived.Test.YtijdjbkmkopmnaaCe
import Derived.Test.YtijdjbkmkopmnaaEd
import Derived.Great.Walk
import Derived.Laws.OwnMore
namespace Go.Proofs.Ytijdjbkmkopmnaa
open Go.RowKit
set_option linter.unusedVariables false
set_option linter.unusedSimpArgs false

def zk : Array Value := Array.replicate 4096 (.bool false)
theorem zk_get {i : Nat} (h : i < 4096) : zk[i]? = some (.bool false) := by
  unfold zk; rw [Array.getElem?_replicate, if_pos h]
theorem zk_size : zk.size = 4096 := Array.size_replicate
set_option maxRecDepth 1000000 in
theorem alloc131 (ρ : Operand → Value) (w : World) (o : Oper) (ho : o.op = .alloc 131) : (execOp ρ o).run Try.prog w = .ok (.value (.pointer (some ⟨w.heap.size, 0, none⟩))) (w.alloc (.cells zk 131)) := by
  unfold execOp
  simp only [ho]
  kernel_rfl
theorem quiet_eq {P : Program} {f : FuncId} {args : Array Value} {w : World} {n : Nat} {v : Value} (h : Calls P f args (w.drewN n) fun e w' => e = .returned v ∧ w.drewN n = w') : Calls P f args (w.drewN n) fun e w'' => e = .returned v ∧ ∃ m, w'' = w.drewN m :=
  h.mono fun _ _ ⟨he, hm⟩ => ⟨he, n, hm.symm⟩
theorem grownN {w W : World} {r : Option Nat} (h : w.grownBy W r) (n : Nat) : w.grownBy (W.drewN n) r := ⟨h.os, h.tape, h.output, h.size, h.block⟩
theorem newWash_any (w : World) : Calls Try.prog 47 #[] w fun e w' => e = .returned (fv 89 #[.pointer (some ⟨w.heap.size, 0, none⟩)]) ∧ w' = w.alloc (.cells zk 131) := by
  go_enter Try.func47, Try.ntmps47
  go_wp2_with (refine Great.wpList_runTo rfl (some 1) rfl _ _ (alloc131 _ _ _ rfl) ?_)
  go_ret
  exact ⟨rfl, rfl⟩
/-- Block KB holds which pairs are known. -/
def Kn (w : World) (KB : Nat) (S : Nat → Nat → Bool) : Prop := ∃ arr, w.heap[KB]? = some (.cells arr 131 (0, 0)) ∧ arr.size = 4096 ∧ ∀ i j, i < 64 → j < 64 → arr[i * 64 + j]? = some (.bool (S i j))
theorem Kn.on {w w' : World} {KB : Nat} {S : Nat → Nat → Bool} (h : Kn w KB S) (hb : w'.heap[KB]? = w.heap[KB]?) : Kn w' KB S := by
  obtain ⟨arr, h1, h2⟩ := h
  exact ⟨arr, hb.trans h1, h2⟩
theorem kn_new (w : World) : Kn (w.alloc (.cells zk 131)) w.heap.size (fun _ _ => false) := ⟨zk, bnew _ _, zk_size, fun i j hi hj => zk_get (by omega)⟩
def addS (S : Nat → Nat → Bool) (p q : Nat) : Nat → Nat → Bool := fun i j => S i j || (i == p && j == q)
theorem Kn.put {w : World} {KB : Nat} {S : Nat → Nat → Bool} (h : Kn w KB S) {p q : Nat} (hp : p < 64) (hq : q < 64) : Kn (w.setCell ⟨KB, p * 64 + q, none⟩ (.bool true)) KB (addS S p q) := by
  obtain ⟨arr, h1, h2, h3⟩ := h
  refine ⟨_, heap_setCell_same w KB (p * 64 + q) arr 131 _ h1, by rw [Array.size_setIfInBounds]; exact h2, fun i j hi hj => ?_⟩
  rw [Array.getElem?_setIfInBounds]
  unfold addS
  by_cases e : p * 64 + q = i * 64 + j
  · obtain rfl : p = i := by omega
    obtain rfl : q = j := by omega
    rw [if_pos rfl, if_pos (by omega)]
    simp
  · rw [if_neg e, h3 i j hi hj]
    have : (i == p && j == q) = false := by
      rw [Bool.eq_false_iff]
      intro hc
      simp only [Bool.and_eq_true, beq_iff_eq] at hc
      omega
    rw [this, Bool.or_false]
theorem Kn.get {w : World} {KB : Nat} {S : Nat → Nat → Bool} (h : Kn w KB S) {p q : Nat} (hp : p < 64) (hq : q < 64) : w.cell? ⟨KB, p * 64 + q, none⟩ = some (.bool (S p q)) ∧ w.frozen? ⟨KB, p * 64 + q, none⟩ = false := by
  obtain ⟨arr, h1, h2, h3⟩ := h
  exact ⟨by rw [cell_of_row w KB _ arr 131 (0, 0) h1]; exact h3 p q hp hq, frozen_of_row w KB _ arr 131 h1⟩
/-- A wash's own numbers. -/
def hOk (x : Wh) : Bool := rng 0 x.fr 63 && (rng 0 x.tt 63 && ((x.fr != x.tt) && rng 0 x.mi 100000))
/-- Whether the pair of a wash is known. -/
def inS (S : Nat → Nat → Bool) (x : Wh) : Bool := S x.fr.toNat x.tt.toNat
set_option maxRecDepth 100000 in
set_option maxHeartbeats 4000000 in
theorem wash_any {S : Nat → Nat → Bool} {KB : Nat} (x : Wh) (w : World) (hK : Kn w KB S) (R : Bool) (hR : R = (hOk x && !inS S x)) :
    Calls Try.prog 89 #[.agg x.cs.toArray, .pointer (some ⟨KB, 0, none⟩)] w fun e w' => e = .returned (.bool R) ∧ (R = true → Kn w' KB (addS S x.fr.toNat x.tt.toNat)) ∧ w.grownBy w' (some KB) := by
  obtain ⟨A, B, C⟩ := x
  change Calls Try.prog 89 #[.agg #[.int .i64 A, .int .i64 B, .int .i64 C], .pointer (some ⟨KB, 0, none⟩)] w _
  obtain ⟨W, hW⟩ : ∃ W, W = w.alloc (.cells #[.int .i64 A, .int .i64 B, .int .i64 C] 87) := ⟨_, rfl⟩
  have hr : W.heap[w.heap.size]? = some (.cells #[.int .i64 A, .int .i64 B, .int .i64 C] 87 (0, 0)) := by rw [hW]; exact bnew _ _
  have hkl : KB < w.heap.size := by obtain ⟨arr, h1, _⟩ := hK; exact blt h1
  have hg : w.grownBy W (some KB) := by rw [hW]; exact World.grownBy_alloc w _ _
  have hKW : Kn W KB S := hK.on (by rw [hW]; exact heap_alloc_old _ _ hkl)
  have e0 : W.cell? ⟨w.heap.size, 0, none⟩ = some (.int .i64 A) := by rw [cell_of_row W _ 0 _ 87 (0, 0) hr]; rfl
  have e1 : W.cell? ⟨w.heap.size, 1, none⟩ = some (.int .i64 B) := by rw [cell_of_row W _ 1 _ 87 (0, 0) hr]; rfl
  have e2 : W.cell? ⟨w.heap.size, 2, none⟩ = some (.int .i64 C) := by rw [cell_of_row W _ 2 _ 87 (0, 0) hr]; rfl
  have HW := Lib.hid hW; have HG := Lib.hid hg; have HKW := Lib.hid hKW
  clear hW hr hg hKW hK
  unfold hOk at hR
  simp only at hR
  cases hB0 : rng 0 A 63 with
  | false =>
    obtain rfl : R = false := by rw [hR, hB0]; rfl
    have H0 := Lib.hid (class_any A)
    rw [hB0] at H0
    clear hB0
    clear hR
    go_enter Try.func89, Try.ntmps89
    go_upto_region 1 with (fail)
    rw [← HW.out]
    clear HW
    go_quiet (first | (go_at_call 32; exact quiet_eq (H0.out _)))
    go_wp2
    go_ret
    exact ⟨rfl, (fun h => by cases h), grownN HG.out _⟩
  | true =>
    have H0 := Lib.hid (class_any A)
    have ha := rng_iff.1 hB0
    rw [hB0] at H0
    obtain ⟨p, rfl⟩ : ∃ p : Nat, A = (p : Int) := ⟨A.toNat, by omega⟩
    have hp : p < 64 := by omega
    cases hB1 : rng 0 B 63 with
    | false =>
      obtain rfl : R = false := by rw [hR, hB0, hB1]; rfl
      have H1 := Lib.hid (class_any B)
      rw [hB1] at H1
      clear hB0 hB1 ha
      clear hR
      go_enter Try.func89, Try.ntmps89
      go_upto_region 1 with (fail)
      rw [← HW.out]
      clear HW
      go_quiet (first | (go_at_call 32; exact quiet_eq (H0.out _)) | (go_at_call 32; exact quiet_eq (H1.out _)))
      go_wp2
      go_ret
      exact ⟨rfl, (fun h => by cases h), grownN HG.out _⟩
    | true =>
      have H1 := Lib.hid (class_any B)
      have hb := rng_iff.1 hB1
      rw [hB1] at H1
      obtain ⟨q, rfl⟩ : ∃ q : Nat, B = (q : Int) := ⟨B.toNat, by omega⟩
      have hq : q < 64 := by omega
      by_cases hpq : p = q
      · have d0 : (((p : Int)) == (q : Int)) = true := by simp; omega
        obtain rfl : R = false := by rw [hR, hB0, hB1]; simp; omega
        clear hB0 hB1 ha hb hpq
        clear hR
        go_enter Try.func89, Try.ntmps89
        go_upto_region 1 with (fail)
        rw [← HW.out]
        clear HW
        go_quiet (first | (go_at_call 32; exact quiet_eq (H0.out _)) | (go_at_call 32; exact quiet_eq (H1.out _)))
        go_wp2
        go_ret
        exact ⟨rfl, (fun h => by cases h), grownN HG.out _⟩
      · have d0 : (((p : Int)) == (q : Int)) = false := by simp; omega
        have d1 : (((p : Int)) != (q : Int)) = true := by simp; omega
        cases hB2 : rng 0 C 100000 with
        | false =>
          obtain rfl : R = false := by rw [hR, hB0, hB1, hB2]; simp
          have H2 := Lib.hid (between_any 0 C 100000)
          rw [hB2] at H2
          clear hB0 hB1 hB2 ha hb hpq d1
          clear hR
          go_enter Try.func89, Try.ntmps89
          go_upto_region 1 with (fail)
          rw [← HW.out]
          clear HW
          go_quiet (first | (go_at_call 32; exact quiet_eq (H0.out _)) | (go_at_call 32; exact quiet_eq (H1.out _)) | (go_at_call 51; exact quiet_eq (H2.out _)))
          go_wp2
          go_ret
          exact ⟨rfl, (fun h => by cases h), grownN HG.out _⟩
        | true =>
          have H2 := Lib.hid (between_any 0 C 100000)
          rw [hB2] at H2
          obtain ⟨f0, f1⟩ := HKW.out.get hp hq
          have hIn : inS S ⟨(p : Int), (q : Int), C⟩ = S p q := rfl
          rw [hIn, hB0, hB1, hB2, d1] at hR
          cases hB3 : S p q with
          | true =>
            obtain rfl : R = false := by rw [hR, hB3]; rfl
            rw [hB3] at f0
            clear hB0 hB1 hB2 hB3 ha hb hpq d1 hIn
            clear hR
            go_enter Try.func89, Try.ntmps89
            go_upto_region 1 with (fail)
            rw [← HW.out]
            clear HW
            go_quiet (first | (go_at_call 32; exact quiet_eq (H0.out _)) | (go_at_call 32; exact quiet_eq (H1.out _)) | (go_at_call 51; exact quiet_eq (H2.out _)))
            go_wp2
            go_ret
            exact ⟨rfl, (fun h => by cases h), grownN HG.out _⟩
          | false =>
            obtain rfl : R = true := by rw [hR, hB3]; rfl
            rw [hB3] at f0
            clear hB0 hB1 hB2 hB3 ha hb hpq d1 hIn
            clear hR
            go_enter Try.func89, Try.ntmps89
            go_upto_region 1 with (fail)
            rw [← HW.out]
            clear HW
            go_quiet (first | (go_at_call 32; exact quiet_eq (H0.out _)) | (go_at_call 32; exact quiet_eq (H1.out _)) | (go_at_call 51; exact quiet_eq (H2.out _)))
            have hgN := grownN HG.out nq
            have hkN : Kn (W.drewN nq) KB S := HKW.out.on rfl
            have e0' : (W.drewN nq).cell? ⟨w.heap.size, 0, none⟩ = some (.int .i64 (p : Int)) := e0
            have e1' : (W.drewN nq).cell? ⟨w.heap.size, 1, none⟩ = some (.int .i64 (q : Int)) := e1
            have f0' : (W.drewN nq).cell? ⟨KB, p * 64 + q, none⟩ = some (.bool false) := f0
            have f1' : (W.drewN nq).frozen? ⟨KB, p * 64 + q, none⟩ = false := f1
            generalize W.drewN nq = W2 at *
            clear e0 e1 e2 f0 f1 HKW HG
            have HGN := Lib.hid hgN; have HKN := Lib.hid hkN
            clear hgN hkN
            go_wp2_with fail
            have hp3 : (p : Int) < 64 := by omega
            have hq3 : (q : Int) < 64 := by omega
            go_still_tail 6, (by kernel_rfl)
            change wpList _ _ _ _ _ W2.drew
            have f2 : W2.drew.cell? ⟨KB, p * 64 + q, none⟩ = some (.bool false) := f0'
            have f3 : W2.drew.frozen? ⟨KB, p * 64 + q, none⟩ = false := f1'
            go_wp2
            go_ret
            exact ⟨rfl, (fun _ => (HKN.out.on rfl).put hp hq), ⟨HGN.out.os, HGN.out.tape, HGN.out.output, by have h := HGN.out.size; simpa using h, fun k hk hne => (heap_setCell_other _ ⟨KB, p * 64 + q, none⟩ k _ (fun e => hne (by rw [e]))).trans (HGN.out.block k hk hne)⟩⟩
end Go.Proofs.Ytijdjbkmkopmnaa
