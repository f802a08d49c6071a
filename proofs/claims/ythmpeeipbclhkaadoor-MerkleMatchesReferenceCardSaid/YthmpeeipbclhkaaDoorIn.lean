/-
  Walks: Includes.
-/
import Derived.Test.YthmpeeipbclhkaaDoorFi
import Derived.Test.YthmpeeipbclhkaaDoorIc
import Derived.BigQuiet
namespace Go.Proofs.YthmpeeipbclhkaaDoor
open Go.RowKit

/-- Includes' answer. -/
def inc (n : Int) (root : List Int) (i : Int) (leaf : List Int) (p : List (List Int)) : Bool :=
  decide (0 ≤ n ∧ n ≤ 65536) && (decide (0 ≤ i ∧ i < ((2 ^ dpt n.toNat : Nat) : Int)) && (decide (p.length = dpt n.toNat) && decide (climb prt i.toNat leaf p = root)))

theorem climb_dg : ∀ (p : List (List Int)) (I : Nat) (x : List Int), Dg x → Dg (climb prt I x p)
  | [], _, _, h => h
  | s :: p, I, x, h => climb_dg p (I / 2) _ (stp_dg I x s)

/-- The blocks of the parameters. -/
structure InS (w : World) (n : Int) (root : List Int) (i : Int) (leaf : List Int) (pv : Value) (w' : World) : Prop where
  below : Below w.heap.size w w'
  size : w.heap.size + 1 + 1 + 1 < w'.heap.size
  rc : RowC w' w.heap.size 30 (.int .i64 n) root
  ri : w'.cell? ⟨w.heap.size + 1, 0, none⟩ = some (.int .i64 i)
  rl : RowB w' (w.heap.size + 1 + 1) 26 leaf
  rp : w'.cell? ⟨w.heap.size + 1 + 1 + 1, 0, none⟩ = some pv
theorem InS.call {w w' w2 : World} {n : Int} {root : List Int} {i : Int} {leaf : List Int} {pv : Value} (h : InS w n root i leaf pv w') (hb : Below w'.heap.size w' w2) : InS w n root i leaf pv w2 := by
  have hs := h.size
  exact ⟨h.below.trans (hb.mono h.below.size), Nat.lt_of_lt_of_le h.size hb.size, h.rc.kept (hb.block _ (by omega)), (hb.cell (p := ⟨w.heap.size + 1, 0, none⟩) (by show w.heap.size + 1 < _; omega)).trans h.ri, h.rl.kept (hb.block _ (by omega)), (hb.cell (p := ⟨w.heap.size + 1 + 1 + 1, 0, none⟩) (by show w.heap.size + 1 + 1 + 1 < _; omega)).trans h.rp⟩
theorem InS.drewN {w w' : World} {n : Int} {root : List Int} {i : Int} {leaf : List Int} {pv : Value} (h : InS w n root i leaf pv w') (m : Nat) : InS w n root i leaf pv (w'.drewN m) := h.call (bdrewN (Below.refl _ _) m)
theorem InS.drew {w w' : World} {n : Int} {root : List Int} {i : Int} {leaf : List Int} {pv : Value} (h : InS w n root i leaf pv w') : InS w n root i leaf pv w'.drew := h.call (Below.drew (Below.refl _ _))

set_option maxRecDepth 100000 in
set_option maxHeartbeats 2000000 in
theorem inc_any (n : Int) (root : List Int) (i : Int) (leaf : List Int) (p : List (List Int)) (op : Option Addr) (cp : Nat) (w : World) (hk : KOk w) (hr : Dg root) (hl : Dg leaf) (hp : Dl (fun k => k < w.heap.size) w (.slice op p.length cp) p) :
    Calls Tryd.prog 28 #[.agg (.int .i64 n :: byteVals root).toArray, .int .i64 i, .agg (byteVals leaf).toArray, .slice op p.length cp] w fun e w' => e = .returned (.bool (inc n root i leaf p)) ∧ Below w.heap.size w w' := by
  have hrl := hr.1; have hll := hl.1
  have hdp : ∀ w', Calls Tryd.prog 24 #[.int .i64 n] w' fun e w'' => e = .returned (.int .i64 (dep n)) ∧ w' = w'' :=
    fun w' => (depth_any n w').mono (fun e w2 h => ⟨h.1, h.2.symm⟩)
  have hS : InS w n root i leaf (.slice op p.length cp) ((((w.alloc (.cells (.int .i64 n :: byteVals root).toArray 30)).alloc (.cells #[.int .i64 i] 3)).alloc (.cells (byteVals leaf).toArray 26)).alloc (.cells #[.slice op p.length cp] 22)) := by
    refine ⟨(((ball (Below.refl _ _) _).alloc (by simp) _).alloc (by simp; omega) _).alloc (by simp; omega) _, by simp, ?_, ?_, ?_, ?_⟩
    · exact (((RowC.new w 30 (.int .i64 n) root).kept (heap_alloc_old _ _ (by simp))).kept (heap_alloc_old _ _ (by simp; omega))).kept (heap_alloc_old _ _ (by simp; omega))
    · have h1 : (((w.alloc (.cells (.int .i64 n :: byteVals root).toArray 30)).alloc (.cells #[.int .i64 i] 3)).alloc (.cells (byteVals leaf).toArray 26)).heap[w.heap.size + 1]? = some (.cells #[.int .i64 i] 3 (0, 0)) := by
        have := heap_alloc_new (w.alloc (.cells (.int .i64 n :: byteVals root).toArray 30)) (.cells #[.int .i64 i] 3)
        rw [show (w.alloc (.cells (.int .i64 n :: byteVals root).toArray 30)).heap.size = w.heap.size + 1 from by simp] at this
        exact (heap_alloc_old _ _ (by simp)).trans this
      rw [World.cell?_of_block (w := ((w.alloc (.cells (.int .i64 n :: byteVals root).toArray 30)).alloc (.cells #[.int .i64 i] 3)).alloc (.cells (byteVals leaf).toArray 26)) (heap_alloc_old _ _ (by simp)), cell_of_row _ _ 0 _ 3 (0, 0) h1]
      rfl
    · have h1 := RowB.new ((w.alloc (.cells (.int .i64 n :: byteVals root).toArray 30)).alloc (.cells #[.int .i64 i] 3)) 26 leaf
      rw [show ((w.alloc (.cells (.int .i64 n :: byteVals root).toArray 30)).alloc (.cells #[.int .i64 i] 3)).heap.size = w.heap.size + 1 + 1 from by simp] at h1
      exact h1.kept (heap_alloc_old _ _ (by simp))
    · have h1 := heap_alloc_new (((w.alloc (.cells (.int .i64 n :: byteVals root).toArray 30)).alloc (.cells #[.int .i64 i] 3)).alloc (.cells (byteVals leaf).toArray 26)) (.cells #[.slice op p.length cp] 22)
      rw [show (((w.alloc (.cells (.int .i64 n :: byteVals root).toArray 30)).alloc (.cells #[.int .i64 i] 3)).alloc (.cells (byteVals leaf).toArray 26)).heap.size = w.heap.size + 1 + 1 + 1 from by simp] at h1
      rw [cell_of_row _ _ 0 _ 22 (0, 0) h1]
      rfl
  have cn := hS.rc.head
  have ci := hS.ri
  have cp3 := hS.rp
  have ci2 := (World.cell?_drew _ _).trans ci
  have cp2 := (World.cell?_drew _ _).trans cp3
  have HDP := Lib.hid hdp; have HS := Lib.hid hS; have HK := Lib.hid hk; have HP := Lib.hid hp; have HR := Lib.hid hr; have HL := Lib.hid hl
  clear hdp hS hk hp hr hl
  by_cases f1 : n < 0 ∨ 65536 < n
  · have e1 : dep n = -1 := by unfold dep; rw [if_pos f1]
    have e2 : inc n root i leaf p = false := by unfold inc; rw [decide_eq_false (by omega)]; rfl
    rw [e1] at HDP
    rw [e2]
    clear e1 e2 f1
    go_enter Tryd.func28, Tryd.ntmps28
    go_wp2_with (first | (go_at_call 24; refine (HDP.out _).mono ?_; rintro e w2 ⟨rfl, rfl⟩))
    generalize ((((w.alloc (.cells (.int .i64 n :: byteVals root).toArray 30)).alloc (.cells #[.int .i64 i] 3)).alloc (.cells (byteVals leaf).toArray 26)).alloc (.cells #[.slice op p.length cp] 22)) = W at *
    go_quiet (fail)
    go_wp2
    go_ret
    exact ⟨rfl, (HS.out.drewN _).below⟩
  have hn0 : 0 ≤ n ∧ n ≤ 65536 := by omega
  obtain ⟨d, hd⟩ : ∃ d, d = dpt n.toNat := ⟨_, rfl⟩
  have e1 : dep n = (d : Int) := by unfold dep; rw [if_neg f1, hd]
  have hd16 : d ≤ 16 := by rw [hd]; exact dpt_le16 (by omega)
  have einc : inc n root i leaf p = (decide (0 ≤ i ∧ i < ((2 ^ d : Nat) : Int)) && (decide (p.length = d) && decide (climb prt i.toNat leaf p = root))) := by unfold inc; rw [decide_eq_true hn0, hd]; rfl
  rw [e1] at HDP
  rw [einc]
  clear e1 einc f1 hn0 hd
  obtain ⟨Q, hQ⟩ : ∃ Q, Q = 2 ^ d := ⟨_, rfl⟩
  have hQ1 : 2 ^ d ≤ 2 ^ 16 := Nat.pow_le_pow_right (by decide) hd16
  have e : wrap64 (2 ^ d) = (Q : Int) := by
    have e1 : (2 : Int) ^ d = (Q : Int) := by rw [hQ]; simp
    have hQ2 : Q ≤ 65536 := by rw [hQ]; simpa using hQ1
    rw [e1]
    exact IntWalk.wrap64_in _ (by omega)
  have ew : IntKind.i64.wrap ((2 : Int) ^ d) = (Q : Int) := by
    have e1 : (2 : Int) ^ d = (Q : Int) := by rw [hQ]; simp
    have hQ2 : Q ≤ 65536 := by rw [hQ]; simpa using hQ1
    rw [e1, IntKind.wrap_i64]
    omega
  have hQ3 : Q ≤ 65536 := by rw [hQ]; simpa using hQ1
  rw [← hQ]
  clear hQ hQ1
  have g1 : decide ((d : Int) < 0) = false := decide_eq_false (by omega)
  by_cases f2 : i < 0
  · have g2 : decide (i < 0) = true := decide_eq_true f2
    have e2 : decide (0 ≤ i ∧ i < (Q : Int)) = false := decide_eq_false (by omega)
    rw [e2, Bool.false_and]
    clear e2
    go_enter Tryd.func28, Tryd.ntmps28
    go_wp2_with (first | (go_at_call 24; refine (HDP.out _).mono ?_; rintro e w2 ⟨rfl, rfl⟩))
    generalize ((((w.alloc (.cells (.int .i64 n :: byteVals root).toArray 30)).alloc (.cells #[.int .i64 i] 3)).alloc (.cells (byteVals leaf).toArray 26)).alloc (.cells #[.slice op p.length cp] 22)) = W at *
    go_quiet (fail)
    go_wp2
    go_ret
    exact ⟨rfl, (HS.out.drewN _).below⟩
  have g2 : decide (i < 0) = false := decide_eq_false f2
  by_cases f3 : (Q : Int) ≤ i
  · have g3 : decide ((Q : Int) ≤ i) = true := decide_eq_true f3
    have e2 : decide (0 ≤ i ∧ i < (Q : Int)) = false := decide_eq_false (by omega)
    rw [e2, Bool.false_and]
    clear e2
    go_enter Tryd.func28, Tryd.ntmps28
    go_wp2_with (first | (go_at_call 24; refine (HDP.out _).mono ?_; rintro e w2 ⟨rfl, rfl⟩))
    generalize ((((w.alloc (.cells (.int .i64 n :: byteVals root).toArray 30)).alloc (.cells #[.int .i64 i] 3)).alloc (.cells (byteVals leaf).toArray 26)).alloc (.cells #[.slice op p.length cp] 22)) = W at *
    go_quiet (fail)
    go_wp2
    go_ret
    exact ⟨rfl, (HS.out.drewN _).below⟩
  have g3 : decide ((Q : Int) ≤ i) = false := decide_eq_false f3
  have e2 : decide (0 ≤ i ∧ i < (Q : Int)) = true := decide_eq_true (by omega)
  rw [e2, Bool.true_and]
  clear e2
  by_cases f4 : p.length = d
  · rw [decide_eq_true f4, Bool.true_and]
    subst f4
    obtain ⟨I, hI⟩ := Int.eq_ofNat_of_zero_le (by omega : 0 ≤ i)
    rw [show i.toNat = I from by omega]
    have f5 : ((p.length : Int) != (p.length : Int)) = false := by simp
    have hcd : ∀ w', InS w n root i leaf (.slice op p.length cp) w' → Calls Tryd.prog 45 #[.agg (byteVals leaf).toArray, .int .i64 (p.length : Int), .func (.func 46) #[] #[.pointer (some ⟨w.heap.size + 1, 0, none⟩), .pointer (some ⟨w.heap.size + 1 + 1 + 1, 0, none⟩)]] w' fun e w'' => e = .returned (.agg (byteVals (climb prt I leaf p)).toArray) ∧ Below w'.heap.size w' w'' :=
      fun w' h => climbD_any I p op cp _ _ p.length leaf w' (HK.out.below h.below) (HP.out.on h.below) HL.out rfl hd16 (by omega) (by have := h.size; omega) (hI ▸ h.ri) h.size h.rp
    have hDl : Dg (climb prt I leaf p) := climb_dg _ _ _ HL.out
    obtain ⟨D, hD⟩ : ∃ D, D = climb prt I leaf p := ⟨_, rfl⟩
    rw [← hD] at hcd hDl ⊢
    have hDl := hDl.1
    have hq := eqDig D root hDl hrl
    obtain ⟨q, hqq⟩ : ∃ q, q = decide (D = root) := ⟨_, rfl⟩
    rw [← hqq] at hq ⊢
    have HC := Lib.hid hcd
    clear hcd hD hqq hI
    go_enter Tryd.func28, Tryd.ntmps28
    go_wp2_with (first | (go_at_call 24; refine (HDP.out _).mono ?_; rintro e w2 ⟨rfl, rfl⟩))
    generalize ((((w.alloc (.cells (.int .i64 n :: byteVals root).toArray 30)).alloc (.cells #[.int .i64 i] 3)).alloc (.cells (byteVals leaf).toArray 26)).alloc (.cells #[.slice op p.length cp] 22)) = W at *
    go_quiet (fail)
    have HT := Lib.hid (HS.out.drewN nq)
    have HRL := Lib.hid (HS.out.drewN nq).rl
    clear HS
    generalize W.drewN nq = W1 at *
    go_wp2_with (first | (refine wpList_load_row rfl 26 (.tmp 6) rfl (w.heap.size + 1 + 1) rfl 26 _ (0, 0) _ HRL.out Tryd.underlying26 rfl (size25 _ hll) ?_))
    refine (HC.out W1 HT.out).mono ?_
    rintro e w5 ⟨rfl, hb5⟩
    have h5 := HT.out.call hb5
    have q10 : RowB (w5.alloc (.cells #[.int .u8 0, .int .u8 0, .int .u8 0, .int .u8 0, .int .u8 0, .int .u8 0, .int .u8 0, .int .u8 0, .int .u8 0, .int .u8 0, .int .u8 0, .int .u8 0, .int .u8 0, .int .u8 0, .int .u8 0, .int .u8 0, .int .u8 0, .int .u8 0, .int .u8 0, .int .u8 0, .int .u8 0, .int .u8 0, .int .u8 0, .int .u8 0, .int .u8 0, .int .u8 0, .int .u8 0, .int .u8 0, .int .u8 0, .int .u8 0, .int .u8 0, .int .u8 0] 26)) w5.heap.size 26 (List.replicate 32 0) := RowB.new' _ rfl rfl
    have h6 := h5.call (bsetRow (B := w5.heap.size) (ball (Below.refl _ (w5)) (.cells #[.int .u8 0, .int .u8 0, .int .u8 0, .int .u8 0, .int .u8 0, .int .u8 0, .int .u8 0, .int .u8 0, .int .u8 0, .int .u8 0, .int .u8 0, .int .u8 0, .int .u8 0, .int .u8 0, .int .u8 0, .int .u8 0, .int .u8 0, .int .u8 0, .int .u8 0, .int .u8 0, .int .u8 0, .int .u8 0, .int .u8 0, .int .u8 0, .int .u8 0, .int .u8 0, .int .u8 0, .int .u8 0, .int .u8 0, .int .u8 0, .int .u8 0, .int .u8 0] 26)) (Nat.le_refl _) (byteVals D).toArray)
    have H10 := Lib.hid (RowB.put (l' := D) q10)
    have HTL := Lib.hid h6.rc.tail
    have H6 := Lib.hid h6.below
    clear hb5 h5 h6 HC HT HRL
    go_wp2_with (first | (refine wpList_store_row rfl 26 (.tmp 10) (.tmp 35) rfl w5.heap.size _ rfl rfl 26 _ q10 (size25 _ hDl) (by rw [bvsz _ hDl, bvsz _ zl32]) (all_byteVals _) ?_) | (refine wpList_load_row rfl 26 (.tmp 10) rfl w5.heap.size rfl 26 _ (0, 0) _ H10.out Tryd.underlying26 rfl (size25 _ hDl) ?_) | (refine wpList_load_mid rfl 26 (.tmp 37) rfl w.heap.size 1 rfl (byteVals root) _ HTL.out Tryd.underlying26 rfl (size26 _ hrl) ?_))
    go_ret
    exact ⟨rfl, H6.out⟩
  · rw [decide_eq_false f4, Bool.false_and]
    have f5 : ((p.length : Int) != (d : Int)) = true := by simp; omega
    go_enter Tryd.func28, Tryd.ntmps28
    go_wp2_with (first | (go_at_call 24; refine (HDP.out _).mono ?_; rintro e w2 ⟨rfl, rfl⟩))
    generalize ((((w.alloc (.cells (.int .i64 n :: byteVals root).toArray 30)).alloc (.cells #[.int .i64 i] 3)).alloc (.cells (byteVals leaf).toArray 26)).alloc (.cells #[.slice op p.length cp] 22)) = W at *
    go_quiet (fail)
    go_wp2
    go_ret
    exact ⟨rfl, (HS.out.drewN _).below⟩
end Go.Proofs.YthmpeeipbclhkaaDoor
