/-
  Walks: the reader's next.
-/
import Derived.Test.YtjhjcigappkebaaAp
import Derived.BigRegion
namespace Go.Proofs.Ytjhjcigappkebaa
open Go.RowKit

/-- Block R is a reader of the slice vb, at byte p. -/
def Rdr (w : World) (R : Nat) (vb : Value) (p deep : Int) : Prop := w.heap[R]? = some (.cells #[vb, .int .i64 p, .int .i64 deep] 61 (0, 0))

theorem Rdr.cells {w : World} {R : Nat} {vb : Value} {p deep : Int} (h : Rdr w R vb p deep) :
    w.cell? ⟨R, 0, none⟩ = some vb ∧ w.cell? ⟨R, 1, none⟩ = some (.int .i64 p) ∧ w.cell? ⟨R, 2, none⟩ = some (.int .i64 deep) ∧ (∀ j, w.frozen? ⟨R, j, none⟩ = false) ∧ R < w.heap.size := by
  unfold Rdr at h
  refine ⟨by simp [World.cell?, h], by simp [World.cell?, h], by simp [World.cell?, h], fun j => by simp [World.frozen?, h], ?_⟩
  exact (Array.getElem?_eq_some_iff.1 h).1

theorem Rdr.kept {w w' : World} {R : Nat} {vb : Value} {p deep : Int} (h : Rdr w R vb p deep) (hw : w'.heap[R]? = w.heap[R]?) : Rdr w' R vb p deep := hw.trans h

theorem grownSet (w : World) (R j : Nat) (v : Value) : w.grownBy (w.setCell ⟨R, j, none⟩ v) (some R) :=
  ⟨rfl, rfl, rfl, by simp [World.setCell], fun k _ hne => Below.heap_setCell _ _ _ _ (fun e => hne (by rw [e]))⟩
theorem grownRefl (w : World) (r : Option Nat) : w.grownBy w r := ⟨rfl, rfl, rfl, Nat.le_refl _, fun _ _ _ => rfl⟩
theorem grownDrewN {a b : World} {r : Option Nat} (h : a.grownBy b r) (n : Nat) : a.grownBy (b.drewN n) r := ⟨h.os, h.tape, h.output, h.size, h.block⟩

theorem Rdr.set1 {w : World} {R : Nat} {vb : Value} {p deep : Int} (h : Rdr w R vb p deep) (q : Int) : Rdr (w.setCell ⟨R, 1, none⟩ (.int .i64 q)) R vb q deep := by
  unfold Rdr at h ⊢
  simp [World.setCell, Array.getElem?_modify, h]
theorem Rdr.set2 {w : World} {R : Nat} {vb : Value} {p deep : Int} (h : Rdr w R vb p deep) (q : Int) : Rdr (w.setCell ⟨R, 2, none⟩ (.int .i64 q)) R vb p q := by
  unfold Rdr at h ⊢
  simp [World.setCell, Array.getElem?_modify, h]
theorem Rdr.drewN {w : World} {R : Nat} {vb : Value} {p deep : Int} (h : Rdr w R vb p deep) (n : Nat) : Rdr (w.drewN n) R vb p deep := h

/-- The panic of the reader. -/
@[reducible] def failure (c : Int) : Ending := .panicked [{ v := .iface 58 (.agg #[.int .i64 c]), recovered := false }]

set_option maxHeartbeats 400000 in
theorem next_some (R n cap g off p : Nat) (deep u : Int) (w : World) (h : Rdr w R (.slice (some ⟨g, off, none⟩) n cap) p deep) (hn : n ≤ 140737488355328) (hp : p < n) (hc : w.cell? ⟨g, off + p, none⟩ = some (.int .u8 u)) :
    Calls Try.prog 43 #[.pointer (some ⟨R, 0, none⟩)] w fun e w' => e = .returned (.int .u8 u) ∧ Rdr w' R (.slice (some ⟨g, off, none⟩) n cap) (p + 1) deep ∧ w.grownBy w' (some R) := by
  obtain ⟨c0, c1, c2, c3, _⟩ := h.cells
  have c3' := c3 1
  have ht : ((p : Int) == (n : Int)) = false := by rw [beq_eq_false_iff_ne]; omega
  have hp0 : (0 : Int) ≤ (p : Int) := by omega
  have hp1 : (p : Int) < (n : Int) := by omega
  have H := Lib.hid h; clear h c3
  go_enter Try.func43, Try.ntmps43
  go_wp2_with fail
  go_quiet (fail)
  obtain ⟨w1, hw1⟩ : ∃ w1, w1 = w.drewN nq := ⟨_, rfl⟩
  rw [← hw1]
  have H1 : Hid (Rdr w1 R (.slice (some ⟨g, off, none⟩) n cap) p deep) := by rw [hw1]; exact H.out.drewN nq
  have G1 : Hid (w.grownBy w1 (some R)) := by rw [hw1]; exact grownDrewN (grownRefl w _) nq
  have hc' : w1.cell? ⟨g, off + p, none⟩ = some (.int .u8 u) := by rw [hw1]; exact hc
  clear hw1 c0 c1 c2 c3' H hc
  obtain ⟨c0, c1, c2, c3, _⟩ := H1.out.cells
  have c3' := c3 1
  clear c3
  go_wp2_with fail
  go_quiet (fail)
  obtain ⟨w2, hw2⟩ : ∃ w2, w2 = w1.drewN nq := ⟨_, rfl⟩
  rw [← hw2]
  have H2 : Hid (Rdr w2 R (.slice (some ⟨g, off, none⟩) n cap) p deep) := by rw [hw2]; exact H1.out.drewN _
  have G2 : Hid (w.grownBy w2 (some R)) := by rw [hw2]; exact grownDrewN G1.out _
  clear hw2 c0 c1 c2 c3' H1 hc'
  obtain ⟨c0, c1, c2, c3, _⟩ := H2.out.cells
  have c3' := c3 1
  clear c3
  go_wp2_with fail
  go_ret
  exact ⟨rfl, H2.out.set1 _, grow2 G2.out (grownSet _ _ _ _) (Or.inl rfl)⟩

set_option maxHeartbeats 400000 in
theorem next_none (R n cap : Nat) (a : Option Addr) (deep : Int) (w : World) (h : Rdr w R (.slice a n cap) n deep) :
    Calls Try.prog 43 #[.pointer (some ⟨R, 0, none⟩)] w fun e w' => e = failure 5 ∧ w.grownBy w' (some R) := by
  obtain ⟨c0, c1, c2, c3, _⟩ := h.cells
  have ht : ((n : Int) == (n : Int)) = true := by simp
  clear h c3
  go_enter Try.func43, Try.ntmps43
  go_wp2_with fail
  go_quiet (fail)
  go_wp2_with fail
  exact ⟨rfl, rfl, grownDrewN (grownRefl w _) _⟩

end Go.Proofs.Ytjhjcigappkebaa
