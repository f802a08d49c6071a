/-
  Walks: the closure of node.
-/
import Derived.Test.YthmpeeipbclhkaaDoorGd
namespace Go.Proofs.YthmpeeipbclhkaaDoor
open Go.RowKit

theorem there_kept {w w' : World} {g o n : Nat} (h : w.there g o n) (e : w'.heap[g]? = w.heap[g]?) : w'.there g o n := by
  intro j hj
  obtain ⟨h1, h2⟩ := h j hj
  refine ⟨by rw [World.cell?_of_block (w := w) (a := ⟨g, o + j, none⟩) e]; exact h1, ?_⟩
  rw [← h2]
  unfold World.frozen?
  simp only [e]

theorem below_setCells {B g : Nat} (vs : List Value) : ∀ (o : Nat) {a w : World}, Below B a w → B ≤ g → Below B a (w.setCells g o vs) := by
  induction vs with
  | nil => intro o a w h _; exact h
  | cons v vs ih => intro o a w h hg; rw [World.setCells]; exact ih (o + 1) (h.setCell hg v) hg
theorem heap_setCells_other (vs : List Value) : ∀ (o : Nat) (w : World) (g k : Nat), k ≠ g → (w.setCells g o vs).heap[k]? = w.heap[k]? := by
  induction vs with
  | nil => intro o w g k _; rfl
  | cons v vs ih => intro o w g k h; rw [World.setCells, ih (o + 1) _ g k h]; exact heap_setCell_other _ _ _ _ (fun e => h e)
theorem size_setCells (vs : List Value) : ∀ (o : Nat) (w : World) (g : Nat), (w.setCells g o vs).heap.size = w.heap.size := by
  induction vs with
  | nil => intro o w g; rfl
  | cons v vs ih => intro o w g; rw [World.setCells, ih]; simp

/-- Under way: block N is filled up to element k. -/
structure NdS (w : World) (N : Nat) (v : Value) (b : List Int) (f : Nat → List Int) (n k : Nat) (w' : World) : Prop where
  below : Below w.heap.size w w'
  size : w.heap.size + 2 < w'.heap.size
  rowA : RowC w' w.heap.size 58 v b
  res : ∃ v0 l0, l0.length = 32 ∧ RowC w' (w.heap.size + 1) 58 v0 l0
  nodes : ∀ j, j < k → w'.rangeAt N (j * 32) (byteVals (f j))
  there : ∀ j, j < n → w'.there N (j * 32) 32

theorem NdS.drew {w w' : World} {N : Nat} {v : Value} {b : List Int} {f : Nat → List Int} {n k : Nat} (h : NdS w N v b f n k w') : NdS w N v b f n k w'.drew :=
  ⟨h.below.drew, h.size, h.rowA, h.res, fun j hj => (World.rangeAt_drew _ _ _ _).2 (h.nodes j hj), fun j hj => (World.there_drew _ _ _ _).2 (h.there j hj)⟩
theorem NdS.call {w w' w2 : World} {N : Nat} {v : Value} {b : List Int} {f : Nat → List Int} {n k : Nat} (h : NdS w N v b f n k w') (hN : N = w.heap.size + 2) (hb : Below w'.heap.size w' w2) : NdS w N v b f n k w2 := by
  have hs := h.size
  refine ⟨h.below.trans (hb.mono h.below.size), Nat.lt_of_lt_of_le h.size hb.size, h.rowA.kept (hb.block _ (by omega)), ?_, fun j hj => rangeAt_kept (h.nodes j hj) (hb.block _ (by omega)), fun j hj => there_kept (h.there j hj) (hb.block _ (by omega))⟩
  obtain ⟨v0, l0, h1, h2⟩ := h.res
  exact ⟨v0, l0, h1, h2.kept (hb.block _ (by omega))⟩
theorem NdS.put {w w' : World} {N : Nat} {v : Value} {b : List Int} {f : Nat → List Int} {n k : Nat} (h : NdS w N v b f n k w') (hN : N = w.heap.size + 2) (hk : k < n) (hf : ∀ j, (f j).length = 32) : NdS w N v b f n (k + 1) (w'.setCells N (k * 32) (byteVals (f k))) := by
  have hlen : (byteVals (f k)).length = 32 := by rw [byteVals_length, hf]
  refine ⟨below_setCells _ _ h.below (by omega), by rw [size_setCells]; exact h.size, h.rowA.kept (heap_setCells_other _ _ _ _ _ (by omega)), ?_, fun j hj => ?_, fun j hj => World.there_setCells (h.there j hj) _ _ _⟩
  · obtain ⟨v0, l0, h1, h2⟩ := h.res
    exact ⟨v0, l0, h1, h2.kept (heap_setCells_other _ _ _ _ _ (by omega))⟩
  · by_cases hjk : j = k
    · subst hjk
      exact World.rangeAt_setCells_same _ _ _ _ (by rw [hlen]; exact h.there j hk)
    · refine World.rangeAt_setCells_apart (h.nodes j (by omega)) _ _ _ ?_
      right; left
      have h3 : (j + 1) * 32 ≤ k * 32 := Nat.mul_le_mul_right _ (by omega)
      rw [byteVals_length, hf]
      omega

theorem madeThere (w : World) (n : Nat) (cs : Array Value) (t : TypeId) (hcs : cs.size = n * 32) : ∀ j, j < n → (w.alloc (.cells cs t)).there w.heap.size (j * 32) 32 := by
  intro j hj i hi
  have hh := heap_alloc_new w (.cells cs t)
  have hlt : j * 32 + i < cs.size := by
    rw [hcs]
    have h3 : (j + 1) * 32 ≤ n * 32 := Nat.mul_le_mul_right _ (by omega)
    omega
  refine ⟨?_, ?_⟩
  · rw [cell_of_row _ w.heap.size _ _ t (0, 0) hh, Array.getElem?_eq_getElem hlt]; rfl
  · unfold World.frozen?
    simp only [hh]
    simp

theorem Tryd.info26 : (Tryd.prog.info? 26).map (fun i => (i.zero, i.size, i.bytes)) = some (some (.agg (byteVals (List.replicate 32 0)).toArray), 32, 32) := by kernel_rfl

theorem made_size (z : Array Value) (n : Nat) : (madeCells z n).size = n := by simp [madeCells]

/-- make([]api.Digest, n). -/
theorem make_dig (w : World) (n : Nat) (hn : n ≤ 4398046511104) : ∃ cs : Array Value, cs.size = n * 32 ∧ (Instr.makeSlice 22 (.int .i64 (n : Int)) (.int .i64 (n : Int))).run Tryd.prog w = .ok (.slice (some ⟨w.heap.size, 0, none⟩) n n) (w.alloc (.cells cs 26)) := by
  obtain ⟨i0, hi, hz0, hz1, hz2⟩ := info_parts Tryd.info26
  have := run_make (P := Tryd.prog) (w := w) 22 26 i0 _ Tryd.underlying22 hi hz0 .i64 .i64 (n : Int) (n : Int) (by omega) (by omega) (by rw [hz2]; omega) (by omega)
  rw [hz1] at this
  exact ⟨_, by rw [made_size]; rfl, this⟩

end Go.Proofs.YthmpeeipbclhkaaDoor
