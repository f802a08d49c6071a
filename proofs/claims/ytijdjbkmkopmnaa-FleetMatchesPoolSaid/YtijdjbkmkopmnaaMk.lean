/-
  Arrays of the call's own: whole blocks of integers, of truth values.
-/
import Derived.Test.YtijdjbkmkopmnaaLb
import Derived.Deep.OwnRows
namespace Go.Proofs.Ytijdjbkmkopmnaa
open Go.RowKit
set_option linter.unusedVariables false
set_option linter.unusedSimpArgs false

/-- Block g begins with the elements l. -/
def Rw {α : Type} (t : TypeId) (f : α → Value) (w : World) (g : Nat) (l : List α) : Prop := ∃ cur, w.heap[g]? = some (.cells cur t (0, 0)) ∧ cur.toList.take l.length = l.map f
section
variable {α : Type} {t : TypeId} {f : α → Value} {w w' : World} {g : Nat} {l : List α}
theorem Rw.cell (h : Rw t f w g l) {i : Nat} {x : α} (hx : l[i]? = some x) : w.cell? ⟨g, i, none⟩ = some (f x) := by
  obtain ⟨cur, hh, ht⟩ := h
  have e1 : (l.map f)[i]? = some (f x) := by rw [List.getElem?_map, hx]; rfl
  rw [← ht, List.getElem?_take] at e1
  rw [cell_of_row w g _ cur t (0, 0) hh]
  split at e1
  · simpa using e1
  · cases e1
theorem Rw.free (h : Rw t f w g l) (i : Nat) : w.frozen? ⟨g, i, none⟩ = false := by
  obtain ⟨cur, hh, _⟩ := h
  exact frozen_of_row w g i _ t hh
theorem Rw.lt (h : Rw t f w g l) : g < w.heap.size := by
  obtain ⟨cur, hh, _⟩ := h
  exact (Array.getElem?_eq_some_iff.1 hh).1
theorem Rw.put (h : Rw t f w g l) (i : Nat) (x : α) : Rw t f (w.setCell ⟨g, i, none⟩ (f x)) g (l.set i x) := by
  obtain ⟨cur, hh, ht⟩ := h
  refine ⟨_, heap_setCell_same w g i cur t (f x) hh, ?_⟩
  rw [List.length_set, Array.toList_setIfInBounds, List.take_set, ht, List.map_set]
theorem Rw.kept (h : Rw t f w g l) (hh : w'.heap[g]? = w.heap[g]?) : Rw t f w' g l := by
  obtain ⟨cur, h1, ht⟩ := h
  exact ⟨cur, hh.trans h1, ht⟩
theorem Rw.on (h : Rw t f w g l) (hb : Below w.heap.size w w') : Rw t f w' g l := h.kept (hb.block g h.lt)
theorem rw_made (w : World) (n : Nat) (x : α) : Rw t f (w.alloc (.cells (madeCells #[f x] n) t)) w.heap.size (List.replicate n x) := by
  refine ⟨_, heap_alloc_new _ _, ?_⟩
  rw [toList_madeCells_one, List.length_replicate, List.take_of_length_le (by simp)]
  simp
end
theorem rep_set {α : Type} (n k : Nat) (x y : α) (h : k < n) : (List.replicate k x ++ List.replicate (n - k) y).set k x = List.replicate (k + 1) x ++ List.replicate (n - (k + 1)) y := by
  apply List.ext_getElem?
  intro i
  rw [List.getElem?_set, List.getElem?_append, List.getElem?_append]
  simp only [List.length_append, List.length_replicate, List.getElem?_replicate]
  by_cases e : k = i
  · subst e; rw [if_pos rfl, if_pos (by omega), if_pos (by omega), if_pos (by omega)]
  · rw [if_neg e]
    by_cases e1 : i < k
    · rw [if_pos e1, if_pos e1, if_pos (by omega), if_pos (by omega)]
    · rw [if_neg e1, if_neg (show ¬ i < k + 1 by omega)]
      by_cases e2 : i < n
      · rw [if_pos (by omega), if_pos (by omega)]
      · rw [if_neg (by omega), if_neg (by omega)]
theorem rep_get {α : Type} (n k : Nat) (x y : α) (h : k < n) : (List.replicate k x ++ List.replicate (n - k) y)[k]? = some y := by
  rw [List.getElem?_append_right (by simp)]
  simp only [List.length_replicate, List.getElem?_replicate]
  rw [if_pos (by omega)]
theorem info3' : (Try.prog.info? 3).map (fun i => (i.zero, i.size, i.bytes)) = some (some (.int .i64 0), 1, 8) := by kernel_rfl
theorem info4' : (Try.prog.info? 4).map (fun i => (i.zero, i.size, i.bytes)) = some (some (.bool false), 1, 1) := by kernel_rfl
def iz (x : Int) : Value := .int .i64 x
def bz (x : Bool) : Value := .bool x
theorem dv_get {D : List Int} {p : Nat} (h : p < D.length) : D[p]? = some (dv D p) := by
  unfold dv
  rw [List.getD_eq_getElem?_getD, List.getElem?_eq_getElem h]
  rfl
theorem dv_rep (n p : Nat) : dv (List.replicate n (-1)) p = -1 := by
  unfold dv
  rw [List.getD_eq_getElem?_getD, List.getElem?_replicate]
  split <;> rfl
def bv (R : List Bool) (p : Nat) : Bool := R.getD p false
theorem bv_get {R : List Bool} {p : Nat} (h : p < R.length) : R[p]? = some (bv R p) := by
  unfold bv
  rw [List.getD_eq_getElem?_getD, List.getElem?_eq_getElem h]
  rfl
theorem bv_rep (n p : Nat) : bv (List.replicate n false) p = false := by
  unfold bv
  rw [List.getD_eq_getElem?_getD, List.getElem?_replicate]
  split <;> rfl
theorem bv_set {R : List Bool} {p t : Nat} {v : Bool} (hp : p < R.length) : bv (R.set p v) t = if p = t then v else bv R t := by
  unfold bv
  rw [List.getD_eq_getElem?_getD, List.getD_eq_getElem?_getD, List.getElem?_set]
  by_cases e : p = t
  · subst e; simp [hp]
  · rw [if_neg e, if_neg e]
theorem made3 (w : World) (n : Nat) (h : n ≤ 1000) : Sem.run Try.prog (Instr.makeSlice 53 (.int .i64 (n : Int)) (.int .i64 (n : Int))) w = .ok (.slice (some ⟨w.heap.size, 0, none⟩) n n) (w.alloc (.cells (madeCells #[.int .i64 0] n) 3)) :=
  run_make_row' (P := Try.prog) 53 3 (.int .i64 0) 8 Try.underlying53 info3' rfl .i64 .i64 n (by omega) (by omega) w
theorem made4 (w : World) (n : Nat) (h : n ≤ 10000) : Sem.run Try.prog (Instr.makeSlice 63 (.int .i64 (n : Int)) (.int .i64 (n : Int))) w = .ok (.slice (some ⟨w.heap.size, 0, none⟩) n n) (w.alloc (.cells (madeCells #[.bool false] n) 4)) :=
  run_make_row' (P := Try.prog) 63 4 (.bool false) 1 Try.underlying63 info4' rfl .i64 .i64 n (by omega) (by omega) w
end Go.Proofs.Ytijdjbkmkopmnaa
