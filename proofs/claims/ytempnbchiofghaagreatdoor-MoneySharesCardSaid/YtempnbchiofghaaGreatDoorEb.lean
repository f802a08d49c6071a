/-
  Walks: the apportionment: how its rows lie; the first loop, the sort, the second loop.
-/
import Derived.Test.YtempnbchiofghaaGreatDoorEa
import Derived.Test.YtempnbchiofghaaGreatDoorPb
import Derived.Deep.OwnRows
namespace Go.Proofs.YtempnbchiofghaaGreatDoor
open Go.RowKit
set_option linter.unusedVariables false
set_option linter.unusedSimpArgs false

/-- The cells of a list of ints. -/
def rowI (l : List Int) : Array Value := (l.map (Value.int .i64)).toArray
theorem rowI_get (l : List Int) (i : Nat) : (rowI l)[i]? = (l[i]?).map (Value.int .i64) := by simp [rowI]
theorem rowI_set (l : List Int) (i : Nat) (x : Int) : (rowI l).setIfInBounds i (.int .i64 x) = rowI (l.set i x) := by
  unfold rowI
  rw [List.setIfInBounds_toArray, List.map_set]
/-- Block b holds the ints l. -/
def Hr (w : World) (b : Nat) (l : List Int) : Prop := w.heap[b]? = some (.cells (rowI l) 3 (0, 0))
theorem Hr.cell {w : World} {b : Nat} {l : List Int} (h : Hr w b l) {i : Nat} {x : Int} (hx : l[i]? = some x) : w.cell? ⟨b, i, none⟩ = some (.int .i64 x) := by
  rw [cell_of_row w b i _ 3 (0, 0) h, rowI_get, hx]; rfl
theorem Hr.free {w : World} {b : Nat} {l : List Int} (h : Hr w b l) (i : Nat) : w.frozen? ⟨b, i, none⟩ = false := frozen_of_row w b i _ 3 h
theorem Hr.put {w : World} {b : Nat} {l : List Int} (h : Hr w b l) (i : Nat) (x : Int) : Hr (w.setCell ⟨b, i, none⟩ (.int .i64 x)) b (l.set i x) := by
  have := heap_setCell_same w b i _ 3 (.int .i64 x) h
  rw [rowI_set] at this
  exact this
theorem Hr.other {w : World} {b : Nat} {l : List Int} (h : Hr w b l) (a : Addr) (v : Value) (hne : b ≠ a.block) : Hr (w.setCell a v) b l := (heap_setCell_other w a b v hne).trans h
theorem Hr.lt {w : World} {b : Nat} {l : List Int} (h : Hr w b l) : b < w.heap.size := (Array.getElem?_eq_some_iff.1 h).1
theorem Hr.on {w w' : World} {b : Nat} {l : List Int} (h : Hr w b l) (hb : Below w.heap.size w w') : Hr w' b l := (hb.block b h.lt).trans h
theorem made_row (n : Nat) : madeCells #[.int .i64 0] n = rowI (List.replicate n 0) := by
  apply Array.ext_getElem?
  intro i
  rw [rowI_get]
  unfold madeCells
  rcases Nat.lt_or_ge i n with h | h
  · rw [List.getElem?_replicate, if_pos h]
    simp [h, Nat.mod_one]
  · rw [List.getElem?_replicate, if_neg (by omega)]
    simp [h]
/-- As a slice of known ints. -/
theorem Hr.hl {w : World} {b : Nat} {l : List Int} (h : Hr w b l) (hl : l.length ≤ 70368744177664) (hI : ∀ x ∈ l, I64 x) : Hl (fun k => k < w.heap.size) w (.slice (some ⟨b, 0, none⟩) l.length l.length) l :=
  ⟨hl, hI, some ⟨b, 0, none⟩, l.length, rfl, Nat.le_refl _, fun _ => ⟨b, 0, rfl, h.lt, fun j x hx => by rw [Nat.zero_add]; exact h.cell hx⟩⟩

/-- The first k of l are those of f. -/
def Pre (f : Nat → Int) (n k : Nat) (l : List Int) : Prop := l.length = n ∧ ∀ j, j < k → l[j]? = some (f j)
theorem Pre.next {f : Nat → Int} {n k : Nat} {l : List Int} (h : Pre f n k l) (hk : k < n) : Pre f n (k + 1) (l.set k (f k)) := by
  refine ⟨by rw [List.length_set]; exact h.1, fun j hj => ?_⟩
  rw [List.getElem?_set]
  by_cases hjk : k = j
  · subst hjk
    rw [if_pos rfl, if_pos (by rw [h.1]; exact hk)]
  · rw [if_neg hjk]
    exact h.2 j (by omega)
theorem Pre.zero (f : Nat → Int) (n : Nat) : Pre f n 0 (List.replicate n 0) := ⟨List.length_replicate, fun j hj => by omega⟩
theorem Pre.all {f : Nat → Int} {n : Nat} {l : List Int} (h : Pre f n n l) : l = (List.range n).map f := by
  refine List.ext_getElem? fun j => ?_
  rcases Nat.lt_or_ge j n with hj | hj
  · rw [h.2 j hj, List.getElem?_map, List.getElem?_range hj]; rfl
  · rw [List.getElem?_eq_none (by rw [h.1]; exact hj), List.getElem?_eq_none (by simpa using hj)]

/-- The memory of the apportionment: w0 the world at the call; blocks b (parts), b1 (remainders), b2 (their variable), b3 (order). -/
structure AS (w0 : World) (b b1 b2 b3 n : Nat) (P R O : List Int) (w : World) : Prop where
  below : Below w0.heap.size w0 w
  base : w0.heap.size ≤ b ∧ b < b1 ∧ b1 < b2 ∧ b2 < b3
  hP : Hr w b P
  hR : Hr w b1 R
  hV : w.heap[b2]? = some (.cells #[.slice (some ⟨b1, 0, none⟩) n n] 22 (0, 0))
  hO : Hr w b3 O
section
variable {w0 w w' : World} {b b1 b2 b3 n : Nat} {P R O : List Int}
theorem AS.on (h : AS w0 b b1 b2 b3 n P R O w) (hb : Below w.heap.size w w') : AS w0 b b1 b2 b3 n P R O w' :=
  ⟨btrans h.below hb, h.base, h.hP.on hb, h.hR.on hb, (hb.block _ (Array.getElem?_eq_some_iff.1 h.hV).1).trans h.hV, h.hO.on hb⟩
theorem AS.setP (h : AS w0 b b1 b2 b3 n P R O w) (i : Nat) (x : Int) : AS w0 b b1 b2 b3 n (P.set i x) R O (w.setCell ⟨b, i, none⟩ (.int .i64 x)) := by
  obtain ⟨k0, k1, k2, k3⟩ := h.base
  exact ⟨Below.setCell h.below (show w0.heap.size ≤ b by omega) _, h.base, h.hP.put i x, h.hR.other _ _ (show b1 ≠ b by omega), (heap_setCell_other w ⟨b, i, none⟩ b2 _ (show b2 ≠ b by omega)).trans h.hV, h.hO.other _ _ (show b3 ≠ b by omega)⟩
theorem AS.setR (h : AS w0 b b1 b2 b3 n P R O w) (i : Nat) (x : Int) : AS w0 b b1 b2 b3 n P (R.set i x) O (w.setCell ⟨b1, i, none⟩ (.int .i64 x)) := by
  obtain ⟨k0, k1, k2, k3⟩ := h.base
  exact ⟨Below.setCell h.below (show w0.heap.size ≤ b1 by omega) _, h.base, h.hP.other _ _ (show b ≠ b1 by omega), h.hR.put i x, (heap_setCell_other w ⟨b1, i, none⟩ b2 _ (show b2 ≠ b1 by omega)).trans h.hV, h.hO.other _ _ (show b3 ≠ b1 by omega)⟩
theorem AS.setO (h : AS w0 b b1 b2 b3 n P R O w) (i : Nat) (x : Int) : AS w0 b b1 b2 b3 n P R (O.set i x) (w.setCell ⟨b3, i, none⟩ (.int .i64 x)) := by
  obtain ⟨k0, k1, k2, k3⟩ := h.base
  exact ⟨Below.setCell h.below (show w0.heap.size ≤ b3 by omega) _, h.base, h.hP.other _ _ (show b ≠ b3 by omega), h.hR.other _ _ (show b1 ≠ b3 by omega), (heap_setCell_other w ⟨b3, i, none⟩ b2 _ (show b2 ≠ b3 by omega)).trans h.hV, h.hO.put i x⟩
theorem AS.var (h : AS w0 b b1 b2 b3 n P R O w) : w.cell? ⟨b2, 0, none⟩ = some (.slice (some ⟨b1, 0, none⟩) n n) := by
  rw [cell_of_row w b2 0 _ 22 (0, 0) h.hV]; rfl
end

theorem info3' : (Tryz.prog.info? 3).map (fun i => (i.zero, i.size, i.bytes)) = some (some (.int .i64 0), 1, 8) := by kernel_rfl

/-- The world when the three rows are made. -/
theorem as_start (w : World) (n : Nat) :
    AS w w.heap.size (w.heap.size + 1) (w.heap.size + 1 + 1) (w.heap.size + 1 + 1 + 1) n (List.replicate n 0) (List.replicate n 0) (List.replicate n 0) ((((w.alloc (.cells (madeCells #[.int .i64 0] n) 3)).alloc (.cells (madeCells #[.int .i64 0] n) 3)).alloc (.cells #[.slice (some ⟨w.heap.size + 1, 0, none⟩) n n] 22)).alloc (.cells (madeCells #[.int .i64 0] n) 3)) := by
  rw [made_row]
  have s1 : (w.alloc (.cells (rowI (List.replicate n 0)) 3)).heap.size = w.heap.size + 1 := by rw [World.size_alloc]
  have s2 : ((w.alloc (.cells (rowI (List.replicate n 0)) 3)).alloc (.cells (rowI (List.replicate n 0)) 3)).heap.size = w.heap.size + 2 := by rw [World.size_alloc, s1]
  have s3 : (((w.alloc (.cells (rowI (List.replicate n 0)) 3)).alloc (.cells (rowI (List.replicate n 0)) 3)).alloc (.cells #[.slice (some ⟨w.heap.size + 1, 0, none⟩) n n] 22)).heap.size = w.heap.size + 3 := by rw [World.size_alloc, s2]
  have b1 := ball (Below.refl w.heap.size w) (.cells (rowI (List.replicate n 0)) 3)
  have h1 := heap_alloc_new w (.cells (rowI (List.replicate n 0)) 3)
  have h2 := heap_alloc_new (w.alloc (.cells (rowI (List.replicate n 0)) 3)) (.cells (rowI (List.replicate n 0)) 3)
  have h3 := heap_alloc_new ((w.alloc (.cells (rowI (List.replicate n 0)) 3)).alloc (.cells (rowI (List.replicate n 0)) 3)) (.cells #[.slice (some ⟨w.heap.size + 1, 0, none⟩) n n] 22)
  have h4 := heap_alloc_new (((w.alloc (.cells (rowI (List.replicate n 0)) 3)).alloc (.cells (rowI (List.replicate n 0)) 3)).alloc (.cells #[.slice (some ⟨w.heap.size + 1, 0, none⟩) n n] 22)) (.cells (rowI (List.replicate n 0)) 3)
  have c2 := ball (Below.refl _ (w.alloc (.cells (rowI (List.replicate n 0)) 3))) (.cells (rowI (List.replicate n 0)) 3)
  have c3 := ball (Below.refl _ ((w.alloc (.cells (rowI (List.replicate n 0)) 3)).alloc (.cells (rowI (List.replicate n 0)) 3))) (.cells #[.slice (some ⟨w.heap.size + 1, 0, none⟩) n n] 22)
  have c4 := ball (Below.refl _ (((w.alloc (.cells (rowI (List.replicate n 0)) 3)).alloc (.cells (rowI (List.replicate n 0)) 3)).alloc (.cells #[.slice (some ⟨w.heap.size + 1, 0, none⟩) n n] 22))) (.cells (rowI (List.replicate n 0)) 3)
  rw [s1] at h2
  rw [s2] at h3
  rw [s3] at h4
  refine ⟨btrans b1 (btrans c2 (btrans c3 c4)), ⟨Nat.le_refl _, by omega, by omega, by omega⟩, ?_, ?_, ?_, h4⟩
  · exact ((btrans c2 (btrans c3 c4)).block _ (by omega)).trans h1
  · exact ((btrans c3 c4).block _ (by omega)).trans h2
  · exact (c4.block _ (by omega)).trans h3

end Go.Proofs.YtempnbchiofghaaGreatDoor
