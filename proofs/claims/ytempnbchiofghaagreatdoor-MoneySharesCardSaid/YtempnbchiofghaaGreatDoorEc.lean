/-
  Walks: the sort of the indices.
-/
import Derived.Test.YtempnbchiofghaaGreatDoorEb
namespace Go.Proofs.YtempnbchiofghaaGreatDoor
open Go.RowKit Go.Lib Go.Shelf
open Go.Sort hiding Below
set_option linter.unusedVariables false
set_option linter.unusedSimpArgs false

theorem ord_neg (ri rj : Int) (i j : Nat) : (ordI ri rj (i : Int) (j : Int) < 0) ↔ (rj < ri ∨ (ri = rj ∧ i < j)) := by
  unfold ordI cmpI
  by_cases h1 : rj < ri
  · rw [if_pos h1]; simp [h1]
  · rw [if_neg h1]
    by_cases h2 : ri < rj
    · rw [if_pos h2]
      simp only [ne_eq, if_true, Int.one_ne_zero, not_false_eq_true]
      omega
    · rw [if_neg h2]
      simp only [ne_eq, not_true_eq_false, if_false]
      by_cases h3 : (i : Int) < (j : Int)
      · rw [if_pos h3]; omega
      · rw [if_neg h3]
        by_cases h4 : (j : Int) < (i : Int)
        · rw [if_pos h4]; omega
        · rw [if_neg h4]; omega

variable {m : Nat}
def encF (x : Fin (m + 1)) : Value := .int .i64 ((x.val : Nat) : Int)
def cfF (r : Nat → Int) (x y : Fin (m + 1)) : Int := ordI (r x.val) (r y.val) ((x.val : Nat) : Int) ((y.val : Nat) : Int)
theorem lt_cf (r : Nat → Int) (x y : Fin (m + 1)) : ltOf (cfF r) x y = true ↔ bef r x.val y.val := by
  unfold ltOf cfF bef
  rw [decide_eq_true_eq, ord_neg]
theorem lt_cf_false (r : Nat → Int) (x y : Fin (m + 1)) : ltOf (cfF r) x y = false ↔ ¬ bef r x.val y.val := by
  rw [← lt_cf]; simp
theorem swo_cf (r : Nat → Int) : Sort.SWO (ltOf (cfF (m := m) r)) where
  irrefl x := by rw [lt_cf_false]; exact bef_irrefl r _
  trans x y z h1 h2 := by rw [lt_cf] at *; exact bef_trans h1 h2
  ntrans x y z h1 h2 := by
    rw [lt_cf_false] at *
    unfold bef at *
    omega

theorem heap_sorted (w : World) (blk off n : Nat) (d : Array (Fin (m + 1))) (os : Array Obj) (k : Nat) (hk : k < w.heap.size) (hne : k ≠ blk) : (sortWorld encF w blk off n d os).heap[k]? = w.heap[k]? := by
  have hne' : blk ≠ k := fun e => hne e.symm
  unfold sortWorld
  rw [heap_grow_old _ _ (by simpa [putRow, mapBlock, Sort.ahead] using hk)]
  simp [putRow, mapBlock, Sort.ahead, Array.getElem?_modify, hne']
theorem grown_sorted (w : World) (blk off n : Nat) (d : Array (Fin (m + 1))) (os : Array Obj) : w.grownBy (sortWorld encF w blk off n d os) (some blk) := by
  refine ⟨rfl, rfl, rfl, ?_, fun k hk hne => heap_sorted w blk off n d os k hk (fun e => hne (by rw [e]))⟩
  unfold sortWorld
  rw [size_grow]
  have : (putRow encF (Sort.ahead w n) blk off d).heap.size = w.heap.size := by simp [putRow, mapBlock, Sort.ahead]
  omega

theorem row_sorted {w : World} {b : Nat} {l : List Int} (h : Hr w b l) (n : Nat) (d : Array (Fin (m + 1))) (os : Array Obj) (hl : l.length = d.size) : Hr (sortWorld encF w b 0 n d os) b (d.toList.map fun x => ((x.val : Nat) : Int)) := by
  unfold Hr sortWorld
  rw [heap_grow_old _ _ (by simpa [putRow, mapBlock, Sort.ahead] using h.lt)]
  have hh : w.heap[b]? = some (.cells (rowI l) 3 (0, 0)) := h
  have e : (putRow encF (Sort.ahead w n) b 0 d).heap[b]? = some (.cells (putCells encF 0 d (rowI l)) 3 (0, 0)) := by
    simp [putRow, mapBlock, Sort.ahead, Array.getElem?_modify, hh, onCells]
  rw [e]
  congr 2
  apply Array.ext_getElem?
  intro k
  simp only [putCells, Array.getElem?_mapIdx, rowI_get]
  rcases Nat.lt_or_ge k d.size with hk | hk
  · rw [List.getElem?_eq_getElem (by omega), List.getElem?_map, List.getElem?_eq_getElem (by simpa using hk)]
    simp only [Option.map_some, Nat.zero_le, true_and, Nat.zero_add, Nat.sub_zero]
    rw [if_pos hk, getElem!_pos d k hk]
    simp [encF]
  · rw [List.getElem?_eq_none (by omega), List.getElem?_eq_none (by simpa using hk)]
    rfl

theorem ext_all {β : Type} (a : Array β) (k : Nat) (h : a.size = k) : a.extract 0 k = a := by
  subst h
  simp
theorem finrow_get (j : Nat) (hj : j < m + 1) : ((List.range (m + 1)).map fun j => ((j : Nat) : Int))[j]? = some (j : Int) := by
  rw [List.getElem?_map, List.getElem?_range hj]; rfl

set_option maxHeartbeats 1000000 in
/-- The order's row, sorted in place. -/
theorem sort_any {w0 wr : World} {b b1 b2 b3 : Nat} {P : List Int} (r : Nat → Int) (n : Nat) (h0 : 0 < n) (hn : n ≤ 256)
    (h : AS w0 b b1 b2 b3 n P ((List.range n).map r) ((List.range n).map fun j => ((j : Nat) : Int)) wr) :
    Calls Tryz.prog 54 #[.slice (some ⟨b3, 0, none⟩) n n, .func (.func 55) #[] #[.pointer (some ⟨b2, 0, none⟩)]] wr fun e w' => e = .returned (.tuple #[]) ∧ ∃ ord : List Nat, IsOrd r n ord ∧ AS w0 b b1 b2 b3 n P ((List.range n).map r) (ord.map fun j => ((j : Nat) : Int)) w' := by
  obtain ⟨m, rfl⟩ : ∃ m, n = m + 1 := ⟨n - 1, by omega⟩
  have hsz : (Array.ofFn (fun i : Fin (m + 1) => i)).size = m + 1 := Array.size_ofFn
  have hget : ∀ j, (hj : j < m + 1) → (Array.ofFn (fun i : Fin (m + 1) => i))[j]! = ⟨j, hj⟩ := fun j hj => by
    rw [getElem!_pos _ j (by rw [hsz]; exact hj), Array.getElem_ofFn]
  obtain ⟨k0, k1, k2, k3⟩ := h.base
  have hH : Holds encF wr b3 0 (Array.ofFn (fun i : Fin (m + 1) => i)) := by
    intro j hj
    rw [hsz] at hj
    rw [Nat.zero_add, hget j hj]
    exact ⟨h.hO.cell (finrow_get j hj), h.hO.free j⟩
  have hblk : b3 < wr.heap.size := h.hO.lt
  have hcmp : CmpLays1 Tryz.prog 55 #[.pointer (some ⟨b2, 0, none⟩)] (encF (m := m)) (cfF r) b3 0 (Array.ofFn (fun i : Fin (m + 1) => i)).size wr := by
    intro q os dk hdk x y
    have e1 : ∀ k, k < wr.heap.size → k ≠ b3 → (sortWorld encF wr b3 0 q dk os).heap[k]? = wr.heap[k]? := fun k hk hne => heap_sorted wr b3 0 q dk os k hk hne
    have hV : (sortWorld encF wr b3 0 q dk os).cell? ⟨b2, 0, none⟩ = some (.slice (some ⟨b1, 0, none⟩) (m + 1) (m + 1)) :=
      (World.cell?_of_block (w := wr) (e1 b2 (Array.getElem?_eq_some_iff.1 h.hV).1 (by omega))).trans h.var
    have hR : ∀ i, i < m + 1 → (sortWorld encF wr b3 0 q dk os).cell? ⟨b1, 0 + i, none⟩ = some (.int .i64 (r i)) := fun i hi => by
      rw [Nat.zero_add]
      exact (World.cell?_of_block (w := wr) (e1 b1 h.hR.lt (by omega))).trans (h.hR.cell (by rw [List.getElem?_map, List.getElem?_range hi]; rfl))
    exact order_any x.val y.val (r x.val) (r y.val) b2 b1 0 (m + 1) (m + 1) _ x.isLt y.isLt hn hV (hR _ x.isLt) (hR _ y.isLt)
  have eg : ∀ args w, (callFunc 55 args).run Tryz.prog w = .ok (.enter 55 args) w := enters_of Tryz.func55 (by kernel_rfl) rfl
  have hcon := Any.slices_SortFunc Tryz.sortK encF (fun _ => rfl) (cfF r) (swo_cf r) 55 #[.pointer (some ⟨b2, 0, none⟩)] b3 0 (m + 1) (Array.ofFn (fun i : Fin (m + 1) => i)) wr eg hcmp hH hblk (by rw [hsz]; omega)
  change Calls Tryz.prog 54 _ _ _ at hcon
  rw [hsz] at hcon
  refine hcon.mono ?_
  rintro e w' ⟨rfl, d', q, os, hp, hs, rfl⟩
  have hdz : d'.size = m + 1 := by rw [hp.1, hsz]
  have hperm : d'.toList.Perm (Array.ofFn (fun i : Fin (m + 1) => i)).toList := by
    have := hp.2.2
    rw [ext_all d' _ hdz, ext_all _ _ hsz] at this
    exact this
  have hrange : (Array.ofFn (fun i : Fin (m + 1) => i)).toList.map (fun x => x.val) = List.range (m + 1) := by
    refine List.ext_getElem (by simp) fun j h1 h2 => ?_
    simp only [List.getElem_map, Array.getElem_toList, Array.getElem_ofFn, List.getElem_range]
  have hpr : (d'.toList.map fun x => x.val).Perm (List.range (m + 1)) := by
    rw [← hrange]
    exact hperm.map _
  have hgr := grown_sorted wr b3 0 q d' os
  have hmap : ((d'.toList.map fun x => x.val).map fun j => ((j : Nat) : Int)) = d'.toList.map fun x => ((x.val : Nat) : Int) := by
    rw [List.map_map]; rfl
  refine ⟨rfl, d'.toList.map fun x => x.val, ⟨hpr, ?_⟩, ?_⟩
  · have hnd : (d'.toList.map fun x => x.val).Nodup := hpr.nodup_iff.2 List.nodup_range
    rw [List.nodup_iff_pairwise_ne, List.pairwise_iff_getElem] at hnd
    rw [List.pairwise_iff_getElem]
    intro i j hi hj hij
    have hi2 : i < m + 1 := by simpa [hdz] using hi
    have hj2 : j < m + 1 := by simpa [hdz] using hj
    have h1 := hs i j (Nat.zero_le _) hij hj2
    rw [lt_cf_false, getElem!_pos d' i (by omega), getElem!_pos d' j (by omega)] at h1
    have h2 := hnd i j hi hj hij
    simp only [List.getElem_map, Array.getElem_toList] at h2 ⊢
    rcases bef_total r h2 with h3 | h3
    · exact h3
    · exact absurd h3 h1
  · rw [hmap]
    refine ⟨h.below.grown hgr h.below.size (fun j ej => by simp at ej; omega), h.base, ?_, ?_, ?_, row_sorted h.hO q d' os (by simp [hdz])⟩
    · exact (heap_sorted wr b3 0 q d' os b h.hP.lt (by omega)).trans h.hP
    · exact (heap_sorted wr b3 0 q d' os b1 h.hR.lt (by omega)).trans h.hR
    · exact (heap_sorted wr b3 0 q d' os b2 (Array.getElem?_eq_some_iff.1 h.hV).1 (by omega)).trans h.hV
end Go.Proofs.YtempnbchiofghaaGreatDoor
