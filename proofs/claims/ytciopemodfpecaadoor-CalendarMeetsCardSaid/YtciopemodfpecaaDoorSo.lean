/-
  Walks: the laws' calendar of an office; the values of the chapter's examples.
-/
import Derived.Test.YtciopemodfpecaaDoorFr
import Derived.Test.YtciopemodfpecaaDoorCd
namespace Go.Proofs.YtciopemodfpecaaDoor
open Go.RowKit
set_option linter.unusedVariables false
set_option linter.unusedSimpArgs false

def opk (k : Nat) : List (Int × Int) := (List.range 7).map fun i => if i < k then (480, 960) else (0, 0)
def ofk (k : Nat) : Array Value := (cells (opk k) ++ [Value.slice none 0 0]).toArray
theorem ofk_cal (F : Nat → Prop) (w : World) : Cal F w (ofk 5) (opk 5) [] := by
  refine ⟨rfl, fun s hs => ?_, _, rfl, hl_nil _ _ _ _⟩
  have : ∀ s ∈ opk 5, (0 : Int) ≤ s.1 ∧ s.1 ≤ 960 ∧ 0 ≤ s.2 ∧ s.2 ≤ 960 := by decide
  have := this s hs
  unfold I64; omega
theorem ofk_step (k : Nat) (hk : k < 5) : ((ofk k).setIfInBounds (k * 2) (.int .i64 480)).setIfInBounds (k * 2 + 1) (.int .i64 960) = ofk (k + 1) := by
  rcases (show k = 0 ∨ k = 1 ∨ k = 2 ∨ k = 3 ∨ k = 4 by omega) with rfl | rfl | rfl | rfl | rfl <;> rfl
theorem ofk_get (k : Nat) (hk : k < 5) : (ofk k)[k * 2]? = some (.int .i64 0) ∧ (ofk k)[k * 2 + 1]? = some (.int .i64 0) := by
  rcases (show k = 0 ∨ k = 1 ∨ k = 2 ∨ k = 3 ∨ k = 4 by omega) with rfl | rfl | rfl | rfl | rfl <;> exact ⟨rfl, rfl⟩
theorem ofk_all (k : Nat) : (ofk k).all (·.oneCell') = true := by
  unfold ofk
  rw [List.all_toArray, List.all_append]
  simp only [Bool.and_eq_true, List.all_eq_true]
  exact ⟨cells_one _, fun x hx => by simp at hx; subst hx; rfl⟩
theorem ofk_size (k : Nat) : (ofk k).size = 15 := by simp [ofk, cells_length, opk]

set_option maxRecDepth 100000 in
set_option maxHeartbeats 2000000 in
theorem office_any (w : World) : Calls Tryd.prog 39 #[.int .i64 480, .int .i64 960] w fun e w' => e = .returned (.agg (ofk 5)) ∧ Below w.heap.size w w' := by
  have hz : (w.alloc (.cells (ofk 0) 27)).alloc (.cells (ofk 0) 27) = (w.alloc (.cells (ofk 0) 27)).alloc (.cells (ofk 0) 27) := rfl
  have hW : Below w.heap.size w ((w.alloc (.cells (ofk 0) 27)).alloc (.cells (ofk 0) 27)) := ball (ball (Below.refl _ _) _) _
  have h0 : ((w.alloc (.cells (ofk 0) 27)).alloc (.cells (ofk 0) 27)).heap[w.heap.size]? = some (.cells (ofk 0) 27 (0, 0)) := (heap_alloc_old _ _ (by simp)).trans (heap_alloc_new w _)
  have h1 : ((w.alloc (.cells (ofk 0) 27)).alloc (.cells (ofk 0) 27)).heap[w.heap.size + 1]? = some (.cells (ofk 0) 27 (0, 0)) := by
    have := heap_alloc_new (w.alloc (.cells (ofk 0) 27)) (.cells (ofk 0) 27)
    rw [World.size_alloc] at this
    exact this
  go_enter Tryd.func39, Tryd.ntmps39
  go_wp2
  generalize hWW : (w.alloc (.cells #[.int .i64 0, .int .i64 0, .int .i64 0, .int .i64 0, .int .i64 0, .int .i64 0, .int .i64 0, .int .i64 0, .int .i64 0, .int .i64 0, .int .i64 0, .int .i64 0, .int .i64 0, .int .i64 0, .slice none 0 0] 27)).alloc (.cells #[.int .i64 0, .int .i64 0, .int .i64 0, .int .i64 0, .int .i64 0, .int .i64 0, .int .i64 0, .int .i64 0, .int .i64 0, .int .i64 0, .int .i64 0, .int .i64 0, .int .i64 0, .int .i64 0, .slice none 0 0] 27) = W
  have hW2 : Below w.heap.size w W := by rw [← hWW]; exact hW
  have h02 : W.heap[w.heap.size]? = some (.cells (ofk 0) 27 (0, 0)) := by rw [← hWW]; exact h0
  have h12 : W.heap[w.heap.size + 1]? = some (.cells (ofk 0) 27 (0, 0)) := by rw [← hWW]; exact h1
  have HW := Lib.hid hW2; have H0 := Lib.hid h02; have H1 := Lib.hid h12
  clear hW h0 h1 hW2 h02 h12 hWW hz
  go_loopw [6] (fun s wr => ∃ k : Nat, k ≤ 5 ∧ s = .int .i64 (k : Int) ∧ Hid (Below w.heap.size w wr ∧ wr.heap[w.heap.size]? = some (.cells (ofk 0) 27 (0, 0)) ∧ wr.heap[w.heap.size + 1]? = some (.cells (ofk k) 27 (0, 0)))) (fun s _ => 5 - (intOf s).toNat)
  case atStart => exact ⟨0, by omega, rfl, Lib.hid ⟨HW.out, H0.out, H1.out⟩⟩
  case round =>
    obtain ⟨k, hk, rfl, H⟩ := hrel
    by_cases hlt : k < 5
    · have hlt2 : (k : Int) < 5 := by omega
      have hlt7 : (k : Int) < 7 := by omega
      have hge0 : (0 : Int) ≤ (k : Int) := by omega
      obtain ⟨g0, g1⟩ := ofk_get k hlt
      have c0 : wr.cell? ⟨w.heap.size + 1, k * 2, none⟩ = some (.int .i64 0) := by rw [cell_of_row wr _ _ _ 27 (0, 0) H.out.2.2]; exact g0
      have c1 : wr.cell? ⟨w.heap.size + 1, k * 2 + 1, none⟩ = some (.int .i64 0) := by rw [cell_of_row wr _ _ _ 27 (0, 0) H.out.2.2]; exact g1
      have f0 : wr.frozen? ⟨w.heap.size + 1, k * 2, none⟩ = false := by simp [World.frozen?, H.out.2.2]
      have f1 : wr.frozen? ⟨w.heap.size + 1, k * 2 + 1, none⟩ = false := by simp [World.frozen?, H.out.2.2]
      clear g0 g1
      go_wp2
      go_roundw
      case rel =>
        refine ⟨k + 1, by omega, by go_num, Lib.hid ⟨(H.out.1.setCell (p := ⟨w.heap.size + 1, k * 2, none⟩) (by simp) _).setCell (p := ⟨w.heap.size + 1, k * 2 + 1, none⟩) (by simp) _, ?_, ?_⟩⟩
        · exact (heap_setCell_other _ _ _ _ (by simp)).trans ((heap_setCell_other _ _ _ _ (by simp)).trans H.out.2.1)
        · rw [← ofk_step k hlt]
          exact heap_setCell_same _ (w.heap.size + 1) (k * 2 + 1) _ 27 _ (heap_setCell_same wr (w.heap.size + 1) (k * 2) _ 27 _ H.out.2.2)
      case measure => simp [intOf]; omega
    · obtain rfl : k = 5 := by omega
      have hlt5 : ¬ ((5 : Int) < 5) := by omega
      go_wp2_with (first | (refine wpList_load_row rfl 27 (.tmp 5) rfl (w.heap.size + 1) rfl 27 (ofk 5) (0, 0) _ H.out.2.2 Tryd.underlying27 rfl (size27 (ofk_size 5)) ?_) | (refine wpList_store_row rfl 27 (.tmp 4) (.tmp 18) rfl w.heap.size (ofk 5) rfl rfl 27 _ H.out.2.1 (size27 (ofk_size 5)) (by rw [ofk_size, ofk_size]) (ofk_all 5) ?_))
      refine bodyPost_ret (results_cell_row (cs := ofk 5) rfl _ _ w.heap.size 27 (0, 0) _ rfl (setRow_heap _ _ _ _ _ _ H.out.2.1) Tryd.underlying27 rfl (size27 (ofk_size 5))) rfl ?_
      exact ⟨rfl, bsetRow H.out.1 (Nat.le_refl _) _⟩
end Go.Proofs.YtciopemodfpecaaDoor
