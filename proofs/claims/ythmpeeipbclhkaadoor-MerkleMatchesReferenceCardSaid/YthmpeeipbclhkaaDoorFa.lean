/-
  Walks of the reference's digest: rotations, constants, numbers, padding.
-/
import Derived.Test.YthmpeeipbclhkaaDoorHa
namespace Go.Proofs.YthmpeeipbclhkaaDoor
open Go.RowKit

theorem bits_or_comm (k : IntKind) (a b : Int) : bits .or k a b = bits .or k b a := by
  unfold bits
  simp only [BitVec.or_comm]

set_option maxHeartbeats 400000 in
theorem rrotr_any (x : Int) (n : Nat) (w : World) (n0 : 1 ≤ n) (n1 : n ≤ 31) :
    Calls Tryd.prog 65 #[.int .u32 x, .int .i64 (n : Int)] w fun e w' => e = .returned (.int .u32 (rot x n)) ∧ ∃ m, w' = w.drewN m := by
  have e2 : IntKind.i64.wrap (32 - (n : Int)) = ((32 - n : Nat) : Int) := by rw [IntKind.wrap_i64]; omega
  have e3 : (0 : Int) ≤ (n : Int) := by omega
  have e4 : bits .or .u32 (x / 2 ^ n) (x * 2 ^ (32 - n) % 4294967296) = rot x n := bits_or_comm _ _ _
  go_enter Tryd.func65, Tryd.ntmps65
  go_wp2_with fail
  go_quiet (fail)
  go_wp2
  go_ret
  exact ⟨rfl, _, rfl⟩

theorem rrotr_lit (x : Int) (k : Int) (w : World) (h : 1 ≤ k ∧ k ≤ 31) :
    Calls Tryd.prog 65 #[.int .u32 x, .int .i64 k] w fun e w' => e = .returned (.int .u32 (rot x k.toNat)) ∧ ∃ m, w' = w.drewN m := by
  have e : k = (k.toNat : Int) := by omega
  have := rrotr_any x k.toNat w (by omega) (by omega)
  rw [← e] at this
  exact this

set_option maxRecDepth 100000 in
set_option maxHeartbeats 1000000 in
theorem rconstants_any (w : World) : Calls Tryd.prog 64 #[] w fun e w' => e = .returned (.agg (words kk).toArray) ∧ Below w.heap.size w w' := by
  have hb : Below w.heap.size w (w.alloc (Obj.cells (words (List.replicate 64 0)).toArray 81)) := ball (Below.refl _ _) _
  have h1 : RowW (w.alloc (Obj.cells (words (List.replicate 64 0)).toArray 81)) w.heap.size 81 (List.replicate 64 0) := RowW.new w 81 _
  go_enter Tryd.func64, Tryd.ntmps64
  go_wp2_with (refine wpList_store_row rfl 81 (.tmp 0) (.tmp 1) rfl w.heap.size (words kk).toArray rfl rfl 81 _ h1 (size73 _ rfl) rfl (all_words _) ?_)
  refine bodyPost_ret (results_cell_row rfl _ _ w.heap.size 81 (words kk).toArray (0, 0) _ (by rfl) (RowW.put h1) Tryd.underlying81 rfl (size73 _ rfl)) rfl ?_
  exact ⟨rfl, bsetRow hb (by omega) _⟩
end Go.Proofs.YthmpeeipbclhkaaDoor
