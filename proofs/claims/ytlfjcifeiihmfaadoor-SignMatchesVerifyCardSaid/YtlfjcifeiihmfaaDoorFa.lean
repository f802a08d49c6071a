/-
  Walks of the reference's digest: rotations, constants, numbers, padding.
-/
import Derived.Test.YtlfjcifeiihmfaaDoorHa
namespace Go.Proofs.YtlfjcifeiihmfaaDoor
open Go.RowKit

theorem bits_or_comm (k : IntKind) (a b : Int) : bits .or k a b = bits .or k b a := by
  unfold bits
  simp only [BitVec.or_comm]

set_option maxHeartbeats 400000 in
theorem rrotr_any (x : Int) (n : Nat) (w : World) (n0 : 1 ≤ n) (n1 : n ≤ 31) :
    Calls Tryd.prog 58 #[.int .u32 x, .int .i64 (n : Int)] w fun e w' => e = .returned (.int .u32 (rot x n)) ∧ ∃ m, w' = w.drewN m := by
  have e2 : IntKind.i64.wrap (32 - (n : Int)) = ((32 - n : Nat) : Int) := by rw [IntKind.wrap_i64]; omega
  have e3 : (0 : Int) ≤ (n : Int) := by omega
  have e4 : bits .or .u32 (x / 2 ^ n) (x * 2 ^ (32 - n) % 4294967296) = rot x n := bits_or_comm _ _ _
  go_enter Tryd.func58, Tryd.ntmps58
  go_wp2_with fail
  go_quiet (fail)
  go_wp2
  go_ret
  exact ⟨rfl, _, rfl⟩

theorem rrotr_lit (x : Int) (k : Int) (w : World) (h : 1 ≤ k ∧ k ≤ 31) :
    Calls Tryd.prog 58 #[.int .u32 x, .int .i64 k] w fun e w' => e = .returned (.int .u32 (rot x k.toNat)) ∧ ∃ m, w' = w.drewN m := by
  have e : k = (k.toNat : Int) := by omega
  have := rrotr_any x k.toNat w (by omega) (by omega)
  rw [← e] at this
  exact this

set_option maxHeartbeats 400000 in
theorem rnumber_any (d : List Int) (w : World) (hd : d.length = 32) (hr : ∀ u ∈ d, 0 ≤ u ∧ u ≤ 255) :
    Calls Tryd.prog 30 #[.agg (byteVals d).toArray] w fun e w' => e = .returned (.int .u64 (num (d.take 8))) ∧ Below w.heap.size w w' := by
  have HR := Lib.hid hr
  clear hr
  go_enter Tryd.func30, Tryd.ntmps30
  go_wp2
  go_loop [3, 4] (fun n i => ∃ k : Nat, k ≤ 8 ∧ i = .int .i64 k ∧ n = .int .u64 (num (d.take k))) (fun _ i => 8 - (intOf i).toNat)
  case atStart => exact ⟨0, by omega, rfl, rfl⟩
  case round =>
    obtain ⟨k, hk, rfl, rfl⟩ := hrel
    by_cases hlt : k < 8
    · have hc := (RowB.new w 46 d).cell (j := k) (x := d[k]) (List.getElem?_eq_getElem (by omega))
      obtain ⟨n0, n1⟩ := num_range d HR.out k (by omega)
      have c01 := HR.out d[k] (List.getElem_mem _)
      have hp : (256 : Int) ^ k ≤ 72057594037927936 := by
        have : (256 : Nat) ^ k ≤ 256 ^ 7 := Nat.pow_le_pow_right (by decide) (by omega)
        have e : ((256 ^ k : Nat) : Int) = (256 : Int) ^ k := by simp
        rw [← e]
        omega
      have e1 : num (d.take k) * 256 % 18446744073709551616 = num (d.take k) * 256 := by omega
      have e2 := num_join (num (d.take k)) d[k] n0 (by omega) c01.1 c01.2
      have e3 : IntKind.u64.wrap d[k] = d[k] := by rw [IntKind.wrap_u64]; omega
      clear hp n0 n1 c01
      go_wp2
      go_round
      case rel => exact ⟨k + 1, by omega, by go_num, by rw [num_take d k (by omega)]⟩
      case measure => simp [intOf]; omega
    · have hk' : k = 8 := by omega
      subst hk'
      go_wp2
      go_ret
      exact ⟨rfl, ball (Below.refl _ _) _⟩

set_option maxRecDepth 100000 in
set_option maxHeartbeats 1000000 in
theorem rconstants_any (w : World) : Calls Tryd.prog 57 #[] w fun e w' => e = .returned (.agg (words kk).toArray) ∧ Below w.heap.size w w' := by
  have hb : Below w.heap.size w (w.alloc (Obj.cells (words (List.replicate 64 0)).toArray 72)) := ball (Below.refl _ _) _
  have h1 : RowW (w.alloc (Obj.cells (words (List.replicate 64 0)).toArray 72)) w.heap.size 72 (List.replicate 64 0) := RowW.new w 72 _
  go_enter Tryd.func57, Tryd.ntmps57
  go_wp2_with (refine wpList_store_row rfl 72 (.tmp 0) (.tmp 1) rfl w.heap.size (words kk).toArray rfl rfl 72 _ h1 (size73 _ rfl) rfl (all_words _) ?_)
  refine bodyPost_ret (results_cell_row rfl _ _ w.heap.size 72 (words kk).toArray (0, 0) _ (by rfl) (RowW.put h1) Tryd.underlying72 rfl (size73 _ rfl)) rfl ?_
  exact ⟨rfl, bsetRow hb (by omega) _⟩
end Go.Proofs.YtlfjcifeiihmfaaDoor
