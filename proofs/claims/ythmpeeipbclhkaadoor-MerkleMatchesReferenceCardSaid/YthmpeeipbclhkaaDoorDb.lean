/-
  Walks of the program's digest: rotations; the bytes of a state.
-/
import Derived.Test.YthmpeeipbclhkaaDoorDa
namespace Go.Proofs.YthmpeeipbclhkaaDoor
open Go.RowKit

/-- Rotated to the right. -/
def rot (x : Int) (n : Nat) : Int := bits .or .u32 (x * 2 ^ (32 - n) % 4294967296) (x / 2 ^ n)

theorem rot_count (n : Nat) (h0 : 1 ≤ n) (h1 : n ≤ 31) : bits .and .u64 (IntKind.u64.wrap (-(n : Int))) 31 = ((32 - n : Nat) : Int) := by
  have : ∀ x : Fin 32, x.val ≠ 0 → bits .and .u64 (IntKind.u64.wrap (-((x.val : Nat) : Int))) 31 = ((32 - x.val : Nat) : Int) := by decide +kernel
  exact this ⟨n, by omega⟩ (by simp; omega)

set_option maxHeartbeats 400000 in
theorem rotl_any (x : Int) (n : Nat) (w : World) (n0 : 1 ≤ n) (n1 : n ≤ 31) :
    Calls Tryd.prog 68 #[.int .u32 x, .int .i64 (-(n : Int))] w fun e w' => e = .returned (.int .u32 (rot x n)) ∧ w = w' := by
  have e1 := rot_count n n0 n1
  have e2 : (32 : Int) - ((32 - n : Nat) : Int) = (n : Int) := by omega
  have e3 : IntKind.u64.wrap (n : Int) = (n : Int) := by rw [IntKind.wrap_u64]; omega
  go_enter Tryd.func68, Tryd.ntmps68
  go_wp2
  go_ret
  exact ⟨rfl, rfl⟩

set_option maxHeartbeats 400000 in
theorem rotr_any (x : Int) (n : Nat) (w : World) (n0 : 1 ≤ n) (n1 : n ≤ 31) :
    Calls Tryd.prog 67 #[.int .u32 x, .int .i64 (n : Int)] w fun e w' => e = .returned (.int .u32 (rot x n)) ∧ w = w' := by
  have e3 : IntKind.i64.wrap (-(n : Int)) = -(n : Int) := by rw [IntKind.wrap_i64]; omega
  have H := rotl_any x n w n0 n1
  go_enter Tryd.func67, Tryd.ntmps67
  go_wp2_with fail
  refine H.mono ?_
  rintro e w' ⟨rfl, rfl⟩
  go_wp2
  go_ret
  exact ⟨rfl, rfl⟩

theorem rotr_lit (x : Int) (k : Int) (w : World) (h : 1 ≤ k ∧ k ≤ 31) :
    Calls Tryd.prog 67 #[.int .u32 x, .int .i64 k] w fun e w' => e = .returned (.int .u32 (rot x k.toNat)) ∧ w = w' := by
  have e : k = (k.toNat : Int) := by omega
  have := rotr_any x k.toNat w (by omega) (by omega)
  rw [← e] at this
  exact this

/-- Byte i of the words s. -/
def byteOf (s : List Int) (i : Nat) : Int := s.getD (i / 4) 0 / 2 ^ (8 * (3 - i % 4)) % 256
/-- The bytes of the words s. -/
def bytesOf (s : List Int) : List Int := (List.range 32).map (byteOf s)

/-- The first k are set, the rest are as they were: 0. -/
def part (f : Nat → Int) (n k : Nat) : List Int := (List.range n).map fun i => if i < k then f i else 0
theorem part_zero (f : Nat → Int) (n : Nat) : part f n 0 = List.replicate n 0 := by
  unfold part; apply List.ext_getElem <;> simp
theorem part_full (f : Nat → Int) (n : Nat) : part f n n = (List.range n).map f := by
  unfold part
  apply List.map_congr_left
  intro i hi
  rw [if_pos (List.mem_range.1 hi)]
theorem part_set (f : Nat → Int) (n k : Nat) (hk : k < n) : (part f n k).set k (f k) = part f n (k + 1) := by
  unfold part
  apply List.ext_getElem
  · simp
  · intro i h1 h2
    simp only [List.getElem_set, List.getElem_map, List.getElem_range]
    by_cases h : k = i
    · subst h; simp
    · rw [if_neg h]
      by_cases h3 : i < k
      · rw [if_pos h3, if_pos (by omega)]
      · rw [if_neg h3, if_neg (by omega)]
theorem part_at (f : Nat → Int) (n k i : Nat) (hi : i < n) : (part f n k)[i]? = some (if i < k then f i else 0) := by
  unfold part; simp [hi]
theorem part_length (f : Nat → Int) (n k : Nat) : (part f n k).length = n := by simp [part]

set_option maxHeartbeats 1000000 in
theorem digest_any (s : List Int) (w : World) (hs : s.length = 8) :
    Calls Tryd.prog 59 #[.agg (words s).toArray] w fun e w' => e = .returned (.agg (byteVals (bytesOf s)).toArray) ∧ Below w.heap.size w w' := by
  go_enter Tryd.func59, Tryd.ntmps59
  go_wp2
  go_loopw [4] (fun i wr => ∃ k : Nat, k ≤ 32 ∧ i = .int .i64 k ∧ Hid (RowW wr w.heap.size 73 s ∧ RowB wr (w.heap.size + 1) 26 (part (byteOf s) 32 k) ∧ Below w.heap.size w wr ∧ wr.heap.size = w.heap.size + 2)) (fun i _ => 32 - (intOf i).toNat)
  case atStart =>
    refine ⟨0, by omega, rfl, ?_⟩
    refine ⟨(RowW.new w 73 s).kept (heap_alloc_old _ _ (by simp)), ?_, ball (ball (Below.refl _ _) _) _, by simp⟩
    rw [part_zero]
    exact RowB.new' _ (by simp) rfl
  case round =>
    obtain ⟨k, hk, rfl, H⟩ := hrel
    by_cases hlt : k < 32
    · have hc := H.out.1.cell (j := k / 4) (x := s[k / 4]) (List.getElem?_eq_getElem (by omega))
      have hx := H.out.2.1.cell (j := k) (x := 0) (by rw [part_at _ _ _ _ hlt]; simp)
      have hz : wr.frozen? ⟨w.heap.size + 1, k, none⟩ = false := frozen_of_row wr _ k _ _ H.out.2.1
      have e1 : (k : Int).tdiv 4 = ((k / 4 : Nat) : Int) := by rw [Int.tdiv_eq_ediv_of_nonneg (by omega)]; omega
      have e2 : (k : Int).tmod 4 = ((k % 4 : Nat) : Int) := by rw [Int.tmod_eq_emod_of_nonneg (by omega)]; omega
      have e3 : (8 : Int) * (3 - ((k % 4 : Nat) : Int)) = ((8 * (3 - k % 4) : Nat) : Int) := by omega
      go_wp2
      go_roundw
      case rel =>
        refine ⟨k + 1, by omega, by go_num, ?_⟩
        obtain ⟨h1, h2, h3, h4⟩ := H.out
        have e5 : s[k / 4] / 2 ^ (8 * (3 - k % 4)) % 256 = byteOf s k := by unfold byteOf; rw [List.getD_eq_getElem?_getD, List.getElem?_eq_getElem (by omega)]; rfl
        rw [e5]
        refine ⟨h1.kept (heap_setCell_other _ _ _ _ (by simp)), ?_, h3.setCell (by simp) _, by simpa using h4⟩
        rw [← part_set _ _ _ hlt]
        exact h2.set k _
      case measure => simp [intOf]; omega
    · have hk' : k = 32 := by omega
      subst hk'
      have H2 := H.out.2.1
      rw [part_full] at H2
      change RowB wr (w.heap.size + 1) 26 (bytesOf s) at H2
      have hl : (bytesOf s).length = 32 := by simp [bytesOf]
      have h3 := H.out.2.2.1
      clear H
      go_wp2_with (first | (refine wpList_load_row rfl 26 (.tmp 2) rfl (w.heap.size + 1) rfl 26 _ (0, 0) _ H2 Tryd.underlying26 rfl (size25 _ hl) ?_) | (refine wpList_store_row rfl 26 (.tmp 2) (.tmp 20) rfl (w.heap.size + 1) _ rfl rfl 26 _ H2 (size25 _ hl) rfl (all_byteVals _) ?_))
      trace_state
      refine bodyPost_ret (results_cell_row rfl _ _ (w.heap.size + 1) 26 _ (0, 0) _ rfl (RowB.put H2) Tryd.underlying26 rfl (size25 _ hl)) rfl ?_
      exact ⟨rfl, bsetRow h3 (by omega) _⟩

end Go.Proofs.YthmpeeipbclhkaaDoor
