/-
  Walks: the bytes of the checksum.
-/
import Derived.Test.YtdmlnjgbfkkjdaaDoorCa
namespace Go.Proofs.YtdmlnjgbfkkjdaaDoor
open Go.RowKit
set_option linter.unusedVariables false
set_option linter.unusedSimpArgs false

/-- The first k are set, the rest are as they were: 0. -/
def prt (f : Nat → Int) (n k : Nat) : List Int := (List.range n).map fun i => if i < k then f i else 0

theorem prt_zero (f : Nat → Int) (n : Nat) : prt f n 0 = List.replicate n 0 := by
  unfold prt; apply List.ext_getElem <;> simp

theorem prt_full (f : Nat → Int) (n : Nat) : prt f n n = (List.range n).map f := by
  unfold prt
  apply List.map_congr_left
  intro i hi
  rw [if_pos (List.mem_range.1 hi)]

theorem prt_set (f : Nat → Int) (n k : Nat) (hk : k < n) : (prt f n k).set k (f k) = prt f n (k + 1) := by
  unfold prt
  apply List.ext_getElem
  · simp
  · intro i h1 h2
    simp only [List.getElem_set, List.getElem_map, List.getElem_range]
    by_cases h : k = i
    · subst h; simp
    · rw [if_neg h]
      by_cases h3 : i < k
      · rw [if_pos h3, if_pos (by omega)]
      · rw [if_neg h3, if_neg (by omega)]

theorem prt_at (f : Nat → Int) (n k i : Nat) (hi : i < n) : (prt f n k)[i]? = some (if i < k then f i else 0) := by
  unfold prt; simp [hi]

theorem prt_length (f : Nat → Int) (n k : Nat) : (prt f n k).length = n := by simp [prt]

theorem size42 (l : List Int) (h : l.length = 4) : (Tryd.prog.info? 42).map (·.size) = some (byteVals l).toArray.size := by
  have e : (Tryd.prog.info? 42).map (·.size) = some 4 := by kernel_rfl
  rw [e]; simp [byteVals, h]
def sumAt (c : Nat) (i : Nat) : Int := (c : Int) / 2 ^ (24 - 8 * i) % 256
theorem sumAt_all (c : Nat) : (List.range 4).map (sumAt c) = sumB c := by
  simp only [List.range, List.range.loop, List.map_cons, List.map_nil, sumAt, sumB]
  simp
theorem frozen_of_row (w : World) (B k : Nat) (t : TypeId) (l : List Int) (h : RowB w B t l) : w.frozen? ⟨B, k, none⟩ = false := by
  unfold RowB at h
  simp [World.frozen?, h]

set_option maxHeartbeats 1000000 in
theorem sum_any (b : List Int) (v : Value) (w : World) (hk : KOk w) (hv : Bs (fun k => k < w.heap.size) w v b) :
    Calls Tryd.prog 23 #[v] w fun e w' => e = .returned (.agg (byteVals (sumB (crcI b))).toArray) ∧ Below w.heap.size w w' := by
  have hb0 : Below w.heap.size w (w.alloc (.cells (byteVals (List.replicate 4 0)).toArray 42)) := ball (Below.refl _ _) _
  have HC := Lib.hid (crc_any b v _ (hk.below hb0) (hv.on hb0))
  clear hb0 hk
  obtain ⟨C, hC⟩ : ∃ C : Nat, C = crcI b := ⟨_, rfl⟩
  rw [← hC] at HC ⊢
  clear hC
  obtain ⟨a, c, rfl⟩ := hv.shape
  clear hv
  generalize b.length = n at *
  go_enter Tryd.func23, Tryd.ntmps23
  go_wp2_with fail
  refine HC.out.mono ?_
  rintro e w1 ⟨rfl, rfl⟩
  clear HC
  go_wp2
  go_loopw [7] (fun i wr => ∃ k : Nat, k ≤ 4 ∧ i = .int .i64 k ∧ Hid (RowB wr w.heap.size 42 (prt (sumAt C) 4 k) ∧ Below w.heap.size w wr)) (fun i _ => 4 - (intOf i).toNat)
  case atStart =>
    refine ⟨0, by omega, rfl, ?_, ball (Below.refl _ _) _⟩
    rw [prt_zero]
    exact RowB.new w 42 _
  case round =>
    obtain ⟨k, hk, rfl, H⟩ := hrel
    by_cases hlt : k < 4
    · have hx := H.out.1.cell (j := k) (x := 0) (by rw [prt_at _ _ _ _ hlt]; simp)
      have hz : wr.frozen? ⟨w.heap.size, k, none⟩ = false := frozen_of_row wr _ k _ _ H.out.1
      have e3 : (24 : Int) - 8 * (k : Int) = ((24 - 8 * k : Nat) : Int) := by omega
      go_wp2
      go_roundw
      case rel =>
        refine ⟨k + 1, by omega, by go_num, ?_⟩
        obtain ⟨h1, h3⟩ := H.out
        refine ⟨?_, h3.setCell (by simp) _⟩
        rw [← prt_set _ _ _ hlt]
        exact h1.set k _
      case measure => simp [intOf]; omega
    · have hk' : k = 4 := by omega
      subst hk'
      have H2 := H.out.1
      rw [prt_full, sumAt_all] at H2
      have h3 := H.out.2
      clear H
      have hl : (sumB C).length = 4 := rfl
      go_wp2_with (first | (refine wpList_load_row rfl 42 (.tmp 2) rfl w.heap.size rfl 42 _ (0, 0) _ H2 Tryd.underlying42 rfl (size42 _ hl) ?_) | (refine wpList_store_row rfl 42 (.tmp 2) (.tmp 19) rfl w.heap.size _ rfl rfl 42 _ H2 (size42 _ hl) rfl (all_byteVals _) ?_))
      refine bodyPost_ret (results_cell_row rfl _ _ w.heap.size 42 _ (0, 0) _ rfl (RowB.put H2) Tryd.underlying42 rfl (size42 _ hl)) rfl ?_
      exact ⟨rfl, bsetRow h3 (by omega) _⟩
end Go.Proofs.YtdmlnjgbfkkjdaaDoor
