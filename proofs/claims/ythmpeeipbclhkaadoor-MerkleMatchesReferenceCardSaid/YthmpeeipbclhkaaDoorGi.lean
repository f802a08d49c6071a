/-
  Walks: Node.
-/
import Derived.Test.YthmpeeipbclhkaaDoorGh
namespace Go.Proofs.YthmpeeipbclhkaaDoor
open Go.RowKit

theorem quo_pow (j : Nat) (hj : j ≤ 16) : (65536 : Int) / 2 ^ j = ((2 ^ (16 - j) : Nat) : Int) := by
  have h : (65536 : Nat) = 2 ^ (16 - j) * 2 ^ j := by rw [← Nat.pow_add]; have : 16 - j + j = 16 := by omega
                                                      rw [this]
  have h2 : (65536 : Nat) / 2 ^ j = 2 ^ (16 - j) := by rw [h]; exact Nat.mul_div_cancel _ (Nat.pow_pos (by decide))
  rw [← h2]
  simp

theorem results_cell_slot {P : Program} {fn : Func} {p q : Tmp} {ty : TypeId} (h : fn.results = #[.cell p ty, .tmp q]) (tmps : Array Value) (w : World) (g : Nat) (t : TypeId) (cs : Array Value) (fr : Nat × Nat) (d : TypeDesc) (x : Value)
    (hp : tmps.getD p undef = .pointer (some ⟨g, 0, none⟩)) (hq : tmps.getD q undef = x) (hg : w.heap[g]? = some (.cells cs t fr))
    (hu : P.underlying ty = some d) (hd : (match d with | .struct _ | .array _ _ => true | _ => false) = true) (hi : (P.info? ty).map (·.size) = some cs.size) :
    (results fn tmps).run P w = .ok (.tuple #[.agg cs, x]) w := by
  have hp' : tmps[p]?.getD undef = .pointer (some ⟨g, 0, none⟩) := by simpa using hp
  have hq' : tmps[q]?.getD undef = x := by simpa using hq
  simp [results, h, hp', hq', asAddr, run_loadVar_row w g t ty cs fr d hg hu hd hi]

set_option maxRecDepth 100000 in
set_option maxHeartbeats 1000000 in
theorem nodeOk_any (l : List (List Int)) (a : Option Addr) (cap j k : Nat) (w : World) (hk : KOk w) (hv : Dl (fun k => k < w.heap.size) w (.slice a l.length cap) l) (hl : l.length ≤ 65536) (hj : j ≤ 16) (hkj : k < 2 ^ (16 - j)) :
    Calls Tryd.prog 13 #[.slice a l.length cap, .int .i64 (j : Int), .int .i64 (k : Int)] w fun e w' => e = .returned (.tuple #[.agg (byteVals (nd prt pdd l j k)).toArray, .bool true]) ∧ Below w.heap.size w w' := by
  have hq := quo_pow j hj
  have hkj2 : (k + 1) * 2 ^ j ≤ 65536 := by
    have h : (65536 : Nat) = 2 ^ (16 - j) * 2 ^ j := by rw [← Nat.pow_add]; have : 16 - j + j = 16 := by omega
                                                        rw [this]
    rw [h]
    exact Nat.mul_le_mul_right _ (by omega)
  have HK := Lib.hid hk; have HV := Lib.hid hv; have HKJ := Lib.hid hkj2
  obtain ⟨Q, hQ⟩ : ∃ Q, Q = 2 ^ (16 - j) := ⟨_, rfl⟩
  rw [← hQ] at hq hkj
  clear hk hv hkj2 hQ
  have f1 : ¬ (65536 < (l.length : Int)) := by omega
  have f2 : ¬ ((j : Int) < 0) := by omega
  have f3 : ¬ (16 < (j : Int)) := by omega
  have f4 : ¬ ((k : Int) < 0) := by omega
  have f5 : ¬ ((Q : Int) ≤ (k : Int)) := by omega
  go_enter Tryd.func13, Tryd.ntmps13
  go_wp2_with fail
  have hS : SumS w (w.alloc (.cells #[.int .u8 0, .int .u8 0, .int .u8 0, .int .u8 0, .int .u8 0, .int .u8 0, .int .u8 0, .int .u8 0, .int .u8 0, .int .u8 0, .int .u8 0, .int .u8 0, .int .u8 0, .int .u8 0, .int .u8 0, .int .u8 0, .int .u8 0, .int .u8 0, .int .u8 0, .int .u8 0, .int .u8 0, .int .u8 0, .int .u8 0, .int .u8 0, .int .u8 0, .int .u8 0, .int .u8 0, .int .u8 0, .int .u8 0, .int .u8 0, .int .u8 0, .int .u8 0] 26)) := SumS.new w _ rfl
  generalize (w.alloc (.cells #[.int .u8 0, .int .u8 0, .int .u8 0, .int .u8 0, .int .u8 0, .int .u8 0, .int .u8 0, .int .u8 0, .int .u8 0, .int .u8 0, .int .u8 0, .int .u8 0, .int .u8 0, .int .u8 0, .int .u8 0, .int .u8 0, .int .u8 0, .int .u8 0, .int .u8 0, .int .u8 0, .int .u8 0, .int .u8 0, .int .u8 0, .int .u8 0, .int .u8 0, .int .u8 0, .int .u8 0, .int .u8 0, .int .u8 0, .int .u8 0, .int .u8 0, .int .u8 0] 26)) = W at *
  refine (node_any l a cap j k W (HK.out.below hS.below) (HV.out.on hS.below) hj HKJ.out).mono ?_
  rintro e w4 ⟨rfl, hb4⟩
  have hS4 := hS.call hb4
  obtain ⟨l0, hl0, hrl⟩ := hS4.row
  have hDl : (nd prt pdd l j k).length = 32 := (nd_dg l j k HV.out.2.1).1
  have HB4 := Lib.hid hS4.below
  clear hS hS4 hb4
  go_wp2_with (first | (refine wpList_store_row rfl 26 (.tmp 6) (.tmp 33) rfl w.heap.size _ rfl rfl 26 _ hrl (size25 _ hDl) (by rw [List.size_toArray, List.size_toArray, bv_length, bv_length]; omega) (all_byteVals _) ?_))
  refine bodyPost_ret (results_cell_slot rfl _ _ w.heap.size 26 _ (0, 0) _ (.bool true) rfl rfl (RowB.put hrl) Tryd.underlying26 rfl (size25 _ hDl)) rfl ?_
  exact ⟨rfl, bsetRow HB4.out (Nat.le_refl _) _⟩

set_option maxRecDepth 100000 in
set_option maxHeartbeats 1000000 in
theorem nodeBad_any (n : Nat) (a : Option Addr) (cap : Nat) (j k : Int) (w : World) (hn : n ≤ 4398046511104) (h : 65536 < n ∨ j < 0 ∨ 16 < j ∨ k < 0 ∨ (0 ≤ j ∧ j ≤ 16 ∧ ((2 ^ (16 - j.toNat) : Nat) : Int) ≤ k)) :
    Calls Tryd.prog 13 #[.slice a n cap, .int .i64 j, .int .i64 k] w fun e w' => e = .returned (.tuple #[.agg (byteVals (List.replicate 32 0)).toArray, .bool false]) ∧ Below w.heap.size w w' := by
  have hz : (List.replicate 32 (0 : Int)).length = 32 := by simp
  have hrl : RowB (w.alloc (.cells #[.int .u8 0, .int .u8 0, .int .u8 0, .int .u8 0, .int .u8 0, .int .u8 0, .int .u8 0, .int .u8 0, .int .u8 0, .int .u8 0, .int .u8 0, .int .u8 0, .int .u8 0, .int .u8 0, .int .u8 0, .int .u8 0, .int .u8 0, .int .u8 0, .int .u8 0, .int .u8 0, .int .u8 0, .int .u8 0, .int .u8 0, .int .u8 0, .int .u8 0, .int .u8 0, .int .u8 0, .int .u8 0, .int .u8 0, .int .u8 0, .int .u8 0, .int .u8 0] 26)) w.heap.size 26 (List.replicate 32 0) := RowB.new' _ rfl rfl
  have hbw : Below w.heap.size w (w.alloc (.cells #[.int .u8 0, .int .u8 0, .int .u8 0, .int .u8 0, .int .u8 0, .int .u8 0, .int .u8 0, .int .u8 0, .int .u8 0, .int .u8 0, .int .u8 0, .int .u8 0, .int .u8 0, .int .u8 0, .int .u8 0, .int .u8 0, .int .u8 0, .int .u8 0, .int .u8 0, .int .u8 0, .int .u8 0, .int .u8 0, .int .u8 0, .int .u8 0, .int .u8 0, .int .u8 0, .int .u8 0, .int .u8 0, .int .u8 0, .int .u8 0, .int .u8 0, .int .u8 0] 26)) := ball (Below.refl _ _) _
  have hbv : #[.int .u8 0, .int .u8 0, .int .u8 0, .int .u8 0, .int .u8 0, .int .u8 0, .int .u8 0, .int .u8 0, .int .u8 0, .int .u8 0, .int .u8 0, .int .u8 0, .int .u8 0, .int .u8 0, .int .u8 0, .int .u8 0, .int .u8 0, .int .u8 0, .int .u8 0, .int .u8 0, .int .u8 0, .int .u8 0, .int .u8 0, .int .u8 0, .int .u8 0, .int .u8 0, .int .u8 0, .int .u8 0, .int .u8 0, .int .u8 0, .int .u8 0, .int .u8 0] = (byteVals (List.replicate 32 0)).toArray := rfl
  clear hbv
  by_cases f1 : 65536 < (n : Int)
  · clear h
    go_enter Tryd.func13, Tryd.ntmps13
    go_wp2_with (first | (refine wpList_store_row rfl 26 (.tmp 6) (.tmp 29) rfl w.heap.size _ rfl rfl 26 _ hrl (size25 _ hz) rfl (all_byteVals (List.replicate 32 0)) ?_))
    refine bodyPost_ret (results_cell_slot rfl _ _ w.heap.size 26 _ (0, 0) _ (.bool false) rfl rfl (RowB.put (l' := List.replicate 32 0) hrl) Tryd.underlying26 rfl (size25 _ hz)) rfl ?_
    exact ⟨rfl, bsetRow hbw (Nat.le_refl _) _⟩
  · by_cases f2 : j < 0
    · clear h
      go_enter Tryd.func13, Tryd.ntmps13
      go_wp2_with (first | (refine wpList_store_row rfl 26 (.tmp 6) (.tmp 29) rfl w.heap.size _ rfl rfl 26 _ hrl (size25 _ hz) rfl (all_byteVals (List.replicate 32 0)) ?_))
      refine bodyPost_ret (results_cell_slot rfl _ _ w.heap.size 26 _ (0, 0) _ (.bool false) rfl rfl (RowB.put (l' := List.replicate 32 0) hrl) Tryd.underlying26 rfl (size25 _ hz)) rfl ?_
      exact ⟨rfl, bsetRow hbw (Nat.le_refl _) _⟩
    · by_cases f3 : 16 < j
      · clear h
        go_enter Tryd.func13, Tryd.ntmps13
        go_wp2_with (first | (refine wpList_store_row rfl 26 (.tmp 6) (.tmp 29) rfl w.heap.size _ rfl rfl 26 _ hrl (size25 _ hz) rfl (all_byteVals (List.replicate 32 0)) ?_))
        refine bodyPost_ret (results_cell_slot rfl _ _ w.heap.size 26 _ (0, 0) _ (.bool false) rfl rfl (RowB.put (l' := List.replicate 32 0) hrl) Tryd.underlying26 rfl (size25 _ hz)) rfl ?_
        exact ⟨rfl, bsetRow hbw (Nat.le_refl _) _⟩
      · by_cases f4 : k < 0
        · clear h
          go_enter Tryd.func13, Tryd.ntmps13
          go_wp2_with (first | (refine wpList_store_row rfl 26 (.tmp 6) (.tmp 29) rfl w.heap.size _ rfl rfl 26 _ hrl (size25 _ hz) rfl (all_byteVals (List.replicate 32 0)) ?_))
          refine bodyPost_ret (results_cell_slot rfl _ _ w.heap.size 26 _ (0, 0) _ (.bool false) rfl rfl (RowB.put (l' := List.replicate 32 0) hrl) Tryd.underlying26 rfl (size25 _ hz)) rfl ?_
          exact ⟨rfl, bsetRow hbw (Nat.le_refl _) _⟩
        · obtain ⟨jn, rfl⟩ := Int.eq_ofNat_of_zero_le (by omega : 0 ≤ j)
          have hq := quo_pow jn (by omega)
          obtain ⟨Q, hQ⟩ : ∃ Q, Q = 2 ^ (16 - jn) := ⟨_, rfl⟩
          rw [← hQ] at hq
          have f5 : (Q : Int) ≤ k := by
            have h5 : ((2 ^ (16 - (jn : Int).toNat) : Nat) : Int) ≤ k := by omega
            rw [hQ]
            simpa using h5
          clear h hQ
          go_enter Tryd.func13, Tryd.ntmps13
          go_wp2_with (first | (refine wpList_store_row rfl 26 (.tmp 6) (.tmp 29) rfl w.heap.size _ rfl rfl 26 _ hrl (size25 _ hz) rfl (all_byteVals (List.replicate 32 0)) ?_))
          refine bodyPost_ret (results_cell_slot rfl _ _ w.heap.size 26 _ (0, 0) _ (.bool false) rfl rfl (RowB.put (l' := List.replicate 32 0) hrl) Tryd.underlying26 rfl (size25 _ hz)) rfl ?_
          exact ⟨rfl, bsetRow hbw (Nat.le_refl _) _⟩
end Go.Proofs.YthmpeeipbclhkaaDoor
