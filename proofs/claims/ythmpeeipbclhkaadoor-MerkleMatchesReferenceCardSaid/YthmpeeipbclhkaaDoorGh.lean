/-
  Walks: node.
-/
import Derived.Test.YthmpeeipbclhkaaDoorGg
import Derived.RegionTactic
import Derived.BigRegion
namespace Go.Proofs.YthmpeeipbclhkaaDoor
open Go.RowKit

theorem Dl.cutv {F : Nat → Prop} {w : World} {a : Option Addr} {cap : Nat} {l : List (List Int)} (h : Dl F w (.slice a l.length cap) l) (B E : Nat) (hBE : B ≤ E) (hE : E ≤ l.length) :
    (cap = B → Dl F w (.slice a (E - B) 0) ((l.take E).drop B)) ∧ (¬ cap = B → Dl F w (.slice (Option.map (fun x => x.add (B * 32)) a) (E - B) (cap - B)) ((l.take E).drop B)) := by
  obtain ⟨h0, h1, a', c', h2, h3, h4⟩ := h
  simp only [Value.slice.injEq] at h2
  obtain ⟨rfl, _, rfl⟩ := h2
  have hlen : ((l.take E).drop B).length = E - B := by rw [List.length_drop, List.length_take]; omega
  have hin : ∀ x ∈ (l.take E).drop B, Dg x := fun x hx => h1 x (List.mem_of_mem_take (List.mem_of_mem_drop hx))
  constructor
  · intro hc
    refine ⟨by omega, hin, a, 0, by rw [hlen], by omega, fun hp => by omega⟩
  · intro hc
    refine ⟨by omega, hin, _, cap - B, by rw [hlen], by omega, fun hp => ?_⟩
    obtain ⟨g, off, rfl, hg, hcell⟩ := h4 (by omega)
    refine ⟨g, off + B * 32, by rw [Option.map_some, Addr.add_mid], hg, fun j x hj => ?_⟩
    rw [List.getElem?_drop, List.getElem?_take] at hj
    split at hj
    · have := hcell _ x hj
      rw [show off + B * 32 + j * 32 = off + (B + j) * 32 by omega]
      exact this
    · cases hj

theorem nd_dg (l : List (List Int)) (j k : Nat) (h : ∀ x ∈ l, Dg x) : Dg (nd prt pdd l j k) := by
  cases j with
  | zero => exact getD_dg h pdd_dg k
  | succ j => exact prt_dg _ _

theorem cut_min (l : List (List Int)) (P R : Nat) (hPR : P ≤ R) : (l.take (min R l.length)).drop (min P l.length) = (l.take R).drop P := by
  have e1 : l.take (min R l.length) = l.take R := by
    rcases Nat.le_total R l.length with h | h
    · rw [Nat.min_eq_left h]
    · rw [Nat.min_eq_right h, List.take_of_length_le (Nat.le_refl _), List.take_of_length_le h]
  rw [e1]
  rcases Nat.le_total P l.length with h | h
  · rw [Nat.min_eq_left h]
  · rw [Nat.min_eq_right h, List.drop_eq_nil_of_le (by rw [List.length_take]; omega), List.drop_eq_nil_of_le (by rw [List.length_take]; omega)]

set_option maxRecDepth 100000 in
set_option maxHeartbeats 1000000 in
theorem node_any (l : List (List Int)) (a : Option Addr) (cap j k : Nat) (w : World) (hk : KOk w) (hv : Dl (fun k => k < w.heap.size) w (.slice a l.length cap) l) (hj : j ≤ 16) (hkj : (k + 1) * 2 ^ j ≤ 65536) :
    Calls Tryd.prog 36 #[.slice a l.length cap, .int .i64 (j : Int), .int .i64 (k : Int)] w fun e w' => e = .returned (.agg (byteVals (nd prt pdd l j k)).toArray) ∧ Below w.heap.size w w' := by
  obtain ⟨P, hP⟩ : ∃ P, P = k * 2 ^ j := ⟨_, rfl⟩
  obtain ⟨R, hR⟩ : ∃ R, R = (k + 1) * 2 ^ j := ⟨_, rfl⟩
  have hp1 : 1 ≤ 2 ^ j := Nat.one_le_two_pow
  have hPR : P ≤ R := by rw [hP, hR]; exact Nat.mul_le_mul_right _ (by omega)
  have hkR : k + 1 ≤ R := by rw [hR]; exact Nat.le_mul_of_pos_right _ (by omega)
  have e1 : wrap64 ((k : Int) * 2 ^ j) = (P : Int) := by
    have : (k : Int) * 2 ^ j = (P : Int) := by rw [hP]; simp
    rw [this]; exact IntWalk.wrap64_in _ (by omega)
  have e2 : wrap64 (((k : Int) + 1) * 2 ^ j) = (R : Int) := by
    have : ((k : Int) + 1) * 2 ^ j = (R : Int) := by rw [hR]; simp
    rw [this]; exact IntWalk.wrap64_in _ (by omega)
  have hlen := hv.1
  have HV := Lib.hid hv; have HK := Lib.hid hk; have HP := Lib.hid hP; have HR := Lib.hid hR
  have hRb : R ≤ 65536 := by omega
  clear hv hk hP hR hkj hp1
  go_enter Tryd.func36, Tryd.ntmps36
  go_wp2_with fail
  go_region
  obtain ⟨B, hB⟩ : ∃ B, B = min P l.length := ⟨_, rfl⟩
  obtain ⟨E, hE⟩ : ∃ E, E = min R l.length := ⟨_, rfl⟩
  have e3 : (if l.length < P then (l.length : Int) else (P : Int)) = (B : Int) := by rw [hB]; split <;> omega
  have e4 : (if l.length < R then (l.length : Int) else (R : Int)) = (E : Int) := by rw [hE]; split <;> omega
  have hBE : B ≤ E := by omega
  have hEl : E ≤ l.length := by omega
  have hcap : l.length ≤ cap := by
    obtain ⟨_, _, a', c', h, h2, _⟩ := HV.out
    simp only [Value.slice.injEq] at h
    omega
  rw [e3, e4]
  have HB := Lib.hid hB; have HE := Lib.hid hE
  clear e3 e4 hB hE e1 e2 hPR hkR hRb
  have hS : SumS w ((w.alloc (.cells #[.int .u8 0, .int .u8 0, .int .u8 0, .int .u8 0, .int .u8 0, .int .u8 0, .int .u8 0, .int .u8 0, .int .u8 0, .int .u8 0, .int .u8 0, .int .u8 0, .int .u8 0, .int .u8 0, .int .u8 0, .int .u8 0, .int .u8 0, .int .u8 0, .int .u8 0, .int .u8 0, .int .u8 0, .int .u8 0, .int .u8 0, .int .u8 0, .int .u8 0, .int .u8 0, .int .u8 0, .int .u8 0, .int .u8 0, .int .u8 0, .int .u8 0, .int .u8 0] 26)).drew) := (SumS.new w _ rfl).drew
  generalize ((w.alloc (.cells #[.int .u8 0, .int .u8 0, .int .u8 0, .int .u8 0, .int .u8 0, .int .u8 0, .int .u8 0, .int .u8 0, .int .u8 0, .int .u8 0, .int .u8 0, .int .u8 0, .int .u8 0, .int .u8 0, .int .u8 0, .int .u8 0, .int .u8 0, .int .u8 0, .int .u8 0, .int .u8 0, .int .u8 0, .int .u8 0, .int .u8 0, .int .u8 0, .int .u8 0, .int .u8 0, .int .u8 0, .int .u8 0, .int .u8 0, .int .u8 0, .int .u8 0, .int .u8 0] 26)).drew) = W at *
  have hBE2 : (B : Int) ≤ (E : Int) := by omega
  have hEl2 : (E : Int) ≤ (cap : Int) := by omega
  have hcd := HV.out.cutv B E hBE hEl
  have hcm : (l.take E).drop B = cut l j k := by
    rw [HB.out, HE.out, cut_min l P R (by rw [HP.out, HR.out]; exact Nat.mul_le_mul_right _ (by omega)), HP.out, HR.out]
    rfl
  rw [hcm] at hcd
  clear hcm
  by_cases hcB : cap = B
  · have hd := hcd.1 hcB
    clear hcd
    have hE0 : E - B = 0 := by omega
    rw [hE0] at hd
    have HD := Lib.hid hd
    clear hd
    go_wp2_with fail
    refine (leaves_any _ _ _ W (HK.out.below hS.below)).mono ?_
    rintro e w2 ⟨rfl, hb2⟩
    have hS2 := hS.call hb2
    go_wp2_with fail
    refine (climb_any (cut l j k) _ j w2 (HK.out.below hS2.below) (HD.out.on hS2.below) (by omega)).mono ?_
    rintro e w3 ⟨v3, rfl, hb3, hd3⟩
    have hS3 := hS2.call hb3
    go_wp2_with fail
    refine (at_any (rows prt pdd (cut l j k) j) (bh prt pdd j) v3 0 w3 hd3 (bh_dg j) (by omega)).mono ?_
    rintro e w4 ⟨rfl, hb4⟩
    have hS4 := hS3.call hb4
    obtain ⟨l0, hl0, hrl⟩ := hS4.row
    rw [rows_cut]
    have hDl : (nd prt pdd l j k).length = 32 := (nd_dg l j k HV.out.2.1).1
    have HB4 := Lib.hid hS4.below
    clear hS hS2 hS3 hS4 hb2 hb3 hb4 hd3 HD
    go_wp2_with (first | (refine wpList_store_row rfl 26 (.tmp 6) (.tmp 29) rfl w.heap.size _ rfl rfl 26 _ hrl (size25 _ hDl) (by rw [List.size_toArray, List.size_toArray, bv_length, bv_length]; omega) (all_byteVals _) ?_))
    refine bodyPost_ret (results_cell_row rfl _ _ w.heap.size 26 _ (0, 0) _ rfl (RowB.put hrl) Tryd.underlying26 rfl (size25 _ hDl)) rfl ?_
    exact ⟨rfl, bsetRow HB4.out (Nat.le_refl _) _⟩
  · have hd := hcd.2 hcB
    clear hcd
    have HD := Lib.hid hd
    clear hd
    go_wp2_with fail
    refine (leaves_any _ _ _ W (HK.out.below hS.below)).mono ?_
    rintro e w2 ⟨rfl, hb2⟩
    have hS2 := hS.call hb2
    go_wp2_with fail
    refine (climb_any (cut l j k) _ j w2 (HK.out.below hS2.below) (HD.out.on hS2.below) (by omega)).mono ?_
    rintro e w3 ⟨v3, rfl, hb3, hd3⟩
    have hS3 := hS2.call hb3
    go_wp2_with fail
    refine (at_any (rows prt pdd (cut l j k) j) (bh prt pdd j) v3 0 w3 hd3 (bh_dg j) (by omega)).mono ?_
    rintro e w4 ⟨rfl, hb4⟩
    have hS4 := hS3.call hb4
    obtain ⟨l0, hl0, hrl⟩ := hS4.row
    rw [rows_cut]
    have hDl : (nd prt pdd l j k).length = 32 := (nd_dg l j k HV.out.2.1).1
    have HB4 := Lib.hid hS4.below
    clear hS hS2 hS3 hS4 hb2 hb3 hb4 hd3 HD
    go_wp2_with (first | (refine wpList_store_row rfl 26 (.tmp 6) (.tmp 29) rfl w.heap.size _ rfl rfl 26 _ hrl (size25 _ hDl) (by rw [List.size_toArray, List.size_toArray, bv_length, bv_length]; omega) (all_byteVals _) ?_))
    refine bodyPost_ret (results_cell_row rfl _ _ w.heap.size 26 _ (0, 0) _ rfl (RowB.put hrl) Tryd.underlying26 rfl (size25 _ hDl)) rfl ?_
    exact ⟨rfl, bsetRow HB4.out (Nat.le_refl _) _⟩

end Go.Proofs.YthmpeeipbclhkaaDoor
