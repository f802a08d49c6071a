/-
  Walks: Root.
-/
import Derived.Test.YthmpeeipbclhkaaDoorGi
namespace Go.Proofs.YthmpeeipbclhkaaDoor
open Go.RowKit

theorem size30 (v : Value) (l : List Int) (h : l.length = 32) : (Tryd.prog.info? 30).map (·.size) = some (v :: byteVals l).toArray.size := by
  have e : (Tryd.prog.info? 30).map (·.size) = some 33 := by kernel_rfl
  rw [e]; simp [byteVals, h]

theorem dep_nat (n : Nat) (h : n ≤ 65536) : dep (n : Int) = (dpt n : Int) := by unfold dep; rw [if_neg (by omega)]; rfl

/-- The root's digest. -/
def rootD (l : List (List Int)) : List Int := nd prt pdd l (dpt l.length) 0
theorem rootD_dg (l : List (List Int)) (h : ∀ x ∈ l, Dg x) : Dg (rootD l) := nd_dg l _ _ h

set_option maxRecDepth 100000 in
set_option maxHeartbeats 1000000 in
theorem root_any (l : List (List Int)) (a : Option Addr) (cap : Nat) (w : World) (hk : KOk w) (hv : Dl (fun k => k < w.heap.size) w (.slice a l.length cap) l) (hl : l.length ≤ 65536) :
    Calls Tryd.prog 15 #[.slice a l.length cap] w fun e w' => e = .returned (.tuple #[.agg (.int .i64 (l.length : Int) :: byteVals (rootD l)).toArray, .int .i64 0]) ∧ Below w.heap.size w w' := by
  have HK := Lib.hid hk; have HV := Lib.hid hv
  have hR : ResC w w.heap.size 30 (w.alloc (.cells #[.int .i64 0, .int .u8 0, .int .u8 0, .int .u8 0, .int .u8 0, .int .u8 0, .int .u8 0, .int .u8 0, .int .u8 0, .int .u8 0, .int .u8 0, .int .u8 0, .int .u8 0, .int .u8 0, .int .u8 0, .int .u8 0, .int .u8 0, .int .u8 0, .int .u8 0, .int .u8 0, .int .u8 0, .int .u8 0, .int .u8 0, .int .u8 0, .int .u8 0, .int .u8 0, .int .u8 0, .int .u8 0, .int .u8 0, .int .u8 0, .int .u8 0, .int .u8 0, .int .u8 0] 30)) := ResC.new w 30 (.int .i64 0) _ rfl
  have hd : ∀ w', Calls Tryd.prog 24 #[.int .i64 (l.length : Int)] w' fun e w'' => e = .returned (.int .i64 (dpt l.length : Int)) ∧ w'' = w' := by
    intro w'
    have := depth_any (l.length : Int) w'
    rw [dep_nat _ hl] at this
    exact this
  have h16 := dpt_le16 hl
  have hp : (0 + 1) * 2 ^ dpt l.length ≤ 65536 := by
    have := Nat.pow_le_pow_right (n := 2) (by decide) h16
    omega
  have hn : ∀ w', Below w.heap.size w w' → Calls Tryd.prog 36 #[.slice a l.length cap, .int .i64 (dpt l.length : Int), .int .i64 0] w' fun e w'' => e = .returned (.agg (byteVals (rootD l)).toArray) ∧ Below w'.heap.size w' w'' :=
    fun w' hb => node_any l a cap (dpt l.length) 0 w' (hk.below hb) (hv.on hb) h16 hp
  have hDl : (rootD l).length = 32 := (rootD_dg l hv.2.1).1
  obtain ⟨D, hD⟩ : ∃ D, D = rootD l := ⟨_, rfl⟩
  rw [← hD] at hn hDl ⊢
  obtain ⟨d, hdd⟩ : ∃ d, d = dpt l.length := ⟨_, rfl⟩
  rw [← hdd] at hn hd
  have HND := Lib.hid hn; have HDP := Lib.hid hd
  have hf := fold_row (.int .i64 (l.length : Int)) D hDl
  have hbl : (byteVals D).length = 32 := by rw [byteVals_length, hDl]
  clear hk hv hd hn hp h16 hD hdd
  have f1 : ¬ (65536 < (l.length : Int)) := by omega
  go_enter Tryd.func15, Tryd.ntmps15
  go_wp2_with (first | (go_at_call 24; refine (HDP.out _).mono ?_; rintro e w2 ⟨rfl, rfl⟩) | (go_at_call 36; refine (HND.out _ hR.below).mono ?_; rintro e w3 ⟨rfl, hb3⟩; obtain ⟨v0, l0, hl0, hrl⟩ := (hR.call hb3).row; have HB := Lib.hid (hR.call hb3).below; clear hb3) | (refine wpList_store_row rfl 30 (.tmp 2) (.tmp 15) rfl w.heap.size _ rfl rfl 30 _ hrl (size30 _ _ hDl) (by rw [List.size_toArray, List.size_toArray, List.length_cons, List.length_cons, bv_length, bv_length]; omega) (all_row _ _ rfl) ?_))
  refine bodyPost_ret (results_cell_slot rfl _ _ w.heap.size 30 _ (0, 0) _ (.int .i64 0) rfl rfl (RowC.put hrl) Tryd.underlying30 rfl (size30 _ _ hDl)) rfl ?_
  exact ⟨rfl, bsetRow HB.out (Nat.le_refl _) _⟩
end Go.Proofs.YthmpeeipbclhkaaDoor
