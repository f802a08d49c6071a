/-
  Walks: climb over rows.
-/
import Derived.Test.YthmpeeipbclhkaaDoorGf
namespace Go.Proofs.YthmpeeipbclhkaaDoor
open Go.RowKit

theorem bh_dg (n : Nat) : Dg (bh prt pdd n) := by
  cases n with
  | zero => exact pdd_dg
  | succ n => exact prt_dg _ _

/-- Under way: the row at level k. -/
structure CbS (w : World) (l : List (List Int)) (k : Nat) (w' : World) : Prop where
  below : Below w.heap.size w w'
  size : w.heap.size + 1 < w'.heap.size
  row : ∃ v, RowC w' w.heap.size 58 v (bh prt pdd k) ∧ Dl (fun k => k ≠ w.heap.size ∧ k ≠ w.heap.size + 1 ∧ k < w'.heap.size) w' v (rows prt pdd l k)
  res : ∃ v0 l0, l0.length = 32 ∧ RowC w' (w.heap.size + 1) 58 v0 l0

theorem slice_of {F : Nat → Prop} {w : World} {v : Value} {l : List (List Int)} (h : Dl F w v l) : v.oneCell' = true := by
  obtain ⟨_, _, a, cap, rfl, _⟩ := h
  rfl

set_option maxRecDepth 100000 in
set_option maxHeartbeats 1000000 in
theorem climb_any (l : List (List Int)) (v : Value) (n : Nat) (w : World) (hk : KOk w) (hv : Dl (fun k => k < w.heap.size) w v l) (hn : n ≤ 64) :
    Calls Tryd.prog 50 #[.agg (v :: byteVals pdd).toArray, .int .i64 (n : Int), .func (.func 51) #[] #[]] w fun e w' => ∃ v', e = .returned (.agg (v' :: byteVals (bh prt pdd n)).toArray) ∧ Below w.heap.size w w' ∧ Dl (fun k => k < w'.heap.size) w' v' (rows prt pdd l n) := by
  have h0 : CbS w l 0 ((w.alloc (.cells (v :: byteVals pdd).toArray 58)).alloc (.cells #[.slice none 0 0, .int .u8 0, .int .u8 0, .int .u8 0, .int .u8 0, .int .u8 0, .int .u8 0, .int .u8 0, .int .u8 0, .int .u8 0, .int .u8 0, .int .u8 0, .int .u8 0, .int .u8 0, .int .u8 0, .int .u8 0, .int .u8 0, .int .u8 0, .int .u8 0, .int .u8 0, .int .u8 0, .int .u8 0, .int .u8 0, .int .u8 0, .int .u8 0, .int .u8 0, .int .u8 0, .int .u8 0, .int .u8 0, .int .u8 0, .int .u8 0, .int .u8 0, .int .u8 0] 58)) :=
    ⟨(ball (Below.refl _ _) _).alloc (by simp) _, by simp, ⟨v, (RowC.new w 58 v pdd).kept (heap_alloc_old _ _ (by simp)), hv.kept (fun k hk => ((ball (Below.refl _ _) _).alloc (by simp) _).block k hk) (fun k hk => by simp; omega)⟩,
      ⟨.slice none 0 0, List.replicate 32 0, by simp, RowC.new' _ (by simp) rfl⟩⟩
  have HK := Lib.hid hk; have H0 := Lib.hid h0
  clear hk hv h0
  go_enter Tryd.func50, Tryd.ntmps50
  go_wp2
  go_loopw [7, 9] (fun _ i wr => ∃ k : Nat, k ≤ n ∧ i = .int .i64 k ∧ Hid (CbS w l k wr)) (fun _ i _ => n - (intOf i).toNat)
  case atStart => exact ⟨0, by omega, rfl, H0⟩
  case round =>
    clear H0
    obtain ⟨k, hk, rfl, H⟩ := hrel
    by_cases hlt : k < n
    · obtain ⟨vk, hrow, hdl⟩ := H.out.row
      have hup := up_any (rows prt pdd l k) (bh prt pdd k) vk (.int .i64 (k : Int)) wr (HK.out.below H.out.below) (hdl.kept (fun _ _ => rfl) (fun k hk => hk.2.2)) (bh_dg k)
      have HUP := Lib.hid hup; have HR := Lib.hid hrow
      have hbl := (bh_dg k).1
      have hbl1 := (bh_dg (k + 1)).1
      have hvk := slice_of hdl
      clear hup hrow hdl
      go_wp2_with (first | (refine wpList_load_row rfl 58 (.tmp 3) rfl w.heap.size rfl 58 _ (0, 0) _ HR.out Tryd.underlying58 rfl (size58 _ _ hbl) ?_))
      refine HUP.out.mono ?_
      rintro e w5 ⟨v5, rfl, hb5, hd5⟩
      have hs5 := H.out.size
      have hr5 : RowC w5 w.heap.size 58 vk (bh prt pdd k) := HR.out.kept (hb5.block _ (by omega))
      obtain ⟨v0, l0, hl0, hres⟩ := H.out.res
      have hput : CbS w l (k + 1) (w5.setRow w.heap.size (v5 :: byteVals (bh prt pdd (k + 1))).toArray) := by
        refine ⟨bsetRow (H.out.below.trans (hb5.mono H.out.below.size)) (Nat.le_refl _) _, ?_, ⟨v5, RowC.put hr5, ?_⟩, ⟨v0, l0, hl0, ?_⟩⟩
        · have := hb5.size
          simp
          omega
        · exact hd5.kept (fun k hk => setRow_other _ _ _ _ (by omega)) (fun k hk => by simp; omega)
        · exact (hres.kept (hb5.block _ (by omega))).kept (setRow_other _ _ _ _ (by omega))
      have HPT := Lib.hid hput
      have hv5 := slice_of hd5
      clear hput hd5 hb5 hres HUP HR
      have hbl2 : (prt (bh prt pdd k) (bh prt pdd k)).length = 32 := (prt_dg _ _).1
      go_wp2_with (first | (refine wpList_store_row rfl 58 (.tmp 3) (.tmp 15) rfl w.heap.size _ rfl rfl 58 _ hr5 (size58 _ _ hbl2) (by rw [List.size_toArray, List.size_toArray, List.length_cons, List.length_cons, bv_length, bv_length]; omega) (all_row _ _ hv5) ?_))
      go_roundw
      case rel => exact ⟨k + 1, by omega, by go_num, HPT⟩
      case measure => simp [intOf]; omega
    · have hk2 : k = n := by omega
      subst hk2
      obtain ⟨vk, hrow, hdl⟩ := H.out.row
      obtain ⟨v0, l0, hl0, hres⟩ := H.out.res
      have hbl := (bh_dg k).1
      have hvk := slice_of hdl
      have HD := Lib.hid hdl
      clear hdl hlt
      go_wp2_with (first | (refine wpList_load_row rfl 58 (.tmp 3) rfl w.heap.size rfl 58 _ (0, 0) _ hrow Tryd.underlying58 rfl (size58 _ _ hbl) ?_) | (refine wpList_store_row rfl 58 (.tmp 6) (.tmp 17) rfl (w.heap.size + 1) _ rfl rfl 58 _ hres (size58 _ _ hbl) (by rw [List.size_toArray, List.size_toArray, List.length_cons, List.length_cons, bv_length, bv_length]; omega) (all_row _ _ hvk) ?_))
      refine bodyPost_ret (results_cell_row rfl _ _ (w.heap.size + 1) 58 _ (0, 0) _ rfl (RowC.put hres) Tryd.underlying58 rfl (size58 _ _ hbl)) rfl ?_
      refine ⟨_, rfl, bsetRow H.out.below (by omega) _, ?_⟩
      exact HD.out.kept (fun k hk => setRow_other _ _ _ _ hk.2.1) (fun k hk => by have := hk.2.2; simpa using this)
end Go.Proofs.YthmpeeipbclhkaaDoor
