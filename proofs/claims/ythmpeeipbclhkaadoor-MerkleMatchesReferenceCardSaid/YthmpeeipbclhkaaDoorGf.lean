/-
  Walks: the closure of node (a row from the row below).
-/
import Derived.Test.YthmpeeipbclhkaaDoorGe
import Derived.Deep.RegionHeld3
namespace Go.Proofs.YthmpeeipbclhkaaDoor
open Go.RowKit

theorem RowC.range {w : World} {B : Nat} {t : TypeId} {v : Value} {b : List Int} (h : RowC w B t v b) : w.rangeAt B 0 (v :: byteVals b) := by
  intro j u hu
  rw [Nat.zero_add, cell_of_row w B j _ t (0, 0) h]
  simpa using hu
theorem s58 (v : Value) (l : List Int) (h : l.length = 32) : (Tryd.prog.info? 58).map (·.size) = some (v :: byteVals l).length := by
  have := size58 v l h; simpa using this

/-- Element k of the row above. -/
def upf (l : List (List Int)) (b : List Int) (k : Nat) : List Int := prt (l.getD (2 * k) b) (l.getD (2 * k + 1) b)

theorem upf_dg (l : List (List Int)) (b : List Int) (k : Nat) : Dg (upf l b k) := prt_dg _ _
theorem bvsz (l : List Int) (h : l.length = 32) : (byteVals l).toArray.size = 32 := by rw [List.size_toArray, bv_length, h]
theorem NdS.less {w w' : World} {N : Nat} {v : Value} {b : List Int} {f : Nat → List Int} {n k k' : Nat} (h : NdS w N v b f n k w') (hk : k' ≤ k) : NdS w N v b f n k' w' :=
  ⟨h.below, h.size, h.rowA, h.res, fun j hj => h.nodes j (by omega), h.there⟩

set_option maxRecDepth 100000 in
set_option maxHeartbeats 2000000 in
theorem up_any (l : List (List Int)) (b : List Int) (v i : Value) (w : World) (hk : KOk w) (hv : Dl (fun k => k < w.heap.size) w v l) (hb : Dg b) :
    Calls Tryd.prog 51 #[i, .agg (v :: byteVals b).toArray] w fun e w' => ∃ v', e = .returned (.agg (v' :: byteVals (prt b b)).toArray) ∧ Below w.heap.size w w' ∧ Dl (fun k => w.heap.size ≤ k ∧ k < w'.heap.size) w' v' (up prt l b) := by
  have hlen := hv.1
  have hsX : ((w.alloc (.cells (v :: byteVals b).toArray 58)).alloc (.cells #[.slice none 0 0, .int .u8 0, .int .u8 0, .int .u8 0, .int .u8 0, .int .u8 0, .int .u8 0, .int .u8 0, .int .u8 0, .int .u8 0, .int .u8 0, .int .u8 0, .int .u8 0, .int .u8 0, .int .u8 0, .int .u8 0, .int .u8 0, .int .u8 0, .int .u8 0, .int .u8 0, .int .u8 0, .int .u8 0, .int .u8 0, .int .u8 0, .int .u8 0, .int .u8 0, .int .u8 0, .int .u8 0, .int .u8 0, .int .u8 0, .int .u8 0, .int .u8 0, .int .u8 0] 58)).heap.size = w.heap.size + 2 := by simp
  obtain ⟨cs, hcs, hmk⟩ := make_dig ((w.alloc (.cells (v :: byteVals b).toArray 58)).alloc (.cells #[.slice none 0 0, .int .u8 0, .int .u8 0, .int .u8 0, .int .u8 0, .int .u8 0, .int .u8 0, .int .u8 0, .int .u8 0, .int .u8 0, .int .u8 0, .int .u8 0, .int .u8 0, .int .u8 0, .int .u8 0, .int .u8 0, .int .u8 0, .int .u8 0, .int .u8 0, .int .u8 0, .int .u8 0, .int .u8 0, .int .u8 0, .int .u8 0, .int .u8 0, .int .u8 0, .int .u8 0, .int .u8 0, .int .u8 0, .int .u8 0, .int .u8 0, .int .u8 0, .int .u8 0] 58)) ((l.length + 1) / 2) (by omega)
  have hcA := ((RowC.new w 58 v b).kept (heap_alloc_old _ (.cells #[.slice none 0 0, .int .u8 0, .int .u8 0, .int .u8 0, .int .u8 0, .int .u8 0, .int .u8 0, .int .u8 0, .int .u8 0, .int .u8 0, .int .u8 0, .int .u8 0, .int .u8 0, .int .u8 0, .int .u8 0, .int .u8 0, .int .u8 0, .int .u8 0, .int .u8 0, .int .u8 0, .int .u8 0, .int .u8 0, .int .u8 0, .int .u8 0, .int .u8 0, .int .u8 0, .int .u8 0, .int .u8 0, .int .u8 0, .int .u8 0, .int .u8 0, .int .u8 0, .int .u8 0] 58) (by simp))).head
  have hth := madeThere ((w.alloc (.cells (v :: byteVals b).toArray 58)).alloc (.cells #[.slice none 0 0, .int .u8 0, .int .u8 0, .int .u8 0, .int .u8 0, .int .u8 0, .int .u8 0, .int .u8 0, .int .u8 0, .int .u8 0, .int .u8 0, .int .u8 0, .int .u8 0, .int .u8 0, .int .u8 0, .int .u8 0, .int .u8 0, .int .u8 0, .int .u8 0, .int .u8 0, .int .u8 0, .int .u8 0, .int .u8 0, .int .u8 0, .int .u8 0, .int .u8 0, .int .u8 0, .int .u8 0, .int .u8 0, .int .u8 0, .int .u8 0, .int .u8 0, .int .u8 0] 58)) ((l.length + 1) / 2) cs 26 hcs
  rw [hsX] at hmk hth
  have hX : NdS w (w.heap.size + 2) v b (upf l b) ((l.length + 1) / 2) 0 (((w.alloc (.cells (v :: byteVals b).toArray 58)).alloc (.cells #[.slice none 0 0, .int .u8 0, .int .u8 0, .int .u8 0, .int .u8 0, .int .u8 0, .int .u8 0, .int .u8 0, .int .u8 0, .int .u8 0, .int .u8 0, .int .u8 0, .int .u8 0, .int .u8 0, .int .u8 0, .int .u8 0, .int .u8 0, .int .u8 0, .int .u8 0, .int .u8 0, .int .u8 0, .int .u8 0, .int .u8 0, .int .u8 0, .int .u8 0, .int .u8 0, .int .u8 0, .int .u8 0, .int .u8 0, .int .u8 0, .int .u8 0, .int .u8 0, .int .u8 0] 58)).alloc (.cells cs 26)) :=
    ⟨((ball (Below.refl _ _) _).alloc (by simp) _).alloc (by simp; omega) _, by simp, ((RowC.new w 58 v b).kept (heap_alloc_old _ _ (by simp))).kept (heap_alloc_old _ _ (by simp; omega)),
      ⟨.slice none 0 0, List.replicate 32 0, by simp, (RowC.new' _ (by simp) rfl).kept (heap_alloc_old _ _ (by simp))⟩, fun j hj => by omega, hth⟩
  obtain ⟨a, cap, rfl, hcap, hcell⟩ := hv.2.2
  have HV := Lib.hid hv; have HB := Lib.hid hb; have HK := Lib.hid hk; have HX := Lib.hid hX
  clear hv hb hk hX hcell hth hcs
  have hq : (((l.length + 1) / 2 : Nat) : Int) = ((l.length : Int) + 1) / 2 := by omega
  rw [hq] at hmk
  clear hq
  go_enter Tryd.func51, Tryd.ntmps51
  go_wp2_with fail
  go_loopw [6, 15] (fun _ i wr => ∃ k : Nat, k ≤ (l.length + 1) / 2 ∧ i = .int .i64 k ∧ Hid (NdS w (w.heap.size + 2) (.slice a l.length cap) b (upf l b) ((l.length + 1) / 2) k wr)) (fun _ i _ => (l.length + 1) / 2 - (intOf i).toNat)
  case atStart => exact ⟨0, by omega, rfl, HX⟩
  case round =>
    clear HX hmk hcA
    obtain ⟨k, hk, rfl, H⟩ := hrel
    by_cases hlt : k < (l.length + 1) / 2
    · have hlt2 : (k : Int) < ((l.length : Int) + 1) / 2 := by omega
      have hk3 : k < 4398046511104 := by omega
      have ha : ∀ w', NdS w (w.heap.size + 2) (.slice a l.length cap) b (upf l b) ((l.length + 1) / 2) k w' → ∀ t : Nat, t < 4611686018427387904 → Calls Tryd.prog 43 #[.agg (.slice a l.length cap :: byteVals b).toArray, .int .i64 (t : Int)] w' fun e w'' => e = .returned (.agg (byteVals (l.getD t b)).toArray) ∧ Below w'.heap.size w' w'' :=
        fun w' hN t ht => at_any l b _ t w' (HV.out.on hN.below) HB.out ht
      have hpa : ∀ w', NdS w (w.heap.size + 2) (.slice a l.length cap) b (upf l b) ((l.length + 1) / 2) k w' → Calls Tryd.prog 22 #[.agg (byteVals (l.getD (2 * k) b)).toArray, .agg (byteVals (l.getD (2 * k + 1) b)).toArray] w' fun e w'' => e = .returned (.agg (byteVals (upf l b k)).toArray) ∧ Below w'.heap.size w' w'' :=
        fun w' hN => parent_any _ _ w' (HK.out.below hN.below) (getD_dg HV.out.2.1 HB.out _) (getD_dg HV.out.2.1 HB.out _)
      have HA := Lib.hid ha; have HPA := Lib.hid hpa
      clear ha hpa
      go_wp2_with fail
      refine wp_region_held_drew (S := fun w' => NdS w (w.heap.size + 2) (.slice a l.length cap) b (upf l b) ((l.length + 1) / 2) k w') (by kernel_rfl) H.out.drew (fun hHeld => ?_)
      refine wpAnyH_take (i := 0) (oi := _) (v := Value.slice (some { block := w.heap.size + 2, off := 0 }) ((l.length + 1) / 2) ((l.length + 1) / 2)) rfl (by kernel_rfl) (by kernel_rfl) (by kernel_rfl) (fun _ _ _ h => h) (Or.inl ⟨by rfl, fun wx hSw => ?_⟩) (by assumption) ?_
      · go_simp
        try (rw [IntKind.wrap_i64]; omega)
      (try simp only [Act.put, List.setIfInBounds_toArray, List.set_cons_zero, List.set_cons_succ])
      refine wpAnyH_take (i := 1) (oi := _) (v := .int .i64 (k : Int)) rfl (by kernel_rfl) (by kernel_rfl) (by kernel_rfl) (fun _ _ _ h => h) (Or.inl ⟨by rfl, fun wx hSw => ?_⟩) (by assumption) ?_
      · go_simp
        try (rw [IntKind.wrap_i64]; omega)
      (try simp only [Act.put, List.setIfInBounds_toArray, List.set_cons_zero, List.set_cons_succ])
      refine wpAnyH_take (i := 2) (oi := _) (v := .agg (Value.slice a l.length cap :: byteVals b).toArray) rfl (by kernel_rfl) (by kernel_rfl) (by kernel_rfl) (fun _ _ _ h => h) (yieldsIf_load_mid (by rfl) 58 _ rfl w.heap.size 0 rfl (Value.slice a l.length cap :: byteVals b) _ (fun wx hSw => hSw.rowA.range) Tryd.underlying58 rfl (s58 _ _ HB.out.1)) (by assumption) ?_
      (try simp only [Act.put, List.setIfInBounds_toArray, List.set_cons_zero, List.set_cons_succ])
      refine wpAnyH_take (i := 3) (oi := _) (v := .int .i64 (k : Int)) rfl (by kernel_rfl) (by kernel_rfl) (by kernel_rfl) (fun _ _ _ h => h) (Or.inl ⟨by rfl, fun wx hSw => ?_⟩) (by assumption) ?_
      · go_simp
        try (rw [IntKind.wrap_i64]; omega)
      (try simp only [Act.put, List.setIfInBounds_toArray, List.set_cons_zero, List.set_cons_succ])
      refine wpAnyH_take (i := 4) (oi := _) (v := .int .i64 ((2 * k : Nat) : Int)) rfl (by kernel_rfl) (by kernel_rfl) (by kernel_rfl) (fun _ _ _ h => h) (Or.inl ⟨by rfl, fun wx hSw => ?_⟩) (by assumption) ?_
      · go_simp
        try (rw [IntKind.wrap_i64]; omega)
      (try simp only [Act.put, List.setIfInBounds_toArray, List.set_cons_zero, List.set_cons_succ])
      refine wpAnyH_take (i := 6) (oi := _) (v := .agg (Value.slice a l.length cap :: byteVals b).toArray) rfl (by kernel_rfl) (by kernel_rfl) (by kernel_rfl) (fun _ _ _ h => h) (yieldsIf_load_mid (by rfl) 58 _ rfl w.heap.size 0 rfl (Value.slice a l.length cap :: byteVals b) _ (fun wx hSw => hSw.rowA.range) Tryd.underlying58 rfl (s58 _ _ HB.out.1)) (by assumption) ?_
      (try simp only [Act.put, List.setIfInBounds_toArray, List.set_cons_zero, List.set_cons_succ])
      refine wpAnyH_take (i := 7) (oi := _) (v := .int .i64 (k : Int)) rfl (by kernel_rfl) (by kernel_rfl) (by kernel_rfl) (fun _ _ _ h => h) (Or.inl ⟨by rfl, fun wx hSw => ?_⟩) (by assumption) ?_
      · go_simp
        try (rw [IntKind.wrap_i64]; omega)
      (try simp only [Act.put, List.setIfInBounds_toArray, List.set_cons_zero, List.set_cons_succ])
      refine wpAnyH_take (i := 8) (oi := _) (v := .int .i64 ((2 * k : Nat) : Int)) rfl (by kernel_rfl) (by kernel_rfl) (by kernel_rfl) (fun _ _ _ h => h) (Or.inl ⟨by rfl, fun wx hSw => ?_⟩) (by assumption) ?_
      · go_simp
        try (rw [IntKind.wrap_i64]; omega)
      (try simp only [Act.put, List.setIfInBounds_toArray, List.set_cons_zero, List.set_cons_succ])
      refine wpAnyH_take (i := 9) (oi := _) (v := .int .i64 ((2 * k + 1 : Nat) : Int)) rfl (by kernel_rfl) (by kernel_rfl) (by kernel_rfl) (fun _ _ _ h => h) (Or.inl ⟨by rfl, fun wx hSw => ?_⟩) (by assumption) ?_
      · go_simp
        try (rw [IntKind.wrap_i64]; omega)
      (try simp only [Act.put, List.setIfInBounds_toArray, List.set_cons_zero, List.set_cons_succ])
      refine wpAnyH_ready (rs := [5]) (by kernel_rfl) (by simp) ?_
      refine AllReadyH.cons (o := _) rfl (fun K hK => ?_) AllReadyH.nil
      go_simp
      refine (HA.out _ hHeld (2 * k) (by omega)).mono ?_; rintro e w5 ⟨rfl, hb5⟩; have h5 := hHeld.call rfl hb5; clear hb5 hHeld
      go_wp2_with fail
      refine hK.out _ _ (h5) (fun hHeld => ?_)
      clear hK K
      (try simp only [Act.put, List.setIfInBounds_toArray, List.set_cons_zero, List.set_cons_succ])
      refine wpAnyH_ready (rs := [10]) (by kernel_rfl) (by simp) ?_
      refine AllReadyH.cons (o := _) rfl (fun K hK => ?_) AllReadyH.nil
      go_simp
      refine (HA.out _ hHeld (2 * k + 1) (by omega)).mono ?_; rintro e w6 ⟨rfl, hb6⟩; have h6 := hHeld.call rfl hb6; clear hb6 hHeld h5
      go_wp2_with fail
      refine hK.out _ _ (h6) (fun hHeld => ?_)
      clear hK K
      (try simp only [Act.put, List.setIfInBounds_toArray, List.set_cons_zero, List.set_cons_succ])
      refine wpAnyH_ready (rs := [11]) (by kernel_rfl) (by simp) ?_
      refine AllReadyH.cons (o := _) rfl (fun K hK => ?_) AllReadyH.nil
      go_simp
      refine (HPA.out _ hHeld).mono ?_; rintro e w7 ⟨rfl, hb7⟩; have h7 := hHeld.call rfl hb7; clear hb7 hHeld h6
      go_wp2_with fail
      refine hK.out _ _ (h7) (fun hHeld => ?_)
      clear hK K
      (try simp only [Act.put, List.setIfInBounds_toArray, List.set_cons_zero, List.set_cons_succ])
      refine wpAnyH_take (i := 12) (oi := _) (v := .pointer (some ⟨w.heap.size + 2, k * 32, none⟩)) rfl (by kernel_rfl) (by kernel_rfl) (by kernel_rfl) (fun _ _ _ h => h) (Or.inl ⟨by rfl, fun wx hSw => ?_⟩) (by assumption) ?_
      · go_simp
        try (rw [IntKind.wrap_i64]; omega)
      (try simp only [Act.put, List.setIfInBounds_toArray, List.set_cons_zero, List.set_cons_succ])
      have hput := hHeld.put rfl hlt (fun j => (upf_dg l b j).1)
      refine wpAnyH_ready (rs := [13]) (by kernel_rfl) (by simp) ?_
      refine AllReadyH.cons (o := _) rfl (fun K hK => ?_) AllReadyH.nil
      rw [if_pos (show Region.wanted _ _ = true by rfl)]
      refine wp_store_mid 26 (.tmp 30) (.tmp 29) rfl (w.heap.size + 2) (k * 32) (byteVals (upf l b k)).toArray rfl rfl (by rw [bvsz _ (upf_dg l b k).1]; exact hHeld.there k hlt) (size25 _ (upf_dg l b k).1) (all_byteVals _) ?_
      refine hK.out _ _ (hput.less (by omega)) (fun _ => ?_)
      clear hK K
      (try simp only [Act.put, List.setIfInBounds_toArray, List.set_cons_zero, List.set_cons_succ])
      refine wpAnyH_done (by kernel_rfl) ?_ _
      have Hput := Lib.hid hput
      clear hput hHeld HA HPA H
      go_wp2
      go_roundw
      case rel => exact ⟨k + 1, by omega, by go_num, Hput⟩
      case measure => simp [intOf]; omega
    · have hk2 : k = (l.length + 1) / 2 := by omega
      subst hk2
      have hpb : ∀ w', NdS w (w.heap.size + 2) (.slice a l.length cap) b (upf l b) ((l.length + 1) / 2) ((l.length + 1) / 2) w' → Calls Tryd.prog 22 #[.agg (byteVals b).toArray, .agg (byteVals b).toArray] w' fun e w'' => e = .returned (.agg (byteVals (prt b b)).toArray) ∧ Below w'.heap.size w' w'' :=
        fun w' hN => parent_any _ _ w' (HK.out.below hN.below) HB.out HB.out
      have HPB := Lib.hid hpb
      clear hpb hk hlt
      have hDl : (prt b b).length = 32 := (prt_dg b b).1
      obtain ⟨D, hD⟩ : ∃ D, D = prt b b := ⟨_, rfl⟩
      rw [← hD] at HPB hDl
      have HD := Lib.hid hD
      clear hD
      have hf := fold_row (.slice (some ⟨w.heap.size + 2, 0, none⟩) ((l.length + 1) / 2) ((l.length + 1) / 2)) D hDl
      have hbl : (byteVals D).length = 32 := by rw [byteVals_length, hDl]
      have hlt : ¬ (((l.length : Int) + 1) / 2 < ((l.length : Int) + 1) / 2) := by omega
      go_wp2_with (first | (refine wpList_load_mid rfl 26 (.tmp 33) rfl w.heap.size 1 rfl (byteVals b) _ H.out.rowA.tail Tryd.underlying26 rfl (size26 _ HB.out.1) ?_) | (refine wpList_load_mid rfl 26 (.tmp 35) rfl w.heap.size 1 rfl (byteVals b) _ H.out.rowA.tail Tryd.underlying26 rfl (size26 _ HB.out.1) ?_) | (go_at_call 22; refine (HPB.out _ H.out).mono ?_; rintro e w8 ⟨rfl, hb8⟩; have H8 := Lib.hid (H.out.call rfl hb8); obtain ⟨v0, l0, hl0, hrl⟩ := H8.out.res; clear hb8) | (refine wpList_store_row rfl 58 (.tmp 4) (.tmp 38) rfl (w.heap.size + 1) _ rfl rfl 58 _ hrl (size58 _ _ hDl) (by rw [List.size_toArray, List.size_toArray, List.length_cons, List.length_cons, bv_length, bv_length]; omega) (all_row _ _ rfl) ?_))
      refine bodyPost_ret (results_cell_row rfl _ _ (w.heap.size + 1) 58 _ (0, 0) _ rfl (RowC.put hrl) Tryd.underlying58 rfl (size58 _ _ hDl)) rfl ?_
      refine ⟨_, by rw [HD.out], bsetRow H8.out.below (by omega) _, ?_⟩
      have hul : (up prt l b).length = (l.length + 1) / 2 := up_length prt l b
      have hug : ∀ j x, (up prt l b)[j]? = some x → x = upf l b j := by
        intro j x hj
        have hjl := (List.getElem?_eq_some_iff.1 hj).1
        unfold up at hj
        rw [List.getElem?_map, List.getElem?_range (by omega)] at hj
        simp only [Option.map_some, Option.some.injEq] at hj
        exact hj.symm
      refine ⟨by omega, ?_, some ⟨w.heap.size + 2, 0, none⟩, (l.length + 1) / 2, by rw [hul], by omega, fun hp => ⟨w.heap.size + 2, 0, rfl, ?_, ?_⟩⟩
      · intro x hx
        obtain ⟨j, hj⟩ := List.getElem?_of_mem hx
        rw [hug j x hj]
        exact upf_dg l b j
      · have := H8.out.size
        constructor
        · omega
        · simp
          omega
      · intro j x hj
        rw [hug j x hj, Nat.zero_add]
        have hjl := (List.getElem?_eq_some_iff.1 hj).1
        exact rangeAt_kept (H8.out.nodes j (by omega)) (setRow_other _ _ _ _ (by omega))
end Go.Proofs.YthmpeeipbclhkaaDoor
