/-
  Walk: sane returns true.
-/
import Derived.Test.YthmpeeipbclhkaaDoorSo
import Derived.Deep.RegionHeld3
import Derived.Deep.CutRange
namespace Go.Proofs.YthmpeeipbclhkaaDoor
set_option linter.unusedSimpArgs false
set_option linter.unusedVariables false
open Go.RowKit

set_option maxRecDepth 100000 in
set_option maxHeartbeats 40000000 in
theorem sane_true (w : World) (hk : KOk w) : Calls Tryd.prog 11 #[] w fun e w' => e = .returned (.bool true) ∧ Below w.heap.size w w' := by
  obtain ⟨X, hX⟩ : ∃ X, X = xx := ⟨_, rfl⟩
  obtain ⟨Y, hY⟩ : ∃ Y, Y = yy := ⟨_, rfl⟩
  have hXD : Dg X := by rw [hX]; exact xx_dg
  have hYD : Dg Y := by rw [hY]; exact yy_dg
  have hxl := hXD.1
  have hyl := hYD.1
  obtain ⟨P, hP⟩ : ∃ P, P = pdd := ⟨_, rfl⟩
  obtain ⟨XY, hXY⟩ : ∃ XY, XY = prt X Y := ⟨_, rfl⟩
  obtain ⟨XP, hXP⟩ : ∃ XP, XP = prt X P := ⟨_, rfl⟩
  obtain ⟨AL, hAL⟩ : ∃ AL, AL = prt XY XP := ⟨_, rfl⟩
  have hPD : Dg P := by rw [hP]; exact pdd_dg
  have hXYD : Dg XY := by rw [hXY]; exact prt_dg _ _
  have hXPD : Dg XP := by rw [hXP]; exact prt_dg _ _
  have hALD : Dg AL := by rw [hAL]; exact prt_dg _ _
  have hpl := hPD.1
  have hql := hXYD.1
  have hrl := hXPD.1
  have hal := hALD.1
  have hyp : Hid (Y ≠ P) := Lib.hid (by rw [hY, hP]; exact yy_ne)
  have hyx : Hid (Y ≠ X) := Lib.hid (by rw [hX, hY]; exact yx_ne)
  have HYP := hyp; have HYX := hyx
  have HX := Lib.hid hX; have HY := Lib.hid hY; have HXD := Lib.hid hXD; have HYD := Lib.hid hYD
  have HDX : Hid (∀ x ∈ [X], Dg x) := Lib.hid (by simp [hXD])
  have HDXY : Hid (∀ x ∈ [X, Y], Dg x) := Lib.hid (by simp [hXD, hYD])
  have HDYX : Hid (∀ x ∈ [Y, X], Dg x) := Lib.hid (by simp [hXD, hYD])
  have HDXYX : Hid (∀ x ∈ [X, Y, X], Dg x) := Lib.hid (by simp [hXD, hYD])
  have HDXP : Hid (∀ x ∈ [X, P], Dg x) := Lib.hid (by simp [hXD, hPD])
  have HDPXY : Hid (∀ x ∈ [P, XY], Dg x) := Lib.hid (by simp [hPD, hXYD])
  have HP := Lib.hid hP; have HXY := Lib.hid hXY; have HXP := Lib.hid hXP; have HAL := Lib.hid hAL
  have HPD := Lib.hid hPD; have HXYD := Lib.hid hXYD; have HXPD := Lib.hid hXPD
  have hv18 : Value.agg #[Value.int .u8 1, Value.int .u8 0, Value.int .u8 0, Value.int .u8 0, Value.int .u8 0, Value.int .u8 0, Value.int .u8 0, Value.int .u8 0, Value.int .u8 0, Value.int .u8 0, Value.int .u8 0, Value.int .u8 0, Value.int .u8 0, Value.int .u8 0, Value.int .u8 0, Value.int .u8 0, Value.int .u8 0, Value.int .u8 0, Value.int .u8 0, Value.int .u8 0, Value.int .u8 0, Value.int .u8 0, Value.int .u8 0, Value.int .u8 0, Value.int .u8 0, Value.int .u8 0, Value.int .u8 0, Value.int .u8 0, Value.int .u8 0, Value.int .u8 0, Value.int .u8 0, Value.int .u8 0] = .agg (byteVals X).toArray := by rw [hX]; rfl
  have hv19 : Value.agg #[Value.int .u8 2, Value.int .u8 0, Value.int .u8 0, Value.int .u8 0, Value.int .u8 0, Value.int .u8 0, Value.int .u8 0, Value.int .u8 0, Value.int .u8 0, Value.int .u8 0, Value.int .u8 0, Value.int .u8 0, Value.int .u8 0, Value.int .u8 0, Value.int .u8 0, Value.int .u8 0, Value.int .u8 0, Value.int .u8 0, Value.int .u8 0, Value.int .u8 0, Value.int .u8 0, Value.int .u8 0, Value.int .u8 0, Value.int .u8 0, Value.int .u8 0, Value.int .u8 0, Value.int .u8 0, Value.int .u8 0, Value.int .u8 0, Value.int .u8 0, Value.int .u8 0, Value.int .u8 0] = .agg (byteVals Y).toArray := by rw [hY]; rfl
  have HV18 := Lib.hid hv18; have HV19 := Lib.hid hv19
  have HK := Lib.hid hk
  have HS := Lib.hid (St4.nil w)
  have d0 : dep 0 = 0 := by decide +kernel
  have d1 : dep 1 = 0 := by decide +kernel
  have d2 : dep 2 = 1 := by decide +kernel
  have d3 : dep 3 = 2 := by decide +kernel
  have d4 : dep 65536 = 16 := by decide +kernel
  have d5 : dep (-1) = -1 := by decide +kernel
  have d6 : dep 65537 = -1 := by decide +kernel
  clear hX hY hXD hYD hk hv18 hv19 hP hXY hXP hAL hPD hXYD hXPD hALD
  go_enter Tryd.func11, Tryd.ntmps11
  go_wp2_with (first | (refine wpList_newD HS.out rfl (.tmp 1) (.tmp 18) rfl rfl X HV18.out hxl rfl ?_; intro w1 hS; replace HS := Lib.hid hS; clear hS) | (refine wpList_newD HS.out rfl (.tmp 2) (.tmp 19) rfl rfl Y HV19.out hyl rfl ?_; intro w2 hS; replace HS := Lib.hid hS; clear hS) | (go_at_call 24; refine (depth_any _ _).mono ?_; rintro e w9 ⟨rfl, rfl⟩))
  generalize Value.agg #[Value.int .u8 1, Value.int .u8 0, Value.int .u8 0, Value.int .u8 0, Value.int .u8 0, Value.int .u8 0, Value.int .u8 0, Value.int .u8 0, Value.int .u8 0, Value.int .u8 0, Value.int .u8 0, Value.int .u8 0, Value.int .u8 0, Value.int .u8 0, Value.int .u8 0, Value.int .u8 0, Value.int .u8 0, Value.int .u8 0, Value.int .u8 0, Value.int .u8 0, Value.int .u8 0, Value.int .u8 0, Value.int .u8 0, Value.int .u8 0, Value.int .u8 0, Value.int .u8 0, Value.int .u8 0, Value.int .u8 0, Value.int .u8 0, Value.int .u8 0, Value.int .u8 0, Value.int .u8 0] = v18
  generalize Value.agg #[Value.int .u8 2, Value.int .u8 0, Value.int .u8 0, Value.int .u8 0, Value.int .u8 0, Value.int .u8 0, Value.int .u8 0, Value.int .u8 0, Value.int .u8 0, Value.int .u8 0, Value.int .u8 0, Value.int .u8 0, Value.int .u8 0, Value.int .u8 0, Value.int .u8 0, Value.int .u8 0, Value.int .u8 0, Value.int .u8 0, Value.int .u8 0, Value.int .u8 0, Value.int .u8 0, Value.int .u8 0, Value.int .u8 0, Value.int .u8 0, Value.int .u8 0, Value.int .u8 0, Value.int .u8 0, Value.int .u8 0, Value.int .u8 0, Value.int .u8 0, Value.int .u8 0, Value.int .u8 0] = v19
  clear d0 d1 d2 d3 d4 d5 d6
  refine (r0 P HP.out w9 (HK.out.below HS.out.below)).mono ?_
  rintro e wr0 ⟨rfl, hb⟩
  replace HS := Lib.hid (HS.out.call hb)
  clear hb
  go_wp2_with (first | (refine wpList_loadG (by rfl) (.tmp 1) rfl w.heap.size rfl X (HS.out.range (by (with_reducible (repeat (first | exact List.mem_cons_self | refine List.mem_cons_of_mem _ ?_))))) hxl ?_; (try simp only [Act.put, List.setIfInBounds_toArray, List.set_cons_zero, List.set_cons_succ, List.getElem_toArray, List.getElem_cons_zero, List.getElem_cons_succ])) | (refine wpList_newC HS.out rfl (.tmp 3) (.tmp 48) rfl rfl 0 P rfl hpl rfl ?_; intro wS hS; replace HS := Lib.hid hS; clear hS) | (refine wpList_slice HS.out [X] 1 [(0, .tmp 51)] (by rfl) rfl rfl (by decide) HDX.out rfl ?_; intro wS hS; replace HS := Lib.hid hS; clear hS))
  refine (r1 X _ _ (HK.out.below HS.out.below) (HS.out.dl (by (with_reducible (repeat (first | exact List.mem_cons_self | refine List.mem_cons_of_mem _ ?_)))))).mono ?_
  rintro e wr1 ⟨rfl, hb⟩
  replace HS := Lib.hid (HS.out.call hb)
  clear hb
  go_wp2_with (first | (refine wpList_loadG (by rfl) (.tmp 1) rfl w.heap.size rfl X (HS.out.range (by (with_reducible (repeat (first | exact List.mem_cons_self | refine List.mem_cons_of_mem _ ?_))))) hxl ?_; (try simp only [Act.put, List.setIfInBounds_toArray, List.set_cons_zero, List.set_cons_succ, List.getElem_toArray, List.getElem_cons_zero, List.getElem_cons_succ])) | (refine wpList_loadG (by rfl) (.tmp 2) rfl w1.heap.size rfl Y (HS.out.range (by (with_reducible (repeat (first | exact List.mem_cons_self | refine List.mem_cons_of_mem _ ?_))))) hyl ?_; (try simp only [Act.put, List.setIfInBounds_toArray, List.set_cons_zero, List.set_cons_succ, List.getElem_toArray, List.getElem_cons_zero, List.getElem_cons_succ])) | (refine wpList_newC HS.out rfl (.tmp 5) (.tmp 54) rfl rfl 1 X rfl hxl rfl ?_; intro wS hS; replace HS := Lib.hid hS; clear hS) | (refine wpList_slice HS.out [X, Y] 2 [(0, .tmp 57), (1, .tmp 58)] (by rfl) rfl rfl (by decide) HDXY.out rfl ?_; intro wS hS; replace HS := Lib.hid hS; clear hS))
  refine (r2 X Y XY HXY.out _ _ (HK.out.below HS.out.below) (HS.out.dl (by (with_reducible (repeat (first | exact List.mem_cons_self | refine List.mem_cons_of_mem _ ?_)))))).mono ?_
  rintro e wr2 ⟨rfl, hb⟩
  replace HS := Lib.hid (HS.out.call hb)
  clear hb
  go_wp2_with (first | (refine wpList_loadG (by rfl) (.tmp 1) rfl w.heap.size rfl X (HS.out.range (by (with_reducible (repeat (first | exact List.mem_cons_self | refine List.mem_cons_of_mem _ ?_))))) hxl ?_; (try simp only [Act.put, List.setIfInBounds_toArray, List.set_cons_zero, List.set_cons_succ, List.getElem_toArray, List.getElem_cons_zero, List.getElem_cons_succ])) | (refine wpList_loadG (by rfl) (.tmp 2) rfl w1.heap.size rfl Y (HS.out.range (by (with_reducible (repeat (first | exact List.mem_cons_self | refine List.mem_cons_of_mem _ ?_))))) hyl ?_; (try simp only [Act.put, List.setIfInBounds_toArray, List.set_cons_zero, List.set_cons_succ, List.getElem_toArray, List.getElem_cons_zero, List.getElem_cons_succ])) | (refine wpList_newC HS.out rfl (.tmp 7) (.tmp 61) rfl rfl 2 XY rfl hql rfl ?_; intro wS hS; replace HS := Lib.hid hS; clear hS) | (refine wpList_slice HS.out [X, Y, X] 3 [(0, .tmp 64), (1, .tmp 65), (2, .tmp 66)] (by rfl) rfl rfl (by decide) HDXYX.out rfl ?_; intro wS hS; replace HS := Lib.hid hS; clear hS))
  refine (r3 X Y P XY XP AL HP.out HXY.out HXP.out HAL.out _ _ (HK.out.below HS.out.below) (HS.out.dl (by (with_reducible (repeat (first | exact List.mem_cons_self | refine List.mem_cons_of_mem _ ?_)))))).mono ?_
  rintro e wr3 ⟨rfl, hb⟩
  replace HS := Lib.hid (HS.out.call hb)
  clear hb
  go_wp2_with (first | (refine wpList_loadG (by rfl) (.tmp 1) rfl w.heap.size rfl X (HS.out.range (by (with_reducible (repeat (first | exact List.mem_cons_self | refine List.mem_cons_of_mem _ ?_))))) hxl ?_; (try simp only [Act.put, List.setIfInBounds_toArray, List.set_cons_zero, List.set_cons_succ, List.getElem_toArray, List.getElem_cons_zero, List.getElem_cons_succ])) | (refine wpList_loadG (by rfl) (.tmp 2) rfl w1.heap.size rfl Y (HS.out.range (by (with_reducible (repeat (first | exact List.mem_cons_self | refine List.mem_cons_of_mem _ ?_))))) hyl ?_; (try simp only [Act.put, List.setIfInBounds_toArray, List.set_cons_zero, List.set_cons_succ, List.getElem_toArray, List.getElem_cons_zero, List.getElem_cons_succ])) | (refine wpList_newC HS.out rfl (.tmp 9) (.tmp 69) rfl rfl 3 AL rfl hal rfl ?_; intro wS hS; replace HS := Lib.hid hS; clear hS) | (refine wpList_slice HS.out [X, Y, X] 3 [(0, .tmp 72), (1, .tmp 73), (2, .tmp 74)] (by rfl) rfl rfl (by decide) HDXYX.out rfl ?_; intro wS hS; replace HS := Lib.hid hS; clear hS))
  refine (p3 X Y P XY HP.out HXY.out _ _ (HK.out.below HS.out.below) (HS.out.dl (by (with_reducible (repeat (first | exact List.mem_cons_self | refine List.mem_cons_of_mem _ ?_)))))).mono ?_
  rintro e wp ⟨pa1, pc1, rfl, hb, hd⟩
  replace HS := Lib.hid (HS.out.callAlso hb hd)
  clear hb hd
  go_wp2_with (first | (refine wpList_loadG (by rfl) (.tmp 1) rfl w.heap.size rfl X (HS.out.range (by (with_reducible (repeat (first | exact List.mem_cons_self | refine List.mem_cons_of_mem _ ?_))))) hxl ?_; (try simp only [Act.put, List.setIfInBounds_toArray, List.set_cons_zero, List.set_cons_succ, List.getElem_toArray, List.getElem_cons_zero, List.getElem_cons_succ])) | (refine wpList_slice HS.out [X] 1 [(0, .tmp 80)] (by rfl) rfl rfl (by decide) HDX.out rfl ?_; intro wS hS; replace HS := Lib.hid hS; clear hS))
  refine (pb X _ _).mono ?_
  rintro e wpb ⟨rfl, hb⟩
  replace HS := Lib.hid (HS.out.call hb)
  clear hb
  go_wp2_with (first | (refine wpList_loadG (by rfl) (.tmp 1) rfl w.heap.size rfl X (HS.out.range (by (with_reducible (repeat (first | exact List.mem_cons_self | refine List.mem_cons_of_mem _ ?_))))) hxl ?_; (try simp only [Act.put, List.setIfInBounds_toArray, List.set_cons_zero, List.set_cons_succ, List.getElem_toArray, List.getElem_cons_zero, List.getElem_cons_succ])) | (refine wpList_loadG (by rfl) (.tmp 2) rfl w1.heap.size rfl Y (HS.out.range (by (with_reducible (repeat (first | exact List.mem_cons_self | refine List.mem_cons_of_mem _ ?_))))) hyl ?_; (try simp only [Act.put, List.setIfInBounds_toArray, List.set_cons_zero, List.set_cons_succ, List.getElem_toArray, List.getElem_cons_zero, List.getElem_cons_succ])))
  refine (pa X Y XY HXY.out _ (HK.out.below HS.out.below) HXD.out HYD.out).mono ?_
  rintro e wpa ⟨rfl, hb⟩
  replace HS := Lib.hid (HS.out.call hb)
  clear hb
  go_wp2_with (first | (refine wpList_newD HS.out rfl (.tmp 15) (.tmp 109) rfl rfl XY rfl hql rfl ?_; intro wS hS; replace HS := Lib.hid hS; clear hS))
  simp only [Act.put]
  generalize wpa.heap.size = bQ at *
  generalize wr3.heap.size = b3 at *
  generalize wr2.heap.size = b2 at *
  generalize wr1.heap.size = b1 at *
  generalize wr0.heap.size = b0 at *
  generalize w1.heap.size = bY at *
  replace HS := Lib.hid (HS.out.sub [(bQ, 26, byteVals XY), (b3, 30, Value.int .i64 3 :: byteVals AL), (b2, 30, Value.int .i64 2 :: byteVals XY), (b1, 30, Value.int .i64 1 :: byteVals X), (b0, 30, Value.int .i64 0 :: byteVals P), (bY, 26, byteVals Y), (w.heap.size, 26, byteVals X)] [(.slice pa1 2 pc1, [P, XY])] (fun x hx => hx) (by intro x hx; simp only [List.mem_singleton] at hx; subst hx; (with_reducible (repeat (first | exact List.mem_cons_self | refine List.mem_cons_of_mem _ ?_)))))
  go_cut [16] from 46 to 114 (fun s16 wx => ∃ B16 : Nat, s16 = .pointer (some ⟨B16, 0, none⟩) ∧ Hid (St4 w ((B16, 26, byteVals AL) :: [(bQ, 26, byteVals XY), (b3, 30, Value.int .i64 3 :: byteVals AL), (b2, 30, Value.int .i64 2 :: byteVals XY), (b1, 30, Value.int .i64 1 :: byteVals X), (b0, 30, Value.int .i64 0 :: byteVals P), (bY, 26, byteVals Y), (w.heap.size, 26, byteVals X)]) [(.slice pa1 2 pc1, [P, XY])] wx))
  case first =>
    refine wp_region_held_drew (S := fun w' => St4 w [(bQ, 26, byteVals XY), (b3, 30, Value.int .i64 3 :: byteVals AL), (b2, 30, Value.int .i64 2 :: byteVals XY), (b1, 30, Value.int .i64 1 :: byteVals X), (b0, 30, Value.int .i64 0 :: byteVals P), (bY, 26, byteVals Y), (w.heap.size, 26, byteVals X)] [(.slice pa1 2 pc1, [P, XY])] w') (by kernel_rfl) HS.out.drew (fun hHeld => ?_)
    change wpAnyH _ _ _ _ _ 7 #[false, false, false, false, false, false, false] _ _
    generalize wS.drew = V0 at *
    refine wpAnyH_take (i := 0) (oi := _) (v := .agg (byteVals XY).toArray) rfl (by kernel_rfl) (by kernel_rfl) (by kernel_rfl) (fun _ _ _ h => h) (yieldsIf_load_mid (by rfl) 26 _ rfl bQ 0 rfl (byteVals XY) _ (fun wx hSw => hSw.range (by (with_reducible (repeat (first | exact List.mem_cons_self | refine List.mem_cons_of_mem _ ?_))))) Tryd.underlying26 rfl (size26 _ hql)) (by assumption) ?_
    (try simp only [Act.put, List.setIfInBounds_toArray, List.set_cons_zero, List.set_cons_succ, List.getElem_toArray, List.getElem_cons_zero, List.getElem_cons_succ])
    refine wpAnyH_take (i := 1) (oi := _) (v := .agg (byteVals X).toArray) rfl (by kernel_rfl) (by kernel_rfl) (by kernel_rfl) (fun _ _ _ h => h) (yieldsIf_load_mid (by rfl) 26 _ rfl w.heap.size 0 rfl (byteVals X) _ (fun wx hSw => hSw.range (by (with_reducible (repeat (first | exact List.mem_cons_self | refine List.mem_cons_of_mem _ ?_))))) Tryd.underlying26 rfl (size26 _ hxl)) (by assumption) ?_
    (try simp only [Act.put, List.setIfInBounds_toArray, List.set_cons_zero, List.set_cons_succ, List.getElem_toArray, List.getElem_cons_zero, List.getElem_cons_succ])
    refine wpAnyH_ready (rs := [2, 5]) (by kernel_rfl) (by simp) ?_
    refine (AllReadyH.cons (o := _) rfl (fun K hK => ?_) (AllReadyH.cons (o := _) rfl (fun K hK => ?_) AllReadyH.nil))
    · go_simp
      refine (pad0 P HP.out _ (HK.out.below hHeld.below)).mono ?_
      rintro e V1 ⟨rfl, hb⟩
      have h5 := hHeld.call hb
      clear hb hHeld
      go_wp2_with fail
      refine hK.out _ _ (h5) (fun hHeld => ?_)
      clear hK K
      (try simp only [Act.put, List.setIfInBounds_toArray, List.set_cons_zero, List.set_cons_succ, List.getElem_toArray, List.getElem_cons_zero, List.getElem_cons_succ])
      refine wpAnyH_ready (rs := [3, 5]) (by kernel_rfl) (by simp) ?_
      refine (AllReadyH.cons (o := _) rfl (fun K hK => ?_) (AllReadyH.cons (o := _) rfl (fun K hK => ?_) AllReadyH.nil))
      · go_simp
        refine (pa X P XP HXP.out _ (HK.out.below hHeld.below) HXD.out HPD.out).mono ?_
        rintro e V2 ⟨rfl, hb⟩
        have h5 := hHeld.call hb
        clear hb hHeld
        go_wp2_with fail
        refine hK.out _ _ (h5) (fun hHeld => ?_)
        clear hK K
        (try simp only [Act.put, List.setIfInBounds_toArray, List.set_cons_zero, List.set_cons_succ, List.getElem_toArray, List.getElem_cons_zero, List.getElem_cons_succ])
        refine wpAnyH_ready (rs := [4, 5]) (by kernel_rfl) (by simp) ?_
        refine (AllReadyH.cons (o := _) rfl (fun K hK => ?_) (AllReadyH.cons (o := _) rfl (fun K hK => ?_) AllReadyH.nil))
        · go_simp
          refine (pa XY XP AL HAL.out _ (HK.out.below hHeld.below) HXYD.out HXPD.out).mono ?_
          rintro e V3 ⟨rfl, hb⟩
          have h5 := hHeld.call hb
          clear hb hHeld
          go_wp2_with fail
          refine hK.out _ _ (h5) (fun hHeld => ?_)
          clear hK K
          (try simp only [Act.put, List.setIfInBounds_toArray, List.set_cons_zero, List.set_cons_succ, List.getElem_toArray, List.getElem_cons_zero, List.getElem_cons_succ])
          refine wpAnyH_ready (rs := [5]) (by kernel_rfl) (by simp) ?_
          refine (AllReadyH.cons (o := _) rfl (fun K hK => ?_) AllReadyH.nil)
          · go_simp
            have hR : St4 w ((V3.heap.size, 26, [Value.int .u8 0, Value.int .u8 0, Value.int .u8 0, Value.int .u8 0, Value.int .u8 0, Value.int .u8 0, Value.int .u8 0, Value.int .u8 0, Value.int .u8 0, Value.int .u8 0, Value.int .u8 0, Value.int .u8 0, Value.int .u8 0, Value.int .u8 0, Value.int .u8 0, Value.int .u8 0, Value.int .u8 0, Value.int .u8 0, Value.int .u8 0, Value.int .u8 0, Value.int .u8 0, Value.int .u8 0, Value.int .u8 0, Value.int .u8 0, Value.int .u8 0, Value.int .u8 0, Value.int .u8 0, Value.int .u8 0, Value.int .u8 0, Value.int .u8 0, Value.int .u8 0, Value.int .u8 0]) :: [(bQ, 26, byteVals XY), (b3, 30, Value.int .i64 3 :: byteVals AL), (b2, 30, Value.int .i64 2 :: byteVals XY), (b1, 30, Value.int .i64 1 :: byteVals X), (b0, 30, Value.int .i64 0 :: byteVals P), (bY, 26, byteVals Y), (w.heap.size, 26, byteVals X)]) [(.slice pa1 2 pc1, [P, XY])] (V3.alloc (.cells #[Value.int .u8 0, Value.int .u8 0, Value.int .u8 0, Value.int .u8 0, Value.int .u8 0, Value.int .u8 0, Value.int .u8 0, Value.int .u8 0, Value.int .u8 0, Value.int .u8 0, Value.int .u8 0, Value.int .u8 0, Value.int .u8 0, Value.int .u8 0, Value.int .u8 0, Value.int .u8 0, Value.int .u8 0, Value.int .u8 0, Value.int .u8 0, Value.int .u8 0, Value.int .u8 0, Value.int .u8 0, Value.int .u8 0, Value.int .u8 0, Value.int .u8 0, Value.int .u8 0, Value.int .u8 0, Value.int .u8 0, Value.int .u8 0, Value.int .u8 0, Value.int .u8 0, Value.int .u8 0] 26)) := hHeld.new 26 [Value.int .u8 0, Value.int .u8 0, Value.int .u8 0, Value.int .u8 0, Value.int .u8 0, Value.int .u8 0, Value.int .u8 0, Value.int .u8 0, Value.int .u8 0, Value.int .u8 0, Value.int .u8 0, Value.int .u8 0, Value.int .u8 0, Value.int .u8 0, Value.int .u8 0, Value.int .u8 0, Value.int .u8 0, Value.int .u8 0, Value.int .u8 0, Value.int .u8 0, Value.int .u8 0, Value.int .u8 0, Value.int .u8 0, Value.int .u8 0, Value.int .u8 0, Value.int .u8 0, Value.int .u8 0, Value.int .u8 0, Value.int .u8 0, Value.int .u8 0, Value.int .u8 0, Value.int .u8 0]
            have HNE : Hid (∀ x ∈ [(bQ, 26, byteVals XY), (b3, 30, Value.int .i64 3 :: byteVals AL), (b2, 30, Value.int .i64 2 :: byteVals XY), (b1, 30, Value.int .i64 1 :: byteVals X), (b0, 30, Value.int .i64 0 :: byteVals P), (bY, 26, byteVals Y), (w.heap.size, 26, byteVals X)], x.1 ≠ V3.heap.size) := Lib.hid (fun x hx => by have := hHeld.lt (B := x.1) (t := x.2.1) (cs := x.2.2) hx; omega)
            have h5 := hHeld.alloc (.cells #[Value.int .u8 0, Value.int .u8 0, Value.int .u8 0, Value.int .u8 0, Value.int .u8 0, Value.int .u8 0, Value.int .u8 0, Value.int .u8 0, Value.int .u8 0, Value.int .u8 0, Value.int .u8 0, Value.int .u8 0, Value.int .u8 0, Value.int .u8 0, Value.int .u8 0, Value.int .u8 0, Value.int .u8 0, Value.int .u8 0, Value.int .u8 0, Value.int .u8 0, Value.int .u8 0, Value.int .u8 0, Value.int .u8 0, Value.int .u8 0, Value.int .u8 0, Value.int .u8 0, Value.int .u8 0, Value.int .u8 0, Value.int .u8 0, Value.int .u8 0, Value.int .u8 0, Value.int .u8 0] 26)
            clear hHeld
            generalize V3.alloc (.cells #[Value.int .u8 0, Value.int .u8 0, Value.int .u8 0, Value.int .u8 0, Value.int .u8 0, Value.int .u8 0, Value.int .u8 0, Value.int .u8 0, Value.int .u8 0, Value.int .u8 0, Value.int .u8 0, Value.int .u8 0, Value.int .u8 0, Value.int .u8 0, Value.int .u8 0, Value.int .u8 0, Value.int .u8 0, Value.int .u8 0, Value.int .u8 0, Value.int .u8 0, Value.int .u8 0, Value.int .u8 0, Value.int .u8 0, Value.int .u8 0, Value.int .u8 0, Value.int .u8 0, Value.int .u8 0, Value.int .u8 0, Value.int .u8 0, Value.int .u8 0, Value.int .u8 0, Value.int .u8 0] 26) = V3b at *
            generalize V3.heap.size = B16 at *
            go_wp2_with fail
            refine hK.out _ _ (h5) (fun hHeld => ?_)
            clear hK K
            (try simp only [Act.put, List.setIfInBounds_toArray, List.set_cons_zero, List.set_cons_succ, List.getElem_toArray, List.getElem_cons_zero, List.getElem_cons_succ])
            refine wpAnyH_ready (rs := [6]) (by kernel_rfl) (by simp) ?_
            refine AllReadyH.cons (o := _) rfl (fun K hK => ?_) AllReadyH.nil
            rw [if_pos (show Region.wanted _ _ = true by rfl)]
            refine wp_store_row 26 (.tmp 16) (.tmp 114) rfl B16 (byteVals AL).toArray rfl rfl 26 _ (hR.row List.mem_cons_self) (size25 _ hal) (by rw [bvsz _ hal]; rfl) (all_byteVals _) ?_
            have hF := hR.put1 B16 26 [] (byteVals AL) HNE.out
            refine hK.out _ _ (hF.tail1) (fun _ => ?_)
            clear hK K
            (try simp only [Act.put, List.setIfInBounds_toArray, List.set_cons_zero, List.set_cons_succ, List.getElem_toArray, List.getElem_cons_zero, List.getElem_cons_succ])
            refine wpAnyH_done (by kernel_rfl) ?_ _
            go_wp2_with fail
            go_meet
            exact ⟨B16, rfl, Lib.hid hF⟩
        · go_simp
          have hR : St4 w ((V2.heap.size, 26, [Value.int .u8 0, Value.int .u8 0, Value.int .u8 0, Value.int .u8 0, Value.int .u8 0, Value.int .u8 0, Value.int .u8 0, Value.int .u8 0, Value.int .u8 0, Value.int .u8 0, Value.int .u8 0, Value.int .u8 0, Value.int .u8 0, Value.int .u8 0, Value.int .u8 0, Value.int .u8 0, Value.int .u8 0, Value.int .u8 0, Value.int .u8 0, Value.int .u8 0, Value.int .u8 0, Value.int .u8 0, Value.int .u8 0, Value.int .u8 0, Value.int .u8 0, Value.int .u8 0, Value.int .u8 0, Value.int .u8 0, Value.int .u8 0, Value.int .u8 0, Value.int .u8 0, Value.int .u8 0]) :: [(bQ, 26, byteVals XY), (b3, 30, Value.int .i64 3 :: byteVals AL), (b2, 30, Value.int .i64 2 :: byteVals XY), (b1, 30, Value.int .i64 1 :: byteVals X), (b0, 30, Value.int .i64 0 :: byteVals P), (bY, 26, byteVals Y), (w.heap.size, 26, byteVals X)]) [(.slice pa1 2 pc1, [P, XY])] (V2.alloc (.cells #[Value.int .u8 0, Value.int .u8 0, Value.int .u8 0, Value.int .u8 0, Value.int .u8 0, Value.int .u8 0, Value.int .u8 0, Value.int .u8 0, Value.int .u8 0, Value.int .u8 0, Value.int .u8 0, Value.int .u8 0, Value.int .u8 0, Value.int .u8 0, Value.int .u8 0, Value.int .u8 0, Value.int .u8 0, Value.int .u8 0, Value.int .u8 0, Value.int .u8 0, Value.int .u8 0, Value.int .u8 0, Value.int .u8 0, Value.int .u8 0, Value.int .u8 0, Value.int .u8 0, Value.int .u8 0, Value.int .u8 0, Value.int .u8 0, Value.int .u8 0, Value.int .u8 0, Value.int .u8 0] 26)) := hHeld.new 26 [Value.int .u8 0, Value.int .u8 0, Value.int .u8 0, Value.int .u8 0, Value.int .u8 0, Value.int .u8 0, Value.int .u8 0, Value.int .u8 0, Value.int .u8 0, Value.int .u8 0, Value.int .u8 0, Value.int .u8 0, Value.int .u8 0, Value.int .u8 0, Value.int .u8 0, Value.int .u8 0, Value.int .u8 0, Value.int .u8 0, Value.int .u8 0, Value.int .u8 0, Value.int .u8 0, Value.int .u8 0, Value.int .u8 0, Value.int .u8 0, Value.int .u8 0, Value.int .u8 0, Value.int .u8 0, Value.int .u8 0, Value.int .u8 0, Value.int .u8 0, Value.int .u8 0, Value.int .u8 0]
          have HNE : Hid (∀ x ∈ [(bQ, 26, byteVals XY), (b3, 30, Value.int .i64 3 :: byteVals AL), (b2, 30, Value.int .i64 2 :: byteVals XY), (b1, 30, Value.int .i64 1 :: byteVals X), (b0, 30, Value.int .i64 0 :: byteVals P), (bY, 26, byteVals Y), (w.heap.size, 26, byteVals X)], x.1 ≠ V2.heap.size) := Lib.hid (fun x hx => by have := hHeld.lt (B := x.1) (t := x.2.1) (cs := x.2.2) hx; omega)
          have h5 := hHeld.alloc (.cells #[Value.int .u8 0, Value.int .u8 0, Value.int .u8 0, Value.int .u8 0, Value.int .u8 0, Value.int .u8 0, Value.int .u8 0, Value.int .u8 0, Value.int .u8 0, Value.int .u8 0, Value.int .u8 0, Value.int .u8 0, Value.int .u8 0, Value.int .u8 0, Value.int .u8 0, Value.int .u8 0, Value.int .u8 0, Value.int .u8 0, Value.int .u8 0, Value.int .u8 0, Value.int .u8 0, Value.int .u8 0, Value.int .u8 0, Value.int .u8 0, Value.int .u8 0, Value.int .u8 0, Value.int .u8 0, Value.int .u8 0, Value.int .u8 0, Value.int .u8 0, Value.int .u8 0, Value.int .u8 0] 26)
          clear hHeld
          generalize V2.alloc (.cells #[Value.int .u8 0, Value.int .u8 0, Value.int .u8 0, Value.int .u8 0, Value.int .u8 0, Value.int .u8 0, Value.int .u8 0, Value.int .u8 0, Value.int .u8 0, Value.int .u8 0, Value.int .u8 0, Value.int .u8 0, Value.int .u8 0, Value.int .u8 0, Value.int .u8 0, Value.int .u8 0, Value.int .u8 0, Value.int .u8 0, Value.int .u8 0, Value.int .u8 0, Value.int .u8 0, Value.int .u8 0, Value.int .u8 0, Value.int .u8 0, Value.int .u8 0, Value.int .u8 0, Value.int .u8 0, Value.int .u8 0, Value.int .u8 0, Value.int .u8 0, Value.int .u8 0, Value.int .u8 0] 26) = V2b at *
          generalize V2.heap.size = B16 at *
          go_wp2_with fail
          refine hK.out _ _ (h5) (fun hHeld => ?_)
          clear hK K
          (try simp only [Act.put, List.setIfInBounds_toArray, List.set_cons_zero, List.set_cons_succ, List.getElem_toArray, List.getElem_cons_zero, List.getElem_cons_succ])
          refine wpAnyH_ready (rs := [4]) (by kernel_rfl) (by simp) ?_
          refine (AllReadyH.cons (o := _) rfl (fun K hK => ?_) AllReadyH.nil)
          · go_simp
            refine (pa XY XP AL HAL.out _ (HK.out.below hHeld.below) HXYD.out HXPD.out).mono ?_
            rintro e V3a ⟨rfl, hb⟩
            have h5 := hHeld.call hb
            replace hR := hR.call hb
            clear hb hHeld
            go_wp2_with fail
            refine hK.out _ _ (h5) (fun hHeld => ?_)
            clear hK K
            (try simp only [Act.put, List.setIfInBounds_toArray, List.set_cons_zero, List.set_cons_succ, List.getElem_toArray, List.getElem_cons_zero, List.getElem_cons_succ])
            refine wpAnyH_ready (rs := [6]) (by kernel_rfl) (by simp) ?_
            refine AllReadyH.cons (o := _) rfl (fun K hK => ?_) AllReadyH.nil
            rw [if_pos (show Region.wanted _ _ = true by rfl)]
            refine wp_store_row 26 (.tmp 16) (.tmp 114) rfl B16 (byteVals AL).toArray rfl rfl 26 _ (hR.row List.mem_cons_self) (size25 _ hal) (by rw [bvsz _ hal]; rfl) (all_byteVals _) ?_
            have hF := hR.put1 B16 26 [] (byteVals AL) HNE.out
            refine hK.out _ _ (hF.tail1) (fun _ => ?_)
            clear hK K
            (try simp only [Act.put, List.setIfInBounds_toArray, List.set_cons_zero, List.set_cons_succ, List.getElem_toArray, List.getElem_cons_zero, List.getElem_cons_succ])
            refine wpAnyH_done (by kernel_rfl) ?_ _
            go_wp2_with fail
            go_meet
            exact ⟨B16, rfl, Lib.hid hF⟩
      · go_simp
        have hR : St4 w ((V1.heap.size, 26, [Value.int .u8 0, Value.int .u8 0, Value.int .u8 0, Value.int .u8 0, Value.int .u8 0, Value.int .u8 0, Value.int .u8 0, Value.int .u8 0, Value.int .u8 0, Value.int .u8 0, Value.int .u8 0, Value.int .u8 0, Value.int .u8 0, Value.int .u8 0, Value.int .u8 0, Value.int .u8 0, Value.int .u8 0, Value.int .u8 0, Value.int .u8 0, Value.int .u8 0, Value.int .u8 0, Value.int .u8 0, Value.int .u8 0, Value.int .u8 0, Value.int .u8 0, Value.int .u8 0, Value.int .u8 0, Value.int .u8 0, Value.int .u8 0, Value.int .u8 0, Value.int .u8 0, Value.int .u8 0]) :: [(bQ, 26, byteVals XY), (b3, 30, Value.int .i64 3 :: byteVals AL), (b2, 30, Value.int .i64 2 :: byteVals XY), (b1, 30, Value.int .i64 1 :: byteVals X), (b0, 30, Value.int .i64 0 :: byteVals P), (bY, 26, byteVals Y), (w.heap.size, 26, byteVals X)]) [(.slice pa1 2 pc1, [P, XY])] (V1.alloc (.cells #[Value.int .u8 0, Value.int .u8 0, Value.int .u8 0, Value.int .u8 0, Value.int .u8 0, Value.int .u8 0, Value.int .u8 0, Value.int .u8 0, Value.int .u8 0, Value.int .u8 0, Value.int .u8 0, Value.int .u8 0, Value.int .u8 0, Value.int .u8 0, Value.int .u8 0, Value.int .u8 0, Value.int .u8 0, Value.int .u8 0, Value.int .u8 0, Value.int .u8 0, Value.int .u8 0, Value.int .u8 0, Value.int .u8 0, Value.int .u8 0, Value.int .u8 0, Value.int .u8 0, Value.int .u8 0, Value.int .u8 0, Value.int .u8 0, Value.int .u8 0, Value.int .u8 0, Value.int .u8 0] 26)) := hHeld.new 26 [Value.int .u8 0, Value.int .u8 0, Value.int .u8 0, Value.int .u8 0, Value.int .u8 0, Value.int .u8 0, Value.int .u8 0, Value.int .u8 0, Value.int .u8 0, Value.int .u8 0, Value.int .u8 0, Value.int .u8 0, Value.int .u8 0, Value.int .u8 0, Value.int .u8 0, Value.int .u8 0, Value.int .u8 0, Value.int .u8 0, Value.int .u8 0, Value.int .u8 0, Value.int .u8 0, Value.int .u8 0, Value.int .u8 0, Value.int .u8 0, Value.int .u8 0, Value.int .u8 0, Value.int .u8 0, Value.int .u8 0, Value.int .u8 0, Value.int .u8 0, Value.int .u8 0, Value.int .u8 0]
        have HNE : Hid (∀ x ∈ [(bQ, 26, byteVals XY), (b3, 30, Value.int .i64 3 :: byteVals AL), (b2, 30, Value.int .i64 2 :: byteVals XY), (b1, 30, Value.int .i64 1 :: byteVals X), (b0, 30, Value.int .i64 0 :: byteVals P), (bY, 26, byteVals Y), (w.heap.size, 26, byteVals X)], x.1 ≠ V1.heap.size) := Lib.hid (fun x hx => by have := hHeld.lt (B := x.1) (t := x.2.1) (cs := x.2.2) hx; omega)
        have h5 := hHeld.alloc (.cells #[Value.int .u8 0, Value.int .u8 0, Value.int .u8 0, Value.int .u8 0, Value.int .u8 0, Value.int .u8 0, Value.int .u8 0, Value.int .u8 0, Value.int .u8 0, Value.int .u8 0, Value.int .u8 0, Value.int .u8 0, Value.int .u8 0, Value.int .u8 0, Value.int .u8 0, Value.int .u8 0, Value.int .u8 0, Value.int .u8 0, Value.int .u8 0, Value.int .u8 0, Value.int .u8 0, Value.int .u8 0, Value.int .u8 0, Value.int .u8 0, Value.int .u8 0, Value.int .u8 0, Value.int .u8 0, Value.int .u8 0, Value.int .u8 0, Value.int .u8 0, Value.int .u8 0, Value.int .u8 0] 26)
        clear hHeld
        generalize V1.alloc (.cells #[Value.int .u8 0, Value.int .u8 0, Value.int .u8 0, Value.int .u8 0, Value.int .u8 0, Value.int .u8 0, Value.int .u8 0, Value.int .u8 0, Value.int .u8 0, Value.int .u8 0, Value.int .u8 0, Value.int .u8 0, Value.int .u8 0, Value.int .u8 0, Value.int .u8 0, Value.int .u8 0, Value.int .u8 0, Value.int .u8 0, Value.int .u8 0, Value.int .u8 0, Value.int .u8 0, Value.int .u8 0, Value.int .u8 0, Value.int .u8 0, Value.int .u8 0, Value.int .u8 0, Value.int .u8 0, Value.int .u8 0, Value.int .u8 0, Value.int .u8 0, Value.int .u8 0, Value.int .u8 0] 26) = V1b at *
        generalize V1.heap.size = B16 at *
        go_wp2_with fail
        refine hK.out _ _ (h5) (fun hHeld => ?_)
        clear hK K
        (try simp only [Act.put, List.setIfInBounds_toArray, List.set_cons_zero, List.set_cons_succ, List.getElem_toArray, List.getElem_cons_zero, List.getElem_cons_succ])
        refine wpAnyH_ready (rs := [3]) (by kernel_rfl) (by simp) ?_
        refine (AllReadyH.cons (o := _) rfl (fun K hK => ?_) AllReadyH.nil)
        · go_simp
          refine (pa X P XP HXP.out _ (HK.out.below hHeld.below) HXD.out HPD.out).mono ?_
          rintro e V2a ⟨rfl, hb⟩
          have h5 := hHeld.call hb
          replace hR := hR.call hb
          clear hb hHeld
          go_wp2_with fail
          refine hK.out _ _ (h5) (fun hHeld => ?_)
          clear hK K
          (try simp only [Act.put, List.setIfInBounds_toArray, List.set_cons_zero, List.set_cons_succ, List.getElem_toArray, List.getElem_cons_zero, List.getElem_cons_succ])
          refine wpAnyH_ready (rs := [4]) (by kernel_rfl) (by simp) ?_
          refine (AllReadyH.cons (o := _) rfl (fun K hK => ?_) AllReadyH.nil)
          · go_simp
            refine (pa XY XP AL HAL.out _ (HK.out.below hHeld.below) HXYD.out HXPD.out).mono ?_
            rintro e V3a ⟨rfl, hb⟩
            have h5 := hHeld.call hb
            replace hR := hR.call hb
            clear hb hHeld
            go_wp2_with fail
            refine hK.out _ _ (h5) (fun hHeld => ?_)
            clear hK K
            (try simp only [Act.put, List.setIfInBounds_toArray, List.set_cons_zero, List.set_cons_succ, List.getElem_toArray, List.getElem_cons_zero, List.getElem_cons_succ])
            refine wpAnyH_ready (rs := [6]) (by kernel_rfl) (by simp) ?_
            refine AllReadyH.cons (o := _) rfl (fun K hK => ?_) AllReadyH.nil
            rw [if_pos (show Region.wanted _ _ = true by rfl)]
            refine wp_store_row 26 (.tmp 16) (.tmp 114) rfl B16 (byteVals AL).toArray rfl rfl 26 _ (hR.row List.mem_cons_self) (size25 _ hal) (by rw [bvsz _ hal]; rfl) (all_byteVals _) ?_
            have hF := hR.put1 B16 26 [] (byteVals AL) HNE.out
            refine hK.out _ _ (hF.tail1) (fun _ => ?_)
            clear hK K
            (try simp only [Act.put, List.setIfInBounds_toArray, List.set_cons_zero, List.set_cons_succ, List.getElem_toArray, List.getElem_cons_zero, List.getElem_cons_succ])
            refine wpAnyH_done (by kernel_rfl) ?_ _
            go_wp2_with fail
            go_meet
            exact ⟨B16, rfl, Lib.hid hF⟩
    · go_simp
      have hR : St4 w ((V0.heap.size, 26, [Value.int .u8 0, Value.int .u8 0, Value.int .u8 0, Value.int .u8 0, Value.int .u8 0, Value.int .u8 0, Value.int .u8 0, Value.int .u8 0, Value.int .u8 0, Value.int .u8 0, Value.int .u8 0, Value.int .u8 0, Value.int .u8 0, Value.int .u8 0, Value.int .u8 0, Value.int .u8 0, Value.int .u8 0, Value.int .u8 0, Value.int .u8 0, Value.int .u8 0, Value.int .u8 0, Value.int .u8 0, Value.int .u8 0, Value.int .u8 0, Value.int .u8 0, Value.int .u8 0, Value.int .u8 0, Value.int .u8 0, Value.int .u8 0, Value.int .u8 0, Value.int .u8 0, Value.int .u8 0]) :: [(bQ, 26, byteVals XY), (b3, 30, Value.int .i64 3 :: byteVals AL), (b2, 30, Value.int .i64 2 :: byteVals XY), (b1, 30, Value.int .i64 1 :: byteVals X), (b0, 30, Value.int .i64 0 :: byteVals P), (bY, 26, byteVals Y), (w.heap.size, 26, byteVals X)]) [(.slice pa1 2 pc1, [P, XY])] (V0.alloc (.cells #[Value.int .u8 0, Value.int .u8 0, Value.int .u8 0, Value.int .u8 0, Value.int .u8 0, Value.int .u8 0, Value.int .u8 0, Value.int .u8 0, Value.int .u8 0, Value.int .u8 0, Value.int .u8 0, Value.int .u8 0, Value.int .u8 0, Value.int .u8 0, Value.int .u8 0, Value.int .u8 0, Value.int .u8 0, Value.int .u8 0, Value.int .u8 0, Value.int .u8 0, Value.int .u8 0, Value.int .u8 0, Value.int .u8 0, Value.int .u8 0, Value.int .u8 0, Value.int .u8 0, Value.int .u8 0, Value.int .u8 0, Value.int .u8 0, Value.int .u8 0, Value.int .u8 0, Value.int .u8 0] 26)) := hHeld.new 26 [Value.int .u8 0, Value.int .u8 0, Value.int .u8 0, Value.int .u8 0, Value.int .u8 0, Value.int .u8 0, Value.int .u8 0, Value.int .u8 0, Value.int .u8 0, Value.int .u8 0, Value.int .u8 0, Value.int .u8 0, Value.int .u8 0, Value.int .u8 0, Value.int .u8 0, Value.int .u8 0, Value.int .u8 0, Value.int .u8 0, Value.int .u8 0, Value.int .u8 0, Value.int .u8 0, Value.int .u8 0, Value.int .u8 0, Value.int .u8 0, Value.int .u8 0, Value.int .u8 0, Value.int .u8 0, Value.int .u8 0, Value.int .u8 0, Value.int .u8 0, Value.int .u8 0, Value.int .u8 0]
      have HNE : Hid (∀ x ∈ [(bQ, 26, byteVals XY), (b3, 30, Value.int .i64 3 :: byteVals AL), (b2, 30, Value.int .i64 2 :: byteVals XY), (b1, 30, Value.int .i64 1 :: byteVals X), (b0, 30, Value.int .i64 0 :: byteVals P), (bY, 26, byteVals Y), (w.heap.size, 26, byteVals X)], x.1 ≠ V0.heap.size) := Lib.hid (fun x hx => by have := hHeld.lt (B := x.1) (t := x.2.1) (cs := x.2.2) hx; omega)
      have h5 := hHeld.alloc (.cells #[Value.int .u8 0, Value.int .u8 0, Value.int .u8 0, Value.int .u8 0, Value.int .u8 0, Value.int .u8 0, Value.int .u8 0, Value.int .u8 0, Value.int .u8 0, Value.int .u8 0, Value.int .u8 0, Value.int .u8 0, Value.int .u8 0, Value.int .u8 0, Value.int .u8 0, Value.int .u8 0, Value.int .u8 0, Value.int .u8 0, Value.int .u8 0, Value.int .u8 0, Value.int .u8 0, Value.int .u8 0, Value.int .u8 0, Value.int .u8 0, Value.int .u8 0, Value.int .u8 0, Value.int .u8 0, Value.int .u8 0, Value.int .u8 0, Value.int .u8 0, Value.int .u8 0, Value.int .u8 0] 26)
      clear hHeld
      generalize V0.alloc (.cells #[Value.int .u8 0, Value.int .u8 0, Value.int .u8 0, Value.int .u8 0, Value.int .u8 0, Value.int .u8 0, Value.int .u8 0, Value.int .u8 0, Value.int .u8 0, Value.int .u8 0, Value.int .u8 0, Value.int .u8 0, Value.int .u8 0, Value.int .u8 0, Value.int .u8 0, Value.int .u8 0, Value.int .u8 0, Value.int .u8 0, Value.int .u8 0, Value.int .u8 0, Value.int .u8 0, Value.int .u8 0, Value.int .u8 0, Value.int .u8 0, Value.int .u8 0, Value.int .u8 0, Value.int .u8 0, Value.int .u8 0, Value.int .u8 0, Value.int .u8 0, Value.int .u8 0, Value.int .u8 0] 26) = V0b at *
      generalize V0.heap.size = B16 at *
      go_wp2_with fail
      refine hK.out _ _ (h5) (fun hHeld => ?_)
      clear hK K
      (try simp only [Act.put, List.setIfInBounds_toArray, List.set_cons_zero, List.set_cons_succ, List.getElem_toArray, List.getElem_cons_zero, List.getElem_cons_succ])
      refine wpAnyH_ready (rs := [2]) (by kernel_rfl) (by simp) ?_
      refine (AllReadyH.cons (o := _) rfl (fun K hK => ?_) AllReadyH.nil)
      · go_simp
        refine (pad0 P HP.out _ (HK.out.below hHeld.below)).mono ?_
        rintro e V1a ⟨rfl, hb⟩
        have h5 := hHeld.call hb
        replace hR := hR.call hb
        clear hb hHeld
        go_wp2_with fail
        refine hK.out _ _ (h5) (fun hHeld => ?_)
        clear hK K
        (try simp only [Act.put, List.setIfInBounds_toArray, List.set_cons_zero, List.set_cons_succ, List.getElem_toArray, List.getElem_cons_zero, List.getElem_cons_succ])
        refine wpAnyH_ready (rs := [3]) (by kernel_rfl) (by simp) ?_
        refine (AllReadyH.cons (o := _) rfl (fun K hK => ?_) AllReadyH.nil)
        · go_simp
          refine (pa X P XP HXP.out _ (HK.out.below hHeld.below) HXD.out HPD.out).mono ?_
          rintro e V2a ⟨rfl, hb⟩
          have h5 := hHeld.call hb
          replace hR := hR.call hb
          clear hb hHeld
          go_wp2_with fail
          refine hK.out _ _ (h5) (fun hHeld => ?_)
          clear hK K
          (try simp only [Act.put, List.setIfInBounds_toArray, List.set_cons_zero, List.set_cons_succ, List.getElem_toArray, List.getElem_cons_zero, List.getElem_cons_succ])
          refine wpAnyH_ready (rs := [4]) (by kernel_rfl) (by simp) ?_
          refine (AllReadyH.cons (o := _) rfl (fun K hK => ?_) AllReadyH.nil)
          · go_simp
            refine (pa XY XP AL HAL.out _ (HK.out.below hHeld.below) HXYD.out HXPD.out).mono ?_
            rintro e V3a ⟨rfl, hb⟩
            have h5 := hHeld.call hb
            replace hR := hR.call hb
            clear hb hHeld
            go_wp2_with fail
            refine hK.out _ _ (h5) (fun hHeld => ?_)
            clear hK K
            (try simp only [Act.put, List.setIfInBounds_toArray, List.set_cons_zero, List.set_cons_succ, List.getElem_toArray, List.getElem_cons_zero, List.getElem_cons_succ])
            refine wpAnyH_ready (rs := [6]) (by kernel_rfl) (by simp) ?_
            refine AllReadyH.cons (o := _) rfl (fun K hK => ?_) AllReadyH.nil
            rw [if_pos (show Region.wanted _ _ = true by rfl)]
            refine wp_store_row 26 (.tmp 16) (.tmp 114) rfl B16 (byteVals AL).toArray rfl rfl 26 _ (hR.row List.mem_cons_self) (size25 _ hal) (by rw [bvsz _ hal]; rfl) (all_byteVals _) ?_
            have hF := hR.put1 B16 26 [] (byteVals AL) HNE.out
            refine hK.out _ _ (hF.tail1) (fun _ => ?_)
            clear hK K
            (try simp only [Act.put, List.setIfInBounds_toArray, List.set_cons_zero, List.set_cons_succ, List.getElem_toArray, List.getElem_cons_zero, List.getElem_cons_succ])
            refine wpAnyH_done (by kernel_rfl) ?_ _
            go_wp2_with fail
            go_meet
            exact ⟨B16, rfl, Lib.hid hF⟩
  case rest =>
    obtain ⟨B16, rfl, HS⟩ := hcut
    go_upto_region 15 with fail
    go_cut [144] from 46 to 144 (fun s wx => s = .bool false ∧ Hid (St4 w ((B16, 26, byteVals AL) :: [(bQ, 26, byteVals XY), (b3, 30, Value.int .i64 3 :: byteVals AL), (b2, 30, Value.int .i64 2 :: byteVals XY), (b1, 30, Value.int .i64 1 :: byteVals X), (b0, 30, Value.int .i64 0 :: byteVals P), (bY, 26, byteVals Y), (w.heap.size, 26, byteVals X)]) [] wx))
    case first =>
      have hf0 := fold_row (.int .i64 0) P hpl
      have e0 := eqCom 0 P hpl
      have hq0 : (byteVals P).length = 32 := by rw [byteVals_length, hpl]
      have hf1 := fold_row (.int .i64 1) X hxl
      have e1 := eqCom 1 X hxl
      have hq1 : (byteVals X).length = 32 := by rw [byteVals_length, hxl]
      have hf2 := fold_row (.int .i64 2) XY hql
      have e2 := eqCom 2 XY hql
      have hq2 : (byteVals XY).length = 32 := by rw [byteVals_length, hql]
      have hf3 := fold_row (.int .i64 3) AL hal
      have e3 := eqCom 3 AL hal
      have hq3 : (byteVals AL).length = 32 := by rw [byteVals_length, hal]
      have hgt : Tryd.prog.eqGuardType Tryd.prog.depth 30 = false := by kernel_rfl
      refine wp_region_held_drew (S := fun w' => St4 w ((B16, 26, byteVals AL) :: [(bQ, 26, byteVals XY), (b3, 30, Value.int .i64 3 :: byteVals AL), (b2, 30, Value.int .i64 2 :: byteVals XY), (b1, 30, Value.int .i64 1 :: byteVals X), (b0, 30, Value.int .i64 0 :: byteVals P), (bY, 26, byteVals Y), (w.heap.size, 26, byteVals X)]) [(.slice pa1 2 pc1, [P, XY])] w') (by kernel_rfl) HS.out.drew (fun hHeld => ?_)
      change wpAnyH _ _ _ _ _ 30 #[false, false, false, false, false, false, false, false, false, false, false, false, false, false, false, false, false, false, false, false, false, false, false, false, false, false, false, false, false, false] _ _
      generalize wc.drew = V0 at *
      refine wpAnyH_take (i := 0) (oi := _) (v := .agg (Value.int .i64 0 :: byteVals P).toArray) rfl (by kernel_rfl) (by kernel_rfl) (by kernel_rfl) (fun _ _ _ h => h) (yieldsIf_load_mid (by rfl) 30 _ rfl b0 0 rfl (Value.int .i64 0 :: byteVals P) _ (fun wx hSw => hSw.range (by (with_reducible (repeat (first | exact List.mem_cons_self | refine List.mem_cons_of_mem _ ?_))))) Tryd.underlying30 rfl (s30 _ _ hpl)) (by assumption) ?_
      (try simp only [Act.put, List.setIfInBounds_toArray, List.set_cons_zero, List.set_cons_succ, List.getElem_toArray, List.getElem_cons_zero, List.getElem_cons_succ])
      refine wpAnyH_ready (rs := [1]) (by kernel_rfl) (by simp) ?_
      refine AllReadyH.cons (o := _) rfl (fun K hK => ?_) AllReadyH.nil
      go_simp
      refine (pad0 P HP.out _ (HK.out.below hHeld.below)).mono ?_
      rintro e V1 ⟨rfl, hb⟩
      have h5 := hHeld.call hb
      clear hb hHeld
      go_wp2_with fail
      refine hK.out _ _ (h5) (fun hHeld => ?_)
      clear hK K
      (try simp only [Act.put, List.setIfInBounds_toArray, List.set_cons_zero, List.set_cons_succ, List.getElem_toArray, List.getElem_cons_zero, List.getElem_cons_succ])
      refine wpAnyH_take (i := 2) (oi := _) (v := .agg (Value.int .i64 0 :: byteVals P).toArray) rfl (by kernel_rfl) (by kernel_rfl) (by kernel_rfl) (fun _ _ _ h => h) (Or.inl ⟨by rfl, fun wx hSw => ?_⟩) (by assumption) ?_
      · go_simp
        try (rw [IntKind.wrap_i64]; omega)
      (try simp only [Act.put, List.setIfInBounds_toArray, List.set_cons_zero, List.set_cons_succ, List.getElem_toArray, List.getElem_cons_zero, List.getElem_cons_succ])
      refine wpAnyH_take (i := 3) (oi := _) (v := .bool false) rfl (by kernel_rfl) (by kernel_rfl) (by kernel_rfl) (fun _ _ _ h => h) (Or.inl ⟨by rfl, fun wx hSw => ?_⟩) (by assumption) ?_
      · go_simp
        try (rw [IntKind.wrap_i64]; omega)
      (try simp only [Act.put, List.setIfInBounds_toArray, List.set_cons_zero, List.set_cons_succ, List.getElem_toArray, List.getElem_cons_zero, List.getElem_cons_succ])
      refine wpAnyH_take (i := 4) (oi := _) (v := .bool false) rfl (by kernel_rfl) (by kernel_rfl) (by kernel_rfl) (fun _ _ _ h => h) (Or.inl ⟨by rfl, fun wx hSw => ?_⟩) (by assumption) ?_
      · go_simp
        try (rw [IntKind.wrap_i64]; omega)
      (try simp only [Act.put, List.setIfInBounds_toArray, List.set_cons_zero, List.set_cons_succ, List.getElem_toArray, List.getElem_cons_zero, List.getElem_cons_succ])
      refine wpAnyH_take (i := 5) (oi := _) (v := .agg (Value.int .i64 1 :: byteVals X).toArray) rfl (by kernel_rfl) (by kernel_rfl) (by kernel_rfl) (fun _ _ _ h => h) (yieldsIf_load_mid (by rfl) 30 _ rfl b1 0 rfl (Value.int .i64 1 :: byteVals X) _ (fun wx hSw => hSw.range (by (with_reducible (repeat (first | exact List.mem_cons_self | refine List.mem_cons_of_mem _ ?_))))) Tryd.underlying30 rfl (s30 _ _ hxl)) (by assumption) ?_
      (try simp only [Act.put, List.setIfInBounds_toArray, List.set_cons_zero, List.set_cons_succ, List.getElem_toArray, List.getElem_cons_zero, List.getElem_cons_succ])
      refine wpAnyH_take (i := 6) (oi := _) (v := .agg (byteVals X).toArray) rfl (by kernel_rfl) (by kernel_rfl) (by kernel_rfl) (fun _ _ _ h => h) (yieldsIf_load_mid (by rfl) 26 _ rfl w.heap.size 0 rfl (byteVals X) _ (fun wx hSw => hSw.range (by (with_reducible (repeat (first | exact List.mem_cons_self | refine List.mem_cons_of_mem _ ?_))))) Tryd.underlying26 rfl (size26 _ hxl)) (by assumption) ?_
      (try simp only [Act.put, List.setIfInBounds_toArray, List.set_cons_zero, List.set_cons_succ, List.getElem_toArray, List.getElem_cons_zero, List.getElem_cons_succ])
      refine wpAnyH_take (i := 7) (oi := _) (v := .agg (Value.int .i64 1 :: byteVals X).toArray) rfl (by kernel_rfl) (by kernel_rfl) (by kernel_rfl) (fun _ _ _ h => h) (Or.inl ⟨by rfl, fun wx hSw => ?_⟩) (by assumption) ?_
      · go_simp
        try (rw [IntKind.wrap_i64]; omega)
      (try simp only [Act.put, List.setIfInBounds_toArray, List.set_cons_zero, List.set_cons_succ, List.getElem_toArray, List.getElem_cons_zero, List.getElem_cons_succ])
      refine wpAnyH_take (i := 8) (oi := _) (v := .bool false) rfl (by kernel_rfl) (by kernel_rfl) (by kernel_rfl) (fun _ _ _ h => h) (Or.inl ⟨by rfl, fun wx hSw => ?_⟩) (by assumption) ?_
      · go_simp
        try (rw [IntKind.wrap_i64]; omega)
      (try simp only [Act.put, List.setIfInBounds_toArray, List.set_cons_zero, List.set_cons_succ, List.getElem_toArray, List.getElem_cons_zero, List.getElem_cons_succ])
      refine wpAnyH_take (i := 9) (oi := _) (v := .bool false) rfl (by kernel_rfl) (by kernel_rfl) (by kernel_rfl) (fun _ _ _ h => h) (Or.inl ⟨by rfl, fun wx hSw => ?_⟩) (by assumption) ?_
      · go_simp
        try (rw [IntKind.wrap_i64]; omega)
      (try simp only [Act.put, List.setIfInBounds_toArray, List.set_cons_zero, List.set_cons_succ, List.getElem_toArray, List.getElem_cons_zero, List.getElem_cons_succ])
      refine wpAnyH_take (i := 10) (oi := _) (v := .bool false) rfl (by kernel_rfl) (by kernel_rfl) (by kernel_rfl) (fun _ _ _ h => h) (Or.inl ⟨by rfl, fun wx hSw => ?_⟩) (by assumption) ?_
      · go_simp
        try (rw [IntKind.wrap_i64]; omega)
      (try simp only [Act.put, List.setIfInBounds_toArray, List.set_cons_zero, List.set_cons_succ, List.getElem_toArray, List.getElem_cons_zero, List.getElem_cons_succ])
      refine wpAnyH_take (i := 11) (oi := _) (v := .agg (Value.int .i64 2 :: byteVals XY).toArray) rfl (by kernel_rfl) (by kernel_rfl) (by kernel_rfl) (fun _ _ _ h => h) (yieldsIf_load_mid (by rfl) 30 _ rfl b2 0 rfl (Value.int .i64 2 :: byteVals XY) _ (fun wx hSw => hSw.range (by (with_reducible (repeat (first | exact List.mem_cons_self | refine List.mem_cons_of_mem _ ?_))))) Tryd.underlying30 rfl (s30 _ _ hql)) (by assumption) ?_
      (try simp only [Act.put, List.setIfInBounds_toArray, List.set_cons_zero, List.set_cons_succ, List.getElem_toArray, List.getElem_cons_zero, List.getElem_cons_succ])
      refine wpAnyH_take (i := 12) (oi := _) (v := .agg (byteVals XY).toArray) rfl (by kernel_rfl) (by kernel_rfl) (by kernel_rfl) (fun _ _ _ h => h) (yieldsIf_load_mid (by rfl) 26 _ rfl bQ 0 rfl (byteVals XY) _ (fun wx hSw => hSw.range (by (with_reducible (repeat (first | exact List.mem_cons_self | refine List.mem_cons_of_mem _ ?_))))) Tryd.underlying26 rfl (size26 _ hql)) (by assumption) ?_
      (try simp only [Act.put, List.setIfInBounds_toArray, List.set_cons_zero, List.set_cons_succ, List.getElem_toArray, List.getElem_cons_zero, List.getElem_cons_succ])
      refine wpAnyH_take (i := 13) (oi := _) (v := .agg (Value.int .i64 2 :: byteVals XY).toArray) rfl (by kernel_rfl) (by kernel_rfl) (by kernel_rfl) (fun _ _ _ h => h) (Or.inl ⟨by rfl, fun wx hSw => ?_⟩) (by assumption) ?_
      · go_simp
        try (rw [IntKind.wrap_i64]; omega)
      (try simp only [Act.put, List.setIfInBounds_toArray, List.set_cons_zero, List.set_cons_succ, List.getElem_toArray, List.getElem_cons_zero, List.getElem_cons_succ])
      refine wpAnyH_take (i := 14) (oi := _) (v := .bool false) rfl (by kernel_rfl) (by kernel_rfl) (by kernel_rfl) (fun _ _ _ h => h) (Or.inl ⟨by rfl, fun wx hSw => ?_⟩) (by assumption) ?_
      · go_simp
        try (rw [IntKind.wrap_i64]; omega)
      (try simp only [Act.put, List.setIfInBounds_toArray, List.set_cons_zero, List.set_cons_succ, List.getElem_toArray, List.getElem_cons_zero, List.getElem_cons_succ])
      refine wpAnyH_take (i := 15) (oi := _) (v := .bool false) rfl (by kernel_rfl) (by kernel_rfl) (by kernel_rfl) (fun _ _ _ h => h) (Or.inl ⟨by rfl, fun wx hSw => ?_⟩) (by assumption) ?_
      · go_simp
        try (rw [IntKind.wrap_i64]; omega)
      (try simp only [Act.put, List.setIfInBounds_toArray, List.set_cons_zero, List.set_cons_succ, List.getElem_toArray, List.getElem_cons_zero, List.getElem_cons_succ])
      refine wpAnyH_take (i := 16) (oi := _) (v := .bool false) rfl (by kernel_rfl) (by kernel_rfl) (by kernel_rfl) (fun _ _ _ h => h) (Or.inl ⟨by rfl, fun wx hSw => ?_⟩) (by assumption) ?_
      · go_simp
        try (rw [IntKind.wrap_i64]; omega)
      (try simp only [Act.put, List.setIfInBounds_toArray, List.set_cons_zero, List.set_cons_succ, List.getElem_toArray, List.getElem_cons_zero, List.getElem_cons_succ])
      refine wpAnyH_take (i := 17) (oi := _) (v := .agg (Value.int .i64 3 :: byteVals AL).toArray) rfl (by kernel_rfl) (by kernel_rfl) (by kernel_rfl) (fun _ _ _ h => h) (yieldsIf_load_mid (by rfl) 30 _ rfl b3 0 rfl (Value.int .i64 3 :: byteVals AL) _ (fun wx hSw => hSw.range (by (with_reducible (repeat (first | exact List.mem_cons_self | refine List.mem_cons_of_mem _ ?_))))) Tryd.underlying30 rfl (s30 _ _ hal)) (by assumption) ?_
      (try simp only [Act.put, List.setIfInBounds_toArray, List.set_cons_zero, List.set_cons_succ, List.getElem_toArray, List.getElem_cons_zero, List.getElem_cons_succ])
      refine wpAnyH_take (i := 18) (oi := _) (v := .agg (byteVals AL).toArray) rfl (by kernel_rfl) (by kernel_rfl) (by kernel_rfl) (fun _ _ _ h => h) (yieldsIf_load_mid (by rfl) 26 _ rfl B16 0 rfl (byteVals AL) _ (fun wx hSw => hSw.range (by (with_reducible (repeat (first | exact List.mem_cons_self | refine List.mem_cons_of_mem _ ?_))))) Tryd.underlying26 rfl (size26 _ hal)) (by assumption) ?_
      (try simp only [Act.put, List.setIfInBounds_toArray, List.set_cons_zero, List.set_cons_succ, List.getElem_toArray, List.getElem_cons_zero, List.getElem_cons_succ])
      refine wpAnyH_take (i := 19) (oi := _) (v := .agg (Value.int .i64 3 :: byteVals AL).toArray) rfl (by kernel_rfl) (by kernel_rfl) (by kernel_rfl) (fun _ _ _ h => h) (Or.inl ⟨by rfl, fun wx hSw => ?_⟩) (by assumption) ?_
      · go_simp
        try (rw [IntKind.wrap_i64]; omega)
      (try simp only [Act.put, List.setIfInBounds_toArray, List.set_cons_zero, List.set_cons_succ, List.getElem_toArray, List.getElem_cons_zero, List.getElem_cons_succ])
      refine wpAnyH_take (i := 20) (oi := _) (v := .bool false) rfl (by kernel_rfl) (by kernel_rfl) (by kernel_rfl) (fun _ _ _ h => h) (Or.inl ⟨by rfl, fun wx hSw => ?_⟩) (by assumption) ?_
      · go_simp
        try (rw [IntKind.wrap_i64]; omega)
      (try simp only [Act.put, List.setIfInBounds_toArray, List.set_cons_zero, List.set_cons_succ, List.getElem_toArray, List.getElem_cons_zero, List.getElem_cons_succ])
      refine wpAnyH_take (i := 21) (oi := _) (v := .bool false) rfl (by kernel_rfl) (by kernel_rfl) (by kernel_rfl) (fun _ _ _ h => h) (Or.inl ⟨by rfl, fun wx hSw => ?_⟩) (by assumption) ?_
      · go_simp
        try (rw [IntKind.wrap_i64]; omega)
      (try simp only [Act.put, List.setIfInBounds_toArray, List.set_cons_zero, List.set_cons_succ, List.getElem_toArray, List.getElem_cons_zero, List.getElem_cons_succ])
      refine wpAnyH_take (i := 22) (oi := _) (v := .bool false) rfl (by kernel_rfl) (by kernel_rfl) (by kernel_rfl) (fun _ _ _ h => h) (Or.inl ⟨by rfl, fun wx hSw => ?_⟩) (by assumption) ?_
      · go_simp
        try (rw [IntKind.wrap_i64]; omega)
      (try simp only [Act.put, List.setIfInBounds_toArray, List.set_cons_zero, List.set_cons_succ, List.getElem_toArray, List.getElem_cons_zero, List.getElem_cons_succ])
      refine wpAnyH_take (i := 23) (oi := _) (v := .slice pa1 2 pc1) rfl (by kernel_rfl) (by kernel_rfl) (by kernel_rfl) (fun _ _ _ h => h) (Or.inl ⟨by rfl, fun wx hSw => ?_⟩) (by assumption) ?_
      · go_simp
        try (rw [IntKind.wrap_i64]; omega)
      (try simp only [Act.put, List.setIfInBounds_toArray, List.set_cons_zero, List.set_cons_succ, List.getElem_toArray, List.getElem_cons_zero, List.getElem_cons_succ])
      refine wpAnyH_take (i := 25) (oi := _) (v := .agg (byteVals XY).toArray) rfl (by kernel_rfl) (by kernel_rfl) (by kernel_rfl) (fun _ _ _ h => h) (yieldsIf_load_mid (by rfl) 26 _ rfl bQ 0 rfl (byteVals XY) _ (fun wx hSw => hSw.range (by (with_reducible (repeat (first | exact List.mem_cons_self | refine List.mem_cons_of_mem _ ?_))))) Tryd.underlying26 rfl (size26 _ hql)) (by assumption) ?_
      (try simp only [Act.put, List.setIfInBounds_toArray, List.set_cons_zero, List.set_cons_succ, List.getElem_toArray, List.getElem_cons_zero, List.getElem_cons_succ])
      refine wpAnyH_ready (rs := [24]) (by kernel_rfl) (by simp) ?_
      refine AllReadyH.cons (o := _) rfl (fun K hK => ?_) AllReadyH.nil
      go_simp
      refine (pad0 P HP.out _ (HK.out.below hHeld.below)).mono ?_
      rintro e V2 ⟨rfl, hb⟩
      have h5 := hHeld.call hb
      clear hb hHeld
      go_wp2_with fail
      refine hK.out _ _ (h5) (fun hHeld => ?_)
      clear hK K
      (try simp only [Act.put, List.setIfInBounds_toArray, List.set_cons_zero, List.set_cons_succ, List.getElem_toArray, List.getElem_cons_zero, List.getElem_cons_succ])
      refine wpAnyH_ready (rs := [26]) (by kernel_rfl) (by simp) ?_
      refine AllReadyH.cons (o := _) rfl (fun K hK => ?_) AllReadyH.nil
      rw [if_pos (show Region.wanted _ _ = true by rfl)]
      refine wp_slice [P, XY] 2 [(0, .tmp 139), (1, .tmp 140)] rfl rfl (by decide) (fun x hx => (HDPXY.out x hx).1) rfl ?_
      have hR := hHeld.slice [P, XY] 2 rfl (by simp) HDPXY.out 26 _ rfl
      have h5 := hHeld.alloc (.cells (List.map byteVals [P, XY]).flatten.toArray 26)
      clear hHeld
      generalize V2.alloc (.cells (List.map byteVals [P, XY]).flatten.toArray 26) = V3 at *
      refine hK.out _ _ (h5) (fun hHeld => ?_)
      clear hK K
      (try simp only [Act.put, List.setIfInBounds_toArray, List.set_cons_zero, List.set_cons_succ, List.getElem_toArray, List.getElem_cons_zero, List.getElem_cons_succ])
      refine wpAnyH_ready (rs := [27]) (by kernel_rfl) (by simp) ?_
      refine AllReadyH.cons (o := _) rfl (fun K hK => ?_) AllReadyH.nil
      go_simp
      refine (s2 P XY _ _ _ _ (hR.dl (by (with_reducible (repeat (first | exact List.mem_cons_self | refine List.mem_cons_of_mem _ ?_))))) (hR.dl (by (with_reducible (repeat (first | exact List.mem_cons_self | refine List.mem_cons_of_mem _ ?_)))))).mono ?_
      rintro e V4 ⟨rfl, hb⟩
      replace h5 := hHeld.call hb
      clear hb hHeld
      go_wp2_with fail
      refine hK.out _ _ (h5) (fun hHeld => ?_)
      clear hK K
      (try simp only [Act.put, List.setIfInBounds_toArray, List.set_cons_zero, List.set_cons_succ, List.getElem_toArray, List.getElem_cons_zero, List.getElem_cons_succ])
      refine wpAnyH_take (i := 28) (oi := _) (v := .bool false) rfl (by kernel_rfl) (by kernel_rfl) (by kernel_rfl) (fun _ _ _ h => h) (Or.inl ⟨by rfl, fun wx hSw => ?_⟩) (by assumption) ?_
      · go_simp
        try (rw [IntKind.wrap_i64]; omega)
      (try simp only [Act.put, List.setIfInBounds_toArray, List.set_cons_zero, List.set_cons_succ, List.getElem_toArray, List.getElem_cons_zero, List.getElem_cons_succ])
      refine wpAnyH_take (i := 29) (oi := _) (v := .bool false) rfl (by kernel_rfl) (by kernel_rfl) (by kernel_rfl) (fun _ _ _ h => h) (Or.inl ⟨by rfl, fun wx hSw => ?_⟩) (by assumption) ?_
      · go_simp
        try (rw [IntKind.wrap_i64]; omega)
      (try simp only [Act.put, List.setIfInBounds_toArray, List.set_cons_zero, List.set_cons_succ, List.getElem_toArray, List.getElem_cons_zero, List.getElem_cons_succ])
      refine wpAnyH_done (by kernel_rfl) ?_ _
      go_wp2_with fail
      go_meet
      exact ⟨rfl, Lib.hid h5.bare⟩
    case rest =>
      obtain ⟨rfl, HS⟩ := hcut
      go_upto_region 17 with fail
      go_cut [17] from 46 to 170 (fun s wx => s = .bool true ∧ Hid (St4 w ((B16, 26, byteVals AL) :: [(bQ, 26, byteVals XY), (b3, 30, Value.int .i64 3 :: byteVals AL), (b2, 30, Value.int .i64 2 :: byteVals XY), (b1, 30, Value.int .i64 1 :: byteVals X), (b0, 30, Value.int .i64 0 :: byteVals P), (bY, 26, byteVals Y), (w.heap.size, 26, byteVals X)]) [] wx))
      case first =>
        refine wp_region_held_drew (S := fun w' => St4 w ((B16, 26, byteVals AL) :: [(bQ, 26, byteVals XY), (b3, 30, Value.int .i64 3 :: byteVals AL), (b2, 30, Value.int .i64 2 :: byteVals XY), (b1, 30, Value.int .i64 1 :: byteVals X), (b0, 30, Value.int .i64 0 :: byteVals P), (bY, 26, byteVals Y), (w.heap.size, 26, byteVals X)]) [] w') (by kernel_rfl) HS.out.drew (fun hHeld => ?_)
        change wpAnyH _ _ _ _ _ 27 #[false, false, false, false, false, false, false, false, false, false, false, false, false, false, false, false, false, false, false, false, false, false, false, false, false, false, false] _ _
        generalize wc.drew = V0 at *
        have hR := hHeld
        refine wpAnyH_take (i := 0) (oi := _) (v := .agg (byteVals X).toArray) rfl (by kernel_rfl) (by kernel_rfl) (by kernel_rfl) (fun _ _ _ h => h) (yieldsIf_load_mid (by rfl) 26 _ rfl w.heap.size 0 rfl (byteVals X) _ (fun wx hSw => hSw.range (by (with_reducible (repeat (first | exact List.mem_cons_self | refine List.mem_cons_of_mem _ ?_))))) Tryd.underlying26 rfl (size26 _ hxl)) (by assumption) ?_
        (try simp only [Act.put, List.setIfInBounds_toArray, List.set_cons_zero, List.set_cons_succ, List.getElem_toArray, List.getElem_cons_zero, List.getElem_cons_succ])
        refine wpAnyH_take (i := 1) (oi := _) (v := .agg (byteVals Y).toArray) rfl (by kernel_rfl) (by kernel_rfl) (by kernel_rfl) (fun _ _ _ h => h) (yieldsIf_load_mid (by rfl) 26 _ rfl bY 0 rfl (byteVals Y) _ (fun wx hSw => hSw.range (by (with_reducible (repeat (first | exact List.mem_cons_self | refine List.mem_cons_of_mem _ ?_))))) Tryd.underlying26 rfl (size26 _ hyl)) (by assumption) ?_
        (try simp only [Act.put, List.setIfInBounds_toArray, List.set_cons_zero, List.set_cons_succ, List.getElem_toArray, List.getElem_cons_zero, List.getElem_cons_succ])
        refine wpAnyH_take (i := 3) (oi := _) (v := .agg (byteVals X).toArray) rfl (by kernel_rfl) (by kernel_rfl) (by kernel_rfl) (fun _ _ _ h => h) (yieldsIf_load_mid (by rfl) 26 _ rfl w.heap.size 0 rfl (byteVals X) _ (fun wx hSw => hSw.range (by (with_reducible (repeat (first | exact List.mem_cons_self | refine List.mem_cons_of_mem _ ?_))))) Tryd.underlying26 rfl (size26 _ hxl)) (by assumption) ?_
        (try simp only [Act.put, List.setIfInBounds_toArray, List.set_cons_zero, List.set_cons_succ, List.getElem_toArray, List.getElem_cons_zero, List.getElem_cons_succ])
        refine wpAnyH_ready (rs := [2, 4]) (by kernel_rfl) (by simp) ?_
        refine (AllReadyH.cons (o := _) rfl (fun K hK => ?_) (AllReadyH.cons (o := _) rfl (fun K hK => ?_) AllReadyH.nil))
        · rw [if_pos (show Region.wanted _ _ = true by rfl)]
          refine wp_slice [X, Y] 2 [(0, .tmp 145), (1, .tmp 146)] rfl rfl (by decide) (fun x hx => (HDXY.out x hx).1) rfl ?_
          replace hR := hR.slice [X, Y] 2 rfl (by simp) HDXY.out 26 _ rfl
          generalize V0.alloc (.cells (List.map byteVals [X, Y]).flatten.toArray 26) = V0a at *
          generalize V0.heap.size = ga at *
          refine hK.out _ _ hR.bare (fun hHeld => ?_)
          clear hK K
          (try simp only [Act.put, List.setIfInBounds_toArray, List.set_cons_zero, List.set_cons_succ, List.getElem_toArray, List.getElem_cons_zero, List.getElem_cons_succ])
          refine wpAnyH_ready (rs := [4]) (by kernel_rfl) (by simp) ?_
          refine (AllReadyH.cons (o := _) rfl (fun K hK => ?_) AllReadyH.nil)
          · rw [if_pos (show Region.wanted _ _ = true by rfl)]
            refine wp_slice [X] 1 [(0, .tmp 148)] rfl rfl (by decide) (fun x hx => (HDX.out x hx).1) rfl ?_
            replace hR := hR.slice [X] 1 rfl (by simp) HDX.out 26 _ rfl
            generalize V0a.alloc (.cells (List.map byteVals [X]).flatten.toArray 26) = V0ab at *
            generalize V0a.heap.size = gb at *
            refine hK.out _ _ hR.bare (fun hHeld => ?_)
            clear hK K
            (try simp only [Act.put, List.setIfInBounds_toArray, List.set_cons_zero, List.set_cons_succ, List.getElem_toArray, List.getElem_cons_zero, List.getElem_cons_succ])
            refine wpAnyH_ready (rs := [5]) (by kernel_rfl) (by simp) ?_
            refine (AllReadyH.cons (o := _) rfl (fun K hK => ?_) AllReadyH.nil)
            · go_simp
              refine (f1 X Y P HP.out HYP.out _ _ _ (HK.out.below hR.below) (hR.dl (by (with_reducible (repeat (first | exact List.mem_cons_self | refine List.mem_cons_of_mem _ ?_))))) (hR.dl (by (with_reducible (repeat (first | exact List.mem_cons_self | refine List.mem_cons_of_mem _ ?_)))))).mono ?_
              rintro e Vc ⟨rfl, hb⟩
              replace hR := hR.call hb
              clear hb
              go_wp2_with fail
              refine hK.out _ _ (hR.bare) (fun hHeld => ?_)
              clear hK K
              (try simp only [Act.put, List.setIfInBounds_toArray, List.set_cons_zero, List.set_cons_succ, List.getElem_toArray, List.getElem_cons_zero, List.getElem_cons_succ])
              refine wpAnyH_take (i := 6) (oi := _) (v := .bool true) rfl (by kernel_rfl) (by kernel_rfl) (by kernel_rfl) (fun _ _ _ h => h) (Or.inl ⟨by rfl, fun wx hSw => ?_⟩) (by assumption) ?_
              · go_simp
                try (rw [IntKind.wrap_i64]; omega)
              (try simp only [Act.put, List.setIfInBounds_toArray, List.set_cons_zero, List.set_cons_succ, List.getElem_toArray, List.getElem_cons_zero, List.getElem_cons_succ])
              refine wpAnyH_take (i := 7) (oi := _) (v := .bool true) rfl (by kernel_rfl) (by kernel_rfl) (by kernel_rfl) (fun _ _ _ h => h) (Or.inl ⟨by rfl, fun wx hSw => ?_⟩) (by assumption) ?_
              · go_simp
                try (rw [IntKind.wrap_i64]; omega)
              (try simp only [Act.put, List.setIfInBounds_toArray, List.set_cons_zero, List.set_cons_succ, List.getElem_toArray, List.getElem_cons_zero, List.getElem_cons_succ])
              refine wpAnyH_take (i := 8) (oi := _) (v := .agg (byteVals X).toArray) rfl (by kernel_rfl) (by kernel_rfl) (by kernel_rfl) (fun _ _ _ h => h) (yieldsIf_load_mid (by rfl) 26 _ rfl w.heap.size 0 rfl (byteVals X) _ (fun wx hSw => hSw.range (by (with_reducible (repeat (first | exact List.mem_cons_self | refine List.mem_cons_of_mem _ ?_))))) Tryd.underlying26 rfl (size26 _ hxl)) (by assumption) ?_
              (try simp only [Act.put, List.setIfInBounds_toArray, List.set_cons_zero, List.set_cons_succ, List.getElem_toArray, List.getElem_cons_zero, List.getElem_cons_succ])
              refine wpAnyH_take (i := 10) (oi := _) (v := .agg (byteVals X).toArray) rfl (by kernel_rfl) (by kernel_rfl) (by kernel_rfl) (fun _ _ _ h => h) (yieldsIf_load_mid (by rfl) 26 _ rfl w.heap.size 0 rfl (byteVals X) _ (fun wx hSw => hSw.range (by (with_reducible (repeat (first | exact List.mem_cons_self | refine List.mem_cons_of_mem _ ?_))))) Tryd.underlying26 rfl (size26 _ hxl)) (by assumption) ?_
              (try simp only [Act.put, List.setIfInBounds_toArray, List.set_cons_zero, List.set_cons_succ, List.getElem_toArray, List.getElem_cons_zero, List.getElem_cons_succ])
              refine wpAnyH_ready (rs := [9, 11]) (by kernel_rfl) (by simp) ?_
              refine (AllReadyH.cons (o := _) rfl (fun K hK => ?_) (AllReadyH.cons (o := _) rfl (fun K hK => ?_) AllReadyH.nil))
              · rw [if_pos (show Region.wanted _ _ = true by rfl)]
                refine wp_slice [X] 1 [(0, .tmp 153)] rfl rfl (by decide) (fun x hx => (HDX.out x hx).1) rfl ?_
                replace hR := hR.slice [X] 1 rfl (by simp) HDX.out 26 _ rfl
                generalize Vc.alloc (.cells (List.map byteVals [X]).flatten.toArray 26) = Vcr at *
                generalize Vc.heap.size = gr at *
                refine hK.out _ _ hR.bare (fun hHeld => ?_)
                clear hK K
                (try simp only [Act.put, List.setIfInBounds_toArray, List.set_cons_zero, List.set_cons_succ, List.getElem_toArray, List.getElem_cons_zero, List.getElem_cons_succ])
                refine wpAnyH_ready (rs := [11]) (by kernel_rfl) (by simp) ?_
                refine (AllReadyH.cons (o := _) rfl (fun K hK => ?_) AllReadyH.nil)
                · go_simp
                  refine (pad0 P HP.out _ (HK.out.below hR.below)).mono ?_
                  rintro e Vpa ⟨rfl, hb⟩
                  replace hR := hR.call hb
                  clear hb
                  go_wp2_with fail
                  refine hK.out _ _ (hR.bare) (fun hHeld => ?_)
                  clear hK K
                  (try simp only [Act.put, List.setIfInBounds_toArray, List.set_cons_zero, List.set_cons_succ, List.getElem_toArray, List.getElem_cons_zero, List.getElem_cons_succ])
                  refine wpAnyH_ready (rs := [12]) (by kernel_rfl) (by simp) ?_
                  refine (AllReadyH.cons (o := _) rfl (fun K hK => ?_) AllReadyH.nil)
                  · rw [if_pos (show Region.wanted _ _ = true by rfl)]
                    refine wp_slice [X, P] 2 [(0, .tmp 155), (1, .tmp 156)] rfl rfl (by decide) (fun x hx => (HDXP.out x hx).1) rfl ?_
                    replace hR := hR.slice [X, P] 2 rfl (by simp) HDXP.out 26 _ rfl
                    generalize Vpa.alloc (.cells (List.map byteVals [X, P]).flatten.toArray 26) = Vpas at *
                    generalize Vpa.heap.size = gs at *
                    refine hK.out _ _ hR.bare (fun hHeld => ?_)
                    clear hK K
                    (try simp only [Act.put, List.setIfInBounds_toArray, List.set_cons_zero, List.set_cons_succ, List.getElem_toArray, List.getElem_cons_zero, List.getElem_cons_succ])
                    refine wpAnyH_ready (rs := [13]) (by kernel_rfl) (by simp) ?_
                    refine (AllReadyH.cons (o := _) rfl (fun K hK => ?_) AllReadyH.nil)
                    · go_simp
                      refine (f2 X P HP.out _ _ _ (HK.out.below hR.below) (hR.dl (by (with_reducible (repeat (first | exact List.mem_cons_self | refine List.mem_cons_of_mem _ ?_))))) (hR.dl (by (with_reducible (repeat (first | exact List.mem_cons_self | refine List.mem_cons_of_mem _ ?_)))))).mono ?_
                      rintro e Vd ⟨rfl, hb⟩
                      replace hR := hR.call hb
                      clear hb
                      go_wp2_with fail
                      refine hK.out _ _ (hR.bare) (fun hHeld => ?_)
                      clear hK K
                      (try simp only [Act.put, List.setIfInBounds_toArray, List.set_cons_zero, List.set_cons_succ, List.getElem_toArray, List.getElem_cons_zero, List.getElem_cons_succ])
                      refine wpAnyH_take (i := 14) (oi := _) (v := .bool true) rfl (by kernel_rfl) (by kernel_rfl) (by kernel_rfl) (fun _ _ _ h => h) (Or.inl ⟨by rfl, fun wx hSw => ?_⟩) (by assumption) ?_
                      · go_simp
                        try (rw [IntKind.wrap_i64]; omega)
                      (try simp only [Act.put, List.setIfInBounds_toArray, List.set_cons_zero, List.set_cons_succ, List.getElem_toArray, List.getElem_cons_zero, List.getElem_cons_succ])
                      refine wpAnyH_take (i := 15) (oi := _) (v := .bool true) rfl (by kernel_rfl) (by kernel_rfl) (by kernel_rfl) (fun _ _ _ h => h) (Or.inl ⟨by rfl, fun wx hSw => ?_⟩) (by assumption) ?_
                      · go_simp
                        try (rw [IntKind.wrap_i64]; omega)
                      (try simp only [Act.put, List.setIfInBounds_toArray, List.set_cons_zero, List.set_cons_succ, List.getElem_toArray, List.getElem_cons_zero, List.getElem_cons_succ])
                      refine wpAnyH_take (i := 16) (oi := _) (v := .bool true) rfl (by kernel_rfl) (by kernel_rfl) (by kernel_rfl) (fun _ _ _ h => h) (Or.inl ⟨by rfl, fun wx hSw => ?_⟩) (by assumption) ?_
                      · go_simp
                        try (rw [IntKind.wrap_i64]; omega)
                      (try simp only [Act.put, List.setIfInBounds_toArray, List.set_cons_zero, List.set_cons_succ, List.getElem_toArray, List.getElem_cons_zero, List.getElem_cons_succ])
                      refine wpAnyH_take (i := 17) (oi := _) (v := .agg (byteVals Y).toArray) rfl (by kernel_rfl) (by kernel_rfl) (by kernel_rfl) (fun _ _ _ h => h) (yieldsIf_load_mid (by rfl) 26 _ rfl bY 0 rfl (byteVals Y) _ (fun wx hSw => hSw.range (by (with_reducible (repeat (first | exact List.mem_cons_self | refine List.mem_cons_of_mem _ ?_))))) Tryd.underlying26 rfl (size26 _ hyl)) (by assumption) ?_
                      (try simp only [Act.put, List.setIfInBounds_toArray, List.set_cons_zero, List.set_cons_succ, List.getElem_toArray, List.getElem_cons_zero, List.getElem_cons_succ])
                      refine wpAnyH_take (i := 18) (oi := _) (v := .agg (byteVals X).toArray) rfl (by kernel_rfl) (by kernel_rfl) (by kernel_rfl) (fun _ _ _ h => h) (yieldsIf_load_mid (by rfl) 26 _ rfl w.heap.size 0 rfl (byteVals X) _ (fun wx hSw => hSw.range (by (with_reducible (repeat (first | exact List.mem_cons_self | refine List.mem_cons_of_mem _ ?_))))) Tryd.underlying26 rfl (size26 _ hxl)) (by assumption) ?_
                      (try simp only [Act.put, List.setIfInBounds_toArray, List.set_cons_zero, List.set_cons_succ, List.getElem_toArray, List.getElem_cons_zero, List.getElem_cons_succ])
                      refine wpAnyH_take (i := 20) (oi := _) (v := .agg (byteVals X).toArray) rfl (by kernel_rfl) (by kernel_rfl) (by kernel_rfl) (fun _ _ _ h => h) (yieldsIf_load_mid (by rfl) 26 _ rfl w.heap.size 0 rfl (byteVals X) _ (fun wx hSw => hSw.range (by (with_reducible (repeat (first | exact List.mem_cons_self | refine List.mem_cons_of_mem _ ?_))))) Tryd.underlying26 rfl (size26 _ hxl)) (by assumption) ?_
                      (try simp only [Act.put, List.setIfInBounds_toArray, List.set_cons_zero, List.set_cons_succ, List.getElem_toArray, List.getElem_cons_zero, List.getElem_cons_succ])
                      refine wpAnyH_take (i := 21) (oi := _) (v := .agg (byteVals Y).toArray) rfl (by kernel_rfl) (by kernel_rfl) (by kernel_rfl) (fun _ _ _ h => h) (yieldsIf_load_mid (by rfl) 26 _ rfl bY 0 rfl (byteVals Y) _ (fun wx hSw => hSw.range (by (with_reducible (repeat (first | exact List.mem_cons_self | refine List.mem_cons_of_mem _ ?_))))) Tryd.underlying26 rfl (size26 _ hyl)) (by assumption) ?_
                      (try simp only [Act.put, List.setIfInBounds_toArray, List.set_cons_zero, List.set_cons_succ, List.getElem_toArray, List.getElem_cons_zero, List.getElem_cons_succ])
                      refine wpAnyH_ready (rs := [19, 22]) (by kernel_rfl) (by simp) ?_
                      refine (AllReadyH.cons (o := _) rfl (fun K hK => ?_) (AllReadyH.cons (o := _) rfl (fun K hK => ?_) AllReadyH.nil))
                      · rw [if_pos (show Region.wanted _ _ = true by rfl)]
                        refine wp_slice [Y, X] 2 [(0, .tmp 162), (1, .tmp 163)] rfl rfl (by decide) (fun x hx => (HDYX.out x hx).1) rfl ?_
                        replace hR := hR.slice [Y, X] 2 rfl (by simp) HDYX.out 26 _ rfl
                        generalize Vd.alloc (.cells (List.map byteVals [Y, X]).flatten.toArray 26) = Vdp at *
                        generalize Vd.heap.size = gp at *
                        refine hK.out _ _ hR.bare (fun hHeld => ?_)
                        clear hK K
                        (try simp only [Act.put, List.setIfInBounds_toArray, List.set_cons_zero, List.set_cons_succ, List.getElem_toArray, List.getElem_cons_zero, List.getElem_cons_succ])
                        refine wpAnyH_ready (rs := [22]) (by kernel_rfl) (by simp) ?_
                        refine (AllReadyH.cons (o := _) rfl (fun K hK => ?_) AllReadyH.nil)
                        · rw [if_pos (show Region.wanted _ _ = true by rfl)]
                          refine wp_slice [X, Y] 2 [(0, .tmp 165), (1, .tmp 166)] rfl rfl (by decide) (fun x hx => (HDXY.out x hx).1) rfl ?_
                          replace hR := hR.slice [X, Y] 2 rfl (by simp) HDXY.out 26 _ rfl
                          generalize Vdp.alloc (.cells (List.map byteVals [X, Y]).flatten.toArray 26) = Vdpq at *
                          generalize Vdp.heap.size = gq at *
                          refine hK.out _ _ hR.bare (fun hHeld => ?_)
                          clear hK K
                          (try simp only [Act.put, List.setIfInBounds_toArray, List.set_cons_zero, List.set_cons_succ, List.getElem_toArray, List.getElem_cons_zero, List.getElem_cons_succ])
                          refine wpAnyH_ready (rs := [23]) (by kernel_rfl) (by simp) ?_
                          refine (AllReadyH.cons (o := _) rfl (fun K hK => ?_) AllReadyH.nil)
                          · go_simp
                            refine (f3 X Y HYX.out _ _ _ (HK.out.below hR.below) (hR.dl (by (with_reducible (repeat (first | exact List.mem_cons_self | refine List.mem_cons_of_mem _ ?_))))) (hR.dl (by (with_reducible (repeat (first | exact List.mem_cons_self | refine List.mem_cons_of_mem _ ?_)))))).mono ?_
                            rintro e Ve ⟨rfl, hb⟩
                            replace hR := hR.call hb
                            clear hb
                            go_wp2_with fail
                            refine hK.out _ _ (hR.bare) (fun hHeld => ?_)
                            clear hK K
                            (try simp only [Act.put, List.setIfInBounds_toArray, List.set_cons_zero, List.set_cons_succ, List.getElem_toArray, List.getElem_cons_zero, List.getElem_cons_succ])
                            refine wpAnyH_take (i := 24) (oi := _) (v := .bool true) rfl (by kernel_rfl) (by kernel_rfl) (by kernel_rfl) (fun _ _ _ h => h) (Or.inl ⟨by rfl, fun wx hSw => ?_⟩) (by assumption) ?_
                            · go_simp
                              try (rw [IntKind.wrap_i64]; omega)
                            (try simp only [Act.put, List.setIfInBounds_toArray, List.set_cons_zero, List.set_cons_succ, List.getElem_toArray, List.getElem_cons_zero, List.getElem_cons_succ])
                            refine wpAnyH_take (i := 25) (oi := _) (v := .bool true) rfl (by kernel_rfl) (by kernel_rfl) (by kernel_rfl) (fun _ _ _ h => h) (Or.inl ⟨by rfl, fun wx hSw => ?_⟩) (by assumption) ?_
                            · go_simp
                              try (rw [IntKind.wrap_i64]; omega)
                            (try simp only [Act.put, List.setIfInBounds_toArray, List.set_cons_zero, List.set_cons_succ, List.getElem_toArray, List.getElem_cons_zero, List.getElem_cons_succ])
                            refine wpAnyH_take (i := 26) (oi := _) (v := .bool true) rfl (by kernel_rfl) (by kernel_rfl) (by kernel_rfl) (fun _ _ _ h => h) (Or.inl ⟨by rfl, fun wx hSw => ?_⟩) (by assumption) ?_
                            · go_simp
                              try (rw [IntKind.wrap_i64]; omega)
                            (try simp only [Act.put, List.setIfInBounds_toArray, List.set_cons_zero, List.set_cons_succ, List.getElem_toArray, List.getElem_cons_zero, List.getElem_cons_succ])
                            refine wpAnyH_done (by kernel_rfl) ?_ _
                            go_wp2_with fail
                            go_meet
                            exact ⟨rfl, Lib.hid hR.bare⟩
                      · rw [if_pos (show Region.wanted _ _ = true by rfl)]
                        refine wp_slice [X, Y] 2 [(0, .tmp 165), (1, .tmp 166)] rfl rfl (by decide) (fun x hx => (HDXY.out x hx).1) rfl ?_
                        replace hR := hR.slice [X, Y] 2 rfl (by simp) HDXY.out 26 _ rfl
                        generalize Vd.alloc (.cells (List.map byteVals [X, Y]).flatten.toArray 26) = Vdq at *
                        generalize Vd.heap.size = gq at *
                        refine hK.out _ _ hR.bare (fun hHeld => ?_)
                        clear hK K
                        (try simp only [Act.put, List.setIfInBounds_toArray, List.set_cons_zero, List.set_cons_succ, List.getElem_toArray, List.getElem_cons_zero, List.getElem_cons_succ])
                        refine wpAnyH_ready (rs := [19]) (by kernel_rfl) (by simp) ?_
                        refine (AllReadyH.cons (o := _) rfl (fun K hK => ?_) AllReadyH.nil)
                        · rw [if_pos (show Region.wanted _ _ = true by rfl)]
                          refine wp_slice [Y, X] 2 [(0, .tmp 162), (1, .tmp 163)] rfl rfl (by decide) (fun x hx => (HDYX.out x hx).1) rfl ?_
                          replace hR := hR.slice [Y, X] 2 rfl (by simp) HDYX.out 26 _ rfl
                          generalize Vdq.alloc (.cells (List.map byteVals [Y, X]).flatten.toArray 26) = Vdqp at *
                          generalize Vdq.heap.size = gp at *
                          refine hK.out _ _ hR.bare (fun hHeld => ?_)
                          clear hK K
                          (try simp only [Act.put, List.setIfInBounds_toArray, List.set_cons_zero, List.set_cons_succ, List.getElem_toArray, List.getElem_cons_zero, List.getElem_cons_succ])
                          refine wpAnyH_ready (rs := [23]) (by kernel_rfl) (by simp) ?_
                          refine (AllReadyH.cons (o := _) rfl (fun K hK => ?_) AllReadyH.nil)
                          · go_simp
                            refine (f3 X Y HYX.out _ _ _ (HK.out.below hR.below) (hR.dl (by (with_reducible (repeat (first | exact List.mem_cons_self | refine List.mem_cons_of_mem _ ?_))))) (hR.dl (by (with_reducible (repeat (first | exact List.mem_cons_self | refine List.mem_cons_of_mem _ ?_)))))).mono ?_
                            rintro e Ve ⟨rfl, hb⟩
                            replace hR := hR.call hb
                            clear hb
                            go_wp2_with fail
                            refine hK.out _ _ (hR.bare) (fun hHeld => ?_)
                            clear hK K
                            (try simp only [Act.put, List.setIfInBounds_toArray, List.set_cons_zero, List.set_cons_succ, List.getElem_toArray, List.getElem_cons_zero, List.getElem_cons_succ])
                            refine wpAnyH_take (i := 24) (oi := _) (v := .bool true) rfl (by kernel_rfl) (by kernel_rfl) (by kernel_rfl) (fun _ _ _ h => h) (Or.inl ⟨by rfl, fun wx hSw => ?_⟩) (by assumption) ?_
                            · go_simp
                              try (rw [IntKind.wrap_i64]; omega)
                            (try simp only [Act.put, List.setIfInBounds_toArray, List.set_cons_zero, List.set_cons_succ, List.getElem_toArray, List.getElem_cons_zero, List.getElem_cons_succ])
                            refine wpAnyH_take (i := 25) (oi := _) (v := .bool true) rfl (by kernel_rfl) (by kernel_rfl) (by kernel_rfl) (fun _ _ _ h => h) (Or.inl ⟨by rfl, fun wx hSw => ?_⟩) (by assumption) ?_
                            · go_simp
                              try (rw [IntKind.wrap_i64]; omega)
                            (try simp only [Act.put, List.setIfInBounds_toArray, List.set_cons_zero, List.set_cons_succ, List.getElem_toArray, List.getElem_cons_zero, List.getElem_cons_succ])
                            refine wpAnyH_take (i := 26) (oi := _) (v := .bool true) rfl (by kernel_rfl) (by kernel_rfl) (by kernel_rfl) (fun _ _ _ h => h) (Or.inl ⟨by rfl, fun wx hSw => ?_⟩) (by assumption) ?_
                            · go_simp
                              try (rw [IntKind.wrap_i64]; omega)
                            (try simp only [Act.put, List.setIfInBounds_toArray, List.set_cons_zero, List.set_cons_succ, List.getElem_toArray, List.getElem_cons_zero, List.getElem_cons_succ])
                            refine wpAnyH_done (by kernel_rfl) ?_ _
                            go_wp2_with fail
                            go_meet
                            exact ⟨rfl, Lib.hid hR.bare⟩
              · go_simp
                refine (pad0 P HP.out _ (HK.out.below hR.below)).mono ?_
                rintro e Vp ⟨rfl, hb⟩
                replace hR := hR.call hb
                clear hb
                go_wp2_with fail
                refine hK.out _ _ (hR.bare) (fun hHeld => ?_)
                clear hK K
                (try simp only [Act.put, List.setIfInBounds_toArray, List.set_cons_zero, List.set_cons_succ, List.getElem_toArray, List.getElem_cons_zero, List.getElem_cons_succ])
                refine wpAnyH_ready (rs := [9, 12]) (by kernel_rfl) (by simp) ?_
                refine (AllReadyH.cons (o := _) rfl (fun K hK => ?_) (AllReadyH.cons (o := _) rfl (fun K hK => ?_) AllReadyH.nil))
                · rw [if_pos (show Region.wanted _ _ = true by rfl)]
                  refine wp_slice [X] 1 [(0, .tmp 153)] rfl rfl (by decide) (fun x hx => (HDX.out x hx).1) rfl ?_
                  replace hR := hR.slice [X] 1 rfl (by simp) HDX.out 26 _ rfl
                  generalize Vp.alloc (.cells (List.map byteVals [X]).flatten.toArray 26) = Vpr at *
                  generalize Vp.heap.size = gr at *
                  refine hK.out _ _ hR.bare (fun hHeld => ?_)
                  clear hK K
                  (try simp only [Act.put, List.setIfInBounds_toArray, List.set_cons_zero, List.set_cons_succ, List.getElem_toArray, List.getElem_cons_zero, List.getElem_cons_succ])
                  refine wpAnyH_ready (rs := [12]) (by kernel_rfl) (by simp) ?_
                  refine (AllReadyH.cons (o := _) rfl (fun K hK => ?_) AllReadyH.nil)
                  · rw [if_pos (show Region.wanted _ _ = true by rfl)]
                    refine wp_slice [X, P] 2 [(0, .tmp 155), (1, .tmp 156)] rfl rfl (by decide) (fun x hx => (HDXP.out x hx).1) rfl ?_
                    replace hR := hR.slice [X, P] 2 rfl (by simp) HDXP.out 26 _ rfl
                    generalize Vpr.alloc (.cells (List.map byteVals [X, P]).flatten.toArray 26) = Vprs at *
                    generalize Vpr.heap.size = gs at *
                    refine hK.out _ _ hR.bare (fun hHeld => ?_)
                    clear hK K
                    (try simp only [Act.put, List.setIfInBounds_toArray, List.set_cons_zero, List.set_cons_succ, List.getElem_toArray, List.getElem_cons_zero, List.getElem_cons_succ])
                    refine wpAnyH_ready (rs := [13]) (by kernel_rfl) (by simp) ?_
                    refine (AllReadyH.cons (o := _) rfl (fun K hK => ?_) AllReadyH.nil)
                    · go_simp
                      refine (f2 X P HP.out _ _ _ (HK.out.below hR.below) (hR.dl (by (with_reducible (repeat (first | exact List.mem_cons_self | refine List.mem_cons_of_mem _ ?_))))) (hR.dl (by (with_reducible (repeat (first | exact List.mem_cons_self | refine List.mem_cons_of_mem _ ?_)))))).mono ?_
                      rintro e Vd ⟨rfl, hb⟩
                      replace hR := hR.call hb
                      clear hb
                      go_wp2_with fail
                      refine hK.out _ _ (hR.bare) (fun hHeld => ?_)
                      clear hK K
                      (try simp only [Act.put, List.setIfInBounds_toArray, List.set_cons_zero, List.set_cons_succ, List.getElem_toArray, List.getElem_cons_zero, List.getElem_cons_succ])
                      refine wpAnyH_take (i := 14) (oi := _) (v := .bool true) rfl (by kernel_rfl) (by kernel_rfl) (by kernel_rfl) (fun _ _ _ h => h) (Or.inl ⟨by rfl, fun wx hSw => ?_⟩) (by assumption) ?_
                      · go_simp
                        try (rw [IntKind.wrap_i64]; omega)
                      (try simp only [Act.put, List.setIfInBounds_toArray, List.set_cons_zero, List.set_cons_succ, List.getElem_toArray, List.getElem_cons_zero, List.getElem_cons_succ])
                      refine wpAnyH_take (i := 15) (oi := _) (v := .bool true) rfl (by kernel_rfl) (by kernel_rfl) (by kernel_rfl) (fun _ _ _ h => h) (Or.inl ⟨by rfl, fun wx hSw => ?_⟩) (by assumption) ?_
                      · go_simp
                        try (rw [IntKind.wrap_i64]; omega)
                      (try simp only [Act.put, List.setIfInBounds_toArray, List.set_cons_zero, List.set_cons_succ, List.getElem_toArray, List.getElem_cons_zero, List.getElem_cons_succ])
                      refine wpAnyH_take (i := 16) (oi := _) (v := .bool true) rfl (by kernel_rfl) (by kernel_rfl) (by kernel_rfl) (fun _ _ _ h => h) (Or.inl ⟨by rfl, fun wx hSw => ?_⟩) (by assumption) ?_
                      · go_simp
                        try (rw [IntKind.wrap_i64]; omega)
                      (try simp only [Act.put, List.setIfInBounds_toArray, List.set_cons_zero, List.set_cons_succ, List.getElem_toArray, List.getElem_cons_zero, List.getElem_cons_succ])
                      refine wpAnyH_take (i := 17) (oi := _) (v := .agg (byteVals Y).toArray) rfl (by kernel_rfl) (by kernel_rfl) (by kernel_rfl) (fun _ _ _ h => h) (yieldsIf_load_mid (by rfl) 26 _ rfl bY 0 rfl (byteVals Y) _ (fun wx hSw => hSw.range (by (with_reducible (repeat (first | exact List.mem_cons_self | refine List.mem_cons_of_mem _ ?_))))) Tryd.underlying26 rfl (size26 _ hyl)) (by assumption) ?_
                      (try simp only [Act.put, List.setIfInBounds_toArray, List.set_cons_zero, List.set_cons_succ, List.getElem_toArray, List.getElem_cons_zero, List.getElem_cons_succ])
                      refine wpAnyH_take (i := 18) (oi := _) (v := .agg (byteVals X).toArray) rfl (by kernel_rfl) (by kernel_rfl) (by kernel_rfl) (fun _ _ _ h => h) (yieldsIf_load_mid (by rfl) 26 _ rfl w.heap.size 0 rfl (byteVals X) _ (fun wx hSw => hSw.range (by (with_reducible (repeat (first | exact List.mem_cons_self | refine List.mem_cons_of_mem _ ?_))))) Tryd.underlying26 rfl (size26 _ hxl)) (by assumption) ?_
                      (try simp only [Act.put, List.setIfInBounds_toArray, List.set_cons_zero, List.set_cons_succ, List.getElem_toArray, List.getElem_cons_zero, List.getElem_cons_succ])
                      refine wpAnyH_take (i := 20) (oi := _) (v := .agg (byteVals X).toArray) rfl (by kernel_rfl) (by kernel_rfl) (by kernel_rfl) (fun _ _ _ h => h) (yieldsIf_load_mid (by rfl) 26 _ rfl w.heap.size 0 rfl (byteVals X) _ (fun wx hSw => hSw.range (by (with_reducible (repeat (first | exact List.mem_cons_self | refine List.mem_cons_of_mem _ ?_))))) Tryd.underlying26 rfl (size26 _ hxl)) (by assumption) ?_
                      (try simp only [Act.put, List.setIfInBounds_toArray, List.set_cons_zero, List.set_cons_succ, List.getElem_toArray, List.getElem_cons_zero, List.getElem_cons_succ])
                      refine wpAnyH_take (i := 21) (oi := _) (v := .agg (byteVals Y).toArray) rfl (by kernel_rfl) (by kernel_rfl) (by kernel_rfl) (fun _ _ _ h => h) (yieldsIf_load_mid (by rfl) 26 _ rfl bY 0 rfl (byteVals Y) _ (fun wx hSw => hSw.range (by (with_reducible (repeat (first | exact List.mem_cons_self | refine List.mem_cons_of_mem _ ?_))))) Tryd.underlying26 rfl (size26 _ hyl)) (by assumption) ?_
                      (try simp only [Act.put, List.setIfInBounds_toArray, List.set_cons_zero, List.set_cons_succ, List.getElem_toArray, List.getElem_cons_zero, List.getElem_cons_succ])
                      refine wpAnyH_ready (rs := [19, 22]) (by kernel_rfl) (by simp) ?_
                      refine (AllReadyH.cons (o := _) rfl (fun K hK => ?_) (AllReadyH.cons (o := _) rfl (fun K hK => ?_) AllReadyH.nil))
                      · rw [if_pos (show Region.wanted _ _ = true by rfl)]
                        refine wp_slice [Y, X] 2 [(0, .tmp 162), (1, .tmp 163)] rfl rfl (by decide) (fun x hx => (HDYX.out x hx).1) rfl ?_
                        replace hR := hR.slice [Y, X] 2 rfl (by simp) HDYX.out 26 _ rfl
                        generalize Vd.alloc (.cells (List.map byteVals [Y, X]).flatten.toArray 26) = Vdp at *
                        generalize Vd.heap.size = gp at *
                        refine hK.out _ _ hR.bare (fun hHeld => ?_)
                        clear hK K
                        (try simp only [Act.put, List.setIfInBounds_toArray, List.set_cons_zero, List.set_cons_succ, List.getElem_toArray, List.getElem_cons_zero, List.getElem_cons_succ])
                        refine wpAnyH_ready (rs := [22]) (by kernel_rfl) (by simp) ?_
                        refine (AllReadyH.cons (o := _) rfl (fun K hK => ?_) AllReadyH.nil)
                        · rw [if_pos (show Region.wanted _ _ = true by rfl)]
                          refine wp_slice [X, Y] 2 [(0, .tmp 165), (1, .tmp 166)] rfl rfl (by decide) (fun x hx => (HDXY.out x hx).1) rfl ?_
                          replace hR := hR.slice [X, Y] 2 rfl (by simp) HDXY.out 26 _ rfl
                          generalize Vdp.alloc (.cells (List.map byteVals [X, Y]).flatten.toArray 26) = Vdpq at *
                          generalize Vdp.heap.size = gq at *
                          refine hK.out _ _ hR.bare (fun hHeld => ?_)
                          clear hK K
                          (try simp only [Act.put, List.setIfInBounds_toArray, List.set_cons_zero, List.set_cons_succ, List.getElem_toArray, List.getElem_cons_zero, List.getElem_cons_succ])
                          refine wpAnyH_ready (rs := [23]) (by kernel_rfl) (by simp) ?_
                          refine (AllReadyH.cons (o := _) rfl (fun K hK => ?_) AllReadyH.nil)
                          · go_simp
                            refine (f3 X Y HYX.out _ _ _ (HK.out.below hR.below) (hR.dl (by (with_reducible (repeat (first | exact List.mem_cons_self | refine List.mem_cons_of_mem _ ?_))))) (hR.dl (by (with_reducible (repeat (first | exact List.mem_cons_self | refine List.mem_cons_of_mem _ ?_)))))).mono ?_
                            rintro e Ve ⟨rfl, hb⟩
                            replace hR := hR.call hb
                            clear hb
                            go_wp2_with fail
                            refine hK.out _ _ (hR.bare) (fun hHeld => ?_)
                            clear hK K
                            (try simp only [Act.put, List.setIfInBounds_toArray, List.set_cons_zero, List.set_cons_succ, List.getElem_toArray, List.getElem_cons_zero, List.getElem_cons_succ])
                            refine wpAnyH_take (i := 24) (oi := _) (v := .bool true) rfl (by kernel_rfl) (by kernel_rfl) (by kernel_rfl) (fun _ _ _ h => h) (Or.inl ⟨by rfl, fun wx hSw => ?_⟩) (by assumption) ?_
                            · go_simp
                              try (rw [IntKind.wrap_i64]; omega)
                            (try simp only [Act.put, List.setIfInBounds_toArray, List.set_cons_zero, List.set_cons_succ, List.getElem_toArray, List.getElem_cons_zero, List.getElem_cons_succ])
                            refine wpAnyH_take (i := 25) (oi := _) (v := .bool true) rfl (by kernel_rfl) (by kernel_rfl) (by kernel_rfl) (fun _ _ _ h => h) (Or.inl ⟨by rfl, fun wx hSw => ?_⟩) (by assumption) ?_
                            · go_simp
                              try (rw [IntKind.wrap_i64]; omega)
                            (try simp only [Act.put, List.setIfInBounds_toArray, List.set_cons_zero, List.set_cons_succ, List.getElem_toArray, List.getElem_cons_zero, List.getElem_cons_succ])
                            refine wpAnyH_take (i := 26) (oi := _) (v := .bool true) rfl (by kernel_rfl) (by kernel_rfl) (by kernel_rfl) (fun _ _ _ h => h) (Or.inl ⟨by rfl, fun wx hSw => ?_⟩) (by assumption) ?_
                            · go_simp
                              try (rw [IntKind.wrap_i64]; omega)
                            (try simp only [Act.put, List.setIfInBounds_toArray, List.set_cons_zero, List.set_cons_succ, List.getElem_toArray, List.getElem_cons_zero, List.getElem_cons_succ])
                            refine wpAnyH_done (by kernel_rfl) ?_ _
                            go_wp2_with fail
                            go_meet
                            exact ⟨rfl, Lib.hid hR.bare⟩
                      · rw [if_pos (show Region.wanted _ _ = true by rfl)]
                        refine wp_slice [X, Y] 2 [(0, .tmp 165), (1, .tmp 166)] rfl rfl (by decide) (fun x hx => (HDXY.out x hx).1) rfl ?_
                        replace hR := hR.slice [X, Y] 2 rfl (by simp) HDXY.out 26 _ rfl
                        generalize Vd.alloc (.cells (List.map byteVals [X, Y]).flatten.toArray 26) = Vdq at *
                        generalize Vd.heap.size = gq at *
                        refine hK.out _ _ hR.bare (fun hHeld => ?_)
                        clear hK K
                        (try simp only [Act.put, List.setIfInBounds_toArray, List.set_cons_zero, List.set_cons_succ, List.getElem_toArray, List.getElem_cons_zero, List.getElem_cons_succ])
                        refine wpAnyH_ready (rs := [19]) (by kernel_rfl) (by simp) ?_
                        refine (AllReadyH.cons (o := _) rfl (fun K hK => ?_) AllReadyH.nil)
                        · rw [if_pos (show Region.wanted _ _ = true by rfl)]
                          refine wp_slice [Y, X] 2 [(0, .tmp 162), (1, .tmp 163)] rfl rfl (by decide) (fun x hx => (HDYX.out x hx).1) rfl ?_
                          replace hR := hR.slice [Y, X] 2 rfl (by simp) HDYX.out 26 _ rfl
                          generalize Vdq.alloc (.cells (List.map byteVals [Y, X]).flatten.toArray 26) = Vdqp at *
                          generalize Vdq.heap.size = gp at *
                          refine hK.out _ _ hR.bare (fun hHeld => ?_)
                          clear hK K
                          (try simp only [Act.put, List.setIfInBounds_toArray, List.set_cons_zero, List.set_cons_succ, List.getElem_toArray, List.getElem_cons_zero, List.getElem_cons_succ])
                          refine wpAnyH_ready (rs := [23]) (by kernel_rfl) (by simp) ?_
                          refine (AllReadyH.cons (o := _) rfl (fun K hK => ?_) AllReadyH.nil)
                          · go_simp
                            refine (f3 X Y HYX.out _ _ _ (HK.out.below hR.below) (hR.dl (by (with_reducible (repeat (first | exact List.mem_cons_self | refine List.mem_cons_of_mem _ ?_))))) (hR.dl (by (with_reducible (repeat (first | exact List.mem_cons_self | refine List.mem_cons_of_mem _ ?_)))))).mono ?_
                            rintro e Ve ⟨rfl, hb⟩
                            replace hR := hR.call hb
                            clear hb
                            go_wp2_with fail
                            refine hK.out _ _ (hR.bare) (fun hHeld => ?_)
                            clear hK K
                            (try simp only [Act.put, List.setIfInBounds_toArray, List.set_cons_zero, List.set_cons_succ, List.getElem_toArray, List.getElem_cons_zero, List.getElem_cons_succ])
                            refine wpAnyH_take (i := 24) (oi := _) (v := .bool true) rfl (by kernel_rfl) (by kernel_rfl) (by kernel_rfl) (fun _ _ _ h => h) (Or.inl ⟨by rfl, fun wx hSw => ?_⟩) (by assumption) ?_
                            · go_simp
                              try (rw [IntKind.wrap_i64]; omega)
                            (try simp only [Act.put, List.setIfInBounds_toArray, List.set_cons_zero, List.set_cons_succ, List.getElem_toArray, List.getElem_cons_zero, List.getElem_cons_succ])
                            refine wpAnyH_take (i := 25) (oi := _) (v := .bool true) rfl (by kernel_rfl) (by kernel_rfl) (by kernel_rfl) (fun _ _ _ h => h) (Or.inl ⟨by rfl, fun wx hSw => ?_⟩) (by assumption) ?_
                            · go_simp
                              try (rw [IntKind.wrap_i64]; omega)
                            (try simp only [Act.put, List.setIfInBounds_toArray, List.set_cons_zero, List.set_cons_succ, List.getElem_toArray, List.getElem_cons_zero, List.getElem_cons_succ])
                            refine wpAnyH_take (i := 26) (oi := _) (v := .bool true) rfl (by kernel_rfl) (by kernel_rfl) (by kernel_rfl) (fun _ _ _ h => h) (Or.inl ⟨by rfl, fun wx hSw => ?_⟩) (by assumption) ?_
                            · go_simp
                              try (rw [IntKind.wrap_i64]; omega)
                            (try simp only [Act.put, List.setIfInBounds_toArray, List.set_cons_zero, List.set_cons_succ, List.getElem_toArray, List.getElem_cons_zero, List.getElem_cons_succ])
                            refine wpAnyH_done (by kernel_rfl) ?_ _
                            go_wp2_with fail
                            go_meet
                            exact ⟨rfl, Lib.hid hR.bare⟩
                · rw [if_pos (show Region.wanted _ _ = true by rfl)]
                  refine wp_slice [X, P] 2 [(0, .tmp 155), (1, .tmp 156)] rfl rfl (by decide) (fun x hx => (HDXP.out x hx).1) rfl ?_
                  replace hR := hR.slice [X, P] 2 rfl (by simp) HDXP.out 26 _ rfl
                  generalize Vp.alloc (.cells (List.map byteVals [X, P]).flatten.toArray 26) = Vps at *
                  generalize Vp.heap.size = gs at *
                  refine hK.out _ _ hR.bare (fun hHeld => ?_)
                  clear hK K
                  (try simp only [Act.put, List.setIfInBounds_toArray, List.set_cons_zero, List.set_cons_succ, List.getElem_toArray, List.getElem_cons_zero, List.getElem_cons_succ])
                  refine wpAnyH_ready (rs := [9]) (by kernel_rfl) (by simp) ?_
                  refine (AllReadyH.cons (o := _) rfl (fun K hK => ?_) AllReadyH.nil)
                  · rw [if_pos (show Region.wanted _ _ = true by rfl)]
                    refine wp_slice [X] 1 [(0, .tmp 153)] rfl rfl (by decide) (fun x hx => (HDX.out x hx).1) rfl ?_
                    replace hR := hR.slice [X] 1 rfl (by simp) HDX.out 26 _ rfl
                    generalize Vps.alloc (.cells (List.map byteVals [X]).flatten.toArray 26) = Vpsr at *
                    generalize Vps.heap.size = gr at *
                    refine hK.out _ _ hR.bare (fun hHeld => ?_)
                    clear hK K
                    (try simp only [Act.put, List.setIfInBounds_toArray, List.set_cons_zero, List.set_cons_succ, List.getElem_toArray, List.getElem_cons_zero, List.getElem_cons_succ])
                    refine wpAnyH_ready (rs := [13]) (by kernel_rfl) (by simp) ?_
                    refine (AllReadyH.cons (o := _) rfl (fun K hK => ?_) AllReadyH.nil)
                    · go_simp
                      refine (f2 X P HP.out _ _ _ (HK.out.below hR.below) (hR.dl (by (with_reducible (repeat (first | exact List.mem_cons_self | refine List.mem_cons_of_mem _ ?_))))) (hR.dl (by (with_reducible (repeat (first | exact List.mem_cons_self | refine List.mem_cons_of_mem _ ?_)))))).mono ?_
                      rintro e Vd ⟨rfl, hb⟩
                      replace hR := hR.call hb
                      clear hb
                      go_wp2_with fail
                      refine hK.out _ _ (hR.bare) (fun hHeld => ?_)
                      clear hK K
                      (try simp only [Act.put, List.setIfInBounds_toArray, List.set_cons_zero, List.set_cons_succ, List.getElem_toArray, List.getElem_cons_zero, List.getElem_cons_succ])
                      refine wpAnyH_take (i := 14) (oi := _) (v := .bool true) rfl (by kernel_rfl) (by kernel_rfl) (by kernel_rfl) (fun _ _ _ h => h) (Or.inl ⟨by rfl, fun wx hSw => ?_⟩) (by assumption) ?_
                      · go_simp
                        try (rw [IntKind.wrap_i64]; omega)
                      (try simp only [Act.put, List.setIfInBounds_toArray, List.set_cons_zero, List.set_cons_succ, List.getElem_toArray, List.getElem_cons_zero, List.getElem_cons_succ])
                      refine wpAnyH_take (i := 15) (oi := _) (v := .bool true) rfl (by kernel_rfl) (by kernel_rfl) (by kernel_rfl) (fun _ _ _ h => h) (Or.inl ⟨by rfl, fun wx hSw => ?_⟩) (by assumption) ?_
                      · go_simp
                        try (rw [IntKind.wrap_i64]; omega)
                      (try simp only [Act.put, List.setIfInBounds_toArray, List.set_cons_zero, List.set_cons_succ, List.getElem_toArray, List.getElem_cons_zero, List.getElem_cons_succ])
                      refine wpAnyH_take (i := 16) (oi := _) (v := .bool true) rfl (by kernel_rfl) (by kernel_rfl) (by kernel_rfl) (fun _ _ _ h => h) (Or.inl ⟨by rfl, fun wx hSw => ?_⟩) (by assumption) ?_
                      · go_simp
                        try (rw [IntKind.wrap_i64]; omega)
                      (try simp only [Act.put, List.setIfInBounds_toArray, List.set_cons_zero, List.set_cons_succ, List.getElem_toArray, List.getElem_cons_zero, List.getElem_cons_succ])
                      refine wpAnyH_take (i := 17) (oi := _) (v := .agg (byteVals Y).toArray) rfl (by kernel_rfl) (by kernel_rfl) (by kernel_rfl) (fun _ _ _ h => h) (yieldsIf_load_mid (by rfl) 26 _ rfl bY 0 rfl (byteVals Y) _ (fun wx hSw => hSw.range (by (with_reducible (repeat (first | exact List.mem_cons_self | refine List.mem_cons_of_mem _ ?_))))) Tryd.underlying26 rfl (size26 _ hyl)) (by assumption) ?_
                      (try simp only [Act.put, List.setIfInBounds_toArray, List.set_cons_zero, List.set_cons_succ, List.getElem_toArray, List.getElem_cons_zero, List.getElem_cons_succ])
                      refine wpAnyH_take (i := 18) (oi := _) (v := .agg (byteVals X).toArray) rfl (by kernel_rfl) (by kernel_rfl) (by kernel_rfl) (fun _ _ _ h => h) (yieldsIf_load_mid (by rfl) 26 _ rfl w.heap.size 0 rfl (byteVals X) _ (fun wx hSw => hSw.range (by (with_reducible (repeat (first | exact List.mem_cons_self | refine List.mem_cons_of_mem _ ?_))))) Tryd.underlying26 rfl (size26 _ hxl)) (by assumption) ?_
                      (try simp only [Act.put, List.setIfInBounds_toArray, List.set_cons_zero, List.set_cons_succ, List.getElem_toArray, List.getElem_cons_zero, List.getElem_cons_succ])
                      refine wpAnyH_take (i := 20) (oi := _) (v := .agg (byteVals X).toArray) rfl (by kernel_rfl) (by kernel_rfl) (by kernel_rfl) (fun _ _ _ h => h) (yieldsIf_load_mid (by rfl) 26 _ rfl w.heap.size 0 rfl (byteVals X) _ (fun wx hSw => hSw.range (by (with_reducible (repeat (first | exact List.mem_cons_self | refine List.mem_cons_of_mem _ ?_))))) Tryd.underlying26 rfl (size26 _ hxl)) (by assumption) ?_
                      (try simp only [Act.put, List.setIfInBounds_toArray, List.set_cons_zero, List.set_cons_succ, List.getElem_toArray, List.getElem_cons_zero, List.getElem_cons_succ])
                      refine wpAnyH_take (i := 21) (oi := _) (v := .agg (byteVals Y).toArray) rfl (by kernel_rfl) (by kernel_rfl) (by kernel_rfl) (fun _ _ _ h => h) (yieldsIf_load_mid (by rfl) 26 _ rfl bY 0 rfl (byteVals Y) _ (fun wx hSw => hSw.range (by (with_reducible (repeat (first | exact List.mem_cons_self | refine List.mem_cons_of_mem _ ?_))))) Tryd.underlying26 rfl (size26 _ hyl)) (by assumption) ?_
                      (try simp only [Act.put, List.setIfInBounds_toArray, List.set_cons_zero, List.set_cons_succ, List.getElem_toArray, List.getElem_cons_zero, List.getElem_cons_succ])
                      refine wpAnyH_ready (rs := [19, 22]) (by kernel_rfl) (by simp) ?_
                      refine (AllReadyH.cons (o := _) rfl (fun K hK => ?_) (AllReadyH.cons (o := _) rfl (fun K hK => ?_) AllReadyH.nil))
                      · rw [if_pos (show Region.wanted _ _ = true by rfl)]
                        refine wp_slice [Y, X] 2 [(0, .tmp 162), (1, .tmp 163)] rfl rfl (by decide) (fun x hx => (HDYX.out x hx).1) rfl ?_
                        replace hR := hR.slice [Y, X] 2 rfl (by simp) HDYX.out 26 _ rfl
                        generalize Vd.alloc (.cells (List.map byteVals [Y, X]).flatten.toArray 26) = Vdp at *
                        generalize Vd.heap.size = gp at *
                        refine hK.out _ _ hR.bare (fun hHeld => ?_)
                        clear hK K
                        (try simp only [Act.put, List.setIfInBounds_toArray, List.set_cons_zero, List.set_cons_succ, List.getElem_toArray, List.getElem_cons_zero, List.getElem_cons_succ])
                        refine wpAnyH_ready (rs := [22]) (by kernel_rfl) (by simp) ?_
                        refine (AllReadyH.cons (o := _) rfl (fun K hK => ?_) AllReadyH.nil)
                        · rw [if_pos (show Region.wanted _ _ = true by rfl)]
                          refine wp_slice [X, Y] 2 [(0, .tmp 165), (1, .tmp 166)] rfl rfl (by decide) (fun x hx => (HDXY.out x hx).1) rfl ?_
                          replace hR := hR.slice [X, Y] 2 rfl (by simp) HDXY.out 26 _ rfl
                          generalize Vdp.alloc (.cells (List.map byteVals [X, Y]).flatten.toArray 26) = Vdpq at *
                          generalize Vdp.heap.size = gq at *
                          refine hK.out _ _ hR.bare (fun hHeld => ?_)
                          clear hK K
                          (try simp only [Act.put, List.setIfInBounds_toArray, List.set_cons_zero, List.set_cons_succ, List.getElem_toArray, List.getElem_cons_zero, List.getElem_cons_succ])
                          refine wpAnyH_ready (rs := [23]) (by kernel_rfl) (by simp) ?_
                          refine (AllReadyH.cons (o := _) rfl (fun K hK => ?_) AllReadyH.nil)
                          · go_simp
                            refine (f3 X Y HYX.out _ _ _ (HK.out.below hR.below) (hR.dl (by (with_reducible (repeat (first | exact List.mem_cons_self | refine List.mem_cons_of_mem _ ?_))))) (hR.dl (by (with_reducible (repeat (first | exact List.mem_cons_self | refine List.mem_cons_of_mem _ ?_)))))).mono ?_
                            rintro e Ve ⟨rfl, hb⟩
                            replace hR := hR.call hb
                            clear hb
                            go_wp2_with fail
                            refine hK.out _ _ (hR.bare) (fun hHeld => ?_)
                            clear hK K
                            (try simp only [Act.put, List.setIfInBounds_toArray, List.set_cons_zero, List.set_cons_succ, List.getElem_toArray, List.getElem_cons_zero, List.getElem_cons_succ])
                            refine wpAnyH_take (i := 24) (oi := _) (v := .bool true) rfl (by kernel_rfl) (by kernel_rfl) (by kernel_rfl) (fun _ _ _ h => h) (Or.inl ⟨by rfl, fun wx hSw => ?_⟩) (by assumption) ?_
                            · go_simp
                              try (rw [IntKind.wrap_i64]; omega)
                            (try simp only [Act.put, List.setIfInBounds_toArray, List.set_cons_zero, List.set_cons_succ, List.getElem_toArray, List.getElem_cons_zero, List.getElem_cons_succ])
                            refine wpAnyH_take (i := 25) (oi := _) (v := .bool true) rfl (by kernel_rfl) (by kernel_rfl) (by kernel_rfl) (fun _ _ _ h => h) (Or.inl ⟨by rfl, fun wx hSw => ?_⟩) (by assumption) ?_
                            · go_simp
                              try (rw [IntKind.wrap_i64]; omega)
                            (try simp only [Act.put, List.setIfInBounds_toArray, List.set_cons_zero, List.set_cons_succ, List.getElem_toArray, List.getElem_cons_zero, List.getElem_cons_succ])
                            refine wpAnyH_take (i := 26) (oi := _) (v := .bool true) rfl (by kernel_rfl) (by kernel_rfl) (by kernel_rfl) (fun _ _ _ h => h) (Or.inl ⟨by rfl, fun wx hSw => ?_⟩) (by assumption) ?_
                            · go_simp
                              try (rw [IntKind.wrap_i64]; omega)
                            (try simp only [Act.put, List.setIfInBounds_toArray, List.set_cons_zero, List.set_cons_succ, List.getElem_toArray, List.getElem_cons_zero, List.getElem_cons_succ])
                            refine wpAnyH_done (by kernel_rfl) ?_ _
                            go_wp2_with fail
                            go_meet
                            exact ⟨rfl, Lib.hid hR.bare⟩
                      · rw [if_pos (show Region.wanted _ _ = true by rfl)]
                        refine wp_slice [X, Y] 2 [(0, .tmp 165), (1, .tmp 166)] rfl rfl (by decide) (fun x hx => (HDXY.out x hx).1) rfl ?_
                        replace hR := hR.slice [X, Y] 2 rfl (by simp) HDXY.out 26 _ rfl
                        generalize Vd.alloc (.cells (List.map byteVals [X, Y]).flatten.toArray 26) = Vdq at *
                        generalize Vd.heap.size = gq at *
                        refine hK.out _ _ hR.bare (fun hHeld => ?_)
                        clear hK K
                        (try simp only [Act.put, List.setIfInBounds_toArray, List.set_cons_zero, List.set_cons_succ, List.getElem_toArray, List.getElem_cons_zero, List.getElem_cons_succ])
                        refine wpAnyH_ready (rs := [19]) (by kernel_rfl) (by simp) ?_
                        refine (AllReadyH.cons (o := _) rfl (fun K hK => ?_) AllReadyH.nil)
                        · rw [if_pos (show Region.wanted _ _ = true by rfl)]
                          refine wp_slice [Y, X] 2 [(0, .tmp 162), (1, .tmp 163)] rfl rfl (by decide) (fun x hx => (HDYX.out x hx).1) rfl ?_
                          replace hR := hR.slice [Y, X] 2 rfl (by simp) HDYX.out 26 _ rfl
                          generalize Vdq.alloc (.cells (List.map byteVals [Y, X]).flatten.toArray 26) = Vdqp at *
                          generalize Vdq.heap.size = gp at *
                          refine hK.out _ _ hR.bare (fun hHeld => ?_)
                          clear hK K
                          (try simp only [Act.put, List.setIfInBounds_toArray, List.set_cons_zero, List.set_cons_succ, List.getElem_toArray, List.getElem_cons_zero, List.getElem_cons_succ])
                          refine wpAnyH_ready (rs := [23]) (by kernel_rfl) (by simp) ?_
                          refine (AllReadyH.cons (o := _) rfl (fun K hK => ?_) AllReadyH.nil)
                          · go_simp
                            refine (f3 X Y HYX.out _ _ _ (HK.out.below hR.below) (hR.dl (by (with_reducible (repeat (first | exact List.mem_cons_self | refine List.mem_cons_of_mem _ ?_))))) (hR.dl (by (with_reducible (repeat (first | exact List.mem_cons_self | refine List.mem_cons_of_mem _ ?_)))))).mono ?_
                            rintro e Ve ⟨rfl, hb⟩
                            replace hR := hR.call hb
                            clear hb
                            go_wp2_with fail
                            refine hK.out _ _ (hR.bare) (fun hHeld => ?_)
                            clear hK K
                            (try simp only [Act.put, List.setIfInBounds_toArray, List.set_cons_zero, List.set_cons_succ, List.getElem_toArray, List.getElem_cons_zero, List.getElem_cons_succ])
                            refine wpAnyH_take (i := 24) (oi := _) (v := .bool true) rfl (by kernel_rfl) (by kernel_rfl) (by kernel_rfl) (fun _ _ _ h => h) (Or.inl ⟨by rfl, fun wx hSw => ?_⟩) (by assumption) ?_
                            · go_simp
                              try (rw [IntKind.wrap_i64]; omega)
                            (try simp only [Act.put, List.setIfInBounds_toArray, List.set_cons_zero, List.set_cons_succ, List.getElem_toArray, List.getElem_cons_zero, List.getElem_cons_succ])
                            refine wpAnyH_take (i := 25) (oi := _) (v := .bool true) rfl (by kernel_rfl) (by kernel_rfl) (by kernel_rfl) (fun _ _ _ h => h) (Or.inl ⟨by rfl, fun wx hSw => ?_⟩) (by assumption) ?_
                            · go_simp
                              try (rw [IntKind.wrap_i64]; omega)
                            (try simp only [Act.put, List.setIfInBounds_toArray, List.set_cons_zero, List.set_cons_succ, List.getElem_toArray, List.getElem_cons_zero, List.getElem_cons_succ])
                            refine wpAnyH_take (i := 26) (oi := _) (v := .bool true) rfl (by kernel_rfl) (by kernel_rfl) (by kernel_rfl) (fun _ _ _ h => h) (Or.inl ⟨by rfl, fun wx hSw => ?_⟩) (by assumption) ?_
                            · go_simp
                              try (rw [IntKind.wrap_i64]; omega)
                            (try simp only [Act.put, List.setIfInBounds_toArray, List.set_cons_zero, List.set_cons_succ, List.getElem_toArray, List.getElem_cons_zero, List.getElem_cons_succ])
                            refine wpAnyH_done (by kernel_rfl) ?_ _
                            go_wp2_with fail
                            go_meet
                            exact ⟨rfl, Lib.hid hR.bare⟩
        · rw [if_pos (show Region.wanted _ _ = true by rfl)]
          refine wp_slice [X] 1 [(0, .tmp 148)] rfl rfl (by decide) (fun x hx => (HDX.out x hx).1) rfl ?_
          replace hR := hR.slice [X] 1 rfl (by simp) HDX.out 26 _ rfl
          generalize V0.alloc (.cells (List.map byteVals [X]).flatten.toArray 26) = V0b at *
          generalize V0.heap.size = gb at *
          refine hK.out _ _ hR.bare (fun hHeld => ?_)
          clear hK K
          (try simp only [Act.put, List.setIfInBounds_toArray, List.set_cons_zero, List.set_cons_succ, List.getElem_toArray, List.getElem_cons_zero, List.getElem_cons_succ])
          refine wpAnyH_ready (rs := [2]) (by kernel_rfl) (by simp) ?_
          refine (AllReadyH.cons (o := _) rfl (fun K hK => ?_) AllReadyH.nil)
          · rw [if_pos (show Region.wanted _ _ = true by rfl)]
            refine wp_slice [X, Y] 2 [(0, .tmp 145), (1, .tmp 146)] rfl rfl (by decide) (fun x hx => (HDXY.out x hx).1) rfl ?_
            replace hR := hR.slice [X, Y] 2 rfl (by simp) HDXY.out 26 _ rfl
            generalize V0b.alloc (.cells (List.map byteVals [X, Y]).flatten.toArray 26) = V0ba at *
            generalize V0b.heap.size = ga at *
            refine hK.out _ _ hR.bare (fun hHeld => ?_)
            clear hK K
            (try simp only [Act.put, List.setIfInBounds_toArray, List.set_cons_zero, List.set_cons_succ, List.getElem_toArray, List.getElem_cons_zero, List.getElem_cons_succ])
            refine wpAnyH_ready (rs := [5]) (by kernel_rfl) (by simp) ?_
            refine (AllReadyH.cons (o := _) rfl (fun K hK => ?_) AllReadyH.nil)
            · go_simp
              refine (f1 X Y P HP.out HYP.out _ _ _ (HK.out.below hR.below) (hR.dl (by (with_reducible (repeat (first | exact List.mem_cons_self | refine List.mem_cons_of_mem _ ?_))))) (hR.dl (by (with_reducible (repeat (first | exact List.mem_cons_self | refine List.mem_cons_of_mem _ ?_)))))).mono ?_
              rintro e Vc ⟨rfl, hb⟩
              replace hR := hR.call hb
              clear hb
              go_wp2_with fail
              refine hK.out _ _ (hR.bare) (fun hHeld => ?_)
              clear hK K
              (try simp only [Act.put, List.setIfInBounds_toArray, List.set_cons_zero, List.set_cons_succ, List.getElem_toArray, List.getElem_cons_zero, List.getElem_cons_succ])
              refine wpAnyH_take (i := 6) (oi := _) (v := .bool true) rfl (by kernel_rfl) (by kernel_rfl) (by kernel_rfl) (fun _ _ _ h => h) (Or.inl ⟨by rfl, fun wx hSw => ?_⟩) (by assumption) ?_
              · go_simp
                try (rw [IntKind.wrap_i64]; omega)
              (try simp only [Act.put, List.setIfInBounds_toArray, List.set_cons_zero, List.set_cons_succ, List.getElem_toArray, List.getElem_cons_zero, List.getElem_cons_succ])
              refine wpAnyH_take (i := 7) (oi := _) (v := .bool true) rfl (by kernel_rfl) (by kernel_rfl) (by kernel_rfl) (fun _ _ _ h => h) (Or.inl ⟨by rfl, fun wx hSw => ?_⟩) (by assumption) ?_
              · go_simp
                try (rw [IntKind.wrap_i64]; omega)
              (try simp only [Act.put, List.setIfInBounds_toArray, List.set_cons_zero, List.set_cons_succ, List.getElem_toArray, List.getElem_cons_zero, List.getElem_cons_succ])
              refine wpAnyH_take (i := 8) (oi := _) (v := .agg (byteVals X).toArray) rfl (by kernel_rfl) (by kernel_rfl) (by kernel_rfl) (fun _ _ _ h => h) (yieldsIf_load_mid (by rfl) 26 _ rfl w.heap.size 0 rfl (byteVals X) _ (fun wx hSw => hSw.range (by (with_reducible (repeat (first | exact List.mem_cons_self | refine List.mem_cons_of_mem _ ?_))))) Tryd.underlying26 rfl (size26 _ hxl)) (by assumption) ?_
              (try simp only [Act.put, List.setIfInBounds_toArray, List.set_cons_zero, List.set_cons_succ, List.getElem_toArray, List.getElem_cons_zero, List.getElem_cons_succ])
              refine wpAnyH_take (i := 10) (oi := _) (v := .agg (byteVals X).toArray) rfl (by kernel_rfl) (by kernel_rfl) (by kernel_rfl) (fun _ _ _ h => h) (yieldsIf_load_mid (by rfl) 26 _ rfl w.heap.size 0 rfl (byteVals X) _ (fun wx hSw => hSw.range (by (with_reducible (repeat (first | exact List.mem_cons_self | refine List.mem_cons_of_mem _ ?_))))) Tryd.underlying26 rfl (size26 _ hxl)) (by assumption) ?_
              (try simp only [Act.put, List.setIfInBounds_toArray, List.set_cons_zero, List.set_cons_succ, List.getElem_toArray, List.getElem_cons_zero, List.getElem_cons_succ])
              refine wpAnyH_ready (rs := [9, 11]) (by kernel_rfl) (by simp) ?_
              refine (AllReadyH.cons (o := _) rfl (fun K hK => ?_) (AllReadyH.cons (o := _) rfl (fun K hK => ?_) AllReadyH.nil))
              · rw [if_pos (show Region.wanted _ _ = true by rfl)]
                refine wp_slice [X] 1 [(0, .tmp 153)] rfl rfl (by decide) (fun x hx => (HDX.out x hx).1) rfl ?_
                replace hR := hR.slice [X] 1 rfl (by simp) HDX.out 26 _ rfl
                generalize Vc.alloc (.cells (List.map byteVals [X]).flatten.toArray 26) = Vcr at *
                generalize Vc.heap.size = gr at *
                refine hK.out _ _ hR.bare (fun hHeld => ?_)
                clear hK K
                (try simp only [Act.put, List.setIfInBounds_toArray, List.set_cons_zero, List.set_cons_succ, List.getElem_toArray, List.getElem_cons_zero, List.getElem_cons_succ])
                refine wpAnyH_ready (rs := [11]) (by kernel_rfl) (by simp) ?_
                refine (AllReadyH.cons (o := _) rfl (fun K hK => ?_) AllReadyH.nil)
                · go_simp
                  refine (pad0 P HP.out _ (HK.out.below hR.below)).mono ?_
                  rintro e Vpa ⟨rfl, hb⟩
                  replace hR := hR.call hb
                  clear hb
                  go_wp2_with fail
                  refine hK.out _ _ (hR.bare) (fun hHeld => ?_)
                  clear hK K
                  (try simp only [Act.put, List.setIfInBounds_toArray, List.set_cons_zero, List.set_cons_succ, List.getElem_toArray, List.getElem_cons_zero, List.getElem_cons_succ])
                  refine wpAnyH_ready (rs := [12]) (by kernel_rfl) (by simp) ?_
                  refine (AllReadyH.cons (o := _) rfl (fun K hK => ?_) AllReadyH.nil)
                  · rw [if_pos (show Region.wanted _ _ = true by rfl)]
                    refine wp_slice [X, P] 2 [(0, .tmp 155), (1, .tmp 156)] rfl rfl (by decide) (fun x hx => (HDXP.out x hx).1) rfl ?_
                    replace hR := hR.slice [X, P] 2 rfl (by simp) HDXP.out 26 _ rfl
                    generalize Vpa.alloc (.cells (List.map byteVals [X, P]).flatten.toArray 26) = Vpas at *
                    generalize Vpa.heap.size = gs at *
                    refine hK.out _ _ hR.bare (fun hHeld => ?_)
                    clear hK K
                    (try simp only [Act.put, List.setIfInBounds_toArray, List.set_cons_zero, List.set_cons_succ, List.getElem_toArray, List.getElem_cons_zero, List.getElem_cons_succ])
                    refine wpAnyH_ready (rs := [13]) (by kernel_rfl) (by simp) ?_
                    refine (AllReadyH.cons (o := _) rfl (fun K hK => ?_) AllReadyH.nil)
                    · go_simp
                      refine (f2 X P HP.out _ _ _ (HK.out.below hR.below) (hR.dl (by (with_reducible (repeat (first | exact List.mem_cons_self | refine List.mem_cons_of_mem _ ?_))))) (hR.dl (by (with_reducible (repeat (first | exact List.mem_cons_self | refine List.mem_cons_of_mem _ ?_)))))).mono ?_
                      rintro e Vd ⟨rfl, hb⟩
                      replace hR := hR.call hb
                      clear hb
                      go_wp2_with fail
                      refine hK.out _ _ (hR.bare) (fun hHeld => ?_)
                      clear hK K
                      (try simp only [Act.put, List.setIfInBounds_toArray, List.set_cons_zero, List.set_cons_succ, List.getElem_toArray, List.getElem_cons_zero, List.getElem_cons_succ])
                      refine wpAnyH_take (i := 14) (oi := _) (v := .bool true) rfl (by kernel_rfl) (by kernel_rfl) (by kernel_rfl) (fun _ _ _ h => h) (Or.inl ⟨by rfl, fun wx hSw => ?_⟩) (by assumption) ?_
                      · go_simp
                        try (rw [IntKind.wrap_i64]; omega)
                      (try simp only [Act.put, List.setIfInBounds_toArray, List.set_cons_zero, List.set_cons_succ, List.getElem_toArray, List.getElem_cons_zero, List.getElem_cons_succ])
                      refine wpAnyH_take (i := 15) (oi := _) (v := .bool true) rfl (by kernel_rfl) (by kernel_rfl) (by kernel_rfl) (fun _ _ _ h => h) (Or.inl ⟨by rfl, fun wx hSw => ?_⟩) (by assumption) ?_
                      · go_simp
                        try (rw [IntKind.wrap_i64]; omega)
                      (try simp only [Act.put, List.setIfInBounds_toArray, List.set_cons_zero, List.set_cons_succ, List.getElem_toArray, List.getElem_cons_zero, List.getElem_cons_succ])
                      refine wpAnyH_take (i := 16) (oi := _) (v := .bool true) rfl (by kernel_rfl) (by kernel_rfl) (by kernel_rfl) (fun _ _ _ h => h) (Or.inl ⟨by rfl, fun wx hSw => ?_⟩) (by assumption) ?_
                      · go_simp
                        try (rw [IntKind.wrap_i64]; omega)
                      (try simp only [Act.put, List.setIfInBounds_toArray, List.set_cons_zero, List.set_cons_succ, List.getElem_toArray, List.getElem_cons_zero, List.getElem_cons_succ])
                      refine wpAnyH_take (i := 17) (oi := _) (v := .agg (byteVals Y).toArray) rfl (by kernel_rfl) (by kernel_rfl) (by kernel_rfl) (fun _ _ _ h => h) (yieldsIf_load_mid (by rfl) 26 _ rfl bY 0 rfl (byteVals Y) _ (fun wx hSw => hSw.range (by (with_reducible (repeat (first | exact List.mem_cons_self | refine List.mem_cons_of_mem _ ?_))))) Tryd.underlying26 rfl (size26 _ hyl)) (by assumption) ?_
                      (try simp only [Act.put, List.setIfInBounds_toArray, List.set_cons_zero, List.set_cons_succ, List.getElem_toArray, List.getElem_cons_zero, List.getElem_cons_succ])
                      refine wpAnyH_take (i := 18) (oi := _) (v := .agg (byteVals X).toArray) rfl (by kernel_rfl) (by kernel_rfl) (by kernel_rfl) (fun _ _ _ h => h) (yieldsIf_load_mid (by rfl) 26 _ rfl w.heap.size 0 rfl (byteVals X) _ (fun wx hSw => hSw.range (by (with_reducible (repeat (first | exact List.mem_cons_self | refine List.mem_cons_of_mem _ ?_))))) Tryd.underlying26 rfl (size26 _ hxl)) (by assumption) ?_
                      (try simp only [Act.put, List.setIfInBounds_toArray, List.set_cons_zero, List.set_cons_succ, List.getElem_toArray, List.getElem_cons_zero, List.getElem_cons_succ])
                      refine wpAnyH_take (i := 20) (oi := _) (v := .agg (byteVals X).toArray) rfl (by kernel_rfl) (by kernel_rfl) (by kernel_rfl) (fun _ _ _ h => h) (yieldsIf_load_mid (by rfl) 26 _ rfl w.heap.size 0 rfl (byteVals X) _ (fun wx hSw => hSw.range (by (with_reducible (repeat (first | exact List.mem_cons_self | refine List.mem_cons_of_mem _ ?_))))) Tryd.underlying26 rfl (size26 _ hxl)) (by assumption) ?_
                      (try simp only [Act.put, List.setIfInBounds_toArray, List.set_cons_zero, List.set_cons_succ, List.getElem_toArray, List.getElem_cons_zero, List.getElem_cons_succ])
                      refine wpAnyH_take (i := 21) (oi := _) (v := .agg (byteVals Y).toArray) rfl (by kernel_rfl) (by kernel_rfl) (by kernel_rfl) (fun _ _ _ h => h) (yieldsIf_load_mid (by rfl) 26 _ rfl bY 0 rfl (byteVals Y) _ (fun wx hSw => hSw.range (by (with_reducible (repeat (first | exact List.mem_cons_self | refine List.mem_cons_of_mem _ ?_))))) Tryd.underlying26 rfl (size26 _ hyl)) (by assumption) ?_
                      (try simp only [Act.put, List.setIfInBounds_toArray, List.set_cons_zero, List.set_cons_succ, List.getElem_toArray, List.getElem_cons_zero, List.getElem_cons_succ])
                      refine wpAnyH_ready (rs := [19, 22]) (by kernel_rfl) (by simp) ?_
                      refine (AllReadyH.cons (o := _) rfl (fun K hK => ?_) (AllReadyH.cons (o := _) rfl (fun K hK => ?_) AllReadyH.nil))
                      · rw [if_pos (show Region.wanted _ _ = true by rfl)]
                        refine wp_slice [Y, X] 2 [(0, .tmp 162), (1, .tmp 163)] rfl rfl (by decide) (fun x hx => (HDYX.out x hx).1) rfl ?_
                        replace hR := hR.slice [Y, X] 2 rfl (by simp) HDYX.out 26 _ rfl
                        generalize Vd.alloc (.cells (List.map byteVals [Y, X]).flatten.toArray 26) = Vdp at *
                        generalize Vd.heap.size = gp at *
                        refine hK.out _ _ hR.bare (fun hHeld => ?_)
                        clear hK K
                        (try simp only [Act.put, List.setIfInBounds_toArray, List.set_cons_zero, List.set_cons_succ, List.getElem_toArray, List.getElem_cons_zero, List.getElem_cons_succ])
                        refine wpAnyH_ready (rs := [22]) (by kernel_rfl) (by simp) ?_
                        refine (AllReadyH.cons (o := _) rfl (fun K hK => ?_) AllReadyH.nil)
                        · rw [if_pos (show Region.wanted _ _ = true by rfl)]
                          refine wp_slice [X, Y] 2 [(0, .tmp 165), (1, .tmp 166)] rfl rfl (by decide) (fun x hx => (HDXY.out x hx).1) rfl ?_
                          replace hR := hR.slice [X, Y] 2 rfl (by simp) HDXY.out 26 _ rfl
                          generalize Vdp.alloc (.cells (List.map byteVals [X, Y]).flatten.toArray 26) = Vdpq at *
                          generalize Vdp.heap.size = gq at *
                          refine hK.out _ _ hR.bare (fun hHeld => ?_)
                          clear hK K
                          (try simp only [Act.put, List.setIfInBounds_toArray, List.set_cons_zero, List.set_cons_succ, List.getElem_toArray, List.getElem_cons_zero, List.getElem_cons_succ])
                          refine wpAnyH_ready (rs := [23]) (by kernel_rfl) (by simp) ?_
                          refine (AllReadyH.cons (o := _) rfl (fun K hK => ?_) AllReadyH.nil)
                          · go_simp
                            refine (f3 X Y HYX.out _ _ _ (HK.out.below hR.below) (hR.dl (by (with_reducible (repeat (first | exact List.mem_cons_self | refine List.mem_cons_of_mem _ ?_))))) (hR.dl (by (with_reducible (repeat (first | exact List.mem_cons_self | refine List.mem_cons_of_mem _ ?_)))))).mono ?_
                            rintro e Ve ⟨rfl, hb⟩
                            replace hR := hR.call hb
                            clear hb
                            go_wp2_with fail
                            refine hK.out _ _ (hR.bare) (fun hHeld => ?_)
                            clear hK K
                            (try simp only [Act.put, List.setIfInBounds_toArray, List.set_cons_zero, List.set_cons_succ, List.getElem_toArray, List.getElem_cons_zero, List.getElem_cons_succ])
                            refine wpAnyH_take (i := 24) (oi := _) (v := .bool true) rfl (by kernel_rfl) (by kernel_rfl) (by kernel_rfl) (fun _ _ _ h => h) (Or.inl ⟨by rfl, fun wx hSw => ?_⟩) (by assumption) ?_
                            · go_simp
                              try (rw [IntKind.wrap_i64]; omega)
                            (try simp only [Act.put, List.setIfInBounds_toArray, List.set_cons_zero, List.set_cons_succ, List.getElem_toArray, List.getElem_cons_zero, List.getElem_cons_succ])
                            refine wpAnyH_take (i := 25) (oi := _) (v := .bool true) rfl (by kernel_rfl) (by kernel_rfl) (by kernel_rfl) (fun _ _ _ h => h) (Or.inl ⟨by rfl, fun wx hSw => ?_⟩) (by assumption) ?_
                            · go_simp
                              try (rw [IntKind.wrap_i64]; omega)
                            (try simp only [Act.put, List.setIfInBounds_toArray, List.set_cons_zero, List.set_cons_succ, List.getElem_toArray, List.getElem_cons_zero, List.getElem_cons_succ])
                            refine wpAnyH_take (i := 26) (oi := _) (v := .bool true) rfl (by kernel_rfl) (by kernel_rfl) (by kernel_rfl) (fun _ _ _ h => h) (Or.inl ⟨by rfl, fun wx hSw => ?_⟩) (by assumption) ?_
                            · go_simp
                              try (rw [IntKind.wrap_i64]; omega)
                            (try simp only [Act.put, List.setIfInBounds_toArray, List.set_cons_zero, List.set_cons_succ, List.getElem_toArray, List.getElem_cons_zero, List.getElem_cons_succ])
                            refine wpAnyH_done (by kernel_rfl) ?_ _
                            go_wp2_with fail
                            go_meet
                            exact ⟨rfl, Lib.hid hR.bare⟩
                      · rw [if_pos (show Region.wanted _ _ = true by rfl)]
                        refine wp_slice [X, Y] 2 [(0, .tmp 165), (1, .tmp 166)] rfl rfl (by decide) (fun x hx => (HDXY.out x hx).1) rfl ?_
                        replace hR := hR.slice [X, Y] 2 rfl (by simp) HDXY.out 26 _ rfl
                        generalize Vd.alloc (.cells (List.map byteVals [X, Y]).flatten.toArray 26) = Vdq at *
                        generalize Vd.heap.size = gq at *
                        refine hK.out _ _ hR.bare (fun hHeld => ?_)
                        clear hK K
                        (try simp only [Act.put, List.setIfInBounds_toArray, List.set_cons_zero, List.set_cons_succ, List.getElem_toArray, List.getElem_cons_zero, List.getElem_cons_succ])
                        refine wpAnyH_ready (rs := [19]) (by kernel_rfl) (by simp) ?_
                        refine (AllReadyH.cons (o := _) rfl (fun K hK => ?_) AllReadyH.nil)
                        · rw [if_pos (show Region.wanted _ _ = true by rfl)]
                          refine wp_slice [Y, X] 2 [(0, .tmp 162), (1, .tmp 163)] rfl rfl (by decide) (fun x hx => (HDYX.out x hx).1) rfl ?_
                          replace hR := hR.slice [Y, X] 2 rfl (by simp) HDYX.out 26 _ rfl
                          generalize Vdq.alloc (.cells (List.map byteVals [Y, X]).flatten.toArray 26) = Vdqp at *
                          generalize Vdq.heap.size = gp at *
                          refine hK.out _ _ hR.bare (fun hHeld => ?_)
                          clear hK K
                          (try simp only [Act.put, List.setIfInBounds_toArray, List.set_cons_zero, List.set_cons_succ, List.getElem_toArray, List.getElem_cons_zero, List.getElem_cons_succ])
                          refine wpAnyH_ready (rs := [23]) (by kernel_rfl) (by simp) ?_
                          refine (AllReadyH.cons (o := _) rfl (fun K hK => ?_) AllReadyH.nil)
                          · go_simp
                            refine (f3 X Y HYX.out _ _ _ (HK.out.below hR.below) (hR.dl (by (with_reducible (repeat (first | exact List.mem_cons_self | refine List.mem_cons_of_mem _ ?_))))) (hR.dl (by (with_reducible (repeat (first | exact List.mem_cons_self | refine List.mem_cons_of_mem _ ?_)))))).mono ?_
                            rintro e Ve ⟨rfl, hb⟩
                            replace hR := hR.call hb
                            clear hb
                            go_wp2_with fail
                            refine hK.out _ _ (hR.bare) (fun hHeld => ?_)
                            clear hK K
                            (try simp only [Act.put, List.setIfInBounds_toArray, List.set_cons_zero, List.set_cons_succ, List.getElem_toArray, List.getElem_cons_zero, List.getElem_cons_succ])
                            refine wpAnyH_take (i := 24) (oi := _) (v := .bool true) rfl (by kernel_rfl) (by kernel_rfl) (by kernel_rfl) (fun _ _ _ h => h) (Or.inl ⟨by rfl, fun wx hSw => ?_⟩) (by assumption) ?_
                            · go_simp
                              try (rw [IntKind.wrap_i64]; omega)
                            (try simp only [Act.put, List.setIfInBounds_toArray, List.set_cons_zero, List.set_cons_succ, List.getElem_toArray, List.getElem_cons_zero, List.getElem_cons_succ])
                            refine wpAnyH_take (i := 25) (oi := _) (v := .bool true) rfl (by kernel_rfl) (by kernel_rfl) (by kernel_rfl) (fun _ _ _ h => h) (Or.inl ⟨by rfl, fun wx hSw => ?_⟩) (by assumption) ?_
                            · go_simp
                              try (rw [IntKind.wrap_i64]; omega)
                            (try simp only [Act.put, List.setIfInBounds_toArray, List.set_cons_zero, List.set_cons_succ, List.getElem_toArray, List.getElem_cons_zero, List.getElem_cons_succ])
                            refine wpAnyH_take (i := 26) (oi := _) (v := .bool true) rfl (by kernel_rfl) (by kernel_rfl) (by kernel_rfl) (fun _ _ _ h => h) (Or.inl ⟨by rfl, fun wx hSw => ?_⟩) (by assumption) ?_
                            · go_simp
                              try (rw [IntKind.wrap_i64]; omega)
                            (try simp only [Act.put, List.setIfInBounds_toArray, List.set_cons_zero, List.set_cons_succ, List.getElem_toArray, List.getElem_cons_zero, List.getElem_cons_succ])
                            refine wpAnyH_done (by kernel_rfl) ?_ _
                            go_wp2_with fail
                            go_meet
                            exact ⟨rfl, Lib.hid hR.bare⟩
              · go_simp
                refine (pad0 P HP.out _ (HK.out.below hR.below)).mono ?_
                rintro e Vp ⟨rfl, hb⟩
                replace hR := hR.call hb
                clear hb
                go_wp2_with fail
                refine hK.out _ _ (hR.bare) (fun hHeld => ?_)
                clear hK K
                (try simp only [Act.put, List.setIfInBounds_toArray, List.set_cons_zero, List.set_cons_succ, List.getElem_toArray, List.getElem_cons_zero, List.getElem_cons_succ])
                refine wpAnyH_ready (rs := [9, 12]) (by kernel_rfl) (by simp) ?_
                refine (AllReadyH.cons (o := _) rfl (fun K hK => ?_) (AllReadyH.cons (o := _) rfl (fun K hK => ?_) AllReadyH.nil))
                · rw [if_pos (show Region.wanted _ _ = true by rfl)]
                  refine wp_slice [X] 1 [(0, .tmp 153)] rfl rfl (by decide) (fun x hx => (HDX.out x hx).1) rfl ?_
                  replace hR := hR.slice [X] 1 rfl (by simp) HDX.out 26 _ rfl
                  generalize Vp.alloc (.cells (List.map byteVals [X]).flatten.toArray 26) = Vpr at *
                  generalize Vp.heap.size = gr at *
                  refine hK.out _ _ hR.bare (fun hHeld => ?_)
                  clear hK K
                  (try simp only [Act.put, List.setIfInBounds_toArray, List.set_cons_zero, List.set_cons_succ, List.getElem_toArray, List.getElem_cons_zero, List.getElem_cons_succ])
                  refine wpAnyH_ready (rs := [12]) (by kernel_rfl) (by simp) ?_
                  refine (AllReadyH.cons (o := _) rfl (fun K hK => ?_) AllReadyH.nil)
                  · rw [if_pos (show Region.wanted _ _ = true by rfl)]
                    refine wp_slice [X, P] 2 [(0, .tmp 155), (1, .tmp 156)] rfl rfl (by decide) (fun x hx => (HDXP.out x hx).1) rfl ?_
                    replace hR := hR.slice [X, P] 2 rfl (by simp) HDXP.out 26 _ rfl
                    generalize Vpr.alloc (.cells (List.map byteVals [X, P]).flatten.toArray 26) = Vprs at *
                    generalize Vpr.heap.size = gs at *
                    refine hK.out _ _ hR.bare (fun hHeld => ?_)
                    clear hK K
                    (try simp only [Act.put, List.setIfInBounds_toArray, List.set_cons_zero, List.set_cons_succ, List.getElem_toArray, List.getElem_cons_zero, List.getElem_cons_succ])
                    refine wpAnyH_ready (rs := [13]) (by kernel_rfl) (by simp) ?_
                    refine (AllReadyH.cons (o := _) rfl (fun K hK => ?_) AllReadyH.nil)
                    · go_simp
                      refine (f2 X P HP.out _ _ _ (HK.out.below hR.below) (hR.dl (by (with_reducible (repeat (first | exact List.mem_cons_self | refine List.mem_cons_of_mem _ ?_))))) (hR.dl (by (with_reducible (repeat (first | exact List.mem_cons_self | refine List.mem_cons_of_mem _ ?_)))))).mono ?_
                      rintro e Vd ⟨rfl, hb⟩
                      replace hR := hR.call hb
                      clear hb
                      go_wp2_with fail
                      refine hK.out _ _ (hR.bare) (fun hHeld => ?_)
                      clear hK K
                      (try simp only [Act.put, List.setIfInBounds_toArray, List.set_cons_zero, List.set_cons_succ, List.getElem_toArray, List.getElem_cons_zero, List.getElem_cons_succ])
                      refine wpAnyH_take (i := 14) (oi := _) (v := .bool true) rfl (by kernel_rfl) (by kernel_rfl) (by kernel_rfl) (fun _ _ _ h => h) (Or.inl ⟨by rfl, fun wx hSw => ?_⟩) (by assumption) ?_
                      · go_simp
                        try (rw [IntKind.wrap_i64]; omega)
                      (try simp only [Act.put, List.setIfInBounds_toArray, List.set_cons_zero, List.set_cons_succ, List.getElem_toArray, List.getElem_cons_zero, List.getElem_cons_succ])
                      refine wpAnyH_take (i := 15) (oi := _) (v := .bool true) rfl (by kernel_rfl) (by kernel_rfl) (by kernel_rfl) (fun _ _ _ h => h) (Or.inl ⟨by rfl, fun wx hSw => ?_⟩) (by assumption) ?_
                      · go_simp
                        try (rw [IntKind.wrap_i64]; omega)
                      (try simp only [Act.put, List.setIfInBounds_toArray, List.set_cons_zero, List.set_cons_succ, List.getElem_toArray, List.getElem_cons_zero, List.getElem_cons_succ])
                      refine wpAnyH_take (i := 16) (oi := _) (v := .bool true) rfl (by kernel_rfl) (by kernel_rfl) (by kernel_rfl) (fun _ _ _ h => h) (Or.inl ⟨by rfl, fun wx hSw => ?_⟩) (by assumption) ?_
                      · go_simp
                        try (rw [IntKind.wrap_i64]; omega)
                      (try simp only [Act.put, List.setIfInBounds_toArray, List.set_cons_zero, List.set_cons_succ, List.getElem_toArray, List.getElem_cons_zero, List.getElem_cons_succ])
                      refine wpAnyH_take (i := 17) (oi := _) (v := .agg (byteVals Y).toArray) rfl (by kernel_rfl) (by kernel_rfl) (by kernel_rfl) (fun _ _ _ h => h) (yieldsIf_load_mid (by rfl) 26 _ rfl bY 0 rfl (byteVals Y) _ (fun wx hSw => hSw.range (by (with_reducible (repeat (first | exact List.mem_cons_self | refine List.mem_cons_of_mem _ ?_))))) Tryd.underlying26 rfl (size26 _ hyl)) (by assumption) ?_
                      (try simp only [Act.put, List.setIfInBounds_toArray, List.set_cons_zero, List.set_cons_succ, List.getElem_toArray, List.getElem_cons_zero, List.getElem_cons_succ])
                      refine wpAnyH_take (i := 18) (oi := _) (v := .agg (byteVals X).toArray) rfl (by kernel_rfl) (by kernel_rfl) (by kernel_rfl) (fun _ _ _ h => h) (yieldsIf_load_mid (by rfl) 26 _ rfl w.heap.size 0 rfl (byteVals X) _ (fun wx hSw => hSw.range (by (with_reducible (repeat (first | exact List.mem_cons_self | refine List.mem_cons_of_mem _ ?_))))) Tryd.underlying26 rfl (size26 _ hxl)) (by assumption) ?_
                      (try simp only [Act.put, List.setIfInBounds_toArray, List.set_cons_zero, List.set_cons_succ, List.getElem_toArray, List.getElem_cons_zero, List.getElem_cons_succ])
                      refine wpAnyH_take (i := 20) (oi := _) (v := .agg (byteVals X).toArray) rfl (by kernel_rfl) (by kernel_rfl) (by kernel_rfl) (fun _ _ _ h => h) (yieldsIf_load_mid (by rfl) 26 _ rfl w.heap.size 0 rfl (byteVals X) _ (fun wx hSw => hSw.range (by (with_reducible (repeat (first | exact List.mem_cons_self | refine List.mem_cons_of_mem _ ?_))))) Tryd.underlying26 rfl (size26 _ hxl)) (by assumption) ?_
                      (try simp only [Act.put, List.setIfInBounds_toArray, List.set_cons_zero, List.set_cons_succ, List.getElem_toArray, List.getElem_cons_zero, List.getElem_cons_succ])
                      refine wpAnyH_take (i := 21) (oi := _) (v := .agg (byteVals Y).toArray) rfl (by kernel_rfl) (by kernel_rfl) (by kernel_rfl) (fun _ _ _ h => h) (yieldsIf_load_mid (by rfl) 26 _ rfl bY 0 rfl (byteVals Y) _ (fun wx hSw => hSw.range (by (with_reducible (repeat (first | exact List.mem_cons_self | refine List.mem_cons_of_mem _ ?_))))) Tryd.underlying26 rfl (size26 _ hyl)) (by assumption) ?_
                      (try simp only [Act.put, List.setIfInBounds_toArray, List.set_cons_zero, List.set_cons_succ, List.getElem_toArray, List.getElem_cons_zero, List.getElem_cons_succ])
                      refine wpAnyH_ready (rs := [19, 22]) (by kernel_rfl) (by simp) ?_
                      refine (AllReadyH.cons (o := _) rfl (fun K hK => ?_) (AllReadyH.cons (o := _) rfl (fun K hK => ?_) AllReadyH.nil))
                      · rw [if_pos (show Region.wanted _ _ = true by rfl)]
                        refine wp_slice [Y, X] 2 [(0, .tmp 162), (1, .tmp 163)] rfl rfl (by decide) (fun x hx => (HDYX.out x hx).1) rfl ?_
                        replace hR := hR.slice [Y, X] 2 rfl (by simp) HDYX.out 26 _ rfl
                        generalize Vd.alloc (.cells (List.map byteVals [Y, X]).flatten.toArray 26) = Vdp at *
                        generalize Vd.heap.size = gp at *
                        refine hK.out _ _ hR.bare (fun hHeld => ?_)
                        clear hK K
                        (try simp only [Act.put, List.setIfInBounds_toArray, List.set_cons_zero, List.set_cons_succ, List.getElem_toArray, List.getElem_cons_zero, List.getElem_cons_succ])
                        refine wpAnyH_ready (rs := [22]) (by kernel_rfl) (by simp) ?_
                        refine (AllReadyH.cons (o := _) rfl (fun K hK => ?_) AllReadyH.nil)
                        · rw [if_pos (show Region.wanted _ _ = true by rfl)]
                          refine wp_slice [X, Y] 2 [(0, .tmp 165), (1, .tmp 166)] rfl rfl (by decide) (fun x hx => (HDXY.out x hx).1) rfl ?_
                          replace hR := hR.slice [X, Y] 2 rfl (by simp) HDXY.out 26 _ rfl
                          generalize Vdp.alloc (.cells (List.map byteVals [X, Y]).flatten.toArray 26) = Vdpq at *
                          generalize Vdp.heap.size = gq at *
                          refine hK.out _ _ hR.bare (fun hHeld => ?_)
                          clear hK K
                          (try simp only [Act.put, List.setIfInBounds_toArray, List.set_cons_zero, List.set_cons_succ, List.getElem_toArray, List.getElem_cons_zero, List.getElem_cons_succ])
                          refine wpAnyH_ready (rs := [23]) (by kernel_rfl) (by simp) ?_
                          refine (AllReadyH.cons (o := _) rfl (fun K hK => ?_) AllReadyH.nil)
                          · go_simp
                            refine (f3 X Y HYX.out _ _ _ (HK.out.below hR.below) (hR.dl (by (with_reducible (repeat (first | exact List.mem_cons_self | refine List.mem_cons_of_mem _ ?_))))) (hR.dl (by (with_reducible (repeat (first | exact List.mem_cons_self | refine List.mem_cons_of_mem _ ?_)))))).mono ?_
                            rintro e Ve ⟨rfl, hb⟩
                            replace hR := hR.call hb
                            clear hb
                            go_wp2_with fail
                            refine hK.out _ _ (hR.bare) (fun hHeld => ?_)
                            clear hK K
                            (try simp only [Act.put, List.setIfInBounds_toArray, List.set_cons_zero, List.set_cons_succ, List.getElem_toArray, List.getElem_cons_zero, List.getElem_cons_succ])
                            refine wpAnyH_take (i := 24) (oi := _) (v := .bool true) rfl (by kernel_rfl) (by kernel_rfl) (by kernel_rfl) (fun _ _ _ h => h) (Or.inl ⟨by rfl, fun wx hSw => ?_⟩) (by assumption) ?_
                            · go_simp
                              try (rw [IntKind.wrap_i64]; omega)
                            (try simp only [Act.put, List.setIfInBounds_toArray, List.set_cons_zero, List.set_cons_succ, List.getElem_toArray, List.getElem_cons_zero, List.getElem_cons_succ])
                            refine wpAnyH_take (i := 25) (oi := _) (v := .bool true) rfl (by kernel_rfl) (by kernel_rfl) (by kernel_rfl) (fun _ _ _ h => h) (Or.inl ⟨by rfl, fun wx hSw => ?_⟩) (by assumption) ?_
                            · go_simp
                              try (rw [IntKind.wrap_i64]; omega)
                            (try simp only [Act.put, List.setIfInBounds_toArray, List.set_cons_zero, List.set_cons_succ, List.getElem_toArray, List.getElem_cons_zero, List.getElem_cons_succ])
                            refine wpAnyH_take (i := 26) (oi := _) (v := .bool true) rfl (by kernel_rfl) (by kernel_rfl) (by kernel_rfl) (fun _ _ _ h => h) (Or.inl ⟨by rfl, fun wx hSw => ?_⟩) (by assumption) ?_
                            · go_simp
                              try (rw [IntKind.wrap_i64]; omega)
                            (try simp only [Act.put, List.setIfInBounds_toArray, List.set_cons_zero, List.set_cons_succ, List.getElem_toArray, List.getElem_cons_zero, List.getElem_cons_succ])
                            refine wpAnyH_done (by kernel_rfl) ?_ _
                            go_wp2_with fail
                            go_meet
                            exact ⟨rfl, Lib.hid hR.bare⟩
                      · rw [if_pos (show Region.wanted _ _ = true by rfl)]
                        refine wp_slice [X, Y] 2 [(0, .tmp 165), (1, .tmp 166)] rfl rfl (by decide) (fun x hx => (HDXY.out x hx).1) rfl ?_
                        replace hR := hR.slice [X, Y] 2 rfl (by simp) HDXY.out 26 _ rfl
                        generalize Vd.alloc (.cells (List.map byteVals [X, Y]).flatten.toArray 26) = Vdq at *
                        generalize Vd.heap.size = gq at *
                        refine hK.out _ _ hR.bare (fun hHeld => ?_)
                        clear hK K
                        (try simp only [Act.put, List.setIfInBounds_toArray, List.set_cons_zero, List.set_cons_succ, List.getElem_toArray, List.getElem_cons_zero, List.getElem_cons_succ])
                        refine wpAnyH_ready (rs := [19]) (by kernel_rfl) (by simp) ?_
                        refine (AllReadyH.cons (o := _) rfl (fun K hK => ?_) AllReadyH.nil)
                        · rw [if_pos (show Region.wanted _ _ = true by rfl)]
                          refine wp_slice [Y, X] 2 [(0, .tmp 162), (1, .tmp 163)] rfl rfl (by decide) (fun x hx => (HDYX.out x hx).1) rfl ?_
                          replace hR := hR.slice [Y, X] 2 rfl (by simp) HDYX.out 26 _ rfl
                          generalize Vdq.alloc (.cells (List.map byteVals [Y, X]).flatten.toArray 26) = Vdqp at *
                          generalize Vdq.heap.size = gp at *
                          refine hK.out _ _ hR.bare (fun hHeld => ?_)
                          clear hK K
                          (try simp only [Act.put, List.setIfInBounds_toArray, List.set_cons_zero, List.set_cons_succ, List.getElem_toArray, List.getElem_cons_zero, List.getElem_cons_succ])
                          refine wpAnyH_ready (rs := [23]) (by kernel_rfl) (by simp) ?_
                          refine (AllReadyH.cons (o := _) rfl (fun K hK => ?_) AllReadyH.nil)
                          · go_simp
                            refine (f3 X Y HYX.out _ _ _ (HK.out.below hR.below) (hR.dl (by (with_reducible (repeat (first | exact List.mem_cons_self | refine List.mem_cons_of_mem _ ?_))))) (hR.dl (by (with_reducible (repeat (first | exact List.mem_cons_self | refine List.mem_cons_of_mem _ ?_)))))).mono ?_
                            rintro e Ve ⟨rfl, hb⟩
                            replace hR := hR.call hb
                            clear hb
                            go_wp2_with fail
                            refine hK.out _ _ (hR.bare) (fun hHeld => ?_)
                            clear hK K
                            (try simp only [Act.put, List.setIfInBounds_toArray, List.set_cons_zero, List.set_cons_succ, List.getElem_toArray, List.getElem_cons_zero, List.getElem_cons_succ])
                            refine wpAnyH_take (i := 24) (oi := _) (v := .bool true) rfl (by kernel_rfl) (by kernel_rfl) (by kernel_rfl) (fun _ _ _ h => h) (Or.inl ⟨by rfl, fun wx hSw => ?_⟩) (by assumption) ?_
                            · go_simp
                              try (rw [IntKind.wrap_i64]; omega)
                            (try simp only [Act.put, List.setIfInBounds_toArray, List.set_cons_zero, List.set_cons_succ, List.getElem_toArray, List.getElem_cons_zero, List.getElem_cons_succ])
                            refine wpAnyH_take (i := 25) (oi := _) (v := .bool true) rfl (by kernel_rfl) (by kernel_rfl) (by kernel_rfl) (fun _ _ _ h => h) (Or.inl ⟨by rfl, fun wx hSw => ?_⟩) (by assumption) ?_
                            · go_simp
                              try (rw [IntKind.wrap_i64]; omega)
                            (try simp only [Act.put, List.setIfInBounds_toArray, List.set_cons_zero, List.set_cons_succ, List.getElem_toArray, List.getElem_cons_zero, List.getElem_cons_succ])
                            refine wpAnyH_take (i := 26) (oi := _) (v := .bool true) rfl (by kernel_rfl) (by kernel_rfl) (by kernel_rfl) (fun _ _ _ h => h) (Or.inl ⟨by rfl, fun wx hSw => ?_⟩) (by assumption) ?_
                            · go_simp
                              try (rw [IntKind.wrap_i64]; omega)
                            (try simp only [Act.put, List.setIfInBounds_toArray, List.set_cons_zero, List.set_cons_succ, List.getElem_toArray, List.getElem_cons_zero, List.getElem_cons_succ])
                            refine wpAnyH_done (by kernel_rfl) ?_ _
                            go_wp2_with fail
                            go_meet
                            exact ⟨rfl, Lib.hid hR.bare⟩
                · rw [if_pos (show Region.wanted _ _ = true by rfl)]
                  refine wp_slice [X, P] 2 [(0, .tmp 155), (1, .tmp 156)] rfl rfl (by decide) (fun x hx => (HDXP.out x hx).1) rfl ?_
                  replace hR := hR.slice [X, P] 2 rfl (by simp) HDXP.out 26 _ rfl
                  generalize Vp.alloc (.cells (List.map byteVals [X, P]).flatten.toArray 26) = Vps at *
                  generalize Vp.heap.size = gs at *
                  refine hK.out _ _ hR.bare (fun hHeld => ?_)
                  clear hK K
                  (try simp only [Act.put, List.setIfInBounds_toArray, List.set_cons_zero, List.set_cons_succ, List.getElem_toArray, List.getElem_cons_zero, List.getElem_cons_succ])
                  refine wpAnyH_ready (rs := [9]) (by kernel_rfl) (by simp) ?_
                  refine (AllReadyH.cons (o := _) rfl (fun K hK => ?_) AllReadyH.nil)
                  · rw [if_pos (show Region.wanted _ _ = true by rfl)]
                    refine wp_slice [X] 1 [(0, .tmp 153)] rfl rfl (by decide) (fun x hx => (HDX.out x hx).1) rfl ?_
                    replace hR := hR.slice [X] 1 rfl (by simp) HDX.out 26 _ rfl
                    generalize Vps.alloc (.cells (List.map byteVals [X]).flatten.toArray 26) = Vpsr at *
                    generalize Vps.heap.size = gr at *
                    refine hK.out _ _ hR.bare (fun hHeld => ?_)
                    clear hK K
                    (try simp only [Act.put, List.setIfInBounds_toArray, List.set_cons_zero, List.set_cons_succ, List.getElem_toArray, List.getElem_cons_zero, List.getElem_cons_succ])
                    refine wpAnyH_ready (rs := [13]) (by kernel_rfl) (by simp) ?_
                    refine (AllReadyH.cons (o := _) rfl (fun K hK => ?_) AllReadyH.nil)
                    · go_simp
                      refine (f2 X P HP.out _ _ _ (HK.out.below hR.below) (hR.dl (by (with_reducible (repeat (first | exact List.mem_cons_self | refine List.mem_cons_of_mem _ ?_))))) (hR.dl (by (with_reducible (repeat (first | exact List.mem_cons_self | refine List.mem_cons_of_mem _ ?_)))))).mono ?_
                      rintro e Vd ⟨rfl, hb⟩
                      replace hR := hR.call hb
                      clear hb
                      go_wp2_with fail
                      refine hK.out _ _ (hR.bare) (fun hHeld => ?_)
                      clear hK K
                      (try simp only [Act.put, List.setIfInBounds_toArray, List.set_cons_zero, List.set_cons_succ, List.getElem_toArray, List.getElem_cons_zero, List.getElem_cons_succ])
                      refine wpAnyH_take (i := 14) (oi := _) (v := .bool true) rfl (by kernel_rfl) (by kernel_rfl) (by kernel_rfl) (fun _ _ _ h => h) (Or.inl ⟨by rfl, fun wx hSw => ?_⟩) (by assumption) ?_
                      · go_simp
                        try (rw [IntKind.wrap_i64]; omega)
                      (try simp only [Act.put, List.setIfInBounds_toArray, List.set_cons_zero, List.set_cons_succ, List.getElem_toArray, List.getElem_cons_zero, List.getElem_cons_succ])
                      refine wpAnyH_take (i := 15) (oi := _) (v := .bool true) rfl (by kernel_rfl) (by kernel_rfl) (by kernel_rfl) (fun _ _ _ h => h) (Or.inl ⟨by rfl, fun wx hSw => ?_⟩) (by assumption) ?_
                      · go_simp
                        try (rw [IntKind.wrap_i64]; omega)
                      (try simp only [Act.put, List.setIfInBounds_toArray, List.set_cons_zero, List.set_cons_succ, List.getElem_toArray, List.getElem_cons_zero, List.getElem_cons_succ])
                      refine wpAnyH_take (i := 16) (oi := _) (v := .bool true) rfl (by kernel_rfl) (by kernel_rfl) (by kernel_rfl) (fun _ _ _ h => h) (Or.inl ⟨by rfl, fun wx hSw => ?_⟩) (by assumption) ?_
                      · go_simp
                        try (rw [IntKind.wrap_i64]; omega)
                      (try simp only [Act.put, List.setIfInBounds_toArray, List.set_cons_zero, List.set_cons_succ, List.getElem_toArray, List.getElem_cons_zero, List.getElem_cons_succ])
                      refine wpAnyH_take (i := 17) (oi := _) (v := .agg (byteVals Y).toArray) rfl (by kernel_rfl) (by kernel_rfl) (by kernel_rfl) (fun _ _ _ h => h) (yieldsIf_load_mid (by rfl) 26 _ rfl bY 0 rfl (byteVals Y) _ (fun wx hSw => hSw.range (by (with_reducible (repeat (first | exact List.mem_cons_self | refine List.mem_cons_of_mem _ ?_))))) Tryd.underlying26 rfl (size26 _ hyl)) (by assumption) ?_
                      (try simp only [Act.put, List.setIfInBounds_toArray, List.set_cons_zero, List.set_cons_succ, List.getElem_toArray, List.getElem_cons_zero, List.getElem_cons_succ])
                      refine wpAnyH_take (i := 18) (oi := _) (v := .agg (byteVals X).toArray) rfl (by kernel_rfl) (by kernel_rfl) (by kernel_rfl) (fun _ _ _ h => h) (yieldsIf_load_mid (by rfl) 26 _ rfl w.heap.size 0 rfl (byteVals X) _ (fun wx hSw => hSw.range (by (with_reducible (repeat (first | exact List.mem_cons_self | refine List.mem_cons_of_mem _ ?_))))) Tryd.underlying26 rfl (size26 _ hxl)) (by assumption) ?_
                      (try simp only [Act.put, List.setIfInBounds_toArray, List.set_cons_zero, List.set_cons_succ, List.getElem_toArray, List.getElem_cons_zero, List.getElem_cons_succ])
                      refine wpAnyH_take (i := 20) (oi := _) (v := .agg (byteVals X).toArray) rfl (by kernel_rfl) (by kernel_rfl) (by kernel_rfl) (fun _ _ _ h => h) (yieldsIf_load_mid (by rfl) 26 _ rfl w.heap.size 0 rfl (byteVals X) _ (fun wx hSw => hSw.range (by (with_reducible (repeat (first | exact List.mem_cons_self | refine List.mem_cons_of_mem _ ?_))))) Tryd.underlying26 rfl (size26 _ hxl)) (by assumption) ?_
                      (try simp only [Act.put, List.setIfInBounds_toArray, List.set_cons_zero, List.set_cons_succ, List.getElem_toArray, List.getElem_cons_zero, List.getElem_cons_succ])
                      refine wpAnyH_take (i := 21) (oi := _) (v := .agg (byteVals Y).toArray) rfl (by kernel_rfl) (by kernel_rfl) (by kernel_rfl) (fun _ _ _ h => h) (yieldsIf_load_mid (by rfl) 26 _ rfl bY 0 rfl (byteVals Y) _ (fun wx hSw => hSw.range (by (with_reducible (repeat (first | exact List.mem_cons_self | refine List.mem_cons_of_mem _ ?_))))) Tryd.underlying26 rfl (size26 _ hyl)) (by assumption) ?_
                      (try simp only [Act.put, List.setIfInBounds_toArray, List.set_cons_zero, List.set_cons_succ, List.getElem_toArray, List.getElem_cons_zero, List.getElem_cons_succ])
                      refine wpAnyH_ready (rs := [19, 22]) (by kernel_rfl) (by simp) ?_
                      refine (AllReadyH.cons (o := _) rfl (fun K hK => ?_) (AllReadyH.cons (o := _) rfl (fun K hK => ?_) AllReadyH.nil))
                      · rw [if_pos (show Region.wanted _ _ = true by rfl)]
                        refine wp_slice [Y, X] 2 [(0, .tmp 162), (1, .tmp 163)] rfl rfl (by decide) (fun x hx => (HDYX.out x hx).1) rfl ?_
                        replace hR := hR.slice [Y, X] 2 rfl (by simp) HDYX.out 26 _ rfl
                        generalize Vd.alloc (.cells (List.map byteVals [Y, X]).flatten.toArray 26) = Vdp at *
                        generalize Vd.heap.size = gp at *
                        refine hK.out _ _ hR.bare (fun hHeld => ?_)
                        clear hK K
                        (try simp only [Act.put, List.setIfInBounds_toArray, List.set_cons_zero, List.set_cons_succ, List.getElem_toArray, List.getElem_cons_zero, List.getElem_cons_succ])
                        refine wpAnyH_ready (rs := [22]) (by kernel_rfl) (by simp) ?_
                        refine (AllReadyH.cons (o := _) rfl (fun K hK => ?_) AllReadyH.nil)
                        · rw [if_pos (show Region.wanted _ _ = true by rfl)]
                          refine wp_slice [X, Y] 2 [(0, .tmp 165), (1, .tmp 166)] rfl rfl (by decide) (fun x hx => (HDXY.out x hx).1) rfl ?_
                          replace hR := hR.slice [X, Y] 2 rfl (by simp) HDXY.out 26 _ rfl
                          generalize Vdp.alloc (.cells (List.map byteVals [X, Y]).flatten.toArray 26) = Vdpq at *
                          generalize Vdp.heap.size = gq at *
                          refine hK.out _ _ hR.bare (fun hHeld => ?_)
                          clear hK K
                          (try simp only [Act.put, List.setIfInBounds_toArray, List.set_cons_zero, List.set_cons_succ, List.getElem_toArray, List.getElem_cons_zero, List.getElem_cons_succ])
                          refine wpAnyH_ready (rs := [23]) (by kernel_rfl) (by simp) ?_
                          refine (AllReadyH.cons (o := _) rfl (fun K hK => ?_) AllReadyH.nil)
                          · go_simp
                            refine (f3 X Y HYX.out _ _ _ (HK.out.below hR.below) (hR.dl (by (with_reducible (repeat (first | exact List.mem_cons_self | refine List.mem_cons_of_mem _ ?_))))) (hR.dl (by (with_reducible (repeat (first | exact List.mem_cons_self | refine List.mem_cons_of_mem _ ?_)))))).mono ?_
                            rintro e Ve ⟨rfl, hb⟩
                            replace hR := hR.call hb
                            clear hb
                            go_wp2_with fail
                            refine hK.out _ _ (hR.bare) (fun hHeld => ?_)
                            clear hK K
                            (try simp only [Act.put, List.setIfInBounds_toArray, List.set_cons_zero, List.set_cons_succ, List.getElem_toArray, List.getElem_cons_zero, List.getElem_cons_succ])
                            refine wpAnyH_take (i := 24) (oi := _) (v := .bool true) rfl (by kernel_rfl) (by kernel_rfl) (by kernel_rfl) (fun _ _ _ h => h) (Or.inl ⟨by rfl, fun wx hSw => ?_⟩) (by assumption) ?_
                            · go_simp
                              try (rw [IntKind.wrap_i64]; omega)
                            (try simp only [Act.put, List.setIfInBounds_toArray, List.set_cons_zero, List.set_cons_succ, List.getElem_toArray, List.getElem_cons_zero, List.getElem_cons_succ])
                            refine wpAnyH_take (i := 25) (oi := _) (v := .bool true) rfl (by kernel_rfl) (by kernel_rfl) (by kernel_rfl) (fun _ _ _ h => h) (Or.inl ⟨by rfl, fun wx hSw => ?_⟩) (by assumption) ?_
                            · go_simp
                              try (rw [IntKind.wrap_i64]; omega)
                            (try simp only [Act.put, List.setIfInBounds_toArray, List.set_cons_zero, List.set_cons_succ, List.getElem_toArray, List.getElem_cons_zero, List.getElem_cons_succ])
                            refine wpAnyH_take (i := 26) (oi := _) (v := .bool true) rfl (by kernel_rfl) (by kernel_rfl) (by kernel_rfl) (fun _ _ _ h => h) (Or.inl ⟨by rfl, fun wx hSw => ?_⟩) (by assumption) ?_
                            · go_simp
                              try (rw [IntKind.wrap_i64]; omega)
                            (try simp only [Act.put, List.setIfInBounds_toArray, List.set_cons_zero, List.set_cons_succ, List.getElem_toArray, List.getElem_cons_zero, List.getElem_cons_succ])
                            refine wpAnyH_done (by kernel_rfl) ?_ _
                            go_wp2_with fail
                            go_meet
                            exact ⟨rfl, Lib.hid hR.bare⟩
                      · rw [if_pos (show Region.wanted _ _ = true by rfl)]
                        refine wp_slice [X, Y] 2 [(0, .tmp 165), (1, .tmp 166)] rfl rfl (by decide) (fun x hx => (HDXY.out x hx).1) rfl ?_
                        replace hR := hR.slice [X, Y] 2 rfl (by simp) HDXY.out 26 _ rfl
                        generalize Vd.alloc (.cells (List.map byteVals [X, Y]).flatten.toArray 26) = Vdq at *
                        generalize Vd.heap.size = gq at *
                        refine hK.out _ _ hR.bare (fun hHeld => ?_)
                        clear hK K
                        (try simp only [Act.put, List.setIfInBounds_toArray, List.set_cons_zero, List.set_cons_succ, List.getElem_toArray, List.getElem_cons_zero, List.getElem_cons_succ])
                        refine wpAnyH_ready (rs := [19]) (by kernel_rfl) (by simp) ?_
                        refine (AllReadyH.cons (o := _) rfl (fun K hK => ?_) AllReadyH.nil)
                        · rw [if_pos (show Region.wanted _ _ = true by rfl)]
                          refine wp_slice [Y, X] 2 [(0, .tmp 162), (1, .tmp 163)] rfl rfl (by decide) (fun x hx => (HDYX.out x hx).1) rfl ?_
                          replace hR := hR.slice [Y, X] 2 rfl (by simp) HDYX.out 26 _ rfl
                          generalize Vdq.alloc (.cells (List.map byteVals [Y, X]).flatten.toArray 26) = Vdqp at *
                          generalize Vdq.heap.size = gp at *
                          refine hK.out _ _ hR.bare (fun hHeld => ?_)
                          clear hK K
                          (try simp only [Act.put, List.setIfInBounds_toArray, List.set_cons_zero, List.set_cons_succ, List.getElem_toArray, List.getElem_cons_zero, List.getElem_cons_succ])
                          refine wpAnyH_ready (rs := [23]) (by kernel_rfl) (by simp) ?_
                          refine (AllReadyH.cons (o := _) rfl (fun K hK => ?_) AllReadyH.nil)
                          · go_simp
                            refine (f3 X Y HYX.out _ _ _ (HK.out.below hR.below) (hR.dl (by (with_reducible (repeat (first | exact List.mem_cons_self | refine List.mem_cons_of_mem _ ?_))))) (hR.dl (by (with_reducible (repeat (first | exact List.mem_cons_self | refine List.mem_cons_of_mem _ ?_)))))).mono ?_
                            rintro e Ve ⟨rfl, hb⟩
                            replace hR := hR.call hb
                            clear hb
                            go_wp2_with fail
                            refine hK.out _ _ (hR.bare) (fun hHeld => ?_)
                            clear hK K
                            (try simp only [Act.put, List.setIfInBounds_toArray, List.set_cons_zero, List.set_cons_succ, List.getElem_toArray, List.getElem_cons_zero, List.getElem_cons_succ])
                            refine wpAnyH_take (i := 24) (oi := _) (v := .bool true) rfl (by kernel_rfl) (by kernel_rfl) (by kernel_rfl) (fun _ _ _ h => h) (Or.inl ⟨by rfl, fun wx hSw => ?_⟩) (by assumption) ?_
                            · go_simp
                              try (rw [IntKind.wrap_i64]; omega)
                            (try simp only [Act.put, List.setIfInBounds_toArray, List.set_cons_zero, List.set_cons_succ, List.getElem_toArray, List.getElem_cons_zero, List.getElem_cons_succ])
                            refine wpAnyH_take (i := 25) (oi := _) (v := .bool true) rfl (by kernel_rfl) (by kernel_rfl) (by kernel_rfl) (fun _ _ _ h => h) (Or.inl ⟨by rfl, fun wx hSw => ?_⟩) (by assumption) ?_
                            · go_simp
                              try (rw [IntKind.wrap_i64]; omega)
                            (try simp only [Act.put, List.setIfInBounds_toArray, List.set_cons_zero, List.set_cons_succ, List.getElem_toArray, List.getElem_cons_zero, List.getElem_cons_succ])
                            refine wpAnyH_take (i := 26) (oi := _) (v := .bool true) rfl (by kernel_rfl) (by kernel_rfl) (by kernel_rfl) (fun _ _ _ h => h) (Or.inl ⟨by rfl, fun wx hSw => ?_⟩) (by assumption) ?_
                            · go_simp
                              try (rw [IntKind.wrap_i64]; omega)
                            (try simp only [Act.put, List.setIfInBounds_toArray, List.set_cons_zero, List.set_cons_succ, List.getElem_toArray, List.getElem_cons_zero, List.getElem_cons_succ])
                            refine wpAnyH_done (by kernel_rfl) ?_ _
                            go_wp2_with fail
                            go_meet
                            exact ⟨rfl, Lib.hid hR.bare⟩
      case rest =>
        obtain ⟨rfl, HS⟩ := hcut
        have hf2 := fold_row (.int .i64 2) X hxl
        have hq1 : (byteVals X).length = 32 := by rw [byteVals_length, hxl]
        go_wp2_with (first | (refine wpList_loadC (by rfl) (.tmp 5) rfl b1 rfl (.int .i64 1) X (HS.out.range (by (with_reducible (repeat (first | exact List.mem_cons_self | refine List.mem_cons_of_mem _ ?_))))) hxl ?_) | (refine wpList_loadG (by rfl) (.tmp 1) rfl w.heap.size rfl X (HS.out.range (by (with_reducible (repeat (first | exact List.mem_cons_self | refine List.mem_cons_of_mem _ ?_))))) hxl ?_))
        refine (i1 X HXD.out _ (HK.out.below HS.out.below)).mono ?_
        rintro e wi1 ⟨rfl, hb⟩
        replace HS := Lib.hid (HS.out.call hb)
        clear hb
        go_wp2_with (first | (refine wpList_loadC (by rfl) (.tmp 5) rfl b1 rfl (.int .i64 1) X (HS.out.range (by (with_reducible (repeat (first | exact List.mem_cons_self | refine List.mem_cons_of_mem _ ?_))))) hxl ?_) | (refine wpList_loadG (by rfl) (.tmp 1) rfl w.heap.size rfl X (HS.out.range (by (with_reducible (repeat (first | exact List.mem_cons_self | refine List.mem_cons_of_mem _ ?_))))) hxl ?_))
        refine (i2 X HXD.out _ (HK.out.below HS.out.below)).mono ?_
        rintro e wi2 ⟨rfl, hb⟩
        replace HS := Lib.hid (HS.out.call hb)
        clear hb
        go_wp2
        go_ret
        exact ⟨rfl, HS.out.below⟩
end Go.Proofs.YthmpeeipbclhkaaDoor
