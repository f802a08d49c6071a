/-
  The statement 'Rows.FrameDivisionUptoCardSaid': for all states and byte sequences of bounded bulk that are divided into two parts the law of division answers true; the arguments read as they did. Condition: the table of the checksum lies as the program's text lays it.
-/
import Derived.Test.YtdmlnjgbfkkjdaaDoorFx
import Derived.ChangeMaps5
namespace Go.Proofs.YtdmlnjgbfkkjdaaDoor.frameDivision
open Go.ChangeShapes Go.WideShapes Go.ChangeAt Go.RowKit Go.Lib
set_option linter.unusedVariables false
set_option linter.unusedSimpArgs false

set_option maxRecDepth 100000 in
set_option maxHeartbeats 8000000 in
theorem walk (s : St) (a b : List Int) (vd va vb : Value) (w : World) (hk : KOk w) (hd : SV (fun k => k < w.heap.size) w vd s) (ha : Bs (fun k => k < w.heap.size) w va a) (hb : Bs (fun k => k < w.heap.size) w vb b) (hsz : a.length + b.length ≤ 1048576) :
    Calls Tryd.prog 6 #[vd, va, vb] w fun e w' => e = .returned (.bool true) ∧ Below w.heap.size w w' := by
  have hl24 : ((a ++ b).length + 1) * 24 ≤ 140737488355328 := by simp; omega
  have hra : Rg8 a := ha.2.1
  have hrb : Rg8 b := hb.2.1
  have HK := Lib.hid hk
  have HA := Lib.hid ha; have HB := Lib.hid hb
  obtain ⟨ad, cd, rfl, hrest⟩ := hd
  have HRS := Lib.hid hrest
  obtain ⟨aa, ca, rfl⟩ := ha.shape
  obtain ⟨ab, cb, rfl⟩ := hb.shape
  have HJ0 := Lib.hid (show a.length + b.length ≤ 140737488355328 by omega)
  have HJL := Lib.hid (show (a ++ b).length ≤ 140737488355328 by simp; omega)
  have HJR := Lib.hid (show Rg8 (a ++ b) from hra.app hrb)
  have HSZ := Lib.hid hsz
  have HFD0 := Lib.hid (show ∀ wx vj, Below w.heap.size w wx → Bs (fun k => k < wx.heap.size) wx vj (a ++ b) → Calls Tryd.prog 15 #[.agg #[.slice ad s.rest.length cd, .bool s.inn, .bool s.esc, .bool s.bad], vj] wx (FeedOf wx (FS s (a ++ b)) (FL s (a ++ b)) (FB s (a ++ b))) from fun wx vj hx hj =>
    feed_any s (a ++ b) _ vj wx (hk.below hx) ⟨ad, cd, rfl, hrest.on hx⟩ hj hl24)
  have HFA := Lib.hid (show ∀ wx, Below w.heap.size w wx → Calls Tryd.prog 15 #[.agg #[.slice ad s.rest.length cd, .bool s.inn, .bool s.esc, .bool s.bad], .slice aa a.length ca] wx (FeedOf wx (FS s a) (FL s a) (FB s a)) from fun wx hx =>
    feed_any s a _ _ wx (hk.below hx) ⟨ad, cd, rfl, hrest.on hx⟩ (ha.on hx) (by omega))
  have HFB := Lib.hid (show ∀ wx vy, Below w.heap.size w wx → SV (fun k => k < wx.heap.size) wx vy (FS s a) → Calls Tryd.prog 15 #[vy, .slice ab b.length cb] wx (FeedOf wx (FS (FS s a) b) (FL (FS s a) b) (FB (FS s a) b)) from fun wx vy hx hy =>
    feed_any (FS s a) b _ _ wx (hk.below hx) hy (hb.on hx) (by omega))
  have eS := FS_app s a b; have eL := FL_app s a b; have eB := FB_app s a b
  have HL1 := Lib.hid (show (FL s a).length ≤ a.length from FL_le s a)
  have HL2 := Lib.hid (show (FL (FS s a) b).length ≤ b.length from FL_le _ b)
  have HM1 := Lib.hid (show FB s a ≤ a.length from FB_le s a)
  have HM2 := Lib.hid (show FB (FS s a) b ≤ b.length from FB_le _ b)
  rw [eS, eL, eB] at HFD0
  clear eS eL eB hk ha hb hra hrb hl24 hsz
  generalize FS (FS s a) b = SS at *
  generalize FL (FS s a) b = L2 at *
  generalize FB (FS s a) b = M2 at *
  generalize FS s a = S1 at *
  generalize FL s a = L1 at *
  generalize FB s a = M1 at *
  obtain ⟨n, hn⟩ : ∃ n, n = s.rest.length := ⟨_, rfl⟩
  rw [← hn] at HFD0 HFA ⊢
  obtain ⟨na, hna⟩ : ∃ na, na = a.length := ⟨_, rfl⟩
  obtain ⟨nb, hnb⟩ : ∃ nb, nb = b.length := ⟨_, rfl⟩
  rw [← hna] at HA HFA HL1 HM1 HSZ ⊢
  rw [← hnb] at HB HFB HL2 HM2 HSZ ⊢
  clear hrest hn hna hnb
  obtain ⟨W, hW⟩ : ∃ W, W = w.alloc (.cells #[.slice ad n cd, .bool s.inn, .bool s.esc, .bool s.bad] 31) := ⟨_, rfl⟩
  have HBW := Lib.hid (show Below w.heap.size w W by rw [hW]; exact ball (Below.refl _ _) _)
  have HX := Lib.hid (show W.heap[w.heap.size]? = some (.cells #[.slice ad n cd, .bool s.inn, .bool s.esc, .bool s.bad] 31 (0, 0)) by rw [hW]; exact bnew _ _)
  have HW := Lib.hid hW
  clear hW
  go_enter Tryd.func6, Tryd.ntmps6
  go_wp2_with fail
  rw [← HW.out]
  refine (sane_true W (HK.out.below HBW.out)).mono ?_
  rintro e w1 ⟨rfl, hb1⟩
  have HB1 := Lib.hid (btrans HBW.out hb1)
  have HX1 := Lib.hid (bon HX.out hb1)
  clear hb1 HX HBW HW HK
  have HA0 := Lib.hid (HA.out.on HB1.out); have HB0 := Lib.hid (HB.out.on HB1.out)
  have HFD := Lib.hid (show ∀ wx vj, Below w1.heap.size w1 wx → Bs (fun k => k < wx.heap.size) wx vj (a ++ b) → Calls Tryd.prog 15 #[.agg #[.slice ad n cd, .bool s.inn, .bool s.esc, .bool s.bad], vj] wx (FeedOf wx SS (L1 ++ L2) (M1 + M2)) from fun wx vj hx hj => HFD0.out wx vj (btrans HB1.out hx) hj)
  obtain ⟨LL, hLL⟩ : ∃ LL, LL = L1 ++ L2 := ⟨_, rfl⟩
  obtain ⟨MM, hMM⟩ : ∃ MM, MM = M1 + M2 := ⟨_, rfl⟩
  rw [← hLL, ← hMM] at HFD
  have HLL := Lib.hid hLL; have HMM := Lib.hid hMM
  clear HFD0 hLL hMM
  go_upto_region 3 with (fail)
  go_cut [7, 8, 9] from 7 to 27 (fun x l i wx => FedP w1 SS LL MM x l i wx)
  case first =>
    refine wp_region_held_drew (S := fun wx => Hid (Below w1.heap.size w1 wx)) (by kernel_rfl) (Lib.hid (Below.refl _ _).drew) (fun hHeld => ?_)
    change wpAnyH _ _ _ _ _ 13 #[false, false, false, false, false, false, false, false, false, false, false, false, false] _ _
    refine wpAnyH_take (i := 0) (oi := _) (v := .agg #[.slice ad n cd, .bool s.inn, .bool s.esc, .bool s.bad]) rfl (by kernel_rfl) (by kernel_rfl) (by kernel_rfl) (fun _ _ _ h => h) (Or.inl ⟨by rfl, fun wx hSw => ?_⟩) (by assumption) ?_
    · exact exec_load_row 31 (.tmp 3) rfl w.heap.size rfl 31 _ (0, 0) _ (bon HX1.out hSw.out) Tryd.underlying31 rfl size31
    (try simp only [Act.put, List.setIfInBounds_toArray, List.set_cons_zero, List.set_cons_succ, List.getElem_toArray, List.getElem_cons_zero, List.getElem_cons_succ])
    refine wpAnyH_take (i := 1) (oi := _) (v := .slice aa na ca) rfl (by kernel_rfl) (by kernel_rfl) (by kernel_rfl) (fun _ _ _ h => h) (Or.inl ⟨by rfl, fun wx hSw => ?_⟩) (by assumption) ?_
    · go_simp
      try (first | omega | (rw [IntKind.wrap_i64]; omega))
    (try simp only [Act.put, List.setIfInBounds_toArray, List.set_cons_zero, List.set_cons_succ, List.getElem_toArray, List.getElem_cons_zero, List.getElem_cons_succ])
    refine wpAnyH_take (i := 2) (oi := _) (v := .slice ab nb cb) rfl (by kernel_rfl) (by kernel_rfl) (by kernel_rfl) (fun _ _ _ h => h) (Or.inl ⟨by rfl, fun wx hSw => ?_⟩) (by assumption) ?_
    · go_simp
      try (first | omega | (rw [IntKind.wrap_i64]; omega))
    (try simp only [Act.put, List.setIfInBounds_toArray, List.set_cons_zero, List.set_cons_succ, List.getElem_toArray, List.getElem_cons_zero, List.getElem_cons_succ])
    refine wpAnyH_ready (rs := [3, 9]) (by kernel_rfl) (by simp) ?_
    refine AllReadyH.cons (o := _) rfl (fun K hK => ?_) (AllReadyH.cons (o := _) rfl (fun K hK => ?_) AllReadyH.nil)
    · skip
      go_simp
      refine (joined_any _ _ _ _ _ (HA0.out.on (Below.refl w1.heap.size w1).drew) (HB0.out.on (Below.refl w1.heap.size w1).drew) HJ0.out).mono ?_
      rintro e w3 ⟨vj, rfl, hb3, ho3⟩
      have HB3 := Lib.hid (btrans (Below.refl w1.heap.size w1).drew hb3)
      have HJ3 := Lib.hid (Bs.own ho3 HJL.out HJR.out)
      clear hb3 ho3
      go_wp2_with fail
      refine hK.out _ _ (HB3) (fun hHeld => ?_)
      clear hK K
      (try simp only [Act.put, List.setIfInBounds_toArray, List.set_cons_zero, List.set_cons_succ, List.getElem_toArray, List.getElem_cons_zero, List.getElem_cons_succ])
      refine wpAnyH_ready (rs := [4, 9]) (by kernel_rfl) (by simp) ?_
      refine AllReadyH.cons (o := _) rfl (fun K hK => ?_) (AllReadyH.cons (o := _) rfl (fun K hK => ?_) AllReadyH.nil)
      · skip
        go_simp
        refine (HFD.out _ _ HB3.out (HJ3.out.on (Below.refl _ _))).mono ?_
        intro e w4 hfd
        obtain ⟨ax, cx, al, cl, vals, rfl, hb4, hfb⟩ := hfd.parts
        have HB4 := Lib.hid (btrans HB3.out hb4)
        have HX4 := Lib.hid hb4
        have HFB := Lib.hid hfb
        clear hb4 hfb hfd
        go_wp2_with fail
        refine hK.out _ _ (HB4) (fun hHeld => ?_)
        clear hK K
        (try simp only [Act.put, List.setIfInBounds_toArray, List.set_cons_zero, List.set_cons_succ, List.getElem_toArray, List.getElem_cons_zero, List.getElem_cons_succ])
        refine wpAnyH_take (i := 5) (oi := _) (v := .tuple #[.agg #[.slice ax SS.rest.length cx, .bool SS.inn, .bool SS.esc, .bool SS.bad], .slice al LL.length cl, .int .i64 (MM : Nat)]) rfl (by kernel_rfl) (by kernel_rfl) (by kernel_rfl) (fun _ _ _ h => h) (Or.inl ⟨by rfl, fun wx hSw => ?_⟩) (by assumption) ?_
        · go_simp
          try (first | omega | (rw [IntKind.wrap_i64]; omega))
        (try simp only [Act.put, List.setIfInBounds_toArray, List.set_cons_zero, List.set_cons_succ, List.getElem_toArray, List.getElem_cons_zero, List.getElem_cons_succ])
        refine wpAnyH_take (i := 6) (oi := _) (v := .agg #[.slice ax SS.rest.length cx, .bool SS.inn, .bool SS.esc, .bool SS.bad]) rfl (by kernel_rfl) (by kernel_rfl) (by kernel_rfl) (fun _ _ _ h => h) (Or.inl ⟨by rfl, fun wx hSw => ?_⟩) (by assumption) ?_
        · go_simp
          try (first | omega | (rw [IntKind.wrap_i64]; omega))
        (try simp only [Act.put, List.setIfInBounds_toArray, List.set_cons_zero, List.set_cons_succ, List.getElem_toArray, List.getElem_cons_zero, List.getElem_cons_succ])
        refine wpAnyH_take (i := 7) (oi := _) (v := .slice al LL.length cl) rfl (by kernel_rfl) (by kernel_rfl) (by kernel_rfl) (fun _ _ _ h => h) (Or.inl ⟨by rfl, fun wx hSw => ?_⟩) (by assumption) ?_
        · go_simp
          try (first | omega | (rw [IntKind.wrap_i64]; omega))
        (try simp only [Act.put, List.setIfInBounds_toArray, List.set_cons_zero, List.set_cons_succ, List.getElem_toArray, List.getElem_cons_zero, List.getElem_cons_succ])
        refine wpAnyH_take (i := 8) (oi := _) (v := .int .i64 (MM : Nat)) rfl (by kernel_rfl) (by kernel_rfl) (by kernel_rfl) (fun _ _ _ h => h) (Or.inl ⟨by rfl, fun wx hSw => ?_⟩) (by assumption) ?_
        · go_simp
          try (first | omega | (rw [IntKind.wrap_i64]; omega))
        (try simp only [Act.put, List.setIfInBounds_toArray, List.set_cons_zero, List.set_cons_succ, List.getElem_toArray, List.getElem_cons_zero, List.getElem_cons_succ])
        refine wpAnyH_ready (rs := [9]) (by kernel_rfl) (by simp) ?_
        refine AllReadyH.cons (o := _) rfl (fun K hK => ?_) AllReadyH.nil
        go_simp
        refine hK.out _ _ (Lib.hid (ball HB4.out (.cells #[.slice none 0 0, .bool false, .bool false, .bool false] 31))) (fun hHeld => ?_)
        clear hK K
        (try simp only [Act.put, List.setIfInBounds_toArray, List.set_cons_zero, List.set_cons_succ, List.getElem_toArray, List.getElem_cons_zero, List.getElem_cons_succ])
        refine wpAnyH_ready (rs := [10]) (by kernel_rfl) (by simp) ?_
        refine AllReadyH.cons (o := _) rfl (fun K hK => ?_) AllReadyH.nil
        have hend := FedB.behind (U := w1) HFB.out HB4.out MM
        have HEND := Lib.hid hend.2
        have hz9 := hend.1
        clear hend
        rw [if_pos (show Region.wanted _ _ = true by rfl)]
        refine wp_store_row 31 (.tmp 7) (.tmp 25) rfl (w4.heap.size) #[.slice ax SS.rest.length cx, .bool SS.inn, .bool SS.esc, .bool SS.bad] rfl rfl 31 _ hz9 size31 rfl all31' ?_
        refine hK.out _ _ (Lib.hid (fedp_below HEND.out)) (fun hHeld => ?_)
        clear hK K
        (try simp only [Act.put, List.setIfInBounds_toArray, List.set_cons_zero, List.set_cons_succ, List.getElem_toArray, List.getElem_cons_zero, List.getElem_cons_succ])
        refine wpAnyH_take (i := 11) (oi := _) (v := .slice al LL.length cl) rfl (by kernel_rfl) (by kernel_rfl) (by kernel_rfl) (fun _ _ _ h => h) (Or.inl ⟨by rfl, fun wx hSw => ?_⟩) (by assumption) ?_
        · go_simp
          try (first | omega | (rw [IntKind.wrap_i64]; omega))
        (try simp only [Act.put, List.setIfInBounds_toArray, List.set_cons_zero, List.set_cons_succ, List.getElem_toArray, List.getElem_cons_zero, List.getElem_cons_succ])
        refine wpAnyH_take (i := 12) (oi := _) (v := .int .i64 (MM : Nat)) rfl (by kernel_rfl) (by kernel_rfl) (by kernel_rfl) (fun _ _ _ h => h) (Or.inl ⟨by rfl, fun wx hSw => ?_⟩) (by assumption) ?_
        · go_simp
          try (first | omega | (rw [IntKind.wrap_i64]; omega))
        (try simp only [Act.put, List.setIfInBounds_toArray, List.set_cons_zero, List.set_cons_succ, List.getElem_toArray, List.getElem_cons_zero, List.getElem_cons_succ])
        refine wpAnyH_done (by kernel_rfl) ?_ _
        go_wp2
        go_meet
        exact HEND.out
      · skip
        go_simp
        refine hK.out _ _ (Lib.hid (ball HB3.out (.cells #[.slice none 0 0, .bool false, .bool false, .bool false] 31))) (fun hHeld => ?_)
        clear hK K
        (try simp only [Act.put, List.setIfInBounds_toArray, List.set_cons_zero, List.set_cons_succ, List.getElem_toArray, List.getElem_cons_zero, List.getElem_cons_succ])
        refine wpAnyH_ready (rs := [4]) (by kernel_rfl) (by simp) ?_
        refine AllReadyH.cons (o := _) rfl (fun K hK => ?_) AllReadyH.nil
        go_simp
        refine (HFD.out _ _ (ball HB3.out (.cells #[.slice none 0 0, .bool false, .bool false, .bool false] 31)) (HJ3.out.on (ball (Below.refl _ _) (.cells #[.slice none 0 0, .bool false, .bool false, .bool false] 31)))).mono ?_
        intro e w4 hfd
        have HM4 := Lib.hid (show (w3.alloc Zc).heap[w3.heap.size]? = some Zc from bnew w3 Zc)
        obtain ⟨ax, cx, al, cl, vals, rfl, hb4, hfb⟩ := hfd.parts
        have HB4 := Lib.hid (btrans (ball HB3.out (.cells #[.slice none 0 0, .bool false, .bool false, .bool false] 31)) hb4)
        have HX4 := Lib.hid hb4
        have HFB := Lib.hid hfb
        clear hb4 hfb hfd
        go_wp2_with fail
        refine hK.out _ _ (HB4) (fun hHeld => ?_)
        clear hK K
        (try simp only [Act.put, List.setIfInBounds_toArray, List.set_cons_zero, List.set_cons_succ, List.getElem_toArray, List.getElem_cons_zero, List.getElem_cons_succ])
        refine wpAnyH_take (i := 5) (oi := _) (v := .tuple #[.agg #[.slice ax SS.rest.length cx, .bool SS.inn, .bool SS.esc, .bool SS.bad], .slice al LL.length cl, .int .i64 (MM : Nat)]) rfl (by kernel_rfl) (by kernel_rfl) (by kernel_rfl) (fun _ _ _ h => h) (Or.inl ⟨by rfl, fun wx hSw => ?_⟩) (by assumption) ?_
        · go_simp
          try (first | omega | (rw [IntKind.wrap_i64]; omega))
        (try simp only [Act.put, List.setIfInBounds_toArray, List.set_cons_zero, List.set_cons_succ, List.getElem_toArray, List.getElem_cons_zero, List.getElem_cons_succ])
        refine wpAnyH_take (i := 6) (oi := _) (v := .agg #[.slice ax SS.rest.length cx, .bool SS.inn, .bool SS.esc, .bool SS.bad]) rfl (by kernel_rfl) (by kernel_rfl) (by kernel_rfl) (fun _ _ _ h => h) (Or.inl ⟨by rfl, fun wx hSw => ?_⟩) (by assumption) ?_
        · go_simp
          try (first | omega | (rw [IntKind.wrap_i64]; omega))
        (try simp only [Act.put, List.setIfInBounds_toArray, List.set_cons_zero, List.set_cons_succ, List.getElem_toArray, List.getElem_cons_zero, List.getElem_cons_succ])
        refine wpAnyH_take (i := 7) (oi := _) (v := .slice al LL.length cl) rfl (by kernel_rfl) (by kernel_rfl) (by kernel_rfl) (fun _ _ _ h => h) (Or.inl ⟨by rfl, fun wx hSw => ?_⟩) (by assumption) ?_
        · go_simp
          try (first | omega | (rw [IntKind.wrap_i64]; omega))
        (try simp only [Act.put, List.setIfInBounds_toArray, List.set_cons_zero, List.set_cons_succ, List.getElem_toArray, List.getElem_cons_zero, List.getElem_cons_succ])
        refine wpAnyH_take (i := 8) (oi := _) (v := .int .i64 (MM : Nat)) rfl (by kernel_rfl) (by kernel_rfl) (by kernel_rfl) (fun _ _ _ h => h) (Or.inl ⟨by rfl, fun wx hSw => ?_⟩) (by assumption) ?_
        · go_simp
          try (first | omega | (rw [IntKind.wrap_i64]; omega))
        (try simp only [Act.put, List.setIfInBounds_toArray, List.set_cons_zero, List.set_cons_succ, List.getElem_toArray, List.getElem_cons_zero, List.getElem_cons_succ])
        refine wpAnyH_ready (rs := [10]) (by kernel_rfl) (by simp) ?_
        refine AllReadyH.cons (o := _) rfl (fun K hK => ?_) AllReadyH.nil
        have hend := FedB.before (U := w1) HFB.out (by have : w1.drew.heap.size = w1.heap.size := rfl; have h3 := HB3.out.size; (try simp only [World.size_alloc]); omega) HB4.out HX4.out HM4.out MM
        have HEND := Lib.hid hend.2
        have hz9 := hend.1
        clear hend
        rw [if_pos (show Region.wanted _ _ = true by rfl)]
        refine wp_store_row 31 (.tmp 7) (.tmp 25) rfl (w3.heap.size) #[.slice ax SS.rest.length cx, .bool SS.inn, .bool SS.esc, .bool SS.bad] rfl rfl 31 _ hz9 size31 rfl all31' ?_
        refine hK.out _ _ (Lib.hid (fedp_below HEND.out)) (fun hHeld => ?_)
        clear hK K
        (try simp only [Act.put, List.setIfInBounds_toArray, List.set_cons_zero, List.set_cons_succ, List.getElem_toArray, List.getElem_cons_zero, List.getElem_cons_succ])
        refine wpAnyH_take (i := 11) (oi := _) (v := .slice al LL.length cl) rfl (by kernel_rfl) (by kernel_rfl) (by kernel_rfl) (fun _ _ _ h => h) (Or.inl ⟨by rfl, fun wx hSw => ?_⟩) (by assumption) ?_
        · go_simp
          try (first | omega | (rw [IntKind.wrap_i64]; omega))
        (try simp only [Act.put, List.setIfInBounds_toArray, List.set_cons_zero, List.set_cons_succ, List.getElem_toArray, List.getElem_cons_zero, List.getElem_cons_succ])
        refine wpAnyH_take (i := 12) (oi := _) (v := .int .i64 (MM : Nat)) rfl (by kernel_rfl) (by kernel_rfl) (by kernel_rfl) (fun _ _ _ h => h) (Or.inl ⟨by rfl, fun wx hSw => ?_⟩) (by assumption) ?_
        · go_simp
          try (first | omega | (rw [IntKind.wrap_i64]; omega))
        (try simp only [Act.put, List.setIfInBounds_toArray, List.set_cons_zero, List.set_cons_succ, List.getElem_toArray, List.getElem_cons_zero, List.getElem_cons_succ])
        refine wpAnyH_done (by kernel_rfl) ?_ _
        go_wp2
        go_meet
        exact HEND.out
    · skip
      go_simp
      refine hK.out _ _ (Lib.hid (ball (Below.refl w1.heap.size w1).drew (.cells #[.slice none 0 0, .bool false, .bool false, .bool false] 31))) (fun hHeld => ?_)
      clear hK K
      (try simp only [Act.put, List.setIfInBounds_toArray, List.set_cons_zero, List.set_cons_succ, List.getElem_toArray, List.getElem_cons_zero, List.getElem_cons_succ])
      refine wpAnyH_ready (rs := [3]) (by kernel_rfl) (by simp) ?_
      refine AllReadyH.cons (o := _) rfl (fun K hK => ?_) AllReadyH.nil
      go_simp
      refine (joined_any _ _ _ _ _ (HA0.out.on (ball (Below.refl w1.heap.size w1).drew (.cells #[.slice none 0 0, .bool false, .bool false, .bool false] 31))) (HB0.out.on (ball (Below.refl w1.heap.size w1).drew (.cells #[.slice none 0 0, .bool false, .bool false, .bool false] 31))) HJ0.out).mono ?_
      rintro e w3 ⟨vj, rfl, hb3, ho3⟩
      have HM3 := Lib.hid (show w3.heap[w1.heap.size]? = some Zc from bon (by have h := (bnew w1.drew Zc); (try simp only [World.size_alloc] at h); exact h) hb3)
      have HB3 := Lib.hid (btrans (ball (Below.refl w1.heap.size w1).drew (.cells #[.slice none 0 0, .bool false, .bool false, .bool false] 31)) hb3)
      have HJ3 := Lib.hid (Bs.own ho3 HJL.out HJR.out)
      clear hb3 ho3
      go_wp2_with fail
      refine hK.out _ _ (HB3) (fun hHeld => ?_)
      clear hK K
      (try simp only [Act.put, List.setIfInBounds_toArray, List.set_cons_zero, List.set_cons_succ, List.getElem_toArray, List.getElem_cons_zero, List.getElem_cons_succ])
      refine wpAnyH_ready (rs := [4]) (by kernel_rfl) (by simp) ?_
      refine AllReadyH.cons (o := _) rfl (fun K hK => ?_) AllReadyH.nil
      go_simp
      refine (HFD.out _ _ HB3.out (HJ3.out.on (Below.refl _ _))).mono ?_
      intro e w4 hfd
      have HM4 := HM3
      obtain ⟨ax, cx, al, cl, vals, rfl, hb4, hfb⟩ := hfd.parts
      have HB4 := Lib.hid (btrans HB3.out hb4)
      have HX4 := Lib.hid hb4
      have HFB := Lib.hid hfb
      clear hb4 hfb hfd
      go_wp2_with fail
      refine hK.out _ _ (HB4) (fun hHeld => ?_)
      clear hK K
      (try simp only [Act.put, List.setIfInBounds_toArray, List.set_cons_zero, List.set_cons_succ, List.getElem_toArray, List.getElem_cons_zero, List.getElem_cons_succ])
      refine wpAnyH_take (i := 5) (oi := _) (v := .tuple #[.agg #[.slice ax SS.rest.length cx, .bool SS.inn, .bool SS.esc, .bool SS.bad], .slice al LL.length cl, .int .i64 (MM : Nat)]) rfl (by kernel_rfl) (by kernel_rfl) (by kernel_rfl) (fun _ _ _ h => h) (Or.inl ⟨by rfl, fun wx hSw => ?_⟩) (by assumption) ?_
      · go_simp
        try (first | omega | (rw [IntKind.wrap_i64]; omega))
      (try simp only [Act.put, List.setIfInBounds_toArray, List.set_cons_zero, List.set_cons_succ, List.getElem_toArray, List.getElem_cons_zero, List.getElem_cons_succ])
      refine wpAnyH_take (i := 6) (oi := _) (v := .agg #[.slice ax SS.rest.length cx, .bool SS.inn, .bool SS.esc, .bool SS.bad]) rfl (by kernel_rfl) (by kernel_rfl) (by kernel_rfl) (fun _ _ _ h => h) (Or.inl ⟨by rfl, fun wx hSw => ?_⟩) (by assumption) ?_
      · go_simp
        try (first | omega | (rw [IntKind.wrap_i64]; omega))
      (try simp only [Act.put, List.setIfInBounds_toArray, List.set_cons_zero, List.set_cons_succ, List.getElem_toArray, List.getElem_cons_zero, List.getElem_cons_succ])
      refine wpAnyH_take (i := 7) (oi := _) (v := .slice al LL.length cl) rfl (by kernel_rfl) (by kernel_rfl) (by kernel_rfl) (fun _ _ _ h => h) (Or.inl ⟨by rfl, fun wx hSw => ?_⟩) (by assumption) ?_
      · go_simp
        try (first | omega | (rw [IntKind.wrap_i64]; omega))
      (try simp only [Act.put, List.setIfInBounds_toArray, List.set_cons_zero, List.set_cons_succ, List.getElem_toArray, List.getElem_cons_zero, List.getElem_cons_succ])
      refine wpAnyH_take (i := 8) (oi := _) (v := .int .i64 (MM : Nat)) rfl (by kernel_rfl) (by kernel_rfl) (by kernel_rfl) (fun _ _ _ h => h) (Or.inl ⟨by rfl, fun wx hSw => ?_⟩) (by assumption) ?_
      · go_simp
        try (first | omega | (rw [IntKind.wrap_i64]; omega))
      (try simp only [Act.put, List.setIfInBounds_toArray, List.set_cons_zero, List.set_cons_succ, List.getElem_toArray, List.getElem_cons_zero, List.getElem_cons_succ])
      refine wpAnyH_ready (rs := [10]) (by kernel_rfl) (by simp) ?_
      refine AllReadyH.cons (o := _) rfl (fun K hK => ?_) AllReadyH.nil
      have hend := FedB.before (U := w1) HFB.out (by have : w1.drew.heap.size = w1.heap.size := rfl; have h3 := HB3.out.size; (try simp only [World.size_alloc]); omega) HB4.out HX4.out HM4.out MM
      have HEND := Lib.hid hend.2
      have hz9 := hend.1
      clear hend
      rw [if_pos (show Region.wanted _ _ = true by rfl)]
      refine wp_store_row 31 (.tmp 7) (.tmp 25) rfl (w1.heap.size) #[.slice ax SS.rest.length cx, .bool SS.inn, .bool SS.esc, .bool SS.bad] rfl rfl 31 _ hz9 size31 rfl all31' ?_
      refine hK.out _ _ (Lib.hid (fedp_below HEND.out)) (fun hHeld => ?_)
      clear hK K
      (try simp only [Act.put, List.setIfInBounds_toArray, List.set_cons_zero, List.set_cons_succ, List.getElem_toArray, List.getElem_cons_zero, List.getElem_cons_succ])
      refine wpAnyH_take (i := 11) (oi := _) (v := .slice al LL.length cl) rfl (by kernel_rfl) (by kernel_rfl) (by kernel_rfl) (fun _ _ _ h => h) (Or.inl ⟨by rfl, fun wx hSw => ?_⟩) (by assumption) ?_
      · go_simp
        try (first | omega | (rw [IntKind.wrap_i64]; omega))
      (try simp only [Act.put, List.setIfInBounds_toArray, List.set_cons_zero, List.set_cons_succ, List.getElem_toArray, List.getElem_cons_zero, List.getElem_cons_succ])
      refine wpAnyH_take (i := 12) (oi := _) (v := .int .i64 (MM : Nat)) rfl (by kernel_rfl) (by kernel_rfl) (by kernel_rfl) (fun _ _ _ h => h) (Or.inl ⟨by rfl, fun wx hSw => ?_⟩) (by assumption) ?_
      · go_simp
        try (first | omega | (rw [IntKind.wrap_i64]; omega))
      (try simp only [Act.put, List.setIfInBounds_toArray, List.set_cons_zero, List.set_cons_succ, List.getElem_toArray, List.getElem_cons_zero, List.getElem_cons_succ])
      refine wpAnyH_done (by kernel_rfl) ?_ _
      go_wp2
      go_meet
      exact HEND.out
  case rest =>
    obtain ⟨g1, ax, cx, al, cl, vals1, rfl, rfl, rfl, hg1, hx1, hb1, hr1, hv1, he1, hc1⟩ := hcut
    have HCL := Lib.hid hc1
    have HBc := Lib.hid (btrans HB1.out hb1)
    have HXc := Lib.hid (bon HX1.out hb1)
    have HG1 := Lib.hid hx1; have HR1 := Lib.hid hr1; have HV1 := Lib.hid hv1; have HE1 := Lib.hid he1
    clear hg1 hx1 hb1 hr1 hv1 he1 hc1 HX1 HB1 HA0 HB0 HFD
    go_wp2_with (refine wpList_load_row rfl 31 (.tmp 3) rfl w.heap.size rfl 31 _ (0, 0) _ HXc.out Tryd.underlying31 rfl size31 ?_)
    refine (HFA.out wc HBc.out).mono ?_
    intro e w5 hfd
    obtain ⟨ay, cy, am, cm, vals2, rfl, hb5, hfb⟩ := hfd.parts
    obtain ⟨W5, hW5⟩ : ∃ W5, W5 = w5.alloc (.cells #[.slice ay S1.rest.length cy, .bool S1.inn, .bool S1.esc, .bool S1.bad] 31) := ⟨_, rfl⟩
    have hbw5 : Below w5.heap.size w5 W5 := by rw [hW5]; exact ball (Below.refl _ _) _
    have HB5 := Lib.hid (btrans (btrans HBc.out hb5) hbw5)
    have HG5 := Lib.hid (bon (bon HG1.out hb5) hbw5); have HR5 := Lib.hid ((HR1.out.on hb5).on hbw5); have HV5 := Lib.hid ((HV1.out.on hb5).on hbw5); have HE5 := Lib.hid ((HE1.out.on hb5).on hbw5)
    have HY5 := Lib.hid (show SV (fun k => k < W5.heap.size) W5 (.agg #[.slice ay S1.rest.length cy, .bool S1.inn, .bool S1.esc, .bool S1.bad]) S1 from ⟨ay, cy, rfl, (hfb.rest.mono (fun k hk => hk.2)).on hbw5⟩)
    have HVm := Lib.hid (hfb.lst.parts.1.on hbw5); have HEm := Lib.hid (hfb.lst.parts.2.on hbw5)
    have HW5 := Lib.hid hW5
    clear hfd hb5 hfb hbw5 hW5 HG1 HR1 HV1 HE1 HXc
    go_wp2_with fail
    rw [← HW5.out]
    refine (HFB.out W5 _ HB5.out HY5.out).mono ?_
    intro e w6 hfd
    obtain ⟨az, cz, an, cn, vals3, rfl, hb6, hfb⟩ := hfd.parts
    obtain ⟨W6, hW6⟩ : ∃ W6, W6 = w6.alloc (.cells #[.slice az SS.rest.length cz, .bool SS.inn, .bool SS.esc, .bool SS.bad] 31) := ⟨_, rfl⟩
    have hbw6 : Below w6.heap.size w6 W6 := by rw [hW6]; exact ball (Below.refl _ _) _
    have hx6 : W6.heap[w6.heap.size]? = some (.cells #[.slice az SS.rest.length cz, .bool SS.inn, .bool SS.esc, .bool SS.bad] 31 (0, 0)) := by rw [hW6]; exact bnew _ _
    have hb56 : Below W5.heap.size W5 W6 := btrans hb6 hbw6
    have hbm : Below W6.heap.size W6 (W6.alloc (.cells #[] 22)) := ball (Below.refl _ _) _
    have hown : (W6.alloc (.cells #[] 22)).ownsRow W6.heap.size 22 1 (.slice (some ⟨W6.heap.size, 0, none⟩) 0 0) ([] : List Value).length [] := World.ownsRow_made W6 #[] 0 (Nat.le_refl _) (by unfold maxLen; omega) (by simp)
    have hem := (HEm.out.on hb56).on hbm
    have hen := ((hfb.lst.parts.2.on hbw6).on hbm)
    have hnm := HEm.out.1
    have hnn := hfb.lst.parts.2.1
    have q1 := HL1.out; have q2 := HL2.out; have q3 := HSZ.out
    obtain ⟨vA, wA, hrA, hA⟩ := append_runL W6.heap.size (W6.alloc (.cells #[] 22)) _ _ [] vals2 hown ((HVm.out.on hb56).on hbm) hem.one' (by simp; omega) hbm.size
    rw [List.nil_append] at hA
    have hbA : Below W6.heap.size W6 wA := grown_below hbm hA.grown hbm.size (fun g hg => by simp [Value.ownBlock] at hg; omega)
    obtain ⟨vB, wB, hrB, hB⟩ := append_runL W6.heap.size wA _ _ vals2 vals3 hA.own ((hfb.lst.parts.1.on hbw6).on hbA) ((hfb.lst.parts.2.on hbw6).on hbA).one' (by omega) hbA.size
    have hbB : Below W6.heap.size W6 wB := grown_below hbA hB.grown hbA.size (fun g hg => (own_lt hA.own hg).1)
    have heB : EL (fun k => k < wB.heap.size) wB (vals2 ++ vals3) LL := by
      rw [HLL.out]
      exact ((HEm.out.on hb56).on hbB).app ((hfb.lst.parts.2.on hbw6).on hbB)
    have hLLl : LL.length ≤ 140737488355328 := by rw [HLL.out, List.length_append]; omega
    have HLB := Lib.hid (own_ls hB.own heB hLLl)
    obtain ⟨aB, cB, hvB⟩ := own_shape hB.own
    have hlenB : (vals2 ++ vals3).length = LL.length := heB.1
    rw [hlenB] at hvB
    subst hvB
    obtain ⟨aA, cA, hvA⟩ := own_shape hA.own
    subst hvA
    have hbWB : Below W5.heap.size W5 wB := btrans hb56 hbB
    have HLc := Lib.hid ((HV5.out.on hbWB).ls (HE5.out.on hbWB) hLLl (fun a n c e => by
      have := HCL.out
      simp only [Value.slice.injEq] at e
      omega))
    have HBB := Lib.hid (btrans HB5.out hbWB)
    have HGB := Lib.hid (bon HG5.out hbWB)
    have HZB := Lib.hid (bon hx6 hbB)
    have HSS := Lib.hid ((sameState_any SS SS _ _ wB (show SV (fun k => k < wB.heap.size) wB (.agg #[.slice ax SS.rest.length cx, .bool SS.inn, .bool SS.esc, .bool SS.bad]) SS from ⟨ax, cx, rfl, HR5.out.on hbWB⟩) (show SV (fun k => k < wB.heap.size) wB (.agg #[.slice az SS.rest.length cz, .bool SS.inn, .bool SS.esc, .bool SS.bad]) SS from ⟨az, cz, rfl, ((hfb.rest.mono (fun k hk => hk.2)).on hbw6).on hbB⟩)).mono (fun e w' h => show e = .returned (.bool true) ∧ Below wB.heap.size wB w' from ⟨by rw [h.1, decide_eq_true rfl], h.2⟩))
    have HLS := Lib.hid (show ∀ wx, Below wB.heap.size wB wx → Calls Tryd.prog 18 #[.slice al LL.length cl, .slice aB LL.length cB] wx fun e w' => e = .returned (.bool true) ∧ Below wx.heap.size wx w' from fun wx hx =>
      (same_any LL LL _ _ wx (HLc.out.on hx) (HLB.out.on hx)).mono (fun e w' h => ⟨by rw [h.1, decide_eq_true rfl], h.2⟩))
    have RA := Lib.hid hrA; have RB := Lib.hid hrB
    have HW6 := Lib.hid hW6
    have m1 := HM1.out; have m2 := HM2.out
    have HMB := Lib.hid (show M1 ≤ 1048576 ∧ M2 ≤ 1048576 by omega)
    have hmm : ((MM : Nat) : Int) = (M1 : Int) + (M2 : Int) := by rw [HMM.out]; simp
    rw [hmm]
    clear hfd hb6 hfb hbw6 hW6 hx6 hb56 hbm hown hem hen hnm hnn q1 q2 q3 hrA hA hbA hrB hB hbB heB hLLl hlenB hbWB hmm m1 m2 HG5 HR5 HV5 HE5 HY5 HVm HEm HW5 HLc HLB HFB HFA
    have s6 : W6.heap.size = w6.heap.size + 1 := by rw [HW6.out]; simp
    have S6 := Lib.hid s6; clear s6
    go_upto_region 7 with (fail)
    rw [← HW6.out, ← S6.out]
    go_wp2_with (first | (at_builtin; refine wp_appL rfl rfl rfl (.tmp 43) (.tmp 44) rfl rfl rfl RA.out ?_) | (at_builtin; refine wp_appL rfl rfl rfl (.tmp 46) (.tmp 47) rfl rfl rfl RB.out ?_) | (refine wpList_load_row rfl 31 (.tmp 7) rfl g1 rfl 31 _ (0, 0) _ HGB.out Tryd.underlying31 rfl size31 ?_) | (refine wpList_load_row rfl 31 (.tmp 13) rfl w6.heap.size rfl 31 _ (0, 0) _ HZB.out Tryd.underlying31 rfl size31 ?_))
    refine HSS.out.mono ?_
    rintro e w7 ⟨rfl, hb7⟩
    have HB7 := Lib.hid hb7; clear hb7
    go_wp2_with fail
    refine (HLS.out w7 HB7.out).mono ?_
    rintro e w8 ⟨rfl, hb8⟩
    have HB8 := Lib.hid (btrans (btrans HBB.out HB7.out) hb8); clear hb8
    obtain ⟨y1, y2⟩ := HMB.out
    go_wp2
    go_ret
    exact ⟨rfl, HB8.out⟩

/-- The door's own heap meets the condition. -/
theorem door_met (os : Os) (args : Array Value) : laidMetH Tryd.prog Rows.frameDivisionUptoRow.laid ((World.doorLaid Tryd.prog 400 os).forCall (fun _ _ => 0) ⟨#[], args, []⟩).memory :=
  laidMetH_of_parts3 (fuel := 8) (laidMet_of_run' 8 (by kernel_rfl) (by kernel_rfl)) (by kernel_rfl) (by kernel_rfl)

set_option maxRecDepth 100000 in
theorem lifted (os : Os) (started : os.Started) (H : Type) (enc : TypeId × Value → H) (F : Stop.Interp) :
    ReturnsInHanded {} Tryd.checked os 6 .any (fun w args => ((Rows.OpenSpec.upto Rows.frameDivisionSpec).pre enc Tryd.prog Tryd.f6 [] false w args ∧ laidMetH Tryd.prog Rows.frameDivisionUptoRow.laid w) ∧ sizedMet enc Tryd.prog Tryd.f6 (Rows.OpenSpec.upto Rows.frameDivisionSpec) false w args)
      (((Rows.OpenSpec.upto Rows.frameDivisionSpec).at F).post enc Tryd.prog Tryd.f6 false true false false) := by
  refine returnsUpto (C := Tryd.checked) (s := (Rows.OpenSpec.upto Rows.frameDivisionSpec)) (k := Rows.uptoSmall) rfl own started (by kernel_rfl) Tryd.func6
    (World.doorLaid Tryd.prog 400 os) #[.agg #[.slice none 0 0, .bool false, .bool false, .bool false], .slice none 0 0, .slice none 0 0] 8 rfl (World.shaped_of_RefB (by kernel_rfl) (by kernel_rfl)) (by kernel_rfl)
    (x := ([.agg [.nil, .lit (.bool false), .lit (.bool false), .lit (.bool false)], .nil, .nil], [], [])) (by kernel_rfl) rfl (by kernel_rfl) (door_met os _) ?_
  intro W base args ds gs before hval0 hW hk hL
  have hval : ∀ (j : Nat) t v, Tryd.f6.params[j]? = some t → args[j]? = some v → Value.okWide Tryd.prog W .any base t v := hval0
  clear hval0
  have hW' := hW
  obtain ⟨p, q, hA0, hV, rfl, hfz, hnd⟩ := hW
  have hA : DataW.TrodAll enc Tryd.prog W 0 (fun _ => true) true Tryd.f6.params.toList args.toList ds p := hA0
  rw [Tryd.params6] at hA hval
  obtain ⟨v0, vs0, d0, ds0, p0, q0, hargs, rfl, rfl, h0, r0⟩ := trodAll_cons hA
  obtain ⟨v1, vs1, d1, ds1, p1, q1, rfl, rfl, rfl, h1, r1⟩ := trodAll_cons r0
  obtain ⟨v2, vs2, d2, ds2, p2, q2, rfl, rfl, rfl, h2, r2⟩ := trodAll_cons r1
  obtain ⟨rfl, rfl, rfl⟩ := trodAll_nil r2
  obtain rfl : args = #[v0, v1, v2] := by cases args; simp_all
  obtain ⟨rfl, rfl⟩ := trodVars_none hV
  have hbk := of_decide_eq_true hk
  simp only [List.append_nil, Rows.uptoBulkAll] at hbk
  obtain ⟨s0, hs0, sl0⟩ := openUD (hval 0 31 v0 rfl rfl) h0 (by show Rows.uptoBulk d0 ≤ _; omega)
  obtain ⟨oa1, ol1, oc1, rfl⟩ := okWide_slice Tryd.underlying22 (hval 1 22 v1 rfl rfl)
  obtain ⟨fu1, hf1⟩ := h1
  obtain ⟨b1, hb1, hbl1⟩ := openUB (v := .slice oa1 ol1 oc1) hf1 (by show Rows.uptoBulk d1 ≤ _; omega)
  obtain ⟨oa2, ol2, oc2, rfl⟩ := okWide_slice Tryd.underlying22 (hval 2 22 v2 rfl rfl)
  obtain ⟨fu2, hf2⟩ := h2
  obtain ⟨b2, hb2, hbl2⟩ := openUB (v := .slice oa2 ol2 oc2) hf2 (by show Rows.uptoBulk d2 ≤ _; omega)
  clear hA0
  refine (walk s0 b1 b2 _ _ _ W (kok_of_laid hL) hs0 hb1 hb2 (by have h1 : Rows.uptoBulk d1 + Rows.uptoBulk d2 ≤ 1048576 := (by omega); exact Nat.le_trans (Nat.add_le_add hbl1 hbl2) h1)).mono fun e W' ⟨he, hbw⟩ => ?_
  subst he
  refine ⟨_, rfl, post_law laidOut ?_ rfl rfl hW' rfl rfl rfl hbw⟩
  intro t ht
  rw [Tryd.params6] at ht
  have hm : t ∈ [22, 31] := by
    simp at ht
    rcases ht with rfl|rfl <;> simp
  have hall : ([22, 31].all fun u => Tryd.prog.readableRec u && decide (u < Tryd.prog.types.size)) = true := by kernel_rfl
  have := List.all_eq_true.1 hall t hm
  simpa using this

theorem over : Rows.frameDivisionUptoRow.holds Tryd.pinned (Rows.OpenSpec.upto Rows.frameDivisionSpec) :=
  OpenClaim.holds_of_cond 6 Tryd.f6 rfl rfl rfl rfl rfl rfl rfl ⟨rfl, rfl, rfl, rfl, rfl⟩ rfl rfl rfl rfl rfl (by kernel_rfl) Tryd.func6 (by kernel_rfl)
    (of_decide_eq_true (by kernel_rfl)) (by unfold Func.isWrapper; first | (rw [if_pos (by decide +kernel)]; kernel_rfl) | (rw [if_neg (by decide +kernel)]; exact ⟨rfl, rfl⟩))
    (fun os started H enc _ F => lifted os started H enc F)

/-- THE STATEMENT. -/
theorem proved : Rows.FrameDivisionUptoCardSaid :=
  Claim7.holds_tied_plain_at .later [] [.data] true (true, "77527d3cf38f6b3763f46bed1e18cdecc3d688c4d8546000962d453ae035ff12") false
    over (fun _ h => by cases h) (by kernel_rfl) (fun _ h => by cases h) frameDivisionUpto_row_tie rfl ⟨rfl, rfl⟩ (by kernel_rfl) rfl
    (fun f fn hf hfn => by
      obtain rfl : f = 6 := Option.some.inj ((show Tryd.prog.funcNamed "wagonpool/wagonpoollaw10.FrameDivision" = some 6 by kernel_rfl).symm.trans hf) |>.symm
      obtain rfl : fn = Tryd.f6 := (Option.some.inj (Tryd.func6.symm.trans hfn)).symm
      exact ⟨by kernel_rfl, fun j t ht => by
        rw [Tryd.params6] at ht
        have hm : t ∈ [22, 31] := by
          have := Array.mem_of_getElem? ht
          simp at this
          rcases this with rfl|rfl <;> simp
        have hall : ([22, 31].all fun u => !Tryd.prog.wantsStandIn u) = true := by kernel_rfl
        exact (show Tryd.prog.wantsStandIn t = false by simpa using List.all_eq_true.1 hall t hm)⟩)
    (by kernel_rfl)
#print axioms proved
end Go.Proofs.YtdmlnjgbfkkjdaaDoor.frameDivision
