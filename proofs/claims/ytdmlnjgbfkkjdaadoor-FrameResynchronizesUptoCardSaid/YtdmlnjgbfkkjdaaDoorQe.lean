/-
  The statement 'Rows.FrameResynchronizesUptoCardSaid': for all states, all bytes before it and all contents, of bounded bulk, the law of resynchronization answers true; the arguments read as they did. Condition: the table of the checksum lies as the program's text lays it.
-/
import Derived.Test.YtdmlnjgbfkkjdaaDoorFx
import Derived.ChangeMaps5
namespace Go.Proofs.YtdmlnjgbfkkjdaaDoor.frameResynchronizes
open Go.ChangeShapes Go.WideShapes Go.ChangeAt Go.RowKit Go.Lib
set_option linter.unusedVariables false
set_option linter.unusedSimpArgs false

set_option maxRecDepth 100000 in
set_option maxHeartbeats 16000000 in
theorem walk (s : St) (a b : List Int) (vd va vb : Value) (w : World) (hk : KOk w) (hd : SV (fun k => k < w.heap.size) w vd s) (ha : Bs (fun k => k < w.heap.size) w va a) (hb : Bs (fun k => k < w.heap.size) w vb b) (hsz : a.length + b.length ≤ 1048576) :
    Calls Tryd.prog 7 #[vd, va, vb] w fun e w' => e = .returned (.bool true) ∧ Below w.heap.size w w' := by
  have hra : Rg8 a := ha.2.1
  have hrb : Rg8 b := hb.2.1
  have HK := Lib.hid hk
  have HA := Lib.hid ha; have HB := Lib.hid hb
  obtain ⟨ad, cd, rfl, hrest⟩ := hd
  obtain ⟨aa, ca, rfl⟩ := ha.shape
  obtain ⟨ab, cb, rfl⟩ := hb.shape
  have HFD0 := Lib.hid (show ∀ (J : List Int) wx vj, J.length ≤ 4000000 → Below w.heap.size w wx → Bs (fun k => k < wx.heap.size) wx vj J → Calls Tryd.prog 15 #[.agg #[.slice ad s.rest.length cd, .bool s.inn, .bool s.esc, .bool s.bad], vj] wx (FeedOf wx (FS s J) (FL s J) (FB s J)) from fun J wx vj hJ hx hj =>
    feed_any s J _ vj wx (hk.below hx) ⟨ad, cd, rfl, hrest.on hx⟩ hj (by omega))
  obtain ⟨n, hn⟩ : ∃ n, n = s.rest.length := ⟨_, rfl⟩
  rw [← hn] at HFD0 ⊢
  obtain ⟨na, hna⟩ : ∃ na, na = a.length := ⟨_, rfl⟩
  obtain ⟨nb, hnb⟩ : ∃ nb, nb = b.length := ⟨_, rfl⟩
  have HNA := Lib.hid hna; have HNB := Lib.hid hnb
  rw [← hna] at HA hsz ⊢
  rw [← hnb] at HB hsz ⊢
  clear hrest hn hna hnb hk ha hb
  obtain ⟨W, hW⟩ : ∃ W, W = w.alloc (.cells #[.slice ad n cd, .bool s.inn, .bool s.esc, .bool s.bad] 31) := ⟨_, rfl⟩
  have HBW := Lib.hid (show Below w.heap.size w W by rw [hW]; exact ball (Below.refl _ _) _)
  have HX := Lib.hid (show W.heap[w.heap.size]? = some (.cells #[.slice ad n cd, .bool s.inn, .bool s.esc, .bool s.bad] 31 (0, 0)) by rw [hW]; exact bnew _ _)
  have HW := Lib.hid hW
  clear hW
  by_cases hb8 : nb ≤ 8192
  rotate_left
  · have hb' : 8192 < nb := by omega
    have hb2 : (8192 : Int) < (nb : Int) := by omega
    clear hra hrb hb8
    go_enter Tryd.func7, Tryd.ntmps7
    go_wp2_with fail
    rw [← HW.out]
    refine (sane_true W (HK.out.below HBW.out)).mono ?_
    rintro e w1 ⟨rfl, hb1⟩
    have HB1 := Lib.hid (btrans HBW.out hb1); clear hb1
    go_wp2_with fail
    refine (make_big b _ w1 (HB.out.on HB1.out) (by rw [← HNB.out]; exact hb')).mono ?_
    rintro e w2 ⟨rfl, rfl⟩
    go_wp2
    go_ret
    exact ⟨rfl, HB1.out⟩
  · have hfl := frm_len b
    rw [← HNB.out] at hfl
    have hrf := frm_rg hrb
    have eS : FS s (a ++ frm b) = stF := by rw [FS_app, frm_FS _ hrb (by rw [← HNB.out]; exact hb8)]
    have eL : FL s (a ++ frm b) = FL s (a ++ [126]) ++ [b] := by rw [FL_app, FL_app, frm_FL _ hrb (by rw [← HNB.out]; exact hb8)]; simp [FL]
    have eB : FB s (a ++ frm b) = FB s (a ++ [126]) := by rw [FB_app, FB_app, frm_FB _ hrb (by rw [← HNB.out]; exact hb8)]; simp [FB]
    have eS2 : FS s (a ++ [126]) = stF := by rw [FS_app]; simp [FS, fs_flag]
    have hLm : (FL s (a ++ [126])).length ≤ na + 1 := by have := FL_le s (a ++ [126]); simpa [HNA.out] using this
    have hMm : FB s (a ++ [126]) ≤ na + 1 := by have := FB_le s (a ++ [126]); simpa [HNA.out] using this
    have HFD1 := Lib.hid (show ∀ wx vj, Below w.heap.size w wx → Bs (fun k => k < wx.heap.size) wx vj (a ++ frm b) → Calls Tryd.prog 15 #[.agg #[.slice ad n cd, .bool s.inn, .bool s.esc, .bool s.bad], vj] wx (FeedOf wx stF (FL s (a ++ [126]) ++ [b]) (FB s (a ++ [126]))) from fun wx vj hx hj => by
      have h := HFD0.out (a ++ frm b) wx vj (by rw [List.length_append, ← HNA.out]; omega) hx hj
      rwa [eS, eL, eB] at h)
    have HFE1 := Lib.hid (show ∀ wx vj, Below w.heap.size w wx → Bs (fun k => k < wx.heap.size) wx vj (a ++ [126]) → Calls Tryd.prog 15 #[.agg #[.slice ad n cd, .bool s.inn, .bool s.esc, .bool s.bad], vj] wx (FeedOf wx stF (FL s (a ++ [126])) (FB s (a ++ [126]))) from fun wx vj hx hj => by
      have h := HFD0.out (a ++ [126]) wx vj (by rw [List.length_append, ← HNA.out]; simp; omega) hx hj
      rwa [eS2] at h)
    have HJ0 := Lib.hid (show a.length + (frm b).length ≤ 140737488355328 by rw [← HNA.out]; omega)
    have HJL := Lib.hid (show (a ++ frm b).length ≤ 140737488355328 by rw [List.length_append, ← HNA.out]; omega)
    have HJR := Lib.hid (show Rg8 (a ++ frm b) from hra.app hrf)
    have HK0 := Lib.hid (show a.length + [(126 : Int)].length ≤ 140737488355328 by rw [← HNA.out]; simp; omega)
    have HKL := Lib.hid (show (a ++ [126]).length ≤ 140737488355328 by rw [List.length_append, ← HNA.out]; simp; omega)
    have HKR := Lib.hid (show Rg8 (a ++ [126]) from hra.app (by intro u hu; simp at hu; omega))
    have HLM := Lib.hid hLm; have HMMb := Lib.hid hMm; have HSZ := Lib.hid hsz; have HFL := Lib.hid (show (frm b).length ≤ 140737488355328 by omega)
    have HRF := Lib.hid hrf
    have HMK := Lib.hid (show ∀ wx, Below w.heap.size w wx → Calls Tryd.prog 11 #[.slice ab nb cb] wx (MkOf wx b) from fun wx hx => make_any b _ wx (HK.out.below hx) (HB.out.on hx) (by rw [← HNB.out]; exact hb8))
    unfold MkOf at HMK
    clear eS eL eB eS2 hLm hMm hfl hrf hra hrb hsz HFD0
    generalize FL s (a ++ [126]) = LM at *
    generalize FB s (a ++ [126]) = MM at *
    generalize frm b = F at *
    obtain ⟨nf, hnf⟩ : ∃ nf, nf = F.length := ⟨_, rfl⟩
    have HNF := Lib.hid hnf; clear hnf
    go_enter Tryd.func7, Tryd.ntmps7
    go_wp2_with fail
    rw [← HW.out]
    refine (sane_true W (HK.out.below HBW.out)).mono ?_
    rintro e w1 ⟨rfl, hb1⟩
    have HB1 := Lib.hid (btrans HBW.out hb1)
    have HX1 := Lib.hid (bon HX.out hb1)
    clear hb1 HX HBW HW
    go_wp2_with fail
    refine (HMK.out w1 HB1.out).mono ?_
    rintro e w2 ⟨vf, rfl, hb2, hof⟩
    have hbf := Bs.own hof HFL.out HRF.out
    obtain ⟨af, cf, rfl⟩ := hbf.shape
    have HB2 := Lib.hid (btrans HB1.out hb2)
    have HX2 := Lib.hid (bon HX1.out hb2)
    have HB0 := Lib.hid hbf
    have HA0 := Lib.hid (HA.out.on HB2.out)
    rw [← HNF.out] at HB0 ⊢
    clear hb2 hof hbf HX1 HMK
    have HFD := Lib.hid (show ∀ wx vj, Below w2.heap.size w2 wx → Bs (fun k => k < wx.heap.size) wx vj (a ++ F) → Calls Tryd.prog 15 #[.agg #[.slice ad n cd, .bool s.inn, .bool s.esc, .bool s.bad], vj] wx (FeedOf wx stF (LM ++ [b]) MM) from fun wx vj hx hj => HFD1.out wx vj (btrans HB2.out hx) hj)
    obtain ⟨SS, hSS⟩ : ∃ SS, SS = stF := ⟨_, rfl⟩
    obtain ⟨LL, hLL⟩ : ∃ LL, LL = LM ++ [b] := ⟨_, rfl⟩
    rw [← hSS, ← hLL] at HFD
    have HSS0 := Lib.hid hSS; have HLL := Lib.hid hLL
    clear hSS hLL HFD1
    go_upto_region 6 with (fail)
    go_cut [9, 10, 11] from 9 to 39 (fun x l i wx => FedP w2 SS LL MM x l i wx)
    case first =>
      refine wp_region_held_drew (S := fun wx => Hid (Below w2.heap.size w2 wx)) (by kernel_rfl) (Lib.hid (Below.refl _ _).drew) (fun hHeld => ?_)
      change wpAnyH _ _ _ _ _ 13 #[false, false, false, false, false, false, false, false, false, false, false, false, false] _ _
      refine wpAnyH_take (i := 0) (oi := _) (v := .agg #[.slice ad n cd, .bool s.inn, .bool s.esc, .bool s.bad]) rfl (by kernel_rfl) (by kernel_rfl) (by kernel_rfl) (fun _ _ _ h => h) (Or.inl ⟨by rfl, fun wx hSw => ?_⟩) (by assumption) ?_
      · exact exec_load_row 31 (.tmp 3) rfl w.heap.size rfl 31 _ (0, 0) _ (bon HX2.out hSw.out) Tryd.underlying31 rfl size31
      (try simp only [Act.put, List.setIfInBounds_toArray, List.set_cons_zero, List.set_cons_succ, List.getElem_toArray, List.getElem_cons_zero, List.getElem_cons_succ])
      refine wpAnyH_take (i := 1) (oi := _) (v := .slice aa na ca) rfl (by kernel_rfl) (by kernel_rfl) (by kernel_rfl) (fun _ _ _ h => h) (Or.inl ⟨by rfl, fun wx hSw => ?_⟩) (by assumption) ?_
      · go_simp
        try (first | omega | (rw [IntKind.wrap_i64]; omega))
      (try simp only [Act.put, List.setIfInBounds_toArray, List.set_cons_zero, List.set_cons_succ, List.getElem_toArray, List.getElem_cons_zero, List.getElem_cons_succ])
      refine wpAnyH_take (i := 2) (oi := _) (v := .slice af nf cf) rfl (by kernel_rfl) (by kernel_rfl) (by kernel_rfl) (fun _ _ _ h => h) (Or.inl ⟨by rfl, fun wx hSw => ?_⟩) (by assumption) ?_
      · go_simp
        try (first | omega | (rw [IntKind.wrap_i64]; omega))
      (try simp only [Act.put, List.setIfInBounds_toArray, List.set_cons_zero, List.set_cons_succ, List.getElem_toArray, List.getElem_cons_zero, List.getElem_cons_succ])
      refine wpAnyH_ready (rs := [3, 9]) (by kernel_rfl) (by simp) ?_
      refine AllReadyH.cons (o := _) rfl (fun K hK => ?_) (AllReadyH.cons (o := _) rfl (fun K hK => ?_) AllReadyH.nil)
      · skip
        go_simp
        refine (joined_any _ _ _ _ _ (HA0.out.on (Below.refl w2.heap.size w2).drew) (HB0.out.on (Below.refl w2.heap.size w2).drew) HJ0.out).mono ?_
        rintro e w3 ⟨vj, rfl, hb3, ho3⟩
        have HB3 := Lib.hid (btrans (Below.refl w2.heap.size w2).drew hb3)
        have HJ3 := Lib.hid (Bs.own ho3 HJL.out HJR.out)
        clear hb3 ho3
        go_wp2_with fail
        refine hK.out _ _ (HB3) (fun hHeld => ?_)
        clear hK K
        (try simp only [Act.put, List.setIfInBounds_toArray, List.set_cons_zero, List.set_cons_succ, List.getElem_toArray, List.getElem_cons_zero, List.getElem_cons_succ])
        refine wpAnyH_ready (rs := [4, 9]) (by kernel_rfl) (by simp) ?_
        refine AllReadyH.cons (o := _) rfl (fun K hK => ?_) (AllReadyH.cons (o := _) rfl (fun K hK => ?_) AllReadyH.nil)
        · skip
          go_simp
          refine (HFD.out _ _ HB3.out (HJ3.out.on (Below.refl _ _))).mono ?_
          intro e w4 hfd
          obtain ⟨ax, cx, al, cl, vals, rfl, hb4, hfb⟩ := hfd.parts
          have HB4 := Lib.hid (btrans HB3.out hb4)
          have HX4 := Lib.hid hb4
          have HFB := Lib.hid hfb
          clear hb4 hfb hfd
          go_wp2_with fail
          refine hK.out _ _ (HB4) (fun hHeld => ?_)
          clear hK K
          (try simp only [Act.put, List.setIfInBounds_toArray, List.set_cons_zero, List.set_cons_succ, List.getElem_toArray, List.getElem_cons_zero, List.getElem_cons_succ])
          refine wpAnyH_take (i := 5) (oi := _) (v := .tuple #[.agg #[.slice ax SS.rest.length cx, .bool SS.inn, .bool SS.esc, .bool SS.bad], .slice al LL.length cl, .int .i64 (MM : Nat)]) rfl (by kernel_rfl) (by kernel_rfl) (by kernel_rfl) (fun _ _ _ h => h) (Or.inl ⟨by rfl, fun wx hSw => ?_⟩) (by assumption) ?_
          · go_simp
            try (first | omega | (rw [IntKind.wrap_i64]; omega))
          (try simp only [Act.put, List.setIfInBounds_toArray, List.set_cons_zero, List.set_cons_succ, List.getElem_toArray, List.getElem_cons_zero, List.getElem_cons_succ])
          refine wpAnyH_take (i := 6) (oi := _) (v := .agg #[.slice ax SS.rest.length cx, .bool SS.inn, .bool SS.esc, .bool SS.bad]) rfl (by kernel_rfl) (by kernel_rfl) (by kernel_rfl) (fun _ _ _ h => h) (Or.inl ⟨by rfl, fun wx hSw => ?_⟩) (by assumption) ?_
          · go_simp
            try (first | omega | (rw [IntKind.wrap_i64]; omega))
          (try simp only [Act.put, List.setIfInBounds_toArray, List.set_cons_zero, List.set_cons_succ, List.getElem_toArray, List.getElem_cons_zero, List.getElem_cons_succ])
          refine wpAnyH_take (i := 7) (oi := _) (v := .slice al LL.length cl) rfl (by kernel_rfl) (by kernel_rfl) (by kernel_rfl) (fun _ _ _ h => h) (Or.inl ⟨by rfl, fun wx hSw => ?_⟩) (by assumption) ?_
          · go_simp
            try (first | omega | (rw [IntKind.wrap_i64]; omega))
          (try simp only [Act.put, List.setIfInBounds_toArray, List.set_cons_zero, List.set_cons_succ, List.getElem_toArray, List.getElem_cons_zero, List.getElem_cons_succ])
          refine wpAnyH_take (i := 8) (oi := _) (v := .int .i64 (MM : Nat)) rfl (by kernel_rfl) (by kernel_rfl) (by kernel_rfl) (fun _ _ _ h => h) (Or.inl ⟨by rfl, fun wx hSw => ?_⟩) (by assumption) ?_
          · go_simp
            try (first | omega | (rw [IntKind.wrap_i64]; omega))
          (try simp only [Act.put, List.setIfInBounds_toArray, List.set_cons_zero, List.set_cons_succ, List.getElem_toArray, List.getElem_cons_zero, List.getElem_cons_succ])
          refine wpAnyH_ready (rs := [9]) (by kernel_rfl) (by simp) ?_
          refine AllReadyH.cons (o := _) rfl (fun K hK => ?_) AllReadyH.nil
          go_simp
          refine hK.out _ _ (Lib.hid (ball HB4.out (.cells #[.slice none 0 0, .bool false, .bool false, .bool false] 31))) (fun hHeld => ?_)
          clear hK K
          (try simp only [Act.put, List.setIfInBounds_toArray, List.set_cons_zero, List.set_cons_succ, List.getElem_toArray, List.getElem_cons_zero, List.getElem_cons_succ])
          refine wpAnyH_ready (rs := [10]) (by kernel_rfl) (by simp) ?_
          refine AllReadyH.cons (o := _) rfl (fun K hK => ?_) AllReadyH.nil
          have hend := FedB.behind (U := w2) HFB.out HB4.out MM
          have HEND := Lib.hid hend.2
          have hz9 := hend.1
          clear hend
          rw [if_pos (show Region.wanted _ _ = true by rfl)]
          refine wp_store_row 31 (.tmp 9) (.tmp 37) rfl (w4.heap.size) #[.slice ax SS.rest.length cx, .bool SS.inn, .bool SS.esc, .bool SS.bad] rfl rfl 31 _ hz9 size31 rfl all31' ?_
          refine hK.out _ _ (Lib.hid (fedp_below HEND.out)) (fun hHeld => ?_)
          clear hK K
          (try simp only [Act.put, List.setIfInBounds_toArray, List.set_cons_zero, List.set_cons_succ, List.getElem_toArray, List.getElem_cons_zero, List.getElem_cons_succ])
          refine wpAnyH_take (i := 11) (oi := _) (v := .slice al LL.length cl) rfl (by kernel_rfl) (by kernel_rfl) (by kernel_rfl) (fun _ _ _ h => h) (Or.inl ⟨by rfl, fun wx hSw => ?_⟩) (by assumption) ?_
          · go_simp
            try (first | omega | (rw [IntKind.wrap_i64]; omega))
          (try simp only [Act.put, List.setIfInBounds_toArray, List.set_cons_zero, List.set_cons_succ, List.getElem_toArray, List.getElem_cons_zero, List.getElem_cons_succ])
          refine wpAnyH_take (i := 12) (oi := _) (v := .int .i64 (MM : Nat)) rfl (by kernel_rfl) (by kernel_rfl) (by kernel_rfl) (fun _ _ _ h => h) (Or.inl ⟨by rfl, fun wx hSw => ?_⟩) (by assumption) ?_
          · go_simp
            try (first | omega | (rw [IntKind.wrap_i64]; omega))
          (try simp only [Act.put, List.setIfInBounds_toArray, List.set_cons_zero, List.set_cons_succ, List.getElem_toArray, List.getElem_cons_zero, List.getElem_cons_succ])
          refine wpAnyH_done (by kernel_rfl) ?_ _
          go_wp2
          go_meet
          exact HEND.out
        · skip
          go_simp
          refine hK.out _ _ (Lib.hid (ball HB3.out (.cells #[.slice none 0 0, .bool false, .bool false, .bool false] 31))) (fun hHeld => ?_)
          clear hK K
          (try simp only [Act.put, List.setIfInBounds_toArray, List.set_cons_zero, List.set_cons_succ, List.getElem_toArray, List.getElem_cons_zero, List.getElem_cons_succ])
          refine wpAnyH_ready (rs := [4]) (by kernel_rfl) (by simp) ?_
          refine AllReadyH.cons (o := _) rfl (fun K hK => ?_) AllReadyH.nil
          go_simp
          refine (HFD.out _ _ (ball HB3.out (.cells #[.slice none 0 0, .bool false, .bool false, .bool false] 31)) (HJ3.out.on (ball (Below.refl _ _) (.cells #[.slice none 0 0, .bool false, .bool false, .bool false] 31)))).mono ?_
          intro e w4 hfd
          have HM4 := Lib.hid (show (w3.alloc Zc).heap[w3.heap.size]? = some Zc from bnew w3 Zc)
          obtain ⟨ax, cx, al, cl, vals, rfl, hb4, hfb⟩ := hfd.parts
          have HB4 := Lib.hid (btrans (ball HB3.out (.cells #[.slice none 0 0, .bool false, .bool false, .bool false] 31)) hb4)
          have HX4 := Lib.hid hb4
          have HFB := Lib.hid hfb
          clear hb4 hfb hfd
          go_wp2_with fail
          refine hK.out _ _ (HB4) (fun hHeld => ?_)
          clear hK K
          (try simp only [Act.put, List.setIfInBounds_toArray, List.set_cons_zero, List.set_cons_succ, List.getElem_toArray, List.getElem_cons_zero, List.getElem_cons_succ])
          refine wpAnyH_take (i := 5) (oi := _) (v := .tuple #[.agg #[.slice ax SS.rest.length cx, .bool SS.inn, .bool SS.esc, .bool SS.bad], .slice al LL.length cl, .int .i64 (MM : Nat)]) rfl (by kernel_rfl) (by kernel_rfl) (by kernel_rfl) (fun _ _ _ h => h) (Or.inl ⟨by rfl, fun wx hSw => ?_⟩) (by assumption) ?_
          · go_simp
            try (first | omega | (rw [IntKind.wrap_i64]; omega))
          (try simp only [Act.put, List.setIfInBounds_toArray, List.set_cons_zero, List.set_cons_succ, List.getElem_toArray, List.getElem_cons_zero, List.getElem_cons_succ])
          refine wpAnyH_take (i := 6) (oi := _) (v := .agg #[.slice ax SS.rest.length cx, .bool SS.inn, .bool SS.esc, .bool SS.bad]) rfl (by kernel_rfl) (by kernel_rfl) (by kernel_rfl) (fun _ _ _ h => h) (Or.inl ⟨by rfl, fun wx hSw => ?_⟩) (by assumption) ?_
          · go_simp
            try (first | omega | (rw [IntKind.wrap_i64]; omega))
          (try simp only [Act.put, List.setIfInBounds_toArray, List.set_cons_zero, List.set_cons_succ, List.getElem_toArray, List.getElem_cons_zero, List.getElem_cons_succ])
          refine wpAnyH_take (i := 7) (oi := _) (v := .slice al LL.length cl) rfl (by kernel_rfl) (by kernel_rfl) (by kernel_rfl) (fun _ _ _ h => h) (Or.inl ⟨by rfl, fun wx hSw => ?_⟩) (by assumption) ?_
          · go_simp
            try (first | omega | (rw [IntKind.wrap_i64]; omega))
          (try simp only [Act.put, List.setIfInBounds_toArray, List.set_cons_zero, List.set_cons_succ, List.getElem_toArray, List.getElem_cons_zero, List.getElem_cons_succ])
          refine wpAnyH_take (i := 8) (oi := _) (v := .int .i64 (MM : Nat)) rfl (by kernel_rfl) (by kernel_rfl) (by kernel_rfl) (fun _ _ _ h => h) (Or.inl ⟨by rfl, fun wx hSw => ?_⟩) (by assumption) ?_
          · go_simp
            try (first | omega | (rw [IntKind.wrap_i64]; omega))
          (try simp only [Act.put, List.setIfInBounds_toArray, List.set_cons_zero, List.set_cons_succ, List.getElem_toArray, List.getElem_cons_zero, List.getElem_cons_succ])
          refine wpAnyH_ready (rs := [10]) (by kernel_rfl) (by simp) ?_
          refine AllReadyH.cons (o := _) rfl (fun K hK => ?_) AllReadyH.nil
          have hend := FedB.before (U := w2) HFB.out (by have : w2.drew.heap.size = w2.heap.size := rfl; have h3 := HB3.out.size; (try simp only [World.size_alloc]); omega) HB4.out HX4.out HM4.out MM
          have HEND := Lib.hid hend.2
          have hz9 := hend.1
          clear hend
          rw [if_pos (show Region.wanted _ _ = true by rfl)]
          refine wp_store_row 31 (.tmp 9) (.tmp 37) rfl (w3.heap.size) #[.slice ax SS.rest.length cx, .bool SS.inn, .bool SS.esc, .bool SS.bad] rfl rfl 31 _ hz9 size31 rfl all31' ?_
          refine hK.out _ _ (Lib.hid (fedp_below HEND.out)) (fun hHeld => ?_)
          clear hK K
          (try simp only [Act.put, List.setIfInBounds_toArray, List.set_cons_zero, List.set_cons_succ, List.getElem_toArray, List.getElem_cons_zero, List.getElem_cons_succ])
          refine wpAnyH_take (i := 11) (oi := _) (v := .slice al LL.length cl) rfl (by kernel_rfl) (by kernel_rfl) (by kernel_rfl) (fun _ _ _ h => h) (Or.inl ⟨by rfl, fun wx hSw => ?_⟩) (by assumption) ?_
          · go_simp
            try (first | omega | (rw [IntKind.wrap_i64]; omega))
          (try simp only [Act.put, List.setIfInBounds_toArray, List.set_cons_zero, List.set_cons_succ, List.getElem_toArray, List.getElem_cons_zero, List.getElem_cons_succ])
          refine wpAnyH_take (i := 12) (oi := _) (v := .int .i64 (MM : Nat)) rfl (by kernel_rfl) (by kernel_rfl) (by kernel_rfl) (fun _ _ _ h => h) (Or.inl ⟨by rfl, fun wx hSw => ?_⟩) (by assumption) ?_
          · go_simp
            try (first | omega | (rw [IntKind.wrap_i64]; omega))
          (try simp only [Act.put, List.setIfInBounds_toArray, List.set_cons_zero, List.set_cons_succ, List.getElem_toArray, List.getElem_cons_zero, List.getElem_cons_succ])
          refine wpAnyH_done (by kernel_rfl) ?_ _
          go_wp2
          go_meet
          exact HEND.out
      · skip
        go_simp
        refine hK.out _ _ (Lib.hid (ball (Below.refl w2.heap.size w2).drew (.cells #[.slice none 0 0, .bool false, .bool false, .bool false] 31))) (fun hHeld => ?_)
        clear hK K
        (try simp only [Act.put, List.setIfInBounds_toArray, List.set_cons_zero, List.set_cons_succ, List.getElem_toArray, List.getElem_cons_zero, List.getElem_cons_succ])
        refine wpAnyH_ready (rs := [3]) (by kernel_rfl) (by simp) ?_
        refine AllReadyH.cons (o := _) rfl (fun K hK => ?_) AllReadyH.nil
        go_simp
        refine (joined_any _ _ _ _ _ (HA0.out.on (ball (Below.refl w2.heap.size w2).drew (.cells #[.slice none 0 0, .bool false, .bool false, .bool false] 31))) (HB0.out.on (ball (Below.refl w2.heap.size w2).drew (.cells #[.slice none 0 0, .bool false, .bool false, .bool false] 31))) HJ0.out).mono ?_
        rintro e w3 ⟨vj, rfl, hb3, ho3⟩
        have HM3 := Lib.hid (show w3.heap[w2.heap.size]? = some Zc from bon (by have h := (bnew w2.drew Zc); (try simp only [World.size_alloc] at h); exact h) hb3)
        have HB3 := Lib.hid (btrans (ball (Below.refl w2.heap.size w2).drew (.cells #[.slice none 0 0, .bool false, .bool false, .bool false] 31)) hb3)
        have HJ3 := Lib.hid (Bs.own ho3 HJL.out HJR.out)
        clear hb3 ho3
        go_wp2_with fail
        refine hK.out _ _ (HB3) (fun hHeld => ?_)
        clear hK K
        (try simp only [Act.put, List.setIfInBounds_toArray, List.set_cons_zero, List.set_cons_succ, List.getElem_toArray, List.getElem_cons_zero, List.getElem_cons_succ])
        refine wpAnyH_ready (rs := [4]) (by kernel_rfl) (by simp) ?_
        refine AllReadyH.cons (o := _) rfl (fun K hK => ?_) AllReadyH.nil
        go_simp
        refine (HFD.out _ _ HB3.out (HJ3.out.on (Below.refl _ _))).mono ?_
        intro e w4 hfd
        have HM4 := HM3
        obtain ⟨ax, cx, al, cl, vals, rfl, hb4, hfb⟩ := hfd.parts
        have HB4 := Lib.hid (btrans HB3.out hb4)
        have HX4 := Lib.hid hb4
        have HFB := Lib.hid hfb
        clear hb4 hfb hfd
        go_wp2_with fail
        refine hK.out _ _ (HB4) (fun hHeld => ?_)
        clear hK K
        (try simp only [Act.put, List.setIfInBounds_toArray, List.set_cons_zero, List.set_cons_succ, List.getElem_toArray, List.getElem_cons_zero, List.getElem_cons_succ])
        refine wpAnyH_take (i := 5) (oi := _) (v := .tuple #[.agg #[.slice ax SS.rest.length cx, .bool SS.inn, .bool SS.esc, .bool SS.bad], .slice al LL.length cl, .int .i64 (MM : Nat)]) rfl (by kernel_rfl) (by kernel_rfl) (by kernel_rfl) (fun _ _ _ h => h) (Or.inl ⟨by rfl, fun wx hSw => ?_⟩) (by assumption) ?_
        · go_simp
          try (first | omega | (rw [IntKind.wrap_i64]; omega))
        (try simp only [Act.put, List.setIfInBounds_toArray, List.set_cons_zero, List.set_cons_succ, List.getElem_toArray, List.getElem_cons_zero, List.getElem_cons_succ])
        refine wpAnyH_take (i := 6) (oi := _) (v := .agg #[.slice ax SS.rest.length cx, .bool SS.inn, .bool SS.esc, .bool SS.bad]) rfl (by kernel_rfl) (by kernel_rfl) (by kernel_rfl) (fun _ _ _ h => h) (Or.inl ⟨by rfl, fun wx hSw => ?_⟩) (by assumption) ?_
        · go_simp
          try (first | omega | (rw [IntKind.wrap_i64]; omega))
        (try simp only [Act.put, List.setIfInBounds_toArray, List.set_cons_zero, List.set_cons_succ, List.getElem_toArray, List.getElem_cons_zero, List.getElem_cons_succ])
        refine wpAnyH_take (i := 7) (oi := _) (v := .slice al LL.length cl) rfl (by kernel_rfl) (by kernel_rfl) (by kernel_rfl) (fun _ _ _ h => h) (Or.inl ⟨by rfl, fun wx hSw => ?_⟩) (by assumption) ?_
        · go_simp
          try (first | omega | (rw [IntKind.wrap_i64]; omega))
        (try simp only [Act.put, List.setIfInBounds_toArray, List.set_cons_zero, List.set_cons_succ, List.getElem_toArray, List.getElem_cons_zero, List.getElem_cons_succ])
        refine wpAnyH_take (i := 8) (oi := _) (v := .int .i64 (MM : Nat)) rfl (by kernel_rfl) (by kernel_rfl) (by kernel_rfl) (fun _ _ _ h => h) (Or.inl ⟨by rfl, fun wx hSw => ?_⟩) (by assumption) ?_
        · go_simp
          try (first | omega | (rw [IntKind.wrap_i64]; omega))
        (try simp only [Act.put, List.setIfInBounds_toArray, List.set_cons_zero, List.set_cons_succ, List.getElem_toArray, List.getElem_cons_zero, List.getElem_cons_succ])
        refine wpAnyH_ready (rs := [10]) (by kernel_rfl) (by simp) ?_
        refine AllReadyH.cons (o := _) rfl (fun K hK => ?_) AllReadyH.nil
        have hend := FedB.before (U := w2) HFB.out (by have : w2.drew.heap.size = w2.heap.size := rfl; have h3 := HB3.out.size; (try simp only [World.size_alloc]); omega) HB4.out HX4.out HM4.out MM
        have HEND := Lib.hid hend.2
        have hz9 := hend.1
        clear hend
        rw [if_pos (show Region.wanted _ _ = true by rfl)]
        refine wp_store_row 31 (.tmp 9) (.tmp 37) rfl (w2.heap.size) #[.slice ax SS.rest.length cx, .bool SS.inn, .bool SS.esc, .bool SS.bad] rfl rfl 31 _ hz9 size31 rfl all31' ?_
        refine hK.out _ _ (Lib.hid (fedp_below HEND.out)) (fun hHeld => ?_)
        clear hK K
        (try simp only [Act.put, List.setIfInBounds_toArray, List.set_cons_zero, List.set_cons_succ, List.getElem_toArray, List.getElem_cons_zero, List.getElem_cons_succ])
        refine wpAnyH_take (i := 11) (oi := _) (v := .slice al LL.length cl) rfl (by kernel_rfl) (by kernel_rfl) (by kernel_rfl) (fun _ _ _ h => h) (Or.inl ⟨by rfl, fun wx hSw => ?_⟩) (by assumption) ?_
        · go_simp
          try (first | omega | (rw [IntKind.wrap_i64]; omega))
        (try simp only [Act.put, List.setIfInBounds_toArray, List.set_cons_zero, List.set_cons_succ, List.getElem_toArray, List.getElem_cons_zero, List.getElem_cons_succ])
        refine wpAnyH_take (i := 12) (oi := _) (v := .int .i64 (MM : Nat)) rfl (by kernel_rfl) (by kernel_rfl) (by kernel_rfl) (fun _ _ _ h => h) (Or.inl ⟨by rfl, fun wx hSw => ?_⟩) (by assumption) ?_
        · go_simp
          try (first | omega | (rw [IntKind.wrap_i64]; omega))
        (try simp only [Act.put, List.setIfInBounds_toArray, List.set_cons_zero, List.set_cons_succ, List.getElem_toArray, List.getElem_cons_zero, List.getElem_cons_succ])
        refine wpAnyH_done (by kernel_rfl) ?_ _
        go_wp2
        go_meet
        exact HEND.out
    case rest =>
      obtain ⟨g1, ax, cx, al, cl, vals1, rfl, rfl, rfl, hg1, hx1, hb1, hr1, hv1, he1, hc1⟩ := hcut
      obtain ⟨wd, hwd⟩ : ∃ wd, wd = wc := ⟨_, rfl⟩
      subst hwd
      have HBc := Lib.hid (btrans HB2.out hb1)
      have HXc := Lib.hid (bon HX2.out hb1)
      have HAc := Lib.hid (HA0.out.on hb1)
      have HG1 := Lib.hid hx1; have HR1 := Lib.hid hr1; have HV1 := Lib.hid hv1; have HE1 := Lib.hid he1; have HCL := Lib.hid hc1
      clear hg1 hx1 hb1 hr1 hv1 he1 hc1 HX2 HB0 HA0 HFD
      have HFE := Lib.hid (show ∀ wx vj, Below wd.heap.size wd wx → Bs (fun k => k < wx.heap.size) wx vj (a ++ [126]) → Calls Tryd.prog 15 #[.agg #[.slice ad n cd, .bool s.inn, .bool s.esc, .bool s.bad], vj] wx (FeedOf wx stF LM MM) from fun wx vj hx hj => HFE1.out wx vj (btrans HBc.out hx) hj)
      clear HFE1
      go_upto_region 7 with (fail)
      go_cut [12, 13, 14] from 12 to 48 (fun x l i wx => FedP wd stF LM MM x l i wx)
      case first =>
        refine wp_region_held_drew (S := fun wx => Hid (Below wd.heap.size wd wx)) (by kernel_rfl) (Lib.hid (Below.refl _ _).drew) (fun hHeld => ?_)
        change wpAnyH _ _ _ _ _ 13 #[false, false, false, false, false, false, false, false, false, false, false, false, false] _ _
        refine wpAnyH_take (i := 0) (oi := _) (v := .agg #[.slice ad n cd, .bool s.inn, .bool s.esc, .bool s.bad]) rfl (by kernel_rfl) (by kernel_rfl) (by kernel_rfl) (fun _ _ _ h => h) (Or.inl ⟨by rfl, fun wx hSw => ?_⟩) (by assumption) ?_
        · exact exec_load_row 31 (.tmp 3) rfl w.heap.size rfl 31 _ (0, 0) _ (bon HXc.out hSw.out) Tryd.underlying31 rfl size31
        (try simp only [Act.put, List.setIfInBounds_toArray, List.set_cons_zero, List.set_cons_succ, List.getElem_toArray, List.getElem_cons_zero, List.getElem_cons_succ])
        refine wpAnyH_take (i := 1) (oi := _) (v := .slice aa na ca) rfl (by kernel_rfl) (by kernel_rfl) (by kernel_rfl) (fun _ _ _ h => h) (Or.inl ⟨by rfl, fun wx hSw => ?_⟩) (by assumption) ?_
        · go_simp
          try (first | omega | (rw [IntKind.wrap_i64]; omega))
        (try simp only [Act.put, List.setIfInBounds_toArray, List.set_cons_zero, List.set_cons_succ, List.getElem_toArray, List.getElem_cons_zero, List.getElem_cons_succ])
        refine wpAnyH_ready (rs := [2, 9]) (by kernel_rfl) (by simp) ?_
        refine AllReadyH.cons (o := _) rfl (fun K hK => ?_) (AllReadyH.cons (o := _) rfl (fun K hK => ?_) AllReadyH.nil)
        · skip
          go_simp
          refine hK.out _ _ (Lib.hid (ball (Below.refl wd.heap.size wd).drew (.cells #[.int .u8 126] 5))) (fun hHeld => ?_)
          clear hK K
          (try simp only [Act.put, List.setIfInBounds_toArray, List.set_cons_zero, List.set_cons_succ, List.getElem_toArray, List.getElem_cons_zero, List.getElem_cons_succ])
          refine wpAnyH_ready (rs := [3, 9]) (by kernel_rfl) (by simp) ?_
          refine AllReadyH.cons (o := _) rfl (fun K hK => ?_) (AllReadyH.cons (o := _) rfl (fun K hK => ?_) AllReadyH.nil)
          · skip
            have hl3 : Bs (fun k => k < (wd.drew.alloc (.cells #[.int .u8 126] 5)).heap.size) (wd.drew.alloc (.cells #[.int .u8 126] 5)) (.slice (some ⟨wd.heap.size, 0, none⟩) 1 1) [126] := by have h := ((lit_one wd.drew 126 (by omega)).on (Below.refl _ _)); (try simp only [World.size_alloc] at h); (try simp only [World.size_alloc]); exact h
            go_simp
            refine (joined_any _ _ _ _ _ (HAc.out.on (ball (Below.refl wd.heap.size wd).drew (.cells #[.int .u8 126] 5))) hl3 HK0.out).mono ?_
            rintro e w3 ⟨vj, rfl, hb3, ho3⟩
            have HB3 := Lib.hid (btrans (ball (Below.refl wd.heap.size wd).drew (.cells #[.int .u8 126] 5)) hb3)
            have HJ3 := Lib.hid (Bs.own ho3 HKL.out HKR.out)
            clear hb3 ho3
            go_wp2_with fail
            refine hK.out _ _ (HB3) (fun hHeld => ?_)
            clear hK K
            (try simp only [Act.put, List.setIfInBounds_toArray, List.set_cons_zero, List.set_cons_succ, List.getElem_toArray, List.getElem_cons_zero, List.getElem_cons_succ])
            refine wpAnyH_ready (rs := [4, 9]) (by kernel_rfl) (by simp) ?_
            refine AllReadyH.cons (o := _) rfl (fun K hK => ?_) (AllReadyH.cons (o := _) rfl (fun K hK => ?_) AllReadyH.nil)
            · skip
              go_simp
              refine (HFE.out _ _ HB3.out (HJ3.out.on (Below.refl _ _))).mono ?_
              intro e w4 hfd
              obtain ⟨ax, cx, al, cl, vals, rfl, hb4, hfb⟩ := hfd.parts
              have HB4 := Lib.hid (btrans HB3.out hb4)
              have HX4 := Lib.hid hb4
              have HFB := Lib.hid hfb
              clear hb4 hfb hfd
              go_wp2_with fail
              refine hK.out _ _ (HB4) (fun hHeld => ?_)
              clear hK K
              (try simp only [Act.put, List.setIfInBounds_toArray, List.set_cons_zero, List.set_cons_succ, List.getElem_toArray, List.getElem_cons_zero, List.getElem_cons_succ])
              refine wpAnyH_take (i := 5) (oi := _) (v := .tuple #[.agg #[.slice ax stF.rest.length cx, .bool stF.inn, .bool stF.esc, .bool stF.bad], .slice al LM.length cl, .int .i64 (MM : Nat)]) rfl (by kernel_rfl) (by kernel_rfl) (by kernel_rfl) (fun _ _ _ h => h) (Or.inl ⟨by rfl, fun wx hSw => ?_⟩) (by assumption) ?_
              · go_simp
                try (first | omega | (rw [IntKind.wrap_i64]; omega))
              (try simp only [Act.put, List.setIfInBounds_toArray, List.set_cons_zero, List.set_cons_succ, List.getElem_toArray, List.getElem_cons_zero, List.getElem_cons_succ])
              refine wpAnyH_take (i := 6) (oi := _) (v := .agg #[.slice ax stF.rest.length cx, .bool stF.inn, .bool stF.esc, .bool stF.bad]) rfl (by kernel_rfl) (by kernel_rfl) (by kernel_rfl) (fun _ _ _ h => h) (Or.inl ⟨by rfl, fun wx hSw => ?_⟩) (by assumption) ?_
              · go_simp
                try (first | omega | (rw [IntKind.wrap_i64]; omega))
              (try simp only [Act.put, List.setIfInBounds_toArray, List.set_cons_zero, List.set_cons_succ, List.getElem_toArray, List.getElem_cons_zero, List.getElem_cons_succ])
              refine wpAnyH_take (i := 7) (oi := _) (v := .slice al LM.length cl) rfl (by kernel_rfl) (by kernel_rfl) (by kernel_rfl) (fun _ _ _ h => h) (Or.inl ⟨by rfl, fun wx hSw => ?_⟩) (by assumption) ?_
              · go_simp
                try (first | omega | (rw [IntKind.wrap_i64]; omega))
              (try simp only [Act.put, List.setIfInBounds_toArray, List.set_cons_zero, List.set_cons_succ, List.getElem_toArray, List.getElem_cons_zero, List.getElem_cons_succ])
              refine wpAnyH_take (i := 8) (oi := _) (v := .int .i64 (MM : Nat)) rfl (by kernel_rfl) (by kernel_rfl) (by kernel_rfl) (fun _ _ _ h => h) (Or.inl ⟨by rfl, fun wx hSw => ?_⟩) (by assumption) ?_
              · go_simp
                try (first | omega | (rw [IntKind.wrap_i64]; omega))
              (try simp only [Act.put, List.setIfInBounds_toArray, List.set_cons_zero, List.set_cons_succ, List.getElem_toArray, List.getElem_cons_zero, List.getElem_cons_succ])
              refine wpAnyH_ready (rs := [9]) (by kernel_rfl) (by simp) ?_
              refine AllReadyH.cons (o := _) rfl (fun K hK => ?_) AllReadyH.nil
              go_simp
              refine hK.out _ _ (Lib.hid (ball HB4.out (.cells #[.slice none 0 0, .bool false, .bool false, .bool false] 31))) (fun hHeld => ?_)
              clear hK K
              (try simp only [Act.put, List.setIfInBounds_toArray, List.set_cons_zero, List.set_cons_succ, List.getElem_toArray, List.getElem_cons_zero, List.getElem_cons_succ])
              refine wpAnyH_ready (rs := [10]) (by kernel_rfl) (by simp) ?_
              refine AllReadyH.cons (o := _) rfl (fun K hK => ?_) AllReadyH.nil
              have hend := FedB.behind (U := wd) HFB.out HB4.out MM
              have HEND := Lib.hid hend.2
              have hz9 := hend.1
              clear hend
              rw [if_pos (show Region.wanted _ _ = true by rfl)]
              refine wp_store_row 31 (.tmp 12) (.tmp 46) rfl (w4.heap.size) #[.slice ax stF.rest.length cx, .bool stF.inn, .bool stF.esc, .bool stF.bad] rfl rfl 31 _ hz9 size31 rfl all31' ?_
              refine hK.out _ _ (Lib.hid (fedp_below HEND.out)) (fun hHeld => ?_)
              clear hK K
              (try simp only [Act.put, List.setIfInBounds_toArray, List.set_cons_zero, List.set_cons_succ, List.getElem_toArray, List.getElem_cons_zero, List.getElem_cons_succ])
              refine wpAnyH_take (i := 11) (oi := _) (v := .slice al LM.length cl) rfl (by kernel_rfl) (by kernel_rfl) (by kernel_rfl) (fun _ _ _ h => h) (Or.inl ⟨by rfl, fun wx hSw => ?_⟩) (by assumption) ?_
              · go_simp
                try (first | omega | (rw [IntKind.wrap_i64]; omega))
              (try simp only [Act.put, List.setIfInBounds_toArray, List.set_cons_zero, List.set_cons_succ, List.getElem_toArray, List.getElem_cons_zero, List.getElem_cons_succ])
              refine wpAnyH_take (i := 12) (oi := _) (v := .int .i64 (MM : Nat)) rfl (by kernel_rfl) (by kernel_rfl) (by kernel_rfl) (fun _ _ _ h => h) (Or.inl ⟨by rfl, fun wx hSw => ?_⟩) (by assumption) ?_
              · go_simp
                try (first | omega | (rw [IntKind.wrap_i64]; omega))
              (try simp only [Act.put, List.setIfInBounds_toArray, List.set_cons_zero, List.set_cons_succ, List.getElem_toArray, List.getElem_cons_zero, List.getElem_cons_succ])
              refine wpAnyH_done (by kernel_rfl) ?_ _
              go_wp2
              go_meet
              exact HEND.out
            · skip
              go_simp
              refine hK.out _ _ (Lib.hid (ball HB3.out (.cells #[.slice none 0 0, .bool false, .bool false, .bool false] 31))) (fun hHeld => ?_)
              clear hK K
              (try simp only [Act.put, List.setIfInBounds_toArray, List.set_cons_zero, List.set_cons_succ, List.getElem_toArray, List.getElem_cons_zero, List.getElem_cons_succ])
              refine wpAnyH_ready (rs := [4]) (by kernel_rfl) (by simp) ?_
              refine AllReadyH.cons (o := _) rfl (fun K hK => ?_) AllReadyH.nil
              go_simp
              refine (HFE.out _ _ (ball HB3.out (.cells #[.slice none 0 0, .bool false, .bool false, .bool false] 31)) (HJ3.out.on (ball (Below.refl _ _) (.cells #[.slice none 0 0, .bool false, .bool false, .bool false] 31)))).mono ?_
              intro e w4 hfd
              have HM4 := Lib.hid (show (w3.alloc Zc).heap[w3.heap.size]? = some Zc from bnew w3 Zc)
              obtain ⟨ax, cx, al, cl, vals, rfl, hb4, hfb⟩ := hfd.parts
              have HB4 := Lib.hid (btrans (ball HB3.out (.cells #[.slice none 0 0, .bool false, .bool false, .bool false] 31)) hb4)
              have HX4 := Lib.hid hb4
              have HFB := Lib.hid hfb
              clear hb4 hfb hfd
              go_wp2_with fail
              refine hK.out _ _ (HB4) (fun hHeld => ?_)
              clear hK K
              (try simp only [Act.put, List.setIfInBounds_toArray, List.set_cons_zero, List.set_cons_succ, List.getElem_toArray, List.getElem_cons_zero, List.getElem_cons_succ])
              refine wpAnyH_take (i := 5) (oi := _) (v := .tuple #[.agg #[.slice ax stF.rest.length cx, .bool stF.inn, .bool stF.esc, .bool stF.bad], .slice al LM.length cl, .int .i64 (MM : Nat)]) rfl (by kernel_rfl) (by kernel_rfl) (by kernel_rfl) (fun _ _ _ h => h) (Or.inl ⟨by rfl, fun wx hSw => ?_⟩) (by assumption) ?_
              · go_simp
                try (first | omega | (rw [IntKind.wrap_i64]; omega))
              (try simp only [Act.put, List.setIfInBounds_toArray, List.set_cons_zero, List.set_cons_succ, List.getElem_toArray, List.getElem_cons_zero, List.getElem_cons_succ])
              refine wpAnyH_take (i := 6) (oi := _) (v := .agg #[.slice ax stF.rest.length cx, .bool stF.inn, .bool stF.esc, .bool stF.bad]) rfl (by kernel_rfl) (by kernel_rfl) (by kernel_rfl) (fun _ _ _ h => h) (Or.inl ⟨by rfl, fun wx hSw => ?_⟩) (by assumption) ?_
              · go_simp
                try (first | omega | (rw [IntKind.wrap_i64]; omega))
              (try simp only [Act.put, List.setIfInBounds_toArray, List.set_cons_zero, List.set_cons_succ, List.getElem_toArray, List.getElem_cons_zero, List.getElem_cons_succ])
              refine wpAnyH_take (i := 7) (oi := _) (v := .slice al LM.length cl) rfl (by kernel_rfl) (by kernel_rfl) (by kernel_rfl) (fun _ _ _ h => h) (Or.inl ⟨by rfl, fun wx hSw => ?_⟩) (by assumption) ?_
              · go_simp
                try (first | omega | (rw [IntKind.wrap_i64]; omega))
              (try simp only [Act.put, List.setIfInBounds_toArray, List.set_cons_zero, List.set_cons_succ, List.getElem_toArray, List.getElem_cons_zero, List.getElem_cons_succ])
              refine wpAnyH_take (i := 8) (oi := _) (v := .int .i64 (MM : Nat)) rfl (by kernel_rfl) (by kernel_rfl) (by kernel_rfl) (fun _ _ _ h => h) (Or.inl ⟨by rfl, fun wx hSw => ?_⟩) (by assumption) ?_
              · go_simp
                try (first | omega | (rw [IntKind.wrap_i64]; omega))
              (try simp only [Act.put, List.setIfInBounds_toArray, List.set_cons_zero, List.set_cons_succ, List.getElem_toArray, List.getElem_cons_zero, List.getElem_cons_succ])
              refine wpAnyH_ready (rs := [10]) (by kernel_rfl) (by simp) ?_
              refine AllReadyH.cons (o := _) rfl (fun K hK => ?_) AllReadyH.nil
              have hend := FedB.before (U := wd) HFB.out (by have : wd.drew.heap.size = wd.heap.size := rfl; have h3 := HB3.out.size; (try simp only [World.size_alloc]); omega) HB4.out HX4.out HM4.out MM
              have HEND := Lib.hid hend.2
              have hz9 := hend.1
              clear hend
              rw [if_pos (show Region.wanted _ _ = true by rfl)]
              refine wp_store_row 31 (.tmp 12) (.tmp 46) rfl (w3.heap.size) #[.slice ax stF.rest.length cx, .bool stF.inn, .bool stF.esc, .bool stF.bad] rfl rfl 31 _ hz9 size31 rfl all31' ?_
              refine hK.out _ _ (Lib.hid (fedp_below HEND.out)) (fun hHeld => ?_)
              clear hK K
              (try simp only [Act.put, List.setIfInBounds_toArray, List.set_cons_zero, List.set_cons_succ, List.getElem_toArray, List.getElem_cons_zero, List.getElem_cons_succ])
              refine wpAnyH_take (i := 11) (oi := _) (v := .slice al LM.length cl) rfl (by kernel_rfl) (by kernel_rfl) (by kernel_rfl) (fun _ _ _ h => h) (Or.inl ⟨by rfl, fun wx hSw => ?_⟩) (by assumption) ?_
              · go_simp
                try (first | omega | (rw [IntKind.wrap_i64]; omega))
              (try simp only [Act.put, List.setIfInBounds_toArray, List.set_cons_zero, List.set_cons_succ, List.getElem_toArray, List.getElem_cons_zero, List.getElem_cons_succ])
              refine wpAnyH_take (i := 12) (oi := _) (v := .int .i64 (MM : Nat)) rfl (by kernel_rfl) (by kernel_rfl) (by kernel_rfl) (fun _ _ _ h => h) (Or.inl ⟨by rfl, fun wx hSw => ?_⟩) (by assumption) ?_
              · go_simp
                try (first | omega | (rw [IntKind.wrap_i64]; omega))
              (try simp only [Act.put, List.setIfInBounds_toArray, List.set_cons_zero, List.set_cons_succ, List.getElem_toArray, List.getElem_cons_zero, List.getElem_cons_succ])
              refine wpAnyH_done (by kernel_rfl) ?_ _
              go_wp2
              go_meet
              exact HEND.out
          · skip
            go_simp
            refine hK.out _ _ (Lib.hid (ball (ball (Below.refl wd.heap.size wd).drew (.cells #[.int .u8 126] 5)) (.cells #[.slice none 0 0, .bool false, .bool false, .bool false] 31))) (fun hHeld => ?_)
            clear hK K
            (try simp only [Act.put, List.setIfInBounds_toArray, List.set_cons_zero, List.set_cons_succ, List.getElem_toArray, List.getElem_cons_zero, List.getElem_cons_succ])
            refine wpAnyH_ready (rs := [3]) (by kernel_rfl) (by simp) ?_
            refine AllReadyH.cons (o := _) rfl (fun K hK => ?_) AllReadyH.nil
            have hl3 : Bs (fun k => k < ((wd.drew.alloc (.cells #[.int .u8 126] 5)).alloc (.cells #[.slice none 0 0, .bool false, .bool false, .bool false] 31)).heap.size) ((wd.drew.alloc (.cells #[.int .u8 126] 5)).alloc (.cells #[.slice none 0 0, .bool false, .bool false, .bool false] 31)) (.slice (some ⟨wd.heap.size, 0, none⟩) 1 1) [126] := by have h := ((lit_one wd.drew 126 (by omega)).on (ball (Below.refl _ _) (.cells #[.slice none 0 0, .bool false, .bool false, .bool false] 31))); (try simp only [World.size_alloc] at h); (try simp only [World.size_alloc]); exact h
            go_simp
            refine (joined_any _ _ _ _ _ (HAc.out.on (ball (ball (Below.refl wd.heap.size wd).drew (.cells #[.int .u8 126] 5)) (.cells #[.slice none 0 0, .bool false, .bool false, .bool false] 31))) hl3 HK0.out).mono ?_
            rintro e w3 ⟨vj, rfl, hb3, ho3⟩
            have HM3 := Lib.hid (show w3.heap[wd.heap.size + 1]? = some Zc from bon (by have h := (bnew (wd.drew.alloc (.cells #[.int .u8 126] 5)) Zc); (try simp only [World.size_alloc] at h); exact h) hb3)
            have HB3 := Lib.hid (btrans (ball (ball (Below.refl wd.heap.size wd).drew (.cells #[.int .u8 126] 5)) (.cells #[.slice none 0 0, .bool false, .bool false, .bool false] 31)) hb3)
            have HJ3 := Lib.hid (Bs.own ho3 HKL.out HKR.out)
            clear hb3 ho3
            go_wp2_with fail
            refine hK.out _ _ (HB3) (fun hHeld => ?_)
            clear hK K
            (try simp only [Act.put, List.setIfInBounds_toArray, List.set_cons_zero, List.set_cons_succ, List.getElem_toArray, List.getElem_cons_zero, List.getElem_cons_succ])
            refine wpAnyH_ready (rs := [4]) (by kernel_rfl) (by simp) ?_
            refine AllReadyH.cons (o := _) rfl (fun K hK => ?_) AllReadyH.nil
            go_simp
            refine (HFE.out _ _ HB3.out (HJ3.out.on (Below.refl _ _))).mono ?_
            intro e w4 hfd
            have HM4 := HM3
            obtain ⟨ax, cx, al, cl, vals, rfl, hb4, hfb⟩ := hfd.parts
            have HB4 := Lib.hid (btrans HB3.out hb4)
            have HX4 := Lib.hid hb4
            have HFB := Lib.hid hfb
            clear hb4 hfb hfd
            go_wp2_with fail
            refine hK.out _ _ (HB4) (fun hHeld => ?_)
            clear hK K
            (try simp only [Act.put, List.setIfInBounds_toArray, List.set_cons_zero, List.set_cons_succ, List.getElem_toArray, List.getElem_cons_zero, List.getElem_cons_succ])
            refine wpAnyH_take (i := 5) (oi := _) (v := .tuple #[.agg #[.slice ax stF.rest.length cx, .bool stF.inn, .bool stF.esc, .bool stF.bad], .slice al LM.length cl, .int .i64 (MM : Nat)]) rfl (by kernel_rfl) (by kernel_rfl) (by kernel_rfl) (fun _ _ _ h => h) (Or.inl ⟨by rfl, fun wx hSw => ?_⟩) (by assumption) ?_
            · go_simp
              try (first | omega | (rw [IntKind.wrap_i64]; omega))
            (try simp only [Act.put, List.setIfInBounds_toArray, List.set_cons_zero, List.set_cons_succ, List.getElem_toArray, List.getElem_cons_zero, List.getElem_cons_succ])
            refine wpAnyH_take (i := 6) (oi := _) (v := .agg #[.slice ax stF.rest.length cx, .bool stF.inn, .bool stF.esc, .bool stF.bad]) rfl (by kernel_rfl) (by kernel_rfl) (by kernel_rfl) (fun _ _ _ h => h) (Or.inl ⟨by rfl, fun wx hSw => ?_⟩) (by assumption) ?_
            · go_simp
              try (first | omega | (rw [IntKind.wrap_i64]; omega))
            (try simp only [Act.put, List.setIfInBounds_toArray, List.set_cons_zero, List.set_cons_succ, List.getElem_toArray, List.getElem_cons_zero, List.getElem_cons_succ])
            refine wpAnyH_take (i := 7) (oi := _) (v := .slice al LM.length cl) rfl (by kernel_rfl) (by kernel_rfl) (by kernel_rfl) (fun _ _ _ h => h) (Or.inl ⟨by rfl, fun wx hSw => ?_⟩) (by assumption) ?_
            · go_simp
              try (first | omega | (rw [IntKind.wrap_i64]; omega))
            (try simp only [Act.put, List.setIfInBounds_toArray, List.set_cons_zero, List.set_cons_succ, List.getElem_toArray, List.getElem_cons_zero, List.getElem_cons_succ])
            refine wpAnyH_take (i := 8) (oi := _) (v := .int .i64 (MM : Nat)) rfl (by kernel_rfl) (by kernel_rfl) (by kernel_rfl) (fun _ _ _ h => h) (Or.inl ⟨by rfl, fun wx hSw => ?_⟩) (by assumption) ?_
            · go_simp
              try (first | omega | (rw [IntKind.wrap_i64]; omega))
            (try simp only [Act.put, List.setIfInBounds_toArray, List.set_cons_zero, List.set_cons_succ, List.getElem_toArray, List.getElem_cons_zero, List.getElem_cons_succ])
            refine wpAnyH_ready (rs := [10]) (by kernel_rfl) (by simp) ?_
            refine AllReadyH.cons (o := _) rfl (fun K hK => ?_) AllReadyH.nil
            have hend := FedB.before (U := wd) HFB.out (by have : wd.drew.heap.size = wd.heap.size := rfl; have h3 := HB3.out.size; (try simp only [World.size_alloc]); omega) HB4.out HX4.out HM4.out MM
            have HEND := Lib.hid hend.2
            have hz9 := hend.1
            clear hend
            rw [if_pos (show Region.wanted _ _ = true by rfl)]
            refine wp_store_row 31 (.tmp 12) (.tmp 46) rfl (wd.heap.size + 1) #[.slice ax stF.rest.length cx, .bool stF.inn, .bool stF.esc, .bool stF.bad] rfl rfl 31 _ hz9 size31 rfl all31' ?_
            refine hK.out _ _ (Lib.hid (fedp_below HEND.out)) (fun hHeld => ?_)
            clear hK K
            (try simp only [Act.put, List.setIfInBounds_toArray, List.set_cons_zero, List.set_cons_succ, List.getElem_toArray, List.getElem_cons_zero, List.getElem_cons_succ])
            refine wpAnyH_take (i := 11) (oi := _) (v := .slice al LM.length cl) rfl (by kernel_rfl) (by kernel_rfl) (by kernel_rfl) (fun _ _ _ h => h) (Or.inl ⟨by rfl, fun wx hSw => ?_⟩) (by assumption) ?_
            · go_simp
              try (first | omega | (rw [IntKind.wrap_i64]; omega))
            (try simp only [Act.put, List.setIfInBounds_toArray, List.set_cons_zero, List.set_cons_succ, List.getElem_toArray, List.getElem_cons_zero, List.getElem_cons_succ])
            refine wpAnyH_take (i := 12) (oi := _) (v := .int .i64 (MM : Nat)) rfl (by kernel_rfl) (by kernel_rfl) (by kernel_rfl) (fun _ _ _ h => h) (Or.inl ⟨by rfl, fun wx hSw => ?_⟩) (by assumption) ?_
            · go_simp
              try (first | omega | (rw [IntKind.wrap_i64]; omega))
            (try simp only [Act.put, List.setIfInBounds_toArray, List.set_cons_zero, List.set_cons_succ, List.getElem_toArray, List.getElem_cons_zero, List.getElem_cons_succ])
            refine wpAnyH_done (by kernel_rfl) ?_ _
            go_wp2
            go_meet
            exact HEND.out
        · skip
          go_simp
          refine hK.out _ _ (Lib.hid (ball (Below.refl wd.heap.size wd).drew (.cells #[.slice none 0 0, .bool false, .bool false, .bool false] 31))) (fun hHeld => ?_)
          clear hK K
          (try simp only [Act.put, List.setIfInBounds_toArray, List.set_cons_zero, List.set_cons_succ, List.getElem_toArray, List.getElem_cons_zero, List.getElem_cons_succ])
          refine wpAnyH_ready (rs := [2]) (by kernel_rfl) (by simp) ?_
          refine AllReadyH.cons (o := _) rfl (fun K hK => ?_) AllReadyH.nil
          go_simp
          refine hK.out _ _ (Lib.hid (ball (ball (Below.refl wd.heap.size wd).drew (.cells #[.slice none 0 0, .bool false, .bool false, .bool false] 31)) (.cells #[.int .u8 126] 5))) (fun hHeld => ?_)
          clear hK K
          (try simp only [Act.put, List.setIfInBounds_toArray, List.set_cons_zero, List.set_cons_succ, List.getElem_toArray, List.getElem_cons_zero, List.getElem_cons_succ])
          refine wpAnyH_ready (rs := [3]) (by kernel_rfl) (by simp) ?_
          refine AllReadyH.cons (o := _) rfl (fun K hK => ?_) AllReadyH.nil
          have hl3 : Bs (fun k => k < ((wd.drew.alloc (.cells #[.slice none 0 0, .bool false, .bool false, .bool false] 31)).alloc (.cells #[.int .u8 126] 5)).heap.size) ((wd.drew.alloc (.cells #[.slice none 0 0, .bool false, .bool false, .bool false] 31)).alloc (.cells #[.int .u8 126] 5)) (.slice (some ⟨wd.heap.size + 1, 0, none⟩) 1 1) [126] := by have h := ((lit_one (wd.drew.alloc (.cells #[.slice none 0 0, .bool false, .bool false, .bool false] 31)) 126 (by omega)).on (Below.refl _ _)); (try simp only [World.size_alloc] at h); (try simp only [World.size_alloc]); exact h
          go_simp
          refine (joined_any _ _ _ _ _ (HAc.out.on (ball (ball (Below.refl wd.heap.size wd).drew (.cells #[.slice none 0 0, .bool false, .bool false, .bool false] 31)) (.cells #[.int .u8 126] 5))) hl3 HK0.out).mono ?_
          rintro e w3 ⟨vj, rfl, hb3, ho3⟩
          have HM3 := Lib.hid (show w3.heap[wd.heap.size]? = some Zc from bon (by have h := (bold (o' := (.cells #[.int .u8 126] 5)) (bnew wd.drew Zc)); (try simp only [World.size_alloc] at h); exact h) hb3)
          have HB3 := Lib.hid (btrans (ball (ball (Below.refl wd.heap.size wd).drew (.cells #[.slice none 0 0, .bool false, .bool false, .bool false] 31)) (.cells #[.int .u8 126] 5)) hb3)
          have HJ3 := Lib.hid (Bs.own ho3 HKL.out HKR.out)
          clear hb3 ho3
          go_wp2_with fail
          refine hK.out _ _ (HB3) (fun hHeld => ?_)
          clear hK K
          (try simp only [Act.put, List.setIfInBounds_toArray, List.set_cons_zero, List.set_cons_succ, List.getElem_toArray, List.getElem_cons_zero, List.getElem_cons_succ])
          refine wpAnyH_ready (rs := [4]) (by kernel_rfl) (by simp) ?_
          refine AllReadyH.cons (o := _) rfl (fun K hK => ?_) AllReadyH.nil
          go_simp
          refine (HFE.out _ _ HB3.out (HJ3.out.on (Below.refl _ _))).mono ?_
          intro e w4 hfd
          have HM4 := HM3
          obtain ⟨ax, cx, al, cl, vals, rfl, hb4, hfb⟩ := hfd.parts
          have HB4 := Lib.hid (btrans HB3.out hb4)
          have HX4 := Lib.hid hb4
          have HFB := Lib.hid hfb
          clear hb4 hfb hfd
          go_wp2_with fail
          refine hK.out _ _ (HB4) (fun hHeld => ?_)
          clear hK K
          (try simp only [Act.put, List.setIfInBounds_toArray, List.set_cons_zero, List.set_cons_succ, List.getElem_toArray, List.getElem_cons_zero, List.getElem_cons_succ])
          refine wpAnyH_take (i := 5) (oi := _) (v := .tuple #[.agg #[.slice ax stF.rest.length cx, .bool stF.inn, .bool stF.esc, .bool stF.bad], .slice al LM.length cl, .int .i64 (MM : Nat)]) rfl (by kernel_rfl) (by kernel_rfl) (by kernel_rfl) (fun _ _ _ h => h) (Or.inl ⟨by rfl, fun wx hSw => ?_⟩) (by assumption) ?_
          · go_simp
            try (first | omega | (rw [IntKind.wrap_i64]; omega))
          (try simp only [Act.put, List.setIfInBounds_toArray, List.set_cons_zero, List.set_cons_succ, List.getElem_toArray, List.getElem_cons_zero, List.getElem_cons_succ])
          refine wpAnyH_take (i := 6) (oi := _) (v := .agg #[.slice ax stF.rest.length cx, .bool stF.inn, .bool stF.esc, .bool stF.bad]) rfl (by kernel_rfl) (by kernel_rfl) (by kernel_rfl) (fun _ _ _ h => h) (Or.inl ⟨by rfl, fun wx hSw => ?_⟩) (by assumption) ?_
          · go_simp
            try (first | omega | (rw [IntKind.wrap_i64]; omega))
          (try simp only [Act.put, List.setIfInBounds_toArray, List.set_cons_zero, List.set_cons_succ, List.getElem_toArray, List.getElem_cons_zero, List.getElem_cons_succ])
          refine wpAnyH_take (i := 7) (oi := _) (v := .slice al LM.length cl) rfl (by kernel_rfl) (by kernel_rfl) (by kernel_rfl) (fun _ _ _ h => h) (Or.inl ⟨by rfl, fun wx hSw => ?_⟩) (by assumption) ?_
          · go_simp
            try (first | omega | (rw [IntKind.wrap_i64]; omega))
          (try simp only [Act.put, List.setIfInBounds_toArray, List.set_cons_zero, List.set_cons_succ, List.getElem_toArray, List.getElem_cons_zero, List.getElem_cons_succ])
          refine wpAnyH_take (i := 8) (oi := _) (v := .int .i64 (MM : Nat)) rfl (by kernel_rfl) (by kernel_rfl) (by kernel_rfl) (fun _ _ _ h => h) (Or.inl ⟨by rfl, fun wx hSw => ?_⟩) (by assumption) ?_
          · go_simp
            try (first | omega | (rw [IntKind.wrap_i64]; omega))
          (try simp only [Act.put, List.setIfInBounds_toArray, List.set_cons_zero, List.set_cons_succ, List.getElem_toArray, List.getElem_cons_zero, List.getElem_cons_succ])
          refine wpAnyH_ready (rs := [10]) (by kernel_rfl) (by simp) ?_
          refine AllReadyH.cons (o := _) rfl (fun K hK => ?_) AllReadyH.nil
          have hend := FedB.before (U := wd) HFB.out (by have : wd.drew.heap.size = wd.heap.size := rfl; have h3 := HB3.out.size; (try simp only [World.size_alloc]); omega) HB4.out HX4.out HM4.out MM
          have HEND := Lib.hid hend.2
          have hz9 := hend.1
          clear hend
          rw [if_pos (show Region.wanted _ _ = true by rfl)]
          refine wp_store_row 31 (.tmp 12) (.tmp 46) rfl (wd.heap.size) #[.slice ax stF.rest.length cx, .bool stF.inn, .bool stF.esc, .bool stF.bad] rfl rfl 31 _ hz9 size31 rfl all31' ?_
          refine hK.out _ _ (Lib.hid (fedp_below HEND.out)) (fun hHeld => ?_)
          clear hK K
          (try simp only [Act.put, List.setIfInBounds_toArray, List.set_cons_zero, List.set_cons_succ, List.getElem_toArray, List.getElem_cons_zero, List.getElem_cons_succ])
          refine wpAnyH_take (i := 11) (oi := _) (v := .slice al LM.length cl) rfl (by kernel_rfl) (by kernel_rfl) (by kernel_rfl) (fun _ _ _ h => h) (Or.inl ⟨by rfl, fun wx hSw => ?_⟩) (by assumption) ?_
          · go_simp
            try (first | omega | (rw [IntKind.wrap_i64]; omega))
          (try simp only [Act.put, List.setIfInBounds_toArray, List.set_cons_zero, List.set_cons_succ, List.getElem_toArray, List.getElem_cons_zero, List.getElem_cons_succ])
          refine wpAnyH_take (i := 12) (oi := _) (v := .int .i64 (MM : Nat)) rfl (by kernel_rfl) (by kernel_rfl) (by kernel_rfl) (fun _ _ _ h => h) (Or.inl ⟨by rfl, fun wx hSw => ?_⟩) (by assumption) ?_
          · go_simp
            try (first | omega | (rw [IntKind.wrap_i64]; omega))
          (try simp only [Act.put, List.setIfInBounds_toArray, List.set_cons_zero, List.set_cons_succ, List.getElem_toArray, List.getElem_cons_zero, List.getElem_cons_succ])
          refine wpAnyH_done (by kernel_rfl) ?_ _
          go_wp2
          go_meet
          exact HEND.out
      case rest =>
        obtain ⟨g2, ax2, cx2, al2, cl2, vals2, rfl, rfl, rfl, hg2, hx2, hb2, hr2, hv2, he2, hc2⟩ := hcut
        obtain ⟨lm, hlm⟩ : ∃ lm, lm = LM.length := ⟨_, rfl⟩
        have hll : LL.length = lm + 1 := by rw [HLL.out, hlm]; simp
        have hLMl := HLM.out; have q3 := HSZ.out
        rw [← hlm] at hLMl
        have hls1 : Ls (fun k => k < wc.heap.size) wc (.slice al LL.length cl) LL := (HV1.out.on hb2).ls (HE1.out.on hb2) (by omega) (fun a n c e => by
          have := HCL.out
          simp only [Value.slice.injEq] at e
          omega)
        have hls2 : Ls (fun k => k < wc.heap.size) wc (.slice al2 LM.length cl2) LM := hv2.ls he2 (by omega) (fun a n c e => by
          simp only [Value.slice.injEq] at e
          omega)
        obtain ⟨gl, ol, vu, hal, hgl, hcu, hbu⟩ := hls1.pick lm (by omega)
        subst hal
        have hbl : LL[lm]'(by omega) = b := by
          have h : LL[lm]? = some b := by rw [HLL.out, hlm, List.getElem?_append_right (by omega)]; simp
          rw [List.getElem?_eq_getElem (by omega)] at h
          exact Option.some.inj h
        rw [hbl] at hbu
        have htk := hls1.take lm (by omega)
        rw [show LL.take lm = LM by rw [HLL.out, hlm]; simp] at htk
        have hcap : lm + 1 ≤ cl := by have := HCL.out; omega
        rw [hll]
        rw [← hlm] at hls2 ⊢
        obtain ⟨SB, hSB⟩ : ∃ SB, SB = strOfNums b := ⟨_, rfl⟩
        have HCV0 := Lib.hid (show ∀ wx, Below wc.heap.size wc wx → (convert 22 9 vu).run Tryd.prog wx = .ok (.string SB) wx from fun wx hx => by rw [hSB]; exact conv_str (hbu.on hx))
        have HCW0 := Lib.hid (show ∀ wx, Below wc.heap.size wc wx → (convert 22 9 (.slice ab nb cb)).run Tryd.prog wx = .ok (.string SB) wx from fun wx hx => by rw [hSB]; exact conv_str (HB.out.on (btrans (btrans HBc.out hb2) hx)))
        have HLS := Lib.hid ((same_any LM LM _ _ wc htk hls2).mono (fun e w' h => show e = .returned (.bool true) ∧ Below wc.heap.size wc w' from ⟨by rw [h.1, decide_eq_true rfl], h.2⟩))
        have HGy := Lib.hid (bon HG1.out hb2)
        have hr1 := HR1.out.on hb2
        rw [HSS0.out] at HGy hr1
        have HSS1 := Lib.hid (show ∀ wx, Below wc.heap.size wc wx → Calls Tryd.prog 17 #[.agg #[.slice ax stF.rest.length cx, .bool stF.inn, .bool stF.esc, .bool stF.bad], .agg #[.slice none 0 0, .bool true, .bool false, .bool false]] wx fun e w' => e = .returned (.bool true) ∧ Below wx.heap.size wx w' from fun wx hx =>
          (sameState_any stF stF _ _ wx (show SV (fun k => k < wx.heap.size) wx (.agg #[.slice ax stF.rest.length cx, .bool stF.inn, .bool stF.esc, .bool stF.bad]) stF from ⟨ax, cx, rfl, hr1.on hx⟩) (svF _ _)).mono (fun e w' h => ⟨by rw [h.1, decide_eq_true rfl], h.2⟩))
        have HBz := Lib.hid (btrans HBc.out hb2)
        have HCy := Lib.hid hcu
        have HGLy := Lib.hid hgl
        have m3 := HMMb.out
        have hMs : MM ≤ 1100000 := by omega
        have hlms : lm ≤ 1100000 := by omega
        clear hg2 hx2 hb2 hr2 hv2 he2 hc2 hls1 hls2 hcu hbu hbl htk hSB hr1 hgl hLMl q3 m3 hll hlm HG1 HR1 HV1 HE1 HCL HBc HXc HAc HFE HB
        go_wp2_with fail
        refine HLS.out.mono ?_
        rintro e w7 ⟨rfl, hb7⟩
        have HGz := Lib.hid (bon HGy.out hb7)
        have HCz := Lib.hid (show w7.drew.cell? ⟨gl, ol + lm, none⟩ = some vu from (hb7.cell (p := ⟨gl, ol + lm, none⟩) HGLy.out).trans HCy.out)
        have HGL := Lib.hid (Nat.lt_of_lt_of_le HGLy.out hb7.size)
        have HCV := Lib.hid (show ∀ wx, Below w7.heap.size w7 wx → (convert 22 9 vu).run Tryd.prog wx = .ok (.string SB) wx from fun wx hx => HCV0.out wx (btrans hb7 hx))
        have HCW := Lib.hid (show ∀ wx, Below w7.heap.size w7 wx → (convert 22 9 (.slice ab nb cb)).run Tryd.prog wx = .ok (.string SB) wx from fun wx hx => HCW0.out wx (btrans hb7 hx))
        have HSS := Lib.hid (show ∀ wx, Below w7.heap.size w7 wx → Calls Tryd.prog 17 #[.agg #[.slice ax stF.rest.length cx, .bool stF.inn, .bool stF.esc, .bool stF.bad], .agg #[.slice none 0 0, .bool true, .bool false, .bool false]] wx fun e w' => e = .returned (.bool true) ∧ Below wx.heap.size wx w' from fun wx hx => HSS1.out wx (btrans hb7 hx))
        have HB7 := Lib.hid (btrans HBz.out hb7)
        clear hb7 HGy HCy HGLy HCV0 HCW0 HSS1 HLS HBz
        go_upto_region 10 with (fail)
        refine wp_region_held_drew (S := fun wx => wx.cell? ⟨gl, ol + lm, none⟩ = some vu ∧ Hid (Below w7.heap.size w7 wx)) (by kernel_rfl) ⟨HCz.out, Lib.hid (Below.refl _ _).drew⟩ (fun hHeld => ?_)
        change wpAnyH _ _ _ _ _ 15 #[false, false, false, false, false, false, false, false, false, false, false, false, false, false, false] _ _
        refine wpAnyH_take (i := 0) (oi := _) (v := .agg #[.slice ax stF.rest.length cx, .bool stF.inn, .bool stF.esc, .bool stF.bad]) rfl (by kernel_rfl) (by kernel_rfl) (by kernel_rfl) (fun _ _ _ h => h) (Or.inl ⟨by rfl, fun wx hSw => ?_⟩) (by assumption) ?_
        · exact exec_load_row 31 (.tmp 9) rfl g1 rfl 31 _ (0, 0) _ (bon HGz.out hSw.2.out) Tryd.underlying31 rfl size31
        (try simp only [Act.put, List.setIfInBounds_toArray, List.set_cons_zero, List.set_cons_succ, List.getElem_toArray, List.getElem_cons_zero, List.getElem_cons_succ])
        refine wpAnyH_take (i := 1) (oi := _) (v := .agg #[.slice none 0 0, .bool true, .bool false, .bool false]) rfl (by kernel_rfl) (by kernel_rfl) (by kernel_rfl) (fun _ _ _ h => h) (Or.inl ⟨by rfl, fun wx hSw => ?_⟩) (by assumption) ?_
        · go_simp
          try (first | omega | (rw [IntKind.wrap_i64]; omega))
        (try simp only [Act.put, List.setIfInBounds_toArray, List.set_cons_zero, List.set_cons_succ, List.getElem_toArray, List.getElem_cons_zero, List.getElem_cons_succ])
        refine wpAnyH_ready (rs := [2]) (by kernel_rfl) (by simp) ?_
        refine AllReadyH.cons (o := _) rfl (fun K hK => ?_) AllReadyH.nil
        go_simp
        refine (HSS.out _ hHeld.2.out).mono ?_
        rintro e w8 ⟨rfl, hb8⟩
        have HB8 := Lib.hid (btrans hHeld.2.out hb8)
        have HC8 := Lib.hid ((hb8.cell (p := ⟨gl, ol + lm, none⟩) (Nat.lt_of_lt_of_le HGL.out hHeld.2.out.size)).trans hHeld.1)
        clear hb8
        go_wp2_with fail
        refine hK.out _ _ (⟨HC8.out, HB8⟩) (fun hHeld => ?_)
        clear hK K
        (try simp only [Act.put, List.setIfInBounds_toArray, List.set_cons_zero, List.set_cons_succ, List.getElem_toArray, List.getElem_cons_zero, List.getElem_cons_succ])
        refine wpAnyH_take (i := 3) (oi := _) (v := .bool true) rfl (by kernel_rfl) (by kernel_rfl) (by kernel_rfl) (fun _ _ _ h => h) (Or.inl ⟨by rfl, fun wx hSw => ?_⟩) (by assumption) ?_
        · go_simp
          try (first | omega | (rw [IntKind.wrap_i64]; omega))
        (try simp only [Act.put, List.setIfInBounds_toArray, List.set_cons_zero, List.set_cons_succ, List.getElem_toArray, List.getElem_cons_zero, List.getElem_cons_succ])
        refine wpAnyH_take (i := 4) (oi := _) (v := .slice (some ⟨gl, ol, none⟩) (lm + 1) cl) rfl (by kernel_rfl) (by kernel_rfl) (by kernel_rfl) (fun _ _ _ h => h) (Or.inl ⟨by rfl, fun wx hSw => ?_⟩) (by assumption) ?_
        · go_simp
          try (first | omega | (rw [IntKind.wrap_i64]; omega))
        (try simp only [Act.put, List.setIfInBounds_toArray, List.set_cons_zero, List.set_cons_succ, List.getElem_toArray, List.getElem_cons_zero, List.getElem_cons_succ])
        refine wpAnyH_take (i := 5) (oi := _) (v := .slice al2 lm cl2) rfl (by kernel_rfl) (by kernel_rfl) (by kernel_rfl) (fun _ _ _ h => h) (Or.inl ⟨by rfl, fun wx hSw => ?_⟩) (by assumption) ?_
        · go_simp
          try (first | omega | (rw [IntKind.wrap_i64]; omega))
        (try simp only [Act.put, List.setIfInBounds_toArray, List.set_cons_zero, List.set_cons_succ, List.getElem_toArray, List.getElem_cons_zero, List.getElem_cons_succ])
        refine wpAnyH_take (i := 6) (oi := _) (v := .int .i64 (lm : Int)) rfl (by kernel_rfl) (by kernel_rfl) (by kernel_rfl) (fun _ _ _ h => h) (Or.inl ⟨by rfl, fun wx hSw => ?_⟩) (by assumption) ?_
        · go_simp
          try (first | omega | (rw [IntKind.wrap_i64]; omega))
        (try simp only [Act.put, List.setIfInBounds_toArray, List.set_cons_zero, List.set_cons_succ, List.getElem_toArray, List.getElem_cons_zero, List.getElem_cons_succ])
        refine wpAnyH_take (i := 7) (oi := _) (v := .pointer (some ⟨gl, ol + lm, none⟩)) rfl (by kernel_rfl) (by kernel_rfl) (by kernel_rfl) (fun _ _ _ h => h) (Or.inl ⟨by rfl, fun wx hSw => ?_⟩) (by assumption) ?_
        · go_simp
          try (first | omega | (rw [IntKind.wrap_i64]; omega))
        (try simp only [Act.put, List.setIfInBounds_toArray, List.set_cons_zero, List.set_cons_succ, List.getElem_toArray, List.getElem_cons_zero, List.getElem_cons_succ])
        refine wpAnyH_take (i := 8) (oi := _) (v := vu) rfl (by kernel_rfl) (by kernel_rfl) (by kernel_rfl) (fun _ _ _ h => h) (Or.inl ⟨by rfl, fun wx hSw => ?_⟩) (by assumption) ?_
        · go_simp
          try (first | omega | (rw [IntKind.wrap_i64]; omega))
        (try simp only [Act.put, List.setIfInBounds_toArray, List.set_cons_zero, List.set_cons_succ, List.getElem_toArray, List.getElem_cons_zero, List.getElem_cons_succ])
        refine wpAnyH_take (i := 9) (oi := _) (v := .string SB) rfl (by kernel_rfl) (by kernel_rfl) (by kernel_rfl) (fun _ _ _ h => h) (Or.inl ⟨by rfl, fun wx hSw => ?_⟩) (by assumption) ?_
        · have hcv := HCV.out wx hSw.2.out
          go_simp
          try (first | omega | (rw [IntKind.wrap_i64]; omega))
        (try simp only [Act.put, List.setIfInBounds_toArray, List.set_cons_zero, List.set_cons_succ, List.getElem_toArray, List.getElem_cons_zero, List.getElem_cons_succ])
        refine wpAnyH_take (i := 10) (oi := _) (v := .slice ab nb cb) rfl (by kernel_rfl) (by kernel_rfl) (by kernel_rfl) (fun _ _ _ h => h) (Or.inl ⟨by rfl, fun wx hSw => ?_⟩) (by assumption) ?_
        · go_simp
          try (first | omega | (rw [IntKind.wrap_i64]; omega))
        (try simp only [Act.put, List.setIfInBounds_toArray, List.set_cons_zero, List.set_cons_succ, List.getElem_toArray, List.getElem_cons_zero, List.getElem_cons_succ])
        refine wpAnyH_take (i := 11) (oi := _) (v := .string SB) rfl (by kernel_rfl) (by kernel_rfl) (by kernel_rfl) (fun _ _ _ h => h) (Or.inl ⟨by rfl, fun wx hSw => ?_⟩) (by assumption) ?_
        · have hcw := HCW.out wx hSw.2.out
          go_simp
          try (first | omega | (rw [IntKind.wrap_i64]; omega))
        (try simp only [Act.put, List.setIfInBounds_toArray, List.set_cons_zero, List.set_cons_succ, List.getElem_toArray, List.getElem_cons_zero, List.getElem_cons_succ])
        refine wpAnyH_take (i := 12) (oi := _) (v := .bool true) rfl (by kernel_rfl) (by kernel_rfl) (by kernel_rfl) (fun _ _ _ h => h) (Or.inl ⟨by rfl, fun wx hSw => ?_⟩) (by assumption) ?_
        · go_simp
          try (first | omega | (rw [IntKind.wrap_i64]; omega))
        (try simp only [Act.put, List.setIfInBounds_toArray, List.set_cons_zero, List.set_cons_succ, List.getElem_toArray, List.getElem_cons_zero, List.getElem_cons_succ])
        refine wpAnyH_take (i := 13) (oi := _) (v := .bool true) rfl (by kernel_rfl) (by kernel_rfl) (by kernel_rfl) (fun _ _ _ h => h) (Or.inl ⟨by rfl, fun wx hSw => ?_⟩) (by assumption) ?_
        · go_simp
          try (first | omega | (rw [IntKind.wrap_i64]; omega))
        (try simp only [Act.put, List.setIfInBounds_toArray, List.set_cons_zero, List.set_cons_succ, List.getElem_toArray, List.getElem_cons_zero, List.getElem_cons_succ])
        refine wpAnyH_take (i := 14) (oi := _) (v := .bool true) rfl (by kernel_rfl) (by kernel_rfl) (by kernel_rfl) (fun _ _ _ h => h) (Or.inl ⟨by rfl, fun wx hSw => ?_⟩) (by assumption) ?_
        · go_simp
          try (first | omega | (rw [IntKind.wrap_i64]; omega))
        (try simp only [Act.put, List.setIfInBounds_toArray, List.set_cons_zero, List.set_cons_succ, List.getElem_toArray, List.getElem_cons_zero, List.getElem_cons_succ])
        refine wpAnyH_done (by kernel_rfl) ?_ _
        skip
        obtain ⟨_, hbl⟩ := hHeld
        have HBF := Lib.hid (btrans HB7.out hbl.out)
        clear hbl
        go_wp2
        go_ret
        exact ⟨rfl, HBF.out⟩

/-- The door's own heap meets the condition. -/
theorem door_met (os : Os) (args : Array Value) : laidMetH Tryd.prog Rows.frameResynchronizesUptoRow.laid ((World.doorLaid Tryd.prog 400 os).forCall (fun _ _ => 0) ⟨#[], args, []⟩).memory :=
  laidMetH_of_parts3 (fuel := 8) (laidMet_of_run' 8 (by kernel_rfl) (by kernel_rfl)) (by kernel_rfl) (by kernel_rfl)

set_option maxRecDepth 100000 in
theorem lifted (os : Os) (started : os.Started) (H : Type) (enc : TypeId × Value → H) (F : Stop.Interp) :
    ReturnsInHanded {} Tryd.checked os 7 .any (fun w args => ((Rows.OpenSpec.upto Rows.frameResynchronizesSpec).pre enc Tryd.prog Tryd.f7 [] false w args ∧ laidMetH Tryd.prog Rows.frameResynchronizesUptoRow.laid w) ∧ sizedMet enc Tryd.prog Tryd.f7 (Rows.OpenSpec.upto Rows.frameResynchronizesSpec) false w args)
      (((Rows.OpenSpec.upto Rows.frameResynchronizesSpec).at F).post enc Tryd.prog Tryd.f7 false true false false) := by
  refine returnsUpto (C := Tryd.checked) (s := (Rows.OpenSpec.upto Rows.frameResynchronizesSpec)) (k := Rows.uptoSmall) rfl own started (by kernel_rfl) Tryd.func7
    (World.doorLaid Tryd.prog 400 os) #[.agg #[.slice none 0 0, .bool false, .bool false, .bool false], .slice none 0 0, .slice none 0 0] 8 rfl (World.shaped_of_RefB (by kernel_rfl) (by kernel_rfl)) (by kernel_rfl)
    (x := ([.agg [.nil, .lit (.bool false), .lit (.bool false), .lit (.bool false)], .nil, .nil], [], [])) (by kernel_rfl) rfl (by kernel_rfl) (door_met os _) ?_
  intro W base args ds gs before hval0 hW hk hL
  have hval : ∀ (j : Nat) t v, Tryd.f7.params[j]? = some t → args[j]? = some v → Value.okWide Tryd.prog W .any base t v := hval0
  clear hval0
  have hW' := hW
  obtain ⟨p, q, hA0, hV, rfl, hfz, hnd⟩ := hW
  have hA : DataW.TrodAll enc Tryd.prog W 0 (fun _ => true) true Tryd.f7.params.toList args.toList ds p := hA0
  rw [Tryd.params7] at hA hval
  obtain ⟨v0, vs0, d0, ds0, p0, q0, hargs, rfl, rfl, h0, r0⟩ := trodAll_cons hA
  obtain ⟨v1, vs1, d1, ds1, p1, q1, rfl, rfl, rfl, h1, r1⟩ := trodAll_cons r0
  obtain ⟨v2, vs2, d2, ds2, p2, q2, rfl, rfl, rfl, h2, r2⟩ := trodAll_cons r1
  obtain ⟨rfl, rfl, rfl⟩ := trodAll_nil r2
  obtain rfl : args = #[v0, v1, v2] := by cases args; simp_all
  obtain ⟨rfl, rfl⟩ := trodVars_none hV
  have hbk := of_decide_eq_true hk
  simp only [List.append_nil, Rows.uptoBulkAll] at hbk
  obtain ⟨s0, hs0, sl0⟩ := openUD (hval 0 31 v0 rfl rfl) h0 (by show Rows.uptoBulk d0 ≤ _; omega)
  obtain ⟨oa1, ol1, oc1, rfl⟩ := okWide_slice Tryd.underlying22 (hval 1 22 v1 rfl rfl)
  obtain ⟨fu1, hf1⟩ := h1
  obtain ⟨b1, hb1, hbl1⟩ := openUB (v := .slice oa1 ol1 oc1) hf1 (by show Rows.uptoBulk d1 ≤ _; omega)
  obtain ⟨oa2, ol2, oc2, rfl⟩ := okWide_slice Tryd.underlying22 (hval 2 22 v2 rfl rfl)
  obtain ⟨fu2, hf2⟩ := h2
  obtain ⟨b2, hb2, hbl2⟩ := openUB (v := .slice oa2 ol2 oc2) hf2 (by show Rows.uptoBulk d2 ≤ _; omega)
  clear hA0
  refine (walk s0 b1 b2 _ _ _ W (kok_of_laid hL) hs0 hb1 hb2 (by have h1 : Rows.uptoBulk d1 + Rows.uptoBulk d2 ≤ 1048576 := (by omega); exact Nat.le_trans (Nat.add_le_add hbl1 hbl2) h1)).mono fun e W' ⟨he, hbw⟩ => ?_
  subst he
  refine ⟨_, rfl, post_law laidOut ?_ rfl rfl hW' rfl rfl rfl hbw⟩
  intro t ht
  rw [Tryd.params7] at ht
  have hm : t ∈ [22, 31] := by
    simp at ht
    rcases ht with rfl|rfl <;> simp
  have hall : ([22, 31].all fun u => Tryd.prog.readableRec u && decide (u < Tryd.prog.types.size)) = true := by kernel_rfl
  have := List.all_eq_true.1 hall t hm
  simpa using this

theorem over : Rows.frameResynchronizesUptoRow.holds Tryd.pinned (Rows.OpenSpec.upto Rows.frameResynchronizesSpec) :=
  OpenClaim.holds_of_cond 7 Tryd.f7 rfl rfl rfl rfl rfl rfl rfl ⟨rfl, rfl, rfl, rfl, rfl⟩ rfl rfl rfl rfl rfl (by kernel_rfl) Tryd.func7 (by kernel_rfl)
    (of_decide_eq_true (by kernel_rfl)) (by unfold Func.isWrapper; first | (rw [if_pos (by decide +kernel)]; kernel_rfl) | (rw [if_neg (by decide +kernel)]; exact ⟨rfl, rfl⟩))
    (fun os started H enc _ F => lifted os started H enc F)

/-- THE STATEMENT. -/
theorem proved : Rows.FrameResynchronizesUptoCardSaid :=
  Claim7.holds_tied_plain_at .later [] [.data] true (true, "77527d3cf38f6b3763f46bed1e18cdecc3d688c4d8546000962d453ae035ff12") false
    over (fun _ h => by cases h) (by kernel_rfl) (fun _ h => by cases h) frameResynchronizesUpto_row_tie rfl ⟨rfl, rfl⟩ (by kernel_rfl) rfl
    (fun f fn hf hfn => by
      obtain rfl : f = 7 := Option.some.inj ((show Tryd.prog.funcNamed "wagonpool/wagonpoollaw10.FrameResynchronizes" = some 7 by kernel_rfl).symm.trans hf) |>.symm
      obtain rfl : fn = Tryd.f7 := (Option.some.inj (Tryd.func7.symm.trans hfn)).symm
      exact ⟨by kernel_rfl, fun j t ht => by
        rw [Tryd.params7] at ht
        have hm : t ∈ [22, 31] := by
          have := Array.mem_of_getElem? ht
          simp at this
          rcases this with rfl|rfl <;> simp
        have hall : ([22, 31].all fun u => !Tryd.prog.wantsStandIn u) = true := by kernel_rfl
        exact (show Tryd.prog.wantsStandIn t = false by simpa using List.all_eq_true.1 hall t hm)⟩)
    (by kernel_rfl)
#print axioms proved
end Go.Proofs.YtdmlnjgbfkkjdaaDoor.frameResynchronizes
