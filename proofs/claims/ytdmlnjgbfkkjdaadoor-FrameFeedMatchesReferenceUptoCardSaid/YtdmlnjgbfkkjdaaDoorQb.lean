/-
  The statement 'Rows.FrameFeedMatchesReferenceUptoCardSaid': for all states and byte sequences of bounded bulk the law that Feed returns what the reference returns answers true; the arguments read as they did. Condition: the table of the checksum lies as the program's text lays it.
-/
import Derived.Test.YtdmlnjgbfkkjdaaDoorFr
import Derived.Test.YtdmlnjgbfkkjdaaDoorCk
import Derived.ChangeMaps5
namespace Go.Proofs.YtdmlnjgbfkkjdaaDoor.frameFeedMatchesReference
open Go.ChangeShapes Go.WideShapes Go.ChangeAt Go.RowKit Go.Lib
set_option linter.unusedVariables false
set_option linter.unusedSimpArgs false

set_option maxRecDepth 100000 in
set_option maxHeartbeats 4000000 in
theorem walk (s : St) (b : List Int) (vd vb : Value) (w : World) (hk : KOk w) (hd : SV (fun k => k < w.heap.size) w vd s) (hb : Bs (fun k => k < w.heap.size) w vb b) (hsz : b.length ≤ 1048576) :
    Calls Tryd.prog 4 #[vd, vb] w fun e w' => e = .returned (.bool true) ∧ Below w.heap.size w w' := by
  have h24 : (b.length + 1) * 24 ≤ 140737488355328 := by omega
  have HK := Lib.hid hk
  have HF := Lib.hid (show ∀ wx, Below w.heap.size w wx → Calls Tryd.prog 15 #[vd, vb] wx (FeedOf wx (FS s b) (FL s b) (FB s b)) from fun wx hx => feed_any s b vd vb wx (hk.below hx) (hd.on hx) (hb.on hx) h24)
  have HG := Lib.hid (show ∀ wx, Below w.heap.size w wx → Calls Tryd.prog 16 #[vd, vb] wx (FeedOf wx (FS s b) (FL s b) (FB s b)) from fun wx hx => rfeed_any s b vd vb wx (hd.on hx) (hb.on hx) h24)
  have HLL := Lib.hid (show (FL s b).length ≤ 140737488355328 from Nat.le_trans (FL_le s b) hb.1)
  obtain ⟨ad, cd, rfl, hrest⟩ := hd
  obtain ⟨ab, cb, rfl⟩ := hb.shape
  clear hk hb hsz h24 hrest
  generalize FS s b = S at *
  generalize FL s b = L at *
  generalize FB s b = M at *
  generalize s.rest.length = n at *
  generalize b.length = m at *
  obtain ⟨W, hW⟩ : ∃ W, W = w.alloc (.cells #[.slice ad n cd, .bool s.inn, .bool s.esc, .bool s.bad] 31) := ⟨_, rfl⟩
  have HB := Lib.hid (show Below w.heap.size w W by rw [hW]; exact ball (Below.refl _ _) _)
  have HX := Lib.hid (show W.heap[w.heap.size]? = some (.cells #[.slice ad n cd, .bool s.inn, .bool s.esc, .bool s.bad] 31 (0, 0)) by rw [hW]; exact bnew _ _)
  have HW := Lib.hid hW
  clear hW
  go_enter Tryd.func4, Tryd.ntmps4
  go_wp2_with fail
  rw [← HW.out]
  refine (sane_true W (HK.out.below HB.out)).mono ?_
  rintro e w1 ⟨rfl, hb1⟩
  have HB1 := Lib.hid (btrans HB.out hb1)
  have HX1 := Lib.hid (bon HX.out hb1)
  clear hb1 HX HB HW HK
  go_wp2_with (refine wpList_load_row rfl 31 (.tmp 2) rfl w.heap.size rfl 31 _ (0, 0) _ HX1.out Tryd.underlying31 rfl size31 ?_)
  refine (HF.out w1 HB1.out).mono ?_
  rintro e w2 ⟨vx, vl, rfl, hb2, ⟨ax, cx, rfl, hsv⟩, vals, hlv⟩
  have hls := hlv.ls HLL.out
  obtain ⟨al, cl, rfl⟩ := hls.shape
  obtain ⟨W2, hW2⟩ : ∃ W2, W2 = w2.alloc (.cells #[.slice ax S.rest.length cx, .bool S.inn, .bool S.esc, .bool S.bad] 31) := ⟨_, rfl⟩
  have hbw2 : Below w2.heap.size w2 W2 := by rw [hW2]; exact ball (Below.refl _ _) _
  have HB2 := Lib.hid (btrans (btrans HB1.out hb2) hbw2)
  have HX2 := Lib.hid (bon (bon HX1.out hb2) hbw2)
  have HY2 := Lib.hid (show W2.heap[w2.heap.size]? = some (.cells #[.slice ax S.rest.length cx, .bool S.inn, .bool S.esc, .bool S.bad] 31 (0, 0)) by rw [hW2]; exact bnew _ _)
  have HSV2 := Lib.hid (hsv.on hbw2)
  have HL2 := Lib.hid (hls.on hbw2)
  have HW2 := Lib.hid hW2
  clear hb2 hsv hlv hls hbw2 hW2 HX1 HB1
  have HXa := Lib.hid (show (w2.alloc (.cells #[.slice ax S.rest.length cx, .bool S.inn, .bool S.esc, .bool S.bad] 31)).heap[w.heap.size]? = some (.cells #[.slice ad n cd, .bool s.inn, .bool s.esc, .bool s.bad] 31 (0, 0)) by rw [← HW2.out]; exact HX2.out)
  go_wp2_with (refine wpList_load_row rfl 31 (.tmp 2) rfl w.heap.size rfl 31 _ (0, 0) _ HXa.out Tryd.underlying31 rfl size31 ?_)
  rw [← HW2.out]
  refine (HG.out W2 HB2.out).mono ?_
  rintro e w3 ⟨vy, vk, rfl, hb3, ⟨ay, cy, rfl, hsv3⟩, vals3, hlv3⟩
  have hls3 := hlv3.ls HLL.out
  obtain ⟨ak, ck, rfl⟩ := hls3.shape
  obtain ⟨W3, hW3⟩ : ∃ W3, W3 = w3.alloc (.cells #[.slice ay S.rest.length cy, .bool S.inn, .bool S.esc, .bool S.bad] 31) := ⟨_, rfl⟩
  have hbw3 : Below w3.heap.size w3 W3 := by rw [hW3]; exact ball (Below.refl _ _) _
  have hb23 : Below W2.heap.size W2 W3 := btrans hb3 hbw3
  have HB3 := Lib.hid (btrans HB2.out hb23)
  have HXb := Lib.hid (show (w3.alloc (.cells #[.slice ay S.rest.length cy, .bool S.inn, .bool S.esc, .bool S.bad] 31)).heap[w2.heap.size]? = some (.cells #[.slice ax S.rest.length cx, .bool S.inn, .bool S.esc, .bool S.bad] 31 (0, 0)) by rw [← hW3]; exact bon HY2.out hb23)
  have HXc := Lib.hid (show (w3.alloc (.cells #[.slice ay S.rest.length cy, .bool S.inn, .bool S.esc, .bool S.bad] 31)).heap[w3.heap.size]? = some (.cells #[.slice ay S.rest.length cy, .bool S.inn, .bool S.esc, .bool S.bad] 31 (0, 0)) from bnew _ _)
  have HSS := Lib.hid ((sameState_any S S _ _ W3 (show SV (fun k => k < W3.heap.size) W3 (.agg #[.slice ax S.rest.length cx, .bool S.inn, .bool S.esc, .bool S.bad]) S from ⟨ax, cx, rfl, HSV2.out.on hb23⟩) (show SV (fun k => k < W3.heap.size) W3 (.agg #[.slice ay S.rest.length cy, .bool S.inn, .bool S.esc, .bool S.bad]) S from ⟨ay, cy, rfl, hsv3.on hbw3⟩)).mono (fun e w' h => show e = .returned (.bool true) ∧ Below W3.heap.size W3 w' from ⟨by rw [h.1, decide_eq_true rfl], h.2⟩))
  have HLS := Lib.hid (show ∀ wx, Below W3.heap.size W3 wx → Calls Tryd.prog 18 #[.slice al L.length cl, .slice ak L.length ck] wx fun e w' => e = .returned (.bool true) ∧ Below wx.heap.size wx w' from fun wx hx =>
    (same_any L L _ _ wx ((HL2.out.on hb23).on hx) ((hls3.on hbw3).on hx)).mono (fun e w' h => ⟨by rw [h.1, decide_eq_true rfl], h.2⟩))
  have HW3 := Lib.hid hW3
  clear hb3 hsv3 hlv3 hls3 hbw3 hb23 hW3 HX2 HY2 HSV2 HL2 HW2 HXa
  go_wp2_with (first | (refine wpList_load_row rfl 31 (.tmp 5) rfl w2.heap.size rfl 31 _ (0, 0) _ HXb.out Tryd.underlying31 rfl size31 ?_) | (refine wpList_load_row rfl 31 (.tmp 8) rfl w3.heap.size rfl 31 _ (0, 0) _ HXc.out Tryd.underlying31 rfl size31 ?_))
  rw [← HW3.out]
  refine HSS.out.mono ?_
  rintro e w4 ⟨rfl, hb4⟩
  have HB4 := Lib.hid hb4; clear hb4
  go_wp2_with fail
  refine (HLS.out w4 HB4.out).mono ?_
  rintro e w5 ⟨rfl, hb5⟩
  have HB5 := Lib.hid (btrans (btrans HB3.out HB4.out) hb5); clear hb5
  go_wp2
  go_ret
  exact ⟨rfl, HB5.out⟩

/-- The door's own heap meets the condition. -/
theorem door_met (os : Os) (args : Array Value) : laidMetH Tryd.prog Rows.frameFeedMatchesReferenceUptoRow.laid ((World.doorLaid Tryd.prog 400 os).forCall (fun _ _ => 0) ⟨#[], args, []⟩).memory :=
  laidMetH_of_parts3 (fuel := 8) (laidMet_of_run' 8 (by kernel_rfl) (by kernel_rfl)) (by kernel_rfl) (by kernel_rfl)

set_option maxRecDepth 100000 in
theorem lifted (os : Os) (started : os.Started) (H : Type) (enc : TypeId × Value → H) (F : Stop.Interp) :
    ReturnsInHanded {} Tryd.checked os 4 .any (fun w args => ((Rows.OpenSpec.upto Rows.frameFeedMatchesReferenceSpec).pre enc Tryd.prog Tryd.f4 [] false w args ∧ laidMetH Tryd.prog Rows.frameFeedMatchesReferenceUptoRow.laid w) ∧ sizedMet enc Tryd.prog Tryd.f4 (Rows.OpenSpec.upto Rows.frameFeedMatchesReferenceSpec) false w args)
      (((Rows.OpenSpec.upto Rows.frameFeedMatchesReferenceSpec).at F).post enc Tryd.prog Tryd.f4 false true false false) := by
  refine returnsUpto (C := Tryd.checked) (s := (Rows.OpenSpec.upto Rows.frameFeedMatchesReferenceSpec)) (k := Rows.uptoSmall) rfl own started (by kernel_rfl) Tryd.func4
    (World.doorLaid Tryd.prog 400 os) #[.agg #[.slice none 0 0, .bool false, .bool false, .bool false], .slice none 0 0] 8 rfl (World.shaped_of_RefB (by kernel_rfl) (by kernel_rfl)) (by kernel_rfl)
    (x := ([.agg [.nil, .lit (.bool false), .lit (.bool false), .lit (.bool false)], .nil], [], [])) (by kernel_rfl) rfl (by kernel_rfl) (door_met os _) ?_
  intro W base args ds gs before hval0 hW hk hL
  have hval : ∀ (j : Nat) t v, Tryd.f4.params[j]? = some t → args[j]? = some v → Value.okWide Tryd.prog W .any base t v := hval0
  clear hval0
  have hW' := hW
  obtain ⟨p, q, hA0, hV, rfl, hfz, hnd⟩ := hW
  have hA : DataW.TrodAll enc Tryd.prog W 0 (fun _ => true) true Tryd.f4.params.toList args.toList ds p := hA0
  rw [Tryd.params4] at hA hval
  obtain ⟨v0, vs0, d0, ds0, p0, q0, hargs, rfl, rfl, h0, r0⟩ := trodAll_cons hA
  obtain ⟨v1, vs1, d1, ds1, p1, q1, rfl, rfl, rfl, h1, r1⟩ := trodAll_cons r0
  obtain ⟨rfl, rfl, rfl⟩ := trodAll_nil r1
  obtain rfl : args = #[v0, v1] := by cases args; simp_all
  obtain ⟨rfl, rfl⟩ := trodVars_none hV
  have hbk := of_decide_eq_true hk
  simp only [List.append_nil, Rows.uptoBulkAll] at hbk
  obtain ⟨s0, hs0, sl0⟩ := openUD (hval 0 31 v0 rfl rfl) h0 (by show Rows.uptoBulk d0 ≤ _; omega)
  obtain ⟨oa1, ol1, oc1, rfl⟩ := okWide_slice Tryd.underlying22 (hval 1 22 v1 rfl rfl)
  obtain ⟨fu1, hf1⟩ := h1
  obtain ⟨b1, hb1, hbl1⟩ := openUB (v := .slice oa1 ol1 oc1) hf1 (by show Rows.uptoBulk d1 ≤ _; omega)
  clear hA0
  refine (walk s0 b1 _ _ W (kok_of_laid hL) hs0 hb1 (Nat.le_trans hbl1 (by show Rows.uptoBulk d1 ≤ _; omega))).mono fun e W' ⟨he, hbw⟩ => ?_
  subst he
  refine ⟨_, rfl, post_law laidOut ?_ rfl rfl hW' rfl rfl rfl hbw⟩
  intro t ht
  rw [Tryd.params4] at ht
  have hm : t ∈ [22, 31] := by
    simp at ht
    rcases ht with rfl|rfl <;> simp
  have hall : ([22, 31].all fun u => Tryd.prog.readableRec u && decide (u < Tryd.prog.types.size)) = true := by kernel_rfl
  have := List.all_eq_true.1 hall t hm
  simpa using this

theorem over : Rows.frameFeedMatchesReferenceUptoRow.holds Tryd.pinned (Rows.OpenSpec.upto Rows.frameFeedMatchesReferenceSpec) :=
  OpenClaim.holds_of_cond 4 Tryd.f4 rfl rfl rfl rfl rfl rfl rfl ⟨rfl, rfl, rfl, rfl, rfl⟩ rfl rfl rfl rfl rfl (by kernel_rfl) Tryd.func4 (by kernel_rfl)
    (of_decide_eq_true (by kernel_rfl)) (by unfold Func.isWrapper; first | (rw [if_pos (by decide +kernel)]; kernel_rfl) | (rw [if_neg (by decide +kernel)]; exact ⟨rfl, rfl⟩))
    (fun os started H enc _ F => lifted os started H enc F)

/-- THE STATEMENT. -/
theorem proved : Rows.FrameFeedMatchesReferenceUptoCardSaid :=
  Claim7.holds_tied_plain_at .later [] [.data] true (true, "77527d3cf38f6b3763f46bed1e18cdecc3d688c4d8546000962d453ae035ff12") false
    over (fun _ h => by cases h) (by kernel_rfl) (fun _ h => by cases h) frameFeedMatchesReferenceUpto_row_tie rfl ⟨rfl, rfl⟩ (by kernel_rfl) rfl
    (fun f fn hf hfn => by
      obtain rfl : f = 4 := Option.some.inj ((show Tryd.prog.funcNamed "wagonpool/wagonpoollaw10.FrameFeedMatchesReference" = some 4 by kernel_rfl).symm.trans hf) |>.symm
      obtain rfl : fn = Tryd.f4 := (Option.some.inj (Tryd.func4.symm.trans hfn)).symm
      exact ⟨by kernel_rfl, fun j t ht => by
        rw [Tryd.params4] at ht
        have hm : t ∈ [22, 31] := by
          have := Array.mem_of_getElem? ht
          simp at this
          rcases this with rfl|rfl <;> simp
        have hall : ([22, 31].all fun u => !Tryd.prog.wantsStandIn u) = true := by kernel_rfl
        exact (show Tryd.prog.wantsStandIn t = false by simpa using List.all_eq_true.1 hall t hm)⟩)
    (by kernel_rfl)
#print axioms proved
end Go.Proofs.YtdmlnjgbfkkjdaaDoor.frameFeedMatchesReference
