/-
  The statement 'Rows.DigestTaggedIsSumCardSaid': for every tag, byte sequence and digest the law of the tagged digests returns true; the arguments read as they did.
-/
import Derived.Test.YtecgcnfjpaemcaaDoorHa
import Derived.ChangeMaps5
namespace Go.Proofs.YtecgcnfjpaemcaaDoor.digestTaggedIsSum
open Go.ChangeShapes Go.WideShapes Go.ChangeAt Go.RowKit
set_option linter.unusedVariables false

set_option maxRecDepth 100000 in
set_option maxHeartbeats 2000000 in
theorem walk (s : ByteArray) (b d : List Int) (a : Option Addr) (c : Nat) (w : World) (hk : KOk w) (hs : s.size ≤ maxLen) (hv : Bs (fun k => k < w.heap.size) w (.slice a b.length c) b) (hd : d.length = 32) (rd : ∀ u ∈ d, 0 ≤ u ∧ u ≤ 255) :
    Calls Tryd.prog 5 #[.string s, .slice a b.length c, .agg (byteVals d).toArray] w fun e w' => e = .returned (.bool true) ∧ Below w.heap.size w w' := by
  have hb0 : Below w.heap.size w (w.alloc (.cells (byteVals d).toArray 25)) := ball (Below.refl _ _) _
  have h0 : RowB (w.alloc (.cells (byteVals d).toArray 25)) w.heap.size 25 d := RowB.new w 25 d
  have hsz : (w.alloc (.cells (byteVals d).toArray 25)).heap.size = w.heap.size + 1 := by simp
  have hbl := hv.1
  have hsl : s.size ≤ 9223372036854775807 := by unfold maxLen at hs; omega
  have HK := Lib.hid hk; have RD := Lib.hid rd; have HB0 := Lib.hid hb0; have H0 := Lib.hid h0; have HSZ := Lib.hid hsz; have HV := Lib.hid hv
  clear hk rd hb0 h0 hsz hv hs
  go_enter Tryd.func5, Tryd.ntmps5
  go_wp2_with fail
  refine (sane_true _ (HK.out.below HB0.out)).mono ?_
  rintro e w1 ⟨rfl, hb1⟩
  have hR : RowB w1 w.heap.size 25 d := H0.out.kept (hb1.block _ (by rw [HSZ.out]; omega))
  have HB1 := Lib.hid (HB0.out.trans (hb1.mono HB0.out.size))
  have hs1 : w.heap.size + 1 ≤ w1.heap.size := by have := hb1.size; rw [HSZ.out] at this; exact this
  have HV1 := Lib.hid ((HV.out.below (fun k hk => hk) HB1.out).kept (fun _ _ => rfl) (fun k hk => Nat.lt_of_lt_of_le hk HB1.out.size))
  clear HB0 H0 HSZ hb1 HV
  by_cases hs6 : s.size ≤ 600
  · by_cases hb6 : b.length ≤ 600
    · have hown : (w1.alloc (.cells #[] 5)).ownsRow w1.heap.size 5 1 (.slice (some ⟨w1.heap.size, 0, none⟩) 0 0) ([] : List Int).length (byteVals []) := World.ownsRow_made w1 #[] 0 (Nat.le_refl _) (by unfold maxLen; omega) (by simp)
      have hbX : Below w1.heap.size w1 (w1.alloc (.cells #[] 5)) := ball (Below.refl _ _) _
      have hrowX : RowB (w1.alloc (.cells #[] 5)) w.heap.size 25 d := hR.kept (heap_alloc_old _ _ (by omega))
      have hbd := Bs.ofRow (F := fun k => k < (w1.alloc (.cells #[] 5)).heap.size) hrowX (by simp; omega) RD.out 32 32 (by omega) (by decide) (by decide)
      rw [List.take_of_length_le (by omega)] at hbd
      obtain ⟨m1, W1, hr1, hA1⟩ := append_run _ w1.heap.size _ _ _ [] d 22 hown hbd (by simp; omega) hbX.size
      rw [List.nil_append] at hA1
      have hbW1 : Below w1.heap.size w1 W1 := hbX.grown hA1.grown hbX.size (by intro k hk; simp [Value.ownBlock] at hk; omega)
      have hown1 := hA1.own
      obtain ⟨m2, W2, hr2, hA2⟩ := append_run _ w1.heap.size W1 m1 _ d b 22 hown1 ((HV1.out.below (fun k hk => hk) hbW1).kept (fun _ _ => rfl) (fun k hk => Nat.lt_of_lt_of_le hk hbW1.size)) (by omega) hbW1.size
      have hbW2 : Below w1.heap.size w1 W2 := hbW1.grown hA2.grown hbW1.size (by intro k hk; exact (hown1.lt k hk).1)
      have hm2 := Bs.kept (Bs.ofOwn hA2.own (by simp; omega) (by
        intro u hu
        rcases List.mem_append.1 hu with hu | hu
        · exact RD.out u hu
        · exact HV1.out.2.1 u hu)) (fun _ _ => rfl) (fun k hk => hk.2.1) (F' := fun k => k < W2.heap.size)
      have R1 := Lib.hid hr1; have R2 := Lib.hid hr2
      have HBW := Lib.hid (HB1.out.trans (hbW2.mono HB1.out.size))
      have hRW : RowB W2 w.heap.size 25 d := hR.kept (hbW2.block _ (by omega))
      have HVW := Lib.hid ((HV1.out.below (fun k hk => hk) hbW2).kept (fun _ _ => rfl) (fun k hk => Nat.lt_of_lt_of_le hk hbW2.size) (F' := fun k => k < W2.heap.size))
      have HMW := Lib.hid hm2
      have hsW : w.heap.size + 1 ≤ W2.heap.size := Nat.le_trans hs1 hbW2.size
      clear hr1 hr2 hA1 hA2 hown hown1 hbd hrowX hbX hbW1 hbW2 hm2 HV1 HB1 hR hs1
      obtain ⟨D1, hD1⟩ : ∃ D1, D1 = sha (hmsg (strB s) b) := ⟨_, rfl⟩
      have hl1 : D1.length = 32 := by rw [hD1]; exact sha_length _
      have q1 := eqSame D1 hl1
      obtain ⟨D2, hD2⟩ : ∃ D2, D2 = link d b := ⟨_, rfl⟩
      have hl2 : D2.length = 32 := by rw [hD2]; exact sha_length _
      have q2 := eqSame D2 hl2
      have HD1 := Lib.hid hD1; have HD2 := Lib.hid hD2; clear hD1 hD2
      go_wp2_with (first | (at_builtin; refine wp_app rfl rfl rfl (.tmp 19) (.tmp 20) rfl rfl rfl R1.out ?_) | (at_builtin; refine wp_app rfl rfl rfl (.tmp 22) (.tmp 23) rfl rfl rfl R2.out ?_))
      refine (tagged_any s b _ W2 (HK.out.below HBW.out) HVW.out (by omega) (by omega)).mono ?_
      rintro e w3 ⟨rfl, hb3⟩
      rw [← HD1.out]
      have HB3 := Lib.hid (HBW.out.trans (hb3.mono HBW.out.size))
      have HV3 := Lib.hid (HVW.out.up2 (fun k hk => hb3.block k hk) hb3.size)
      have HM3 := Lib.hid (HMW.out.up2 (fun k hk => hb3.block k hk) hb3.size)
      have hR3 : RowB w3 w.heap.size 25 d := hRW.kept (hb3.block _ (by omega))
      have hs3 : w.heap.size + 1 ≤ w3.heap.size := Nat.le_trans hsW hb3.size
      clear HBW HVW HMW hRW hsW hb3 R1 R2
      go_wp2_with fail
      refine (hashed_any s b _ w3 HV3.out (by omega) (by omega)).mono ?_
      rintro e w4 ⟨u, rfl, hb4, hu4⟩
      have HU4 := Lib.hid hu4
      have HB4 := Lib.hid (HB3.out.trans (hb4.mono HB3.out.size))
      have HV4 := Lib.hid (HV3.out.up2 (fun k hk => hb4.block k hk) hb4.size)
      have HM4 := Lib.hid (HM3.out.up2 (fun k hk => hb4.block k hk) hb4.size)
      have hR4 : RowB w4 w.heap.size 25 d := hR3.kept (hb4.block _ (by omega))
      have hs4 : w.heap.size + 1 ≤ w4.heap.size := Nat.le_trans hs3 hb4.size
      clear HB3 HV3 HM3 hR3 hs3 hb4 hu4
      go_wp2_with fail
      refine (sum_any _ _ w4 (HK.out.below HB4.out) HU4.out).mono ?_
      rintro e w5 ⟨rfl, hb5⟩
      rw [← HD1.out]
      have HB5 := Lib.hid (HB4.out.trans (hb5.mono HB4.out.size))
      have HV5 := Lib.hid (HV4.out.up2 (fun k hk => hb5.block k hk) hb5.size)
      have HM5 := Lib.hid (HM4.out.up2 (fun k hk => hb5.block k hk) hb5.size)
      have hR5 : RowB w5 w.heap.size 25 d := hR4.kept (hb5.block _ (by omega))
      clear HB4 HV4 HM4 hR4 hs4 hb5 HU4
      go_wp2_with (refine wpList_load_dig (by rfl) (.tmp 5) rfl w.heap.size rfl d hR5 hd ?_)
      refine (next_any d b _ w5 (HK.out.below HB5.out) hd RD.out HV5.out (by omega)).mono ?_
      rintro e w6 ⟨rfl, hb6'⟩
      rw [← HD2.out]
      have HB6 := Lib.hid (HB5.out.trans (hb6'.mono HB5.out.size))
      have HM6 := Lib.hid (HM5.out.up2 (fun k hk => hb6'.block k hk) hb6'.size)
      clear HB5 HV5 HM5 hR5 hb6'
      go_wp2_with fail
      have ht7 := tagged_any nextS (d ++ b) _ w6 (HK.out.below HB6.out) HM6.out (by decide) (by simp; omega)
      rw [show sha (hmsg (strB nextS) (d ++ b)) = D2 from HD2.out.symm] at ht7
      refine ht7.mono ?_
      rintro e w7 ⟨rfl, hb7⟩
      have HB7 := Lib.hid (HB6.out.trans (hb7.mono HB6.out.size))
      clear HB6 HM6 hb7 ht7
      go_wp2_with fail
      go_ret
      exact ⟨rfl, HB7.out⟩
    · have hb7 : (600 : Int) < (b.length : Int) := by omega
      go_wp2
      go_ret
      exact ⟨rfl, HB1.out⟩
  · have hs7 : (600 : Int) < (s.size : Int) := by omega
    go_wp2
    go_ret
    exact ⟨rfl, HB1.out⟩


/-- The door's own heap meets the condition. -/
theorem door_met (os : Os) (args : Array Value) : laidMetH Tryd.prog Rows.digestTaggedIsSumRow.laid ((World.doorLaid Tryd.prog 400 os).forCall (fun _ _ => 0) ⟨#[], args, []⟩).memory :=
  laidMetH_of_parts3 (fuel := 8) (laidMet_of_run' 8 (by kernel_rfl) (by kernel_rfl)) (by kernel_rfl) (by kernel_rfl)

set_option maxRecDepth 100000 in
theorem lifted (os : Os) (started : os.Started) (H : Type) (enc : TypeId × Value → H) :
    ReturnsInHanded {} Tryd.checked os 5 .any (fun w args => (Rows.digestTaggedIsSumSpec.pre enc Tryd.prog Tryd.f5 [] false w args ∧ laidMetH Tryd.prog Rows.digestTaggedIsSumRow.laid w) ∧ sizedMet enc Tryd.prog Tryd.f5 (OpenSpec.ofChange Rows.digestTaggedIsSumSpec) false w args)
      (Rows.digestTaggedIsSumSpec.post enc Tryd.prog Tryd.f5 false true false false) := by
  refine returnsInHanded_of_change_and (C := Tryd.checked) (X := fun w _ => laidMetH Tryd.prog Rows.digestTaggedIsSumRow.laid w) (fun _ _ _ hh h => h.of_heap hh) own started (by kernel_rfl) Tryd.func5
    (ChangeSpec.witness_shaped (enc := enc) (C := Tryd.checked) (os := os) (X := fun w _ => laidMetH Tryd.prog Rows.digestTaggedIsSumRow.laid w) false (World.doorLaid Tryd.prog 400 os) #[.string ⟨#[]⟩, .slice none 0 0, .agg (byteVals zer).toArray] 8 rfl (World.shaped_of_RefB (by kernel_rfl) (by kernel_rfl)) (by kernel_rfl) (by kernel_rfl) (by kernel_rfl) (door_met os _)) ?_
  intro W base args ds gs before hval0 hW _ hsz0 hL _
  have hsz : (DataW.weightsEach Tryd.prog (Tryd.f5.params.toList ++ Rows.digestTaggedIsSumSpec.plain.varTypes Tryd.prog) (ds ++ gs)).all (· ≤ reachBytes) = true := hsz0
  have hval : ∀ (j : Nat) t v, Tryd.f5.params[j]? = some t → args[j]? = some v → Value.okWide Tryd.prog W .any base t v := hval0
  clear hsz0 hval0
  have hW' := hW
  obtain ⟨p, q, hA0, hV, rfl, hfz, hnd⟩ := hW
  have hA : DataW.TrodAll enc Tryd.prog W 0 (fun _ => true) true Tryd.f5.params.toList args.toList ds p := hA0
  rw [Tryd.params5] at hA hval hsz
  obtain ⟨v0, vs0, d0, ds0, p0, q0, hargs, rfl, rfl, h0, r0⟩ := trodAll_cons hA
  obtain ⟨v1, vs1, d1, ds1, p1, q1, rfl, rfl, rfl, h1, r1⟩ := trodAll_cons r0
  obtain ⟨v2, vs2, d2, ds2, p2, q2, rfl, rfl, rfl, h2, r2⟩ := trodAll_cons r1
  obtain ⟨rfl, rfl, rfl⟩ := trodAll_nil r2
  obtain rfl : args = #[v0, v1, v2] := by cases args; simp_all
  obtain ⟨rfl, rfl⟩ := trodVars_none hV
  obtain ⟨s0, rfl, _, _, hs0⟩ := Go.ChangeMaps.open_string Tryd.underlying9 (hval 0 9 v0 rfl rfl) h0
  have hw1 : ∀ n ∈ d1.weights Tryd.prog 22, n ≤ reachBytes := by
    intro n hn
    have := List.all_eq_true.1 hsz n (DataW.weights_mem_each (t := 22) (d := d1) (j := 1) rfl rfl n hn)
    simpa using this
  obtain ⟨oa1, ol1, oc1, rfl⟩ := okWide_slice Tryd.underlying22 (hval 1 22 v1 rfl rfl)
  obtain ⟨fu1, hf1⟩ := h1
  obtain ⟨b1, hb1⟩ := openB (v := .slice oa1 ol1 oc1) hf1 hw1
  obtain rfl : ol1 = b1.length := by
    obtain ⟨_, _, _, _, e, _⟩ := hb1
    simp only [Value.slice.injEq] at e
    exact e.2.1
  obtain ⟨D2, rfl, hl2, hr2⟩ := openDig (hval 2 25 v2 rfl rfl) h2
  clear hA0
  refine (walk s0 b1 D2 oa1 oc1 W (kok_of_laid hL) hs0 hb1 hl2 hr2).mono fun e W' ⟨he, hbw⟩ => ?_
  subst he
  refine ⟨_, rfl, post_law laidOut ?_ rfl rfl hW' rfl rfl rfl hbw⟩
  intro t ht
  rw [Tryd.params5] at ht
  have hm : t ∈ [9, 22, 25] := by simp at ht; simp; omega
  have hall : ([9, 22, 25].all fun u => Tryd.prog.readableRec u && decide (u < Tryd.prog.types.size)) = true := by kernel_rfl
  have := List.all_eq_true.1 hall t hm
  simpa using this

theorem over : Rows.digestTaggedIsSumRow.holds Tryd.pinned (OpenSpec.ofChange Rows.digestTaggedIsSumSpec) :=
  OpenClaim.holds_of_wide 5 Tryd.f5 rfl rfl rfl rfl rfl rfl rfl ⟨rfl, rfl, rfl, rfl, rfl⟩ rfl rfl rfl rfl rfl (by kernel_rfl) Tryd.func5 (by kernel_rfl)
    (of_decide_eq_true (by kernel_rfl)) (by unfold Func.isWrapper; first | (rw [if_pos (by decide +kernel)]; kernel_rfl) | (rw [if_neg (by decide +kernel)]; exact ⟨rfl, rfl⟩))
    (fun os started H enc _ => lifted os started H enc)

/-- THE STATEMENT. -/
theorem proved : Rows.DigestTaggedIsSumCardSaid :=
  Claim7.holds_tied_plain_at .later [] [.data] true (true, "5b71b292ae13d560f78d921198e2d2567ee92d257eb85392c5009a583e81aed0") false
    over (fun _ h => by cases h) (by kernel_rfl) (fun _ h => by cases h) digestTaggedIsSum_row_tie rfl ⟨rfl, rfl⟩ (by kernel_rfl) rfl
    (fun f fn hf hfn => by
      obtain rfl : f = 5 := Option.some.inj ((show Tryd.prog.funcNamed "wagonpool/wagonpoollaw02.DigestTaggedIsSum" = some 5 by kernel_rfl).symm.trans hf) |>.symm
      obtain rfl : fn = Tryd.f5 := (Option.some.inj (Tryd.func5.symm.trans hfn)).symm
      exact ⟨by kernel_rfl, fun j t ht => by
        rw [Tryd.params5] at ht
        have hm : t ∈ [9, 22, 25] := by have := Array.mem_of_getElem? ht; simp at this; simp; omega
        have hall : ([9, 22, 25].all fun u => !Tryd.prog.wantsStandIn u) = true := by kernel_rfl
        exact (show Tryd.prog.wantsStandIn t = false by simpa using List.all_eq_true.1 hall t hm)⟩)
    (by kernel_rfl)
#print axioms proved
end Go.Proofs.YtecgcnfjpaemcaaDoor.digestTaggedIsSum
