/-
  The statement 'Rows.DigestValuesUptoCardSaid': for every tag and every value of bounded bulk the law of Value returns true; the arguments read as they did.
-/
import Derived.Test.YtecgcnfjpaemcaaDoorVa
namespace Go.Proofs.YtecgcnfjpaemcaaDoor.digestValues
open Go.ChangeShapes Go.WideShapes Go.ChangeAt Go.RowKit
set_option linter.unusedVariables false


theorem keepDig {wC w' : World} {g : Nat} {D : List Int} (hr : RowB wC g 25 D) (hl : g < wC.heap.size) (h : Below wC.heap.size wC w') : w'.rangeAt g 0 (byteVals D) ∧ Below wC.heap.size wC w' :=
  ⟨(hr.kept (h.block _ hl)).range, h⟩

theorem eqZer (w : World) : (Op.equalIn 10000 25 (.agg (byteVals zer).toArray) (.agg #[.int .u8 0, .int .u8 0, .int .u8 0, .int .u8 0, .int .u8 0, .int .u8 0, .int .u8 0, .int .u8 0, .int .u8 0, .int .u8 0, .int .u8 0, .int .u8 0, .int .u8 0, .int .u8 0, .int .u8 0, .int .u8 0, .int .u8 0, .int .u8 0, .int .u8 0, .int .u8 0, .int .u8 0, .int .u8 0, .int .u8 0, .int .u8 0, .int .u8 0, .int .u8 0, .int .u8 0, .int .u8 0, .int .u8 0, .int .u8 0, .int .u8 0, .int .u8 0])).run Tryd.prog w = .ok true w := eqSame zer rfl w

set_option maxRecDepth 100000 in
set_option maxHeartbeats 2000000 in
theorem walk_ok (s : ByteArray) (t : T) (v : Value) (w : World) (hk : KOk w) (hs : s.size ≤ maxLen) (hr : Rd (fun k => k < w.heap.size) w t v) (hsz : (enc t).length ≤ 9437184) (hc : chk t = 0) :
    Calls Tryd.prog 7 #[.string s, v] w fun e w' => e = .returned (.bool true) ∧ Below w.heap.size w w' := by
  have hsl : s.size ≤ 9223372036854775807 := by unfold maxLen at hs; omega
  obtain ⟨x2, y2, x3, y3, rfl⟩ := rdForm4 hr
  have hA := heldBox hr
  have hkB : KOk (w.alloc (.cells #[.int .i64 t.kind, .int .i64 t.num, .slice x2 t.bs.length y2, .slice x3 t.els.length y3] 38)) := hk.alloc _
  obtain ⟨D1, hD1⟩ : ∃ D1, D1 = sha (hmsg (strB s) (enc t)) := ⟨_, rfl⟩
  have hl1 : D1.length = 32 := by rw [hD1]; exact sha_length _
  have q1 := eqSame D1 hl1
  have HD1 := Lib.hid hD1; clear hD1
  have HA := Lib.hid hA; have Hs := Lib.hid hsz; have HK := Lib.hid hkB; have Hc := Lib.hid hc
  clear hA hr hsz hk hkB hs hc
  go_enter Tryd.func7, Tryd.ntmps7
  go_wp2_with fail
  refine (sane_true _ HK.out).mono ?_
  rintro e w1 ⟨rfl, hb1⟩
  have HA1 := Lib.hid (HA.out.below hb1)
  have HK1 := Lib.hid (HK.out.below hb1)
  have HB1 := Lib.hid (nextB (ball (Below.refl _ _) _) hb1); clear hb1 HA HK
  obtain ⟨a0, a1, a2, a3⟩ := HA1.out.2.1
  go_wp2_with fail
  clear a0 a1 a2 a3
  refine (encodeX t _ w.heap.size _ _ _ _ HA1.out (by have := Hs.out; omega) Hc.out).mono ?_
  rintro e w2 ⟨oa, oc, rfl, hb2, hBs⟩
  have HA2 := Lib.hid (HA1.out.below hb2)
  have HK2 := Lib.hid (HK1.out.below hb2)
  have HB2 := Lib.hid (nextB HB1.out hb2)
  have HE2 := Lib.hid hBs
  clear HA1 HK1 HB1 hb2 hBs
  obtain ⟨n, hn⟩ : ∃ n, n = (enc t).length := ⟨_, rfl⟩
  have Hn := Lib.hid hn
  rw [← hn]
  clear hn
  by_cases g1 : s.size ≤ 400
  case neg =>
    have g7 : (400 : Int) < (s.size : Int) := by omega
    go_wp2
    go_ret
    exact ⟨rfl, HB2.out⟩
  by_cases g2 : n ≤ 1000
  case neg =>
    have g7 : (1000 : Int) < (n : Int) := by omega
    go_wp2
    go_ret
    exact ⟨rfl, HB2.out⟩
  obtain ⟨a0, a1, a2, a3⟩ := HA2.out.2.1
  go_wp2_with fail
  clear a0 a1 a2 a3
  have hv := value_ok (fun k => k < w2.heap.size) s t _ w2 HK2.out (fun _ h => h) HA2.out.2.2 (by have := Hs.out; omega) (by omega) Hc.out
  unfold valD at hv
  rw [← HD1.out] at hv
  refine hv.mono ?_
  rintro e w3 ⟨rfl, hb3⟩
  have HK3 := Lib.hid (HK2.out.below hb3)
  have HB3 := Lib.hid (nextB HB2.out hb3)
  have HE3 := Lib.hid (HE2.out.up2 (fun k hk => hb3.block k hk) hb3.size)
  clear hv HA2 HK2 HB2 HE2 hb3
  go_wp2_with (first | (refine st25 rfl (.tmp 7) (.tmp 28) rfl w3.heap.size D1 zer rfl rfl (RowB.new' _ rfl rfl) rfl hl1 ?_; intro wC rC oC sC bC; have RC := Lib.hid rC; have OC := Lib.hid oC; have SC := Lib.hid sC; have BC := Lib.hid bC; clear rC oC sC bC))
  have hbC : Below w3.heap.size w3 wC := BC.out _ _ (Nat.le_refl _) (ball (Below.refl _ _) _)
  have HKC := Lib.hid (HK3.out.below hbC)
  have HBC := Lib.hid (nextB HB3.out hbC)
  have HEC := Lib.hid (HE3.out.up2 (fun k hk => hbC.block k hk) hbC.size)
  have HLT := Lib.hid (show w3.heap.size < wC.heap.size by rw [SC.out]; simp)
  clear HK3 HB3 HE3 hbC OC SC BC
  have ht : ∀ W, Below wC.heap.size wC W → Calls Tryd.prog 14 #[.string s, .slice oa n oc] W fun e w' => e = .returned (.agg (byteVals D1).toArray) ∧ Below W.heap.size W w' := by
    intro W hW
    have he := HEC.out.up2 (fun k hk => hW.block k hk) hW.size
    rw [← Hn.out] at he
    have := tagged_any s (enc t) (.slice oa n oc) W (HKC.out.below hW) he (by omega) (by rw [← Hn.out]; omega)
    rw [← HD1.out] at this
    exact this
  have Ht := Lib.hid ht; clear ht
  have i3 : (Tryd.prog.info? 25).map (·.size) = some (byteVals D1).length := by have := size25 D1 hl1; simpa using this
  have u25 := Tryd.underlying25
  obtain ⟨g, hg⟩ : ∃ g, g = w3.heap.size := ⟨_, rfl⟩
  rw [← hg] at RC HLT ⊢
  have hT2 : Below wC.heap.size wC wC.drew := Below.drew (Below.refl _ _)
  clear hg HEC HKC
  go_region_held3 (fun w' => w'.rangeAt g 0 (byteVals D1) ∧ Below wC.heap.size wC w') (first | (with_reducible exact keepDig RC.out HLT.out (by with_reducible assumption)))
    (first | (go_at_call 14; refine (Ht.out _ hT2).mono ?_; rintro e w4 ⟨rfl, hb⟩; have hT3 := hT2.trans (hb.mono hT2.size); clear hb))
  go_wp2_with fail
  go_ret
  exact ⟨rfl, nextB HBC.out hT3⟩

set_option maxRecDepth 100000 in
set_option maxHeartbeats 2000000 in
theorem walk_bad (s : ByteArray) (t : T) (c : Int) (v : Value) (w : World) (hk : KOk w) (hs : s.size ≤ maxLen) (hr : Rd (fun k => k < w.heap.size) w t v) (hsz : (enc t).length ≤ 9437184) (hc : chk t = c) (h2 : c = 2 ∨ c = 10) :
    Calls Tryd.prog 7 #[.string s, v] w fun e w' => e = .returned (.bool true) ∧ Below w.heap.size w w' := by
  have hsl : s.size ≤ 9223372036854775807 := by unfold maxLen at hs; omega
  obtain ⟨x2, y2, x3, y3, rfl⟩ := rdForm4 hr
  have hA := heldBox hr
  have hkB : KOk (w.alloc (.cells #[.int .i64 t.kind, .int .i64 t.num, .slice x2 t.bs.length y2, .slice x3 t.els.length y3] 38)) := hk.alloc _
  have q1 := eqZer
  have HA := Lib.hid hA; have Hs := Lib.hid hsz; have HK := Lib.hid hkB; have Hc := Lib.hid hc
  clear hA hr hsz hk hkB hs hc
  rcases h2 with rfl | rfl
  all_goals
    go_enter Tryd.func7, Tryd.ntmps7
    go_wp2_with fail
    refine (sane_true _ HK.out).mono ?_
    rintro e w1 ⟨rfl, hb1⟩
    have HA1 := Lib.hid (HA.out.below hb1)
    have HK1 := Lib.hid (HK.out.below hb1)
    have HB1 := Lib.hid (nextB (ball (Below.refl _ _) _) hb1); clear hb1 HA HK
    obtain ⟨a0, a1, a2, a3⟩ := HA1.out.2.1
    go_wp2_with fail
    clear a0 a1 a2 a3
    refine (encodeE t _ _ w.heap.size _ _ _ _ HA1.out (by have := Hs.out; omega) Hc.out (by decide)).mono ?_
    rintro e w2 ⟨rfl, hb2⟩
    have HA2 := Lib.hid (HA1.out.below hb2)
    have HB2 := Lib.hid (nextB HB1.out hb2)
    clear HA1 HK1 HB1 hb2
    by_cases g1 : s.size ≤ 400
    case neg =>
      have g7 : (400 : Int) < (s.size : Int) := by omega
      go_wp2
      go_ret
      exact ⟨rfl, HB2.out⟩
    obtain ⟨a0, a1, a2, a3⟩ := HA2.out.2.1
    go_wp2_with fail
    clear a0 a1 a2 a3
    refine (value_bad (fun k => k < w2.heap.size) s t _ _ w2 (fun _ h => h) HA2.out.2.2 (by have := Hs.out; omega) Hc.out (by decide)).mono ?_
    rintro e w3 ⟨rfl, hb3⟩
    have HB3 := Lib.hid (nextB HB2.out hb3)
    clear HA2 HB2 hb3
    go_wp2_with (first | (refine st25 rfl (.tmp 7) (.tmp 28) rfl w3.heap.size zer zer rfl rfl (RowB.new' _ rfl rfl) rfl rfl ?_; intro wC rC oC sC bC; have RC := Lib.hid rC; have BC := Lib.hid bC; clear rC oC sC bC) | (refine wpList_load_dig (by rfl) (.tmp 7) rfl w3.heap.size rfl zer RC.out rfl ?_))
    go_ret
    exact ⟨rfl, nextB HB3.out (BC.out _ _ (Nat.le_refl _) (ball (Below.refl _ _) _))⟩

theorem walk (s : ByteArray) (t : T) (v : Value) (w : World) (hk : KOk w) (hs : s.size ≤ maxLen) (hr : Rd (fun k => k < w.heap.size) w t v) (hsz : (enc t).length ≤ 9437184) :
    Calls Tryd.prog 7 #[.string s, v] w fun e w' => e = .returned (.bool true) ∧ Below w.heap.size w w' := by
  rcases chk_cases t with h | h | h
  · exact walk_ok s t v w hk hs hr hsz h
  · exact walk_bad s t 2 v w hk hs hr hsz h (Or.inl rfl)
  · exact walk_bad s t 10 v w hk hs hr hsz h (Or.inr rfl)

/-- The door's own heap meets the condition. -/
theorem door_met (os : Os) (args : Array Value) : laidMetH Tryd.prog Rows.digestValuesUptoRow.laid ((World.doorLaid Tryd.prog 400 os).forCall (fun _ _ => 0) ⟨#[], args, []⟩).memory :=
  laidMetH_of_parts3 (fuel := 8) (laidMet_of_run' 8 (by kernel_rfl) (by kernel_rfl)) (by kernel_rfl) (by kernel_rfl)

set_option maxRecDepth 100000 in
theorem lifted (os : Os) (started : os.Started) (H : Type) (enc : TypeId × Value → H) (F : Stop.Interp) :
    ReturnsInHanded {} Tryd.checked os 7 .any (fun w args => ((Rows.OpenSpec.upto Rows.digestValuesSpec).pre enc Tryd.prog Tryd.f7 [] false w args ∧ laidMetH Tryd.prog Rows.digestValuesUptoRow.laid w) ∧ sizedMet enc Tryd.prog Tryd.f7 (Rows.OpenSpec.upto Rows.digestValuesSpec) false w args)
      (((Rows.OpenSpec.upto Rows.digestValuesSpec).at F).post enc Tryd.prog Tryd.f7 false true false false) := by
  refine returnsUpto (C := Tryd.checked) (s := Rows.OpenSpec.upto Rows.digestValuesSpec) (k := Rows.uptoSmall) rfl own started (by kernel_rfl) Tryd.func7
    (World.doorLaid Tryd.prog 400 os) #[.string ⟨#[]⟩, .agg #[.int .i64 0, .int .i64 0, .slice none 0 0, .slice none 0 0]] 8 rfl (World.shaped_of_RefB (by kernel_rfl) (by kernel_rfl)) (by kernel_rfl)
    (x := ([.lit (.string []), .agg [.lit (.int .i64 0), .lit (.int .i64 0), .nil, .nil]], [], [])) (by kernel_rfl) rfl (by kernel_rfl) (door_met os _) ?_
  intro W base args ds gs before hval0 hW hk hL
  have hval : ∀ (j : Nat) t v, Tryd.f7.params[j]? = some t → args[j]? = some v → Value.okWide Tryd.prog W .any base t v := hval0
  clear hval0
  have hW' := hW
  obtain ⟨p, q, hA0, hV, rfl, hfz, hnd⟩ := hW
  have hA : DataW.TrodAll enc Tryd.prog W 0 (fun _ => true) true Tryd.f7.params.toList args.toList ds p := hA0
  rw [Tryd.params7] at hA hval
  obtain ⟨v0, vs0, d0, ds0, p0, q0, hargs, rfl, rfl, h0, r0⟩ := trodAll_cons hA
  obtain ⟨v1, vs1, d1, ds1, p1, q1, rfl, rfl, rfl, h1, r1⟩ := trodAll_cons r0
  obtain ⟨rfl, rfl, rfl⟩ := trodAll_nil r1
  obtain rfl : args = #[v0, v1] := by cases args; simp_all
  obtain ⟨rfl, rfl⟩ := trodVars_none hV
  have hb := of_decide_eq_true hk
  simp only [List.append_nil, Rows.uptoBulkAll] at hb
  obtain ⟨s0, rfl, _, _, hs0⟩ := Go.ChangeMaps.open_string Tryd.underlying9 (hval 0 9 v0 rfl rfl) h0
  obtain ⟨t, ht, hl⟩ := openUV (hval 1 38 v1 rfl rfl) h1 (by omega)
  clear hA0
  refine (walk s0 t v1 W (kok_of_laid hL) hs0 ht hl).mono fun e W' ⟨he, hbw⟩ => ?_
  subst he
  refine ⟨_, rfl, post_law laidOut ?_ rfl rfl hW' rfl rfl rfl hbw⟩
  intro t ht
  rw [Tryd.params7] at ht
  have hm : t ∈ [9, 38] := by simp at ht; simp; omega
  have hall : ([9, 38].all fun u => Tryd.prog.readableRec u && decide (u < Tryd.prog.types.size)) = true := by kernel_rfl
  have := List.all_eq_true.1 hall t hm
  simpa using this

theorem over : Rows.digestValuesUptoRow.holds Tryd.pinned (Rows.OpenSpec.upto Rows.digestValuesSpec) :=
  OpenClaim.holds_of_cond 7 Tryd.f7 rfl rfl rfl rfl rfl rfl rfl ⟨rfl, rfl, rfl, rfl, rfl⟩ rfl rfl rfl rfl rfl (by kernel_rfl) Tryd.func7 (by kernel_rfl)
    (of_decide_eq_true (by kernel_rfl)) (by unfold Func.isWrapper; first | (rw [if_pos (by decide +kernel)]; kernel_rfl) | (rw [if_neg (by decide +kernel)]; exact ⟨rfl, rfl⟩))
    (fun os started H enc _ F => lifted os started H enc F)

/-- THE STATEMENT. -/
theorem proved : Rows.DigestValuesUptoCardSaid :=
  Claim7.holds_tied_plain_at .later [] [.data] true (true, "5b71b292ae13d560f78d921198e2d2567ee92d257eb85392c5009a583e81aed0") false
    over (fun _ h => by cases h) (by kernel_rfl) (fun _ h => by cases h) digestValuesUpto_row_tie rfl ⟨rfl, rfl⟩ (by kernel_rfl) rfl
    (fun f fn hf hfn => by
      obtain rfl : f = 7 := Option.some.inj ((show Tryd.prog.funcNamed "wagonpool/wagonpoollaw02.DigestValues" = some 7 by kernel_rfl).symm.trans hf) |>.symm
      obtain rfl : fn = Tryd.f7 := (Option.some.inj (Tryd.func7.symm.trans hfn)).symm
      exact ⟨by kernel_rfl, fun j t ht => by
        rw [Tryd.params7] at ht
        have hm : t ∈ [9, 38] := by have := Array.mem_of_getElem? ht; simp at this; simp; omega
        have hall : ([9, 38].all fun u => !Tryd.prog.wantsStandIn u) = true := by kernel_rfl
        exact (show Tryd.prog.wantsStandIn t = false by simpa using List.all_eq_true.1 hall t hm)⟩)
    (by kernel_rfl)
#print axioms proved
end Go.Proofs.YtecgcnfjpaemcaaDoor.digestValues
