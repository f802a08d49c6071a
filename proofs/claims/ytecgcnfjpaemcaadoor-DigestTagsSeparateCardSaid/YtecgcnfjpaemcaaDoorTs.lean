/-
  The statement 'Rows.DigestTagsSeparateCardSaid': for every two tags and byte sequences the law of separation returns true; the arguments read as they did.
-/
import Derived.Test.YtecgcnfjpaemcaaDoorHa
import Derived.ChangeMaps5
namespace Go.Proofs.YtecgcnfjpaemcaaDoor.digestTagsSeparate
open Go.ChangeShapes Go.WideShapes Go.ChangeAt Go.RowKit
set_option linter.unusedVariables false

theorem hmsg_inj {t u b c : List Int} : hmsg t b = hmsg u c ↔ t.take 255 = u.take 255 ∧ b = c := by
  unfold hmsg
  constructor
  · intro h
    simp only [List.cons.injEq] at h
    have hl : (t.take 255).length = (u.take 255).length := by omega
    exact List.append_inj h.2 hl
  · rintro ⟨h1, h2⟩
    rw [h1, h2]

theorem strB_inj {s u : ByteArray} (h : strB s = strB u) : s = u := by
  rw [← strOfNums_strB s, ← strOfNums_strB u, h]

theorem str_eq (s u : ByteArray) : (s.toList == u.toList) = decide (strB s = strB u) := by
  have := nums_inj (strB_range s) (strB_range u)
  rwa [strOfNums_strB, strOfNums_strB] at this

/-- The tag that counts. -/
def cutS (s : ByteArray) : ByteArray := if s.size ≤ 255 then s else s.extract 0 255
theorem strB_cut (s : ByteArray) : strB (cutS s) = (strB s).take 255 := by
  unfold cutS
  split
  · rw [List.take_of_length_le (by rw [strB_length]; assumption)]
  · exact (extract255 s (by omega)).2

theorem Bs.dn {F : Nat → Prop} {w : World} {v : Value} {b : List Int} (h : Bs F w v b) (n : Nat) : Bs F (w.drewN n) v b := h.kept (fun _ _ => rfl) (fun _ h => h)

/-- The two strings that are compared, and whether they are equal. -/
theorem cut_eq (s1 s2 : ByteArray) : ((cutS s1).toList == (cutS s2).toList) = decide ((strB s1).take 255 = (strB s2).take 255) := by
  rw [str_eq, strB_cut, strB_cut]

set_option maxRecDepth 100000 in
set_option maxHeartbeats 8000000 in
theorem walk (s1 s2 : ByteArray) (b c : List Int) (a1 a2 : Option Addr) (c1 c2 : Nat) (w : World) (hk : KOk w) (hs1 : s1.size ≤ maxLen) (hs2 : s2.size ≤ maxLen)
    (hv1 : Bs (fun k => k < w.heap.size) w (.slice a1 b.length c1) b) (hv2 : Bs (fun k => k < w.heap.size) w (.slice a2 c.length c2) c) :
    Calls Tryd.prog 6 #[.string s1, .slice a1 b.length c1, .string s2, .slice a2 c.length c2] w fun e w' => e = .returned (.bool true) ∧ Below w.heap.size w w' := by
  have hbl := hv1.1
  have hcl := hv2.1
  have hsl1 : s1.size ≤ 9223372036854775807 := by unfold maxLen at hs1; omega
  have hsl2 : s2.size ≤ 9223372036854775807 := by unfold maxLen at hs2; omega
  have HK := Lib.hid hk; have HV := Lib.hid hv1; have HU := Lib.hid hv2
  clear hk hv1 hv2 hs1 hs2
  go_enter Tryd.func6, Tryd.ntmps6
  go_wp2_with fail
  refine (sane_true w HK.out).mono ?_
  rintro e w1 ⟨rfl, hb1⟩
  have HB1 := Lib.hid hb1
  have HV1 := Lib.hid (HV.out.up2 (fun k hk => hb1.block k hk) hb1.size)
  have HU1 := Lib.hid (HU.out.up2 (fun k hk => hb1.block k hk) hb1.size)
  clear hb1 HV HU
  by_cases g1 : s1.size ≤ 400
  case neg =>
    have g7 : (400 : Int) < (s1.size : Int) := by omega
    go_wp2
    go_ret
    exact ⟨rfl, HB1.out⟩
  by_cases g2 : b.length ≤ 400
  case neg =>
    have g7 : (400 : Int) < (b.length : Int) := by omega
    go_wp2
    go_ret
    exact ⟨rfl, HB1.out⟩
  by_cases g3 : s2.size ≤ 400
  case neg =>
    have g7 : (400 : Int) < (s2.size : Int) := by omega
    go_wp2
    go_ret
    exact ⟨rfl, HB1.out⟩
  by_cases g4 : c.length ≤ 400
  case neg =>
    have g7 : (400 : Int) < (c.length : Int) := by omega
    go_wp2
    go_ret
    exact ⟨rfl, HB1.out⟩
  go_wp2_with fail
  refine (hashed_any s1 b _ w1 HV1.out (by omega) (by omega)).mono ?_
  rintro e w2 ⟨x, rfl, hb2, hx2⟩
  have HB2 := Lib.hid (HB1.out.trans (hb2.mono HB1.out.size))
  have HV2 := Lib.hid (HV1.out.up2 (fun k hk => hb2.block k hk) hb2.size)
  have HU2 := Lib.hid (HU1.out.up2 (fun k hk => hb2.block k hk) hb2.size)
  have HX2 := Lib.hid hx2
  clear hb2 hx2 HB1 HV1 HU1
  go_wp2_with fail
  refine (hashed_any s2 c _ w2 HU2.out (by omega) (by omega)).mono ?_
  rintro e w3 ⟨y, rfl, hb3, hy3⟩
  have HB3 := Lib.hid (HB2.out.trans (hb3.mono HB2.out.size))
  have HV3 := Lib.hid (HV2.out.up2 (fun k hk => hb3.block k hk) hb3.size)
  have HU3 := Lib.hid (HU2.out.up2 (fun k hk => hb3.block k hk) hb3.size)
  have HX3 := Lib.hid (HX2.out.up2 (fun k hk => hb3.block k hk) hb3.size)
  have HY3 := Lib.hid hy3
  clear hb3 hy3 HB2 HV2 HU2 HX2
  have hsame : ∀ n, Calls Tryd.prog 21 #[.slice a1 b.length c1, .slice a2 c.length c2] (w3.drewN n) fun e w' => e = .returned (.bool (decide (b = c))) ∧ w' = w3.drewN n := fun n => (same_any _ _ b c _ _ _ (Bs.dn HV3.out n) (Bs.dn HU3.out n)).mono fun _ _ h => ⟨h.1, h.2.symm⟩
  have hcut := cut_eq s1 s2
  obtain ⟨D1, hD1⟩ : ∃ D1, D1 = sha (hmsg (strB s1) b) := ⟨_, rfl⟩
  obtain ⟨D2, hD2⟩ : ∃ D2, D2 = sha (hmsg (strB s2) c) := ⟨_, rfl⟩
  have hl1 : D1.length = 32 := by rw [hD1]; exact sha_length _
  have hl2 : D2.length = 32 := by rw [hD2]; exact sha_length _
  obtain ⟨te, hte⟩ : ∃ te, te = decide ((strB s1).take 255 = (strB s2).take 255) := ⟨_, rfl⟩
  obtain ⟨sm, hsm⟩ : ∃ sm, sm = decide (b = c) := ⟨_, rfl⟩
  obtain ⟨de, hde⟩ : ∃ de, de = decide (D1 = D2) := ⟨_, rfl⟩
  have hxy : decide (hmsg (strB s1) b = hmsg (strB s2) c) = (te && sm) := by
    rw [hte, hsm, ← Bool.decide_and]
    exact decide_eq_decide.2 hmsg_inj
  have himp : (te && sm) = true → de = true := by
    intro h
    rw [← hxy] at h
    rw [hde, hD1, hD2, of_decide_eq_true h]
    simp
  have hq : ∀ w, (Op.equalIn 10000 25 (.agg (byteVals D1).toArray) (.agg (byteVals D2).toArray)).run Tryd.prog w = .ok de w := by
    intro w; rw [hde]; exact eqDig D1 D2 hl1 hl2 w
  rw [← hte] at hcut
  rw [← hsm] at hsame
  have HD1 := Lib.hid hD1; have HD2 := Lib.hid hD2; have HS := Lib.hid hsame; have Himp := Lib.hid himp; have Hxy := Lib.hid hxy
  clear hD1 hD2 hsame himp hxy hte hsm hde
  have HCut := Lib.hid hcut; clear hcut
  have hb3 : (te = false ∨ (te = true ∧ sm = false)) ∨ (te = true ∧ sm = true ∧ de = true) := by
    cases te <;> cases sm
    · exact Or.inl (Or.inl rfl)
    · exact Or.inl (Or.inl rfl)
    · exact Or.inl (Or.inr ⟨rfl, rfl⟩)
    · exact Or.inr ⟨rfl, rfl, Himp.out rfl⟩
  clear Himp
  have HC3 := Lib.hid hb3; clear hb3
  have hz1 : 255 < s1.size → (s1.extract 0 255).size = 255 := fun h => (extract255 s1 (by omega)).1
  have hz2 : 255 < s2.size → (s2.extract 0 255).size = 255 := fun h => (extract255 s2 (by omega)).1
  have Hz1 := Lib.hid hz1; have Hz2 := Lib.hid hz2; clear hz1 hz2
  rcases Nat.lt_or_ge 255 s1.size with k1 | k1 <;> rcases Nat.lt_or_ge 255 s2.size with k2 | k2
  all_goals
    have hcut := HCut.out
    unfold cutS at hcut
    first
      | rw [if_neg (by omega), if_neg (by omega)] at hcut
      | rw [if_neg (by omega), if_pos (by omega)] at hcut
      | rw [if_pos (by omega), if_neg (by omega)] at hcut
      | rw [if_pos (by omega), if_pos (by omega)] at hcut
    try have y1 : (255 : Int) ≤ (s1.size : Int) := by omega
    try have y2 : (255 : Int) ≤ (s2.size : Int) := by omega
    try have y3 : ¬ ((s1.size : Int) ≤ 255) := by omega
    try have y4 : ¬ ((s2.size : Int) ≤ 255) := by omega
    try have y5 : 255 ≤ s1.size := by omega
    try have y6 : 255 ≤ s2.size := by omega
    rcases HC3.out with (h1 | ⟨h1, h2⟩) | ⟨h1, h2, h3⟩
  all_goals
    subst h1
    try subst h2
    try subst h3
    go_wp2_with fail
    go_quiet ((go_at_call 21; exact Calls.quiet_of_same (HS.out _)))
    go_wp2_with fail
    refine (tagged_any s1 b _ (w3.drewN nq) (HK.out.below (bdrewN HB3.out nq)) (Bs.dn HV3.out nq) (by omega) (by omega)).mono ?_
    rintro e w4 ⟨rfl, hb4⟩
    rw [← HD1.out]
    have HB4 := Lib.hid ((bdrewN HB3.out nq).trans (hb4.mono (bdrewN HB3.out nq).size))
    have HU4 := Lib.hid ((Bs.dn HU3.out nq).up2 (fun k hk => hb4.block k hk) hb4.size)
    have HX4 := Lib.hid ((Bs.dn HX3.out nq).up2 (fun k hk => hb4.block k hk) hb4.size)
    have HY4 := Lib.hid ((Bs.dn HY3.out nq).up2 (fun k hk => hb4.block k hk) hb4.size)
    clear hb4 HV3 HU3 HX3 HY3 HS HB3
    go_wp2_with fail
    refine (tagged_any s2 c _ w4 (HK.out.below HB4.out) HU4.out (by omega) (by omega)).mono ?_
    rintro e w5 ⟨rfl, hb5⟩
    rw [← HD2.out]
    have HB5 := Lib.hid (HB4.out.trans (hb5.mono HB4.out.size))
    have HX5 := Lib.hid (HX4.out.up2 (fun k hk => hb5.block k hk) hb5.size)
    have HY5 := Lib.hid (HY4.out.up2 (fun k hk => hb5.block k hk) hb5.size)
    clear hb5 HB4 HU4 HX4 HY4
    go_wp2_with fail
    refine (same_any _ _ _ _ _ _ w5 HX5.out HY5.out).mono ?_
    rintro e _ ⟨rfl, rfl⟩
    rw [Hxy.out]
    go_wp2_with fail
    refine (sum_any _ _ w5 (HK.out.below HB5.out) HX5.out).mono ?_
    rintro e w6 ⟨rfl, hb6⟩
    rw [← HD1.out]
    have HB6 := Lib.hid (HB5.out.trans (hb6.mono HB5.out.size))
    have HY6 := Lib.hid (HY5.out.up2 (fun k hk => hb6.block k hk) hb6.size)
    clear hb6 HB5 HX5 HY5
    go_wp2_with fail
    refine (sum_any _ _ w6 (HK.out.below HB6.out) HY6.out).mono ?_
    rintro e w7 ⟨rfl, hb7⟩
    rw [← HD2.out]
    have HB7 := Lib.hid (HB6.out.trans (hb7.mono HB6.out.size))
    clear hb7 HB6 HY6
    go_wp2_with fail
    go_ret
    exact ⟨rfl, HB7.out⟩


/-- The door's own heap meets the condition. -/
theorem door_met (os : Os) (args : Array Value) : laidMetH Tryd.prog Rows.digestTagsSeparateRow.laid ((World.doorLaid Tryd.prog 400 os).forCall (fun _ _ => 0) ⟨#[], args, []⟩).memory :=
  laidMetH_of_parts3 (fuel := 8) (laidMet_of_run' 8 (by kernel_rfl) (by kernel_rfl)) (by kernel_rfl) (by kernel_rfl)

set_option maxRecDepth 100000 in
theorem lifted (os : Os) (started : os.Started) (H : Type) (enc : TypeId × Value → H) :
    ReturnsInHanded {} Tryd.checked os 6 .any (fun w args => (Rows.digestTagsSeparateSpec.pre enc Tryd.prog Tryd.f6 [] false w args ∧ laidMetH Tryd.prog Rows.digestTagsSeparateRow.laid w) ∧ sizedMet enc Tryd.prog Tryd.f6 (OpenSpec.ofChange Rows.digestTagsSeparateSpec) false w args)
      (Rows.digestTagsSeparateSpec.post enc Tryd.prog Tryd.f6 false true false false) := by
  refine returnsInHanded_of_change_and (C := Tryd.checked) (X := fun w _ => laidMetH Tryd.prog Rows.digestTagsSeparateRow.laid w) (fun _ _ _ hh h => h.of_heap hh) own started (by kernel_rfl) Tryd.func6
    (ChangeSpec.witness_shaped (enc := enc) (C := Tryd.checked) (os := os) (X := fun w _ => laidMetH Tryd.prog Rows.digestTagsSeparateRow.laid w) false (World.doorLaid Tryd.prog 400 os) #[.string ⟨#[]⟩, .slice none 0 0, .string ⟨#[]⟩, .slice none 0 0] 8 rfl (World.shaped_of_RefB (by kernel_rfl) (by kernel_rfl)) (by kernel_rfl) (by kernel_rfl) (by kernel_rfl) (door_met os _)) ?_
  intro W base args ds gs before hval0 hW _ hsz0 hL _
  have hsz : (DataW.weightsEach Tryd.prog (Tryd.f6.params.toList ++ Rows.digestTagsSeparateSpec.plain.varTypes Tryd.prog) (ds ++ gs)).all (· ≤ reachBytes) = true := hsz0
  have hval : ∀ (j : Nat) t v, Tryd.f6.params[j]? = some t → args[j]? = some v → Value.okWide Tryd.prog W .any base t v := hval0
  clear hsz0 hval0
  have hW' := hW
  obtain ⟨p, q, hA0, hV, rfl, hfz, hnd⟩ := hW
  have hA : DataW.TrodAll enc Tryd.prog W 0 (fun _ => true) true Tryd.f6.params.toList args.toList ds p := hA0
  rw [Tryd.params6] at hA hval hsz
  obtain ⟨v0, vs0, d0, ds0, p0, q0, hargs, rfl, rfl, h0, r0⟩ := trodAll_cons hA
  obtain ⟨v1, vs1, d1, ds1, p1, q1, rfl, rfl, rfl, h1, r1⟩ := trodAll_cons r0
  obtain ⟨v2, vs2, d2, ds2, p2, q2, rfl, rfl, rfl, h2, r2⟩ := trodAll_cons r1
  obtain ⟨v3, vs3, d3, ds3, p3, q3, rfl, rfl, rfl, h3, r3⟩ := trodAll_cons r2
  obtain ⟨rfl, rfl, rfl⟩ := trodAll_nil r3
  obtain rfl : args = #[v0, v1, v2, v3] := by cases args; simp_all
  obtain ⟨rfl, rfl⟩ := trodVars_none hV
  obtain ⟨s0, rfl, _, _, hs0⟩ := Go.ChangeMaps.open_string Tryd.underlying9 (hval 0 9 v0 rfl rfl) h0
  have hw1 : ∀ n ∈ d1.weights Tryd.prog 22, n ≤ reachBytes := by
    intro n hn
    have := List.all_eq_true.1 hsz n (DataW.weights_mem_each (t := 22) (d := d1) (j := 1) rfl rfl n hn)
    simpa using this
  obtain ⟨oa1, ol1, oc1, rfl⟩ := okWide_slice Tryd.underlying22 (hval 1 22 v1 rfl rfl)
  obtain ⟨fu1, hf1⟩ := h1
  obtain ⟨b1, hb1⟩ := openB (v := .slice oa1 ol1 oc1) hf1 hw1
  obtain rfl : ol1 = b1.length := by
    obtain ⟨_, _, _, _, e, _⟩ := hb1
    simp only [Value.slice.injEq] at e
    exact e.2.1
  obtain ⟨s2, rfl, _, _, hs2⟩ := Go.ChangeMaps.open_string Tryd.underlying9 (hval 2 9 v2 rfl rfl) h2
  have hw3 : ∀ n ∈ d3.weights Tryd.prog 22, n ≤ reachBytes := by
    intro n hn
    have := List.all_eq_true.1 hsz n (DataW.weights_mem_each (t := 22) (d := d3) (j := 3) rfl rfl n hn)
    simpa using this
  obtain ⟨oa3, ol3, oc3, rfl⟩ := okWide_slice Tryd.underlying22 (hval 3 22 v3 rfl rfl)
  obtain ⟨fu3, hf3⟩ := h3
  obtain ⟨b3, hb3⟩ := openB (v := .slice oa3 ol3 oc3) hf3 hw3
  obtain rfl : ol3 = b3.length := by
    obtain ⟨_, _, _, _, e, _⟩ := hb3
    simp only [Value.slice.injEq] at e
    exact e.2.1
  clear hA0
  refine (walk s0 s2 b1 b3 oa1 oa3 oc1 oc3 W (kok_of_laid hL) hs0 hs2 hb1 hb3).mono fun e W' ⟨he, hbw⟩ => ?_
  subst he
  refine ⟨_, rfl, post_law laidOut ?_ rfl rfl hW' rfl rfl rfl hbw⟩
  intro t ht
  rw [Tryd.params6] at ht
  have hm : t ∈ [9, 22] := by
    simp only [Array.mem_def, List.mem_cons, List.not_mem_nil, or_false] at ht ⊢
    rcases ht with h | h | h | h <;> first | exact Or.inl h | exact Or.inr h
  have hall : ([9, 22].all fun u => Tryd.prog.readableRec u && decide (u < Tryd.prog.types.size)) = true := by kernel_rfl
  have := List.all_eq_true.1 hall t hm
  simpa using this

theorem over : Rows.digestTagsSeparateRow.holds Tryd.pinned (OpenSpec.ofChange Rows.digestTagsSeparateSpec) :=
  OpenClaim.holds_of_wide 6 Tryd.f6 rfl rfl rfl rfl rfl rfl rfl ⟨rfl, rfl, rfl, rfl, rfl⟩ rfl rfl rfl rfl rfl (by kernel_rfl) Tryd.func6 (by kernel_rfl)
    (of_decide_eq_true (by kernel_rfl)) (by unfold Func.isWrapper; first | (rw [if_pos (by decide +kernel)]; kernel_rfl) | (rw [if_neg (by decide +kernel)]; exact ⟨rfl, rfl⟩))
    (fun os started H enc _ => lifted os started H enc)

/-- THE STATEMENT. -/
theorem proved : Rows.DigestTagsSeparateCardSaid :=
  Claim7.holds_tied_plain_at .later [] [.data] true (true, "5b71b292ae13d560f78d921198e2d2567ee92d257eb85392c5009a583e81aed0") false
    over (fun _ h => by cases h) (by kernel_rfl) (fun _ h => by cases h) digestTagsSeparate_row_tie rfl ⟨rfl, rfl⟩ (by kernel_rfl) rfl
    (fun f fn hf hfn => by
      obtain rfl : f = 6 := Option.some.inj ((show Tryd.prog.funcNamed "wagonpool/wagonpoollaw02.DigestTagsSeparate" = some 6 by kernel_rfl).symm.trans hf) |>.symm
      obtain rfl : fn = Tryd.f6 := (Option.some.inj (Tryd.func6.symm.trans hfn)).symm
      exact ⟨by kernel_rfl, fun j t ht => by
        rw [Tryd.params6] at ht
        have hm : t ∈ [9, 22] := by
          have := Array.mem_of_getElem? ht
          simp only [Array.mem_def, List.mem_cons, List.not_mem_nil, or_false] at this ⊢
          rcases this with h | h | h | h <;> first | exact Or.inl h | exact Or.inr h
        have hall : ([9, 22].all fun u => !Tryd.prog.wantsStandIn u) = true := by kernel_rfl
        exact (show Tryd.prog.wantsStandIn t = false by simpa using List.all_eq_true.1 hall t hm)⟩)
    (by kernel_rfl)
#print axioms proved
end Go.Proofs.YtecgcnfjpaemcaaDoor.digestTagsSeparate
