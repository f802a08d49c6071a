/-
  The statement 'Rows.DigestMatchesReferenceCardSaid': for every tag, byte sequence and digest the law that Tagged, Next and Number agree with the reference returns true; the arguments read as they did.
-/
import Derived.Test.YtecgcnfjpaemcaaDoorFg
import Derived.ChangeMaps5
namespace Go.Proofs.YtecgcnfjpaemcaaDoor.digestMatchesReference
open Go.ChangeShapes Go.WideShapes Go.ChangeAt Go.RowKit
set_option linter.unusedVariables false

/-- What holds in the last region. -/
structure MrS (w0 : World) (g : Nat) (d : List Int) (W : World) : Prop where
  below : Below w0.heap.size w0 W
  row : RowB W g 25 d
  l : g < w0.heap.size
theorem MrS.call {w0 W W' : World} {g : Nat} {d : List Int} (h : MrS w0 g d W) (hb : Below W.heap.size W W') : MrS w0 g d W' :=
  ⟨h.below.trans (hb.mono h.below.size), h.row.kept (hb.block _ (Nat.lt_of_lt_of_le h.l h.below.size)), h.l⟩
theorem MrS.all {w0 W : World} {g : Nat} {d : List Int} (h : MrS w0 g d W) : W.rangeAt g 0 (byteVals d) ∧ MrS w0 g d W := ⟨h.row.range, h⟩

set_option maxRecDepth 100000 in
set_option maxHeartbeats 2000000 in
theorem walk (s : ByteArray) (b d : List Int) (a : Option Addr) (c : Nat) (w : World) (hk : KOk w) (hs : s.size ≤ maxLen) (hv : Bs (fun k => k < w.heap.size) w (.slice a b.length c) b) (hd : d.length = 32) (rd : ∀ u ∈ d, 0 ≤ u ∧ u ≤ 255) :
    Calls Tryd.prog 4 #[.string s, .slice a b.length c, .agg (byteVals d).toArray] w fun e w' => e = .returned (.bool true) ∧ Below w.heap.size w w' := by
  have hb0 : Below w.heap.size w (w.alloc (.cells (byteVals d).toArray 25)) := ball (Below.refl _ _) _
  have h0 : RowB (w.alloc (.cells (byteVals d).toArray 25)) w.heap.size 25 d := RowB.new w 25 d
  have hsz : (w.alloc (.cells (byteVals d).toArray 25)).heap.size = w.heap.size + 1 := by simp
  have hbl := hv.1
  have hsl : s.size ≤ 9223372036854775807 := by unfold maxLen at hs; omega
  have HK := Lib.hid hk; have RD := Lib.hid rd; have HB0 := Lib.hid hb0; have H0 := Lib.hid h0; have HSZ := Lib.hid hsz; have HV := Lib.hid hv
  clear hk rd hb0 h0 hsz hv hs
  go_enter Tryd.func4, Tryd.ntmps4
  go_wp2_with fail
  refine (sane_true _ (HK.out.below HB0.out)).mono ?_
  rintro e w1 ⟨rfl, hb1⟩
  have hR : RowB w1 w.heap.size 25 d := H0.out.kept (hb1.block _ (by rw [HSZ.out]; omega))
  have HB1 := Lib.hid (HB0.out.trans (hb1.mono HB0.out.size))
  have hs1 : w.heap.size + 1 ≤ w1.heap.size := by have := hb1.size; rw [HSZ.out] at this; exact this
  have HV1 := Lib.hid ((HV.out.below (fun k hk => hk) HB1.out).kept (fun _ _ => rfl) (fun k hk => Nat.lt_of_lt_of_le hk HB1.out.size) (F' := fun k => k < w1.heap.size))
  clear HB0 H0 HSZ hb1 HV
  by_cases hs6 : s.size ≤ 600
  case neg =>
    have hs7 : (600 : Int) < (s.size : Int) := by omega
    go_wp2
    go_ret
    exact ⟨rfl, HB1.out⟩
  by_cases hb6 : b.length ≤ 600
  case neg =>
    have hb7 : (600 : Int) < (b.length : Int) := by omega
    go_wp2
    go_ret
    exact ⟨rfl, HB1.out⟩
  have hT0 : MrS w1 w.heap.size d w1 := ⟨Below.refl _ _, hR, by omega⟩
  obtain ⟨g, hg⟩ : ∃ g, g = w.heap.size := ⟨_, rfl⟩
  obtain ⟨D1, hD1⟩ : ∃ D1, D1 = sha (hmsg (strB s) b) := ⟨_, rfl⟩
  have hl1 : D1.length = 32 := by rw [hD1]; exact sha_length _
  have q1 := eqSame D1 hl1
  obtain ⟨D2, hD2⟩ : ∃ D2, D2 = link d b := ⟨_, rfl⟩
  have hl2 : D2.length = 32 := by rw [hD2]; exact sha_length _
  have q2 := eqSame D2 hl2
  obtain ⟨nn, hnn⟩ : ∃ nn, nn = num (d.take 8) := ⟨_, rfl⟩
  have up : ∀ W, MrS w1 w.heap.size d W → Bs (fun k => k < W.heap.size) W (.slice a b.length c) b := fun W hW => HV1.out.up2 (fun k hk => hW.below.block k hk) hW.below.size
  have k14 : Hid (∀ W, MrS w1 w.heap.size d W → Calls Tryd.prog 14 #[.string s, .slice a b.length c] W fun e w' => e = .returned (.agg (byteVals D1).toArray) ∧ Below W.heap.size W w') := fun W hW => by
    rw [hD1]; exact tagged_any s b _ W (HK.out.below (HB1.out.trans (hW.below.mono HB1.out.size))) (up W hW) (by omega) (by omega)
  have k15 : Hid (∀ W, MrS w1 w.heap.size d W → Calls Tryd.prog 15 #[.string s, .slice a b.length c] W fun e w' => e = .returned (.agg (byteVals D1).toArray) ∧ Below W.heap.size W w') := fun W hW => by
    rw [hD1]; exact rtagged_any s b _ W (up W hW) (by omega) (by omega)
  have k16 : Hid (∀ W, MrS w1 w.heap.size d W → Calls Tryd.prog 16 #[.agg (byteVals d).toArray, .slice a b.length c] W fun e w' => e = .returned (.agg (byteVals D2).toArray) ∧ Below W.heap.size W w') := fun W hW => by
    rw [hD2]; exact next_any d b _ W (HK.out.below (HB1.out.trans (hW.below.mono HB1.out.size))) hd RD.out (up W hW) (by omega)
  have k17 : Hid (∀ W, MrS w1 w.heap.size d W → Calls Tryd.prog 17 #[.agg (byteVals d).toArray, .slice a b.length c] W fun e w' => e = .returned (.agg (byteVals D2).toArray) ∧ Below W.heap.size W w') := fun W hW => by
    rw [hD2]; exact rnext_any d b _ W hd RD.out (up W hW) (by omega)
  have k18 : Hid (∀ W, Calls Tryd.prog 18 #[.agg (byteVals d).toArray] W fun e w' => e = .returned (.int .u64 nn) ∧ Below W.heap.size W w') := fun W => by rw [hnn]; exact number_any d W hd RD.out
  have k19 : Hid (∀ W, Calls Tryd.prog 19 #[.agg (byteVals d).toArray] W fun e w' => e = .returned (.int .u64 nn) ∧ Below W.heap.size W w') := fun W => by rw [hnn]; exact rnumber_any d W hd RD.out
  have i3 : (Tryd.prog.info? 25).map (·.size) = some (byteVals d).length := by have := size25 d hd; simpa using this
  have u25 := Tryd.underlying25
  clear hD1 hD2 hnn up hR
  rw [← hg] at hT0 k14 k15 k16 k17
  go_wp2_with fail
  rw [← hg]
  clear hg
  have h0 : MrS w1 g d w1.drew := ⟨Below.drew (Below.refl _ _), hT0.row, hT0.l⟩
  refine wp_region_held_drew (S := fun w' => w'.rangeAt g 0 (byteVals d) ∧ MrS w1 g d w') (by kernel_rfl) h0.all (fun hHeld => ?_)
  refine wpAnyH_take (i := 0) (oi := _) (v := .string s) rfl (by kernel_rfl) (by kernel_rfl) (by kernel_rfl) (fun _ _ _ h => h) (Or.inl ⟨by rfl, fun wx hSw => ?_⟩) (by assumption) ?_
  · go_simp
  (try simp only [Act.put, List.setIfInBounds_toArray, List.set_cons_zero, List.set_cons_succ])
  refine wpAnyH_take (i := 1) (oi := _) (v := .slice a b.length c) rfl (by kernel_rfl) (by kernel_rfl) (by kernel_rfl) (fun _ _ _ h => h) (Or.inl ⟨by rfl, fun wx hSw => ?_⟩) (by assumption) ?_
  · go_simp
  (try simp only [Act.put, List.setIfInBounds_toArray, List.set_cons_zero, List.set_cons_succ])
  refine wpAnyH_take (i := 3) (oi := _) (v := .string s) rfl (by kernel_rfl) (by kernel_rfl) (by kernel_rfl) (fun _ _ _ h => h) (Or.inl ⟨by rfl, fun wx hSw => ?_⟩) (by assumption) ?_
  · go_simp
  (try simp only [Act.put, List.setIfInBounds_toArray, List.set_cons_zero, List.set_cons_succ])
  refine wpAnyH_take (i := 4) (oi := _) (v := .slice a b.length c) rfl (by kernel_rfl) (by kernel_rfl) (by kernel_rfl) (fun _ _ _ h => h) (Or.inl ⟨by rfl, fun wx hSw => ?_⟩) (by assumption) ?_
  · go_simp
  (try simp only [Act.put, List.setIfInBounds_toArray, List.set_cons_zero, List.set_cons_succ])
  refine wpAnyH_ready (rs := [2]) (by kernel_rfl) (by simp) ?_
  refine AllReadyH.cons (o := _) rfl (fun K hK => ?_) AllReadyH.nil
  go_simp
  refine (k14.out _ h0).mono ?_; rintro e x1 ⟨rfl, hb⟩; have h1 := MrS.call h0 hb; clear hb
  go_wp2_with fail
  refine hK.out _ _ h1.all (fun hHeld => ?_)
  clear hK K
  (try simp only [Act.put, List.setIfInBounds_toArray, List.set_cons_zero, List.set_cons_succ])
  refine wpAnyH_ready (rs := [5]) (by kernel_rfl) (by simp) ?_
  refine AllReadyH.cons (o := _) rfl (fun K hK => ?_) AllReadyH.nil
  go_simp
  refine (k15.out _ h1).mono ?_; rintro e x2 ⟨rfl, hb⟩; have h2 := MrS.call h1 hb; clear hb
  go_wp2_with fail
  refine hK.out _ _ h2.all (fun hHeld => ?_)
  clear hK K
  (try simp only [Act.put, List.setIfInBounds_toArray, List.set_cons_zero, List.set_cons_succ])
  refine wpAnyH_take (i := 6) (oi := _) (v := .bool true) rfl (by kernel_rfl) (by kernel_rfl) (by kernel_rfl) (fun _ _ _ h => h) (Or.inl ⟨by rfl, fun wx hSw => ?_⟩) (by assumption) ?_
  · go_simp
  (try simp only [Act.put, List.setIfInBounds_toArray, List.set_cons_zero, List.set_cons_succ])
  refine wpAnyH_take (i := 7) (oi := _) (v := .bool true) rfl (by kernel_rfl) (by kernel_rfl) (by kernel_rfl) (fun _ _ _ h => h) (Or.inl ⟨by rfl, fun wx hSw => ?_⟩) (by assumption) ?_
  · go_simp
  (try simp only [Act.put, List.setIfInBounds_toArray, List.set_cons_zero, List.set_cons_succ])
  refine wpAnyH_take (i := 8) (oi := _) (v := .agg (byteVals d).toArray) rfl (by kernel_rfl) (by kernel_rfl) (by kernel_rfl) (fun _ _ _ h => h) (yieldsIf_load_mid (by rfl) 25 _ rfl _ _ rfl (byteVals d) _ (fun wx hSw => hSw.1) u25 rfl i3) (by assumption) ?_
  (try simp only [Act.put, List.setIfInBounds_toArray, List.set_cons_zero, List.set_cons_succ])
  refine wpAnyH_take (i := 9) (oi := _) (v := .slice a b.length c) rfl (by kernel_rfl) (by kernel_rfl) (by kernel_rfl) (fun _ _ _ h => h) (Or.inl ⟨by rfl, fun wx hSw => ?_⟩) (by assumption) ?_
  · go_simp
  (try simp only [Act.put, List.setIfInBounds_toArray, List.set_cons_zero, List.set_cons_succ])
  refine wpAnyH_take (i := 11) (oi := _) (v := .agg (byteVals d).toArray) rfl (by kernel_rfl) (by kernel_rfl) (by kernel_rfl) (fun _ _ _ h => h) (yieldsIf_load_mid (by rfl) 25 _ rfl _ _ rfl (byteVals d) _ (fun wx hSw => hSw.1) u25 rfl i3) (by assumption) ?_
  (try simp only [Act.put, List.setIfInBounds_toArray, List.set_cons_zero, List.set_cons_succ])
  refine wpAnyH_take (i := 12) (oi := _) (v := .slice a b.length c) rfl (by kernel_rfl) (by kernel_rfl) (by kernel_rfl) (fun _ _ _ h => h) (Or.inl ⟨by rfl, fun wx hSw => ?_⟩) (by assumption) ?_
  · go_simp
  (try simp only [Act.put, List.setIfInBounds_toArray, List.set_cons_zero, List.set_cons_succ])
  refine wpAnyH_ready (rs := [10]) (by kernel_rfl) (by simp) ?_
  refine AllReadyH.cons (o := _) rfl (fun K hK => ?_) AllReadyH.nil
  go_simp
  refine (k16.out _ h2).mono ?_; rintro e x3 ⟨rfl, hb⟩; have h3 := MrS.call h2 hb; clear hb
  go_wp2_with fail
  refine hK.out _ _ h3.all (fun hHeld => ?_)
  clear hK K
  (try simp only [Act.put, List.setIfInBounds_toArray, List.set_cons_zero, List.set_cons_succ])
  refine wpAnyH_ready (rs := [13]) (by kernel_rfl) (by simp) ?_
  refine AllReadyH.cons (o := _) rfl (fun K hK => ?_) AllReadyH.nil
  go_simp
  refine (k17.out _ h3).mono ?_; rintro e x4 ⟨rfl, hb⟩; have h4 := MrS.call h3 hb; clear hb
  go_wp2_with fail
  refine hK.out _ _ h4.all (fun hHeld => ?_)
  clear hK K
  (try simp only [Act.put, List.setIfInBounds_toArray, List.set_cons_zero, List.set_cons_succ])
  refine wpAnyH_take (i := 14) (oi := _) (v := .bool true) rfl (by kernel_rfl) (by kernel_rfl) (by kernel_rfl) (fun _ _ _ h => h) (Or.inl ⟨by rfl, fun wx hSw => ?_⟩) (by assumption) ?_
  · go_simp
  (try simp only [Act.put, List.setIfInBounds_toArray, List.set_cons_zero, List.set_cons_succ])
  refine wpAnyH_take (i := 15) (oi := _) (v := .bool true) rfl (by kernel_rfl) (by kernel_rfl) (by kernel_rfl) (fun _ _ _ h => h) (Or.inl ⟨by rfl, fun wx hSw => ?_⟩) (by assumption) ?_
  · go_simp
  (try simp only [Act.put, List.setIfInBounds_toArray, List.set_cons_zero, List.set_cons_succ])
  refine wpAnyH_take (i := 16) (oi := _) (v := .bool true) rfl (by kernel_rfl) (by kernel_rfl) (by kernel_rfl) (fun _ _ _ h => h) (Or.inl ⟨by rfl, fun wx hSw => ?_⟩) (by assumption) ?_
  · go_simp
  (try simp only [Act.put, List.setIfInBounds_toArray, List.set_cons_zero, List.set_cons_succ])
  refine wpAnyH_take (i := 17) (oi := _) (v := .agg (byteVals d).toArray) rfl (by kernel_rfl) (by kernel_rfl) (by kernel_rfl) (fun _ _ _ h => h) (yieldsIf_load_mid (by rfl) 25 _ rfl _ _ rfl (byteVals d) _ (fun wx hSw => hSw.1) u25 rfl i3) (by assumption) ?_
  (try simp only [Act.put, List.setIfInBounds_toArray, List.set_cons_zero, List.set_cons_succ])
  refine wpAnyH_take (i := 19) (oi := _) (v := .agg (byteVals d).toArray) rfl (by kernel_rfl) (by kernel_rfl) (by kernel_rfl) (fun _ _ _ h => h) (yieldsIf_load_mid (by rfl) 25 _ rfl _ _ rfl (byteVals d) _ (fun wx hSw => hSw.1) u25 rfl i3) (by assumption) ?_
  (try simp only [Act.put, List.setIfInBounds_toArray, List.set_cons_zero, List.set_cons_succ])
  refine wpAnyH_ready (rs := [18]) (by kernel_rfl) (by simp) ?_
  refine AllReadyH.cons (o := _) rfl (fun K hK => ?_) AllReadyH.nil
  go_simp
  refine (k18.out _).mono ?_; rintro e x5 ⟨rfl, hb⟩; have h5 := MrS.call h4 hb; clear hb
  go_wp2_with fail
  refine hK.out _ _ h5.all (fun hHeld => ?_)
  clear hK K
  (try simp only [Act.put, List.setIfInBounds_toArray, List.set_cons_zero, List.set_cons_succ])
  refine wpAnyH_ready (rs := [20]) (by kernel_rfl) (by simp) ?_
  refine AllReadyH.cons (o := _) rfl (fun K hK => ?_) AllReadyH.nil
  go_simp
  refine (k19.out _).mono ?_; rintro e x6 ⟨rfl, hb⟩; have h6 := MrS.call h5 hb; clear hb
  go_wp2_with fail
  refine hK.out _ _ h6.all (fun hHeld => ?_)
  clear hK K
  (try simp only [Act.put, List.setIfInBounds_toArray, List.set_cons_zero, List.set_cons_succ])
  refine wpAnyH_take (i := 21) (oi := _) (v := .bool true) rfl (by kernel_rfl) (by kernel_rfl) (by kernel_rfl) (fun _ _ _ h => h) (Or.inl ⟨by rfl, fun wx hSw => ?_⟩) (by assumption) ?_
  · go_simp
  (try simp only [Act.put, List.setIfInBounds_toArray, List.set_cons_zero, List.set_cons_succ])
  refine wpAnyH_take (i := 22) (oi := _) (v := .bool true) rfl (by kernel_rfl) (by kernel_rfl) (by kernel_rfl) (fun _ _ _ h => h) (Or.inl ⟨by rfl, fun wx hSw => ?_⟩) (by assumption) ?_
  · go_simp
  (try simp only [Act.put, List.setIfInBounds_toArray, List.set_cons_zero, List.set_cons_succ])
  refine wpAnyH_ready (rs := [23]) (by kernel_rfl) (by simp) ?_
  refine AllReadyH.cons (o := _) rfl (fun K hK => ?_) AllReadyH.nil
  go_simp
  refine hK.out _ _ h6.all (fun hHeld => ?_)
  clear hK K
  (try simp only [Act.put, List.setIfInBounds_toArray, List.set_cons_zero, List.set_cons_succ])
  refine wpAnyH_done (by kernel_rfl) ?_ _
  go_wp2_with fail
  go_ret
  exact ⟨rfl, HB1.out.trans (h6.below.mono HB1.out.size)⟩

/-- The door's own heap meets the condition. -/
theorem door_met (os : Os) (args : Array Value) : laidMetH Tryd.prog Rows.digestMatchesReferenceRow.laid ((World.doorLaid Tryd.prog 400 os).forCall (fun _ _ => 0) ⟨#[], args, []⟩).memory :=
  laidMetH_of_parts3 (fuel := 8) (laidMet_of_run' 8 (by kernel_rfl) (by kernel_rfl)) (by kernel_rfl) (by kernel_rfl)

set_option maxRecDepth 100000 in
theorem lifted (os : Os) (started : os.Started) (H : Type) (enc : TypeId × Value → H) :
    ReturnsInHanded {} Tryd.checked os 4 .any (fun w args => (Rows.digestMatchesReferenceSpec.pre enc Tryd.prog Tryd.f4 [] false w args ∧ laidMetH Tryd.prog Rows.digestMatchesReferenceRow.laid w) ∧ sizedMet enc Tryd.prog Tryd.f4 (OpenSpec.ofChange Rows.digestMatchesReferenceSpec) false w args)
      (Rows.digestMatchesReferenceSpec.post enc Tryd.prog Tryd.f4 false true false false) := by
  refine returnsInHanded_of_change_and (C := Tryd.checked) (X := fun w _ => laidMetH Tryd.prog Rows.digestMatchesReferenceRow.laid w) (fun _ _ _ hh h => h.of_heap hh) own started (by kernel_rfl) Tryd.func4
    (ChangeSpec.witness_shaped (enc := enc) (C := Tryd.checked) (os := os) (X := fun w _ => laidMetH Tryd.prog Rows.digestMatchesReferenceRow.laid w) false (World.doorLaid Tryd.prog 400 os) #[.string ⟨#[]⟩, .slice none 0 0, .agg (byteVals zer).toArray] 8 rfl (World.shaped_of_RefB (by kernel_rfl) (by kernel_rfl)) (by kernel_rfl) (by kernel_rfl) (by kernel_rfl) (door_met os _)) ?_
  intro W base args ds gs before hval0 hW _ hsz0 hL _
  have hsz : (DataW.weightsEach Tryd.prog (Tryd.f4.params.toList ++ Rows.digestMatchesReferenceSpec.plain.varTypes Tryd.prog) (ds ++ gs)).all (· ≤ reachBytes) = true := hsz0
  have hval : ∀ (j : Nat) t v, Tryd.f4.params[j]? = some t → args[j]? = some v → Value.okWide Tryd.prog W .any base t v := hval0
  clear hsz0 hval0
  have hW' := hW
  obtain ⟨p, q, hA0, hV, rfl, hfz, hnd⟩ := hW
  have hA : DataW.TrodAll enc Tryd.prog W 0 (fun _ => true) true Tryd.f4.params.toList args.toList ds p := hA0
  rw [Tryd.params4] at hA hval hsz
  obtain ⟨v0, vs0, d0, ds0, p0, q0, hargs, rfl, rfl, h0, r0⟩ := trodAll_cons hA
  obtain ⟨v1, vs1, d1, ds1, p1, q1, rfl, rfl, rfl, h1, r1⟩ := trodAll_cons r0
  obtain ⟨v2, vs2, d2, ds2, p2, q2, rfl, rfl, rfl, h2, r2⟩ := trodAll_cons r1
  obtain ⟨rfl, rfl, rfl⟩ := trodAll_nil r2
  obtain rfl : args = #[v0, v1, v2] := by cases args; simp_all
  obtain ⟨rfl, rfl⟩ := trodVars_none hV
  obtain ⟨s0, rfl, _, _, hs0⟩ := Go.ChangeMaps.open_string Tryd.underlying9 (hval 0 9 v0 rfl rfl) h0
  have hw1 : ∀ n ∈ d1.weights Tryd.prog 22, n ≤ reachBytes := by
    intro n hn
    have := List.all_eq_true.1 hsz n (DataW.weights_mem_each (t := 22) (d := d1) (j := 1) rfl rfl n hn)
    simpa using this
  obtain ⟨oa1, ol1, oc1, rfl⟩ := okWide_slice Tryd.underlying22 (hval 1 22 v1 rfl rfl)
  obtain ⟨fu1, hf1⟩ := h1
  obtain ⟨b1, hb1⟩ := openB (v := .slice oa1 ol1 oc1) hf1 hw1
  obtain rfl : ol1 = b1.length := by
    obtain ⟨_, _, _, _, e, _⟩ := hb1
    simp only [Value.slice.injEq] at e
    exact e.2.1
  obtain ⟨D2, rfl, hl2, hr2⟩ := openDig (hval 2 25 v2 rfl rfl) h2
  clear hA0
  refine (walk s0 b1 D2 oa1 oc1 W (kok_of_laid hL) hs0 hb1 hl2 hr2).mono fun e W' ⟨he, hbw⟩ => ?_
  subst he
  refine ⟨_, rfl, post_law laidOut ?_ rfl rfl hW' rfl rfl rfl hbw⟩
  intro t ht
  rw [Tryd.params4] at ht
  have hm : t ∈ [9, 22, 25] := by simp at ht; simp; omega
  have hall : ([9, 22, 25].all fun u => Tryd.prog.readableRec u && decide (u < Tryd.prog.types.size)) = true := by kernel_rfl
  have := List.all_eq_true.1 hall t hm
  simpa using this

theorem over : Rows.digestMatchesReferenceRow.holds Tryd.pinned (OpenSpec.ofChange Rows.digestMatchesReferenceSpec) :=
  OpenClaim.holds_of_wide 4 Tryd.f4 rfl rfl rfl rfl rfl rfl rfl ⟨rfl, rfl, rfl, rfl, rfl⟩ rfl rfl rfl rfl rfl (by kernel_rfl) Tryd.func4 (by kernel_rfl)
    (of_decide_eq_true (by kernel_rfl)) (by unfold Func.isWrapper; first | (rw [if_pos (by decide +kernel)]; kernel_rfl) | (rw [if_neg (by decide +kernel)]; exact ⟨rfl, rfl⟩))
    (fun os started H enc _ => lifted os started H enc)

/-- THE STATEMENT. -/
theorem proved : Rows.DigestMatchesReferenceCardSaid :=
  Claim7.holds_tied_plain_at .later [] [.data] true (true, "5b71b292ae13d560f78d921198e2d2567ee92d257eb85392c5009a583e81aed0") false
    over (fun _ h => by cases h) (by kernel_rfl) (fun _ h => by cases h) digestMatchesReference_row_tie rfl ⟨rfl, rfl⟩ (by kernel_rfl) rfl
    (fun f fn hf hfn => by
      obtain rfl : f = 4 := Option.some.inj ((show Tryd.prog.funcNamed "wagonpool/wagonpoollaw02.DigestMatchesReference" = some 4 by kernel_rfl).symm.trans hf) |>.symm
      obtain rfl : fn = Tryd.f4 := (Option.some.inj (Tryd.func4.symm.trans hfn)).symm
      exact ⟨by kernel_rfl, fun j t ht => by
        rw [Tryd.params4] at ht
        have hm : t ∈ [9, 22, 25] := by have := Array.mem_of_getElem? ht; simp at this; simp; omega
        have hall : ([9, 22, 25].all fun u => !Tryd.prog.wantsStandIn u) = true := by kernel_rfl
        exact (show Tryd.prog.wantsStandIn t = false by simpa using List.all_eq_true.1 hall t hm)⟩)
    (by kernel_rfl)
#print axioms proved
end Go.Proofs.YtecgcnfjpaemcaaDoor.digestMatchesReference
