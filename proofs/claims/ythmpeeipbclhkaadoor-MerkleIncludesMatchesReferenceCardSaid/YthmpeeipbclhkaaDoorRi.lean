/-
  The statement of MerkleIncludesMatchesReference: walk and row.
-/
import Derived.Test.YthmpeeipbclhkaaDoorSn
import Derived.Test.YthmpeeipbclhkaaDoorRy
import Derived.Test.YthmpeeipbclhkaaDoorLw
import Derived.Test.YthmpeeipbclhkaaDoorOs
import Derived.Test.YthmpeeipbclhkaaDoorOc
import Derived.Test.YthmpeeipbclhkaaDoorEq
import Derived.ChangeMaps5
namespace Go.Proofs.YthmpeeipbclhkaaDoor.merkleIncludesMatchesReference
open Go.ChangeShapes Go.WideShapes Go.ChangeAt Go.RowKit
set_option linter.unusedVariables false
set_option linter.unusedSimpArgs false

set_option maxRecDepth 100000 in
set_option maxHeartbeats 4000000 in
theorem walk (n : Int) (root : List Int) (i : Int) (leaf : List Int) (p : List (List Int)) (op : Option Addr) (cp : Nat) (w : World) (hk : KOk w) (hr : Dg root) (hl : Dg leaf) (hp : Dl (fun k => k < w.heap.size) w (.slice op p.length cp) p) :
    Calls Tryd.prog 4 #[.agg (.int .i64 n :: byteVals root).toArray, .int .i64 i, .agg (byteVals leaf).toArray, .slice op p.length cp] w fun e w' => e = .returned (.bool true) ∧ Below w.heap.size w w' := by
  have hrl := hr.1; have hll := hl.1
  have hpl := hp.1
  have hs1 : (w.alloc (.cells (.int .i64 n :: byteVals root).toArray 30)).heap.size = w.heap.size + 1 := by simp
  have hS := ((St4.nil w).new 30 (.int .i64 n :: byteVals root)).new 26 (byteVals leaf)
  rw [hs1] at hS
  by_cases h32 : p.length ≤ 32
  · have q0 : decide (32 < (p.length : Int)) = false := decide_eq_false (by omega)
    have ha : ∀ w', KOk w' → Dl (fun k => k < w'.heap.size) w' (.slice op p.length cp) p → Calls Tryd.prog 28 #[.agg (.int .i64 n :: byteVals root).toArray, .int .i64 i, .agg (byteVals leaf).toArray, .slice op p.length cp] w' fun e w'' => e = .returned (.bool (inc n root i leaf p)) ∧ Below w'.heap.size w' w'' :=
      fun w' h1 h2 => inc_any n root i leaf p op cp w' h1 hr hl h2
    have hb : ∀ w', Dl (fun k => k < w'.heap.size) w' (.slice op p.length cp) p → Calls Tryd.prog 29 #[.agg (.int .i64 n :: byteVals root).toArray, .int .i64 i, .agg (byteVals leaf).toArray, .slice op p.length cp] w' fun e w'' => e = .returned (.bool (inc n root i leaf p)) ∧ Below w'.heap.size w' w'' :=
      fun w' h2 => rinc_any n root i leaf p op cp w' hr hl h2 (by omega)
    obtain ⟨bq, hbq⟩ : ∃ b, b = inc n root i leaf p := ⟨_, rfl⟩
    rw [← hbq] at ha hb
    have HS := Lib.hid hS; have HK := Lib.hid hk; have HA := Lib.hid ha; have HB := Lib.hid hb; have HP := Lib.hid hp
    clear hS hk ha hb hp hs1 hr hl hbq
    go_enter Tryd.func4, Tryd.ntmps4
    go_wp2_with fail
    refine (sane_true _ (HK.out.below HS.out.below)).mono ?_
    rintro e w1 ⟨rfl, hb⟩
    replace HS := Lib.hid (HS.out.call hb)
    clear hb
    go_upto_region 5 with fail
    refine wp_region_held_drew (S := fun w' => St4 w [(w.heap.size + 1, 26, byteVals leaf), (w.heap.size, 30, Value.int .i64 n :: byteVals root)] [] w') (by kernel_rfl) HS.out.drew (fun hHeld => ?_)
    change wpAnyH _ _ _ _ _ 12 #[false, false, false, false, false, false, false, false, false, false, false, false] _ _
    refine wpAnyH_take (i := 0) (oi := _) (v := .agg (Value.int .i64 n :: byteVals root).toArray) rfl (by kernel_rfl) (by kernel_rfl) (by kernel_rfl) (fun _ _ _ h => h) (yieldsIf_load_mid (by rfl) 30 _ rfl w.heap.size 0 rfl (Value.int .i64 n :: byteVals root) _ (fun wx hSw => hSw.range (by (with_reducible (repeat (first | exact List.mem_cons_self | refine List.mem_cons_of_mem _ ?_))))) Tryd.underlying30 rfl (s30 _ _ hrl)) (by assumption) ?_
    (try simp only [Act.put, List.setIfInBounds_toArray, List.set_cons_zero, List.set_cons_succ, List.getElem_toArray, List.getElem_cons_zero, List.getElem_cons_succ])
    refine wpAnyH_take (i := 1) (oi := _) (v := .int .i64 i) rfl (by kernel_rfl) (by kernel_rfl) (by kernel_rfl) (fun _ _ _ h => h) (Or.inl ⟨by rfl, fun wx hSw => ?_⟩) (by assumption) ?_
    · go_simp
      try (first | omega | (rw [IntKind.wrap_i64]; omega))
    (try simp only [Act.put, List.setIfInBounds_toArray, List.set_cons_zero, List.set_cons_succ, List.getElem_toArray, List.getElem_cons_zero, List.getElem_cons_succ])
    refine wpAnyH_take (i := 2) (oi := _) (v := .agg (byteVals leaf).toArray) rfl (by kernel_rfl) (by kernel_rfl) (by kernel_rfl) (fun _ _ _ h => h) (yieldsIf_load_mid (by rfl) 26 _ rfl (w.heap.size + 1) 0 rfl (byteVals leaf) _ (fun wx hSw => hSw.range (by (with_reducible (repeat (first | exact List.mem_cons_self | refine List.mem_cons_of_mem _ ?_))))) Tryd.underlying26 rfl (size26 _ hll)) (by assumption) ?_
    (try simp only [Act.put, List.setIfInBounds_toArray, List.set_cons_zero, List.set_cons_succ, List.getElem_toArray, List.getElem_cons_zero, List.getElem_cons_succ])
    refine wpAnyH_take (i := 3) (oi := _) (v := .slice op p.length cp) rfl (by kernel_rfl) (by kernel_rfl) (by kernel_rfl) (fun _ _ _ h => h) (Or.inl ⟨by rfl, fun wx hSw => ?_⟩) (by assumption) ?_
    · go_simp
      try (first | omega | (rw [IntKind.wrap_i64]; omega))
    (try simp only [Act.put, List.setIfInBounds_toArray, List.set_cons_zero, List.set_cons_succ, List.getElem_toArray, List.getElem_cons_zero, List.getElem_cons_succ])
    refine wpAnyH_take (i := 5) (oi := _) (v := .agg (Value.int .i64 n :: byteVals root).toArray) rfl (by kernel_rfl) (by kernel_rfl) (by kernel_rfl) (fun _ _ _ h => h) (yieldsIf_load_mid (by rfl) 30 _ rfl w.heap.size 0 rfl (Value.int .i64 n :: byteVals root) _ (fun wx hSw => hSw.range (by (with_reducible (repeat (first | exact List.mem_cons_self | refine List.mem_cons_of_mem _ ?_))))) Tryd.underlying30 rfl (s30 _ _ hrl)) (by assumption) ?_
    (try simp only [Act.put, List.setIfInBounds_toArray, List.set_cons_zero, List.set_cons_succ, List.getElem_toArray, List.getElem_cons_zero, List.getElem_cons_succ])
    refine wpAnyH_take (i := 6) (oi := _) (v := .int .i64 i) rfl (by kernel_rfl) (by kernel_rfl) (by kernel_rfl) (fun _ _ _ h => h) (Or.inl ⟨by rfl, fun wx hSw => ?_⟩) (by assumption) ?_
    · go_simp
      try (first | omega | (rw [IntKind.wrap_i64]; omega))
    (try simp only [Act.put, List.setIfInBounds_toArray, List.set_cons_zero, List.set_cons_succ, List.getElem_toArray, List.getElem_cons_zero, List.getElem_cons_succ])
    refine wpAnyH_take (i := 7) (oi := _) (v := .agg (byteVals leaf).toArray) rfl (by kernel_rfl) (by kernel_rfl) (by kernel_rfl) (fun _ _ _ h => h) (yieldsIf_load_mid (by rfl) 26 _ rfl (w.heap.size + 1) 0 rfl (byteVals leaf) _ (fun wx hSw => hSw.range (by (with_reducible (repeat (first | exact List.mem_cons_self | refine List.mem_cons_of_mem _ ?_))))) Tryd.underlying26 rfl (size26 _ hll)) (by assumption) ?_
    (try simp only [Act.put, List.setIfInBounds_toArray, List.set_cons_zero, List.set_cons_succ, List.getElem_toArray, List.getElem_cons_zero, List.getElem_cons_succ])
    refine wpAnyH_take (i := 8) (oi := _) (v := .slice op p.length cp) rfl (by kernel_rfl) (by kernel_rfl) (by kernel_rfl) (fun _ _ _ h => h) (Or.inl ⟨by rfl, fun wx hSw => ?_⟩) (by assumption) ?_
    · go_simp
      try (first | omega | (rw [IntKind.wrap_i64]; omega))
    (try simp only [Act.put, List.setIfInBounds_toArray, List.set_cons_zero, List.set_cons_succ, List.getElem_toArray, List.getElem_cons_zero, List.getElem_cons_succ])
    refine wpAnyH_ready (rs := [4]) (by kernel_rfl) (by simp) ?_
    refine AllReadyH.cons (o := _) rfl (fun K hK => ?_) AllReadyH.nil
    go_simp
    refine (HA.out _ (HK.out.below hHeld.below) (HP.out.on hHeld.below)).mono ?_
    rintro e V1 ⟨rfl, hb⟩
    have h5 := hHeld.call hb
    clear hb hHeld
    go_wp2_with fail
    refine hK.out _ _ (h5) (fun hHeld => ?_)
    clear hK K
    (try simp only [Act.put, List.setIfInBounds_toArray, List.set_cons_zero, List.set_cons_succ, List.getElem_toArray, List.getElem_cons_zero, List.getElem_cons_succ])
    refine wpAnyH_ready (rs := [9]) (by kernel_rfl) (by simp) ?_
    refine AllReadyH.cons (o := _) rfl (fun K hK => ?_) AllReadyH.nil
    go_simp
    refine (HB.out _ (HP.out.on hHeld.below)).mono ?_
    rintro e V2 ⟨rfl, hb⟩
    replace h5 := hHeld.call hb
    clear hb hHeld
    go_wp2_with fail
    refine hK.out _ _ (h5) (fun hHeld => ?_)
    clear hK K
    (try simp only [Act.put, List.setIfInBounds_toArray, List.set_cons_zero, List.set_cons_succ, List.getElem_toArray, List.getElem_cons_zero, List.getElem_cons_succ])
    refine wpAnyH_take (i := 10) (oi := _) (v := .bool true) rfl (by kernel_rfl) (by kernel_rfl) (by kernel_rfl) (fun _ _ _ h => h) (Or.inl ⟨by rfl, fun wx hSw => ?_⟩) (by assumption) ?_
    · go_simp
      try (first | omega | (rw [IntKind.wrap_i64]; omega))
    (try simp only [Act.put, List.setIfInBounds_toArray, List.set_cons_zero, List.set_cons_succ, List.getElem_toArray, List.getElem_cons_zero, List.getElem_cons_succ])
    refine wpAnyH_take (i := 11) (oi := _) (v := .bool true) rfl (by kernel_rfl) (by kernel_rfl) (by kernel_rfl) (fun _ _ _ h => h) (Or.inl ⟨by rfl, fun wx hSw => ?_⟩) (by assumption) ?_
    · go_simp
      try (first | omega | (rw [IntKind.wrap_i64]; omega))
    (try simp only [Act.put, List.setIfInBounds_toArray, List.set_cons_zero, List.set_cons_succ, List.getElem_toArray, List.getElem_cons_zero, List.getElem_cons_succ])
    refine wpAnyH_done (by kernel_rfl) ?_ _
    go_wp2_with fail
    go_ret
    exact ⟨rfl, h5.below⟩
  · have q0 : decide (32 < (p.length : Int)) = true := decide_eq_true (by omega)
    have HS := Lib.hid hS; have HK := Lib.hid hk
    clear hS hk hp hs1 hr hl
    go_enter Tryd.func4, Tryd.ntmps4
    go_wp2_with fail
    refine (sane_true _ (HK.out.below HS.out.below)).mono ?_
    rintro e w1 ⟨rfl, hb⟩
    replace HS := Lib.hid (HS.out.call hb)
    clear hb
    go_wp2
    go_ret
    exact ⟨rfl, HS.out.below⟩

/-- The door's own heap meets the condition. -/
theorem door_met (os : Os) (args : Array Value) : laidMetH Tryd.prog Rows.merkleIncludesMatchesReferenceRow.laid ((World.doorLaid Tryd.prog 400 os).forCall (fun _ _ => 0) ⟨#[], args, []⟩).memory :=
  laidMetH_of_parts3 (fuel := 8) (laidMet_of_run' 8 (by kernel_rfl) (by kernel_rfl)) (by kernel_rfl) (by kernel_rfl)

set_option maxRecDepth 100000 in
theorem lifted (os : Os) (started : os.Started) (H : Type) (enc : TypeId × Value → H) :
    ReturnsInHanded {} Tryd.checked os 4 .any (fun w args => (Rows.merkleIncludesMatchesReferenceSpec.pre enc Tryd.prog Tryd.f4 [] false w args ∧ laidMetH Tryd.prog Rows.merkleIncludesMatchesReferenceRow.laid w) ∧ sizedMet enc Tryd.prog Tryd.f4 (OpenSpec.ofChange Rows.merkleIncludesMatchesReferenceSpec) false w args)
      (Rows.merkleIncludesMatchesReferenceSpec.post enc Tryd.prog Tryd.f4 false true false false) := by
  refine returnsInHanded_of_change_and (C := Tryd.checked) (X := fun w _ => laidMetH Tryd.prog Rows.merkleIncludesMatchesReferenceRow.laid w) (fun _ _ _ hh h => h.of_heap hh) own started (by kernel_rfl) Tryd.func4
    (ChangeSpec.witness_shaped (enc := enc) (C := Tryd.checked) (os := os) (X := fun w _ => laidMetH Tryd.prog Rows.merkleIncludesMatchesReferenceRow.laid w) false (World.doorLaid Tryd.prog 400 os) #[.agg (Value.int .i64 0 :: byteVals (List.replicate 32 0)).toArray, .int .i64 0, .agg (byteVals (List.replicate 32 0)).toArray, .slice none 0 0] 8 rfl (World.shaped_of_RefB (by kernel_rfl) (by kernel_rfl)) (by kernel_rfl) (by kernel_rfl) (by kernel_rfl) (door_met os _)) ?_
  intro W base args ds gs before hval0 hW _ hsz0 hL _
  have hsz : (DataW.weightsEach Tryd.prog (Tryd.f4.params.toList ++ Rows.merkleIncludesMatchesReferenceSpec.plain.varTypes Tryd.prog) (ds ++ gs)).all (· ≤ reachBytes) = true := hsz0
  have hval : ∀ (j : Nat) t v, Tryd.f4.params[j]? = some t → args[j]? = some v → Value.okWide Tryd.prog W .any base t v := hval0
  clear hsz0 hval0
  have hW' := hW
  obtain ⟨p, q, hA0, hV, rfl, hfz, hnd⟩ := hW
  have hA : DataW.TrodAll enc Tryd.prog W 0 (fun _ => true) true Tryd.f4.params.toList args.toList ds p := hA0
  rw [Tryd.params4] at hA hval hsz
  obtain ⟨v0, vs0, d0, ds0, p0, q0, hargs, rfl, rfl, h0, r0⟩ := trodAll_cons hA
  obtain ⟨v1, vs1, d1, ds1, p1, q1, rfl, rfl, rfl, h1, r1⟩ := trodAll_cons r0
  obtain ⟨v2, vs2, d2, ds2, p2, q2, rfl, rfl, rfl, h2, r2⟩ := trodAll_cons r1
  obtain ⟨v3, vs3, d3, ds3, p3, q3, rfl, rfl, rfl, h3, r3⟩ := trodAll_cons r2
  obtain ⟨rfl, rfl, rfl⟩ := trodAll_nil r3
  obtain rfl : args = #[v0, v1, v2, v3] := by cases args; simp_all
  obtain ⟨rfl, rfl⟩ := trodVars_none hV
  obtain ⟨n0, D0, rfl, rc0, rD0⟩ := openCommit (hval 0 30 v0 rfl rfl) h0
  obtain ⟨a1, rfl, rfl, rfl, wf1⟩ := open_int Tryd.underlying3 (hval 1 3 v1 rfl rfl) h1
  have ru1 := i64_wf wf1
  obtain ⟨D2, rfl, hl2, hr2⟩ := openDig (hval 2 26 v2 rfl rfl) h2
  have hw3 : ∀ n ∈ d3.weights Tryd.prog 22, n ≤ reachBytes := by
    intro n hn
    have := List.all_eq_true.1 hsz n (DataW.weights_mem_each (t := 22) (d := d3) (j := 3) rfl rfl n hn)
    simpa using this
  obtain ⟨oa3, ol3, oc3, rfl⟩ := okWide_slice Tryd.underlying22 (hval 3 22 v3 rfl rfl)
  obtain ⟨fu3, hf3⟩ := h3
  obtain ⟨b3, hb3⟩ := openDs (v := .slice oa3 ol3 oc3) hf3 hw3
  obtain rfl : ol3 = b3.length := by
    obtain ⟨_, _, _, _, e, _⟩ := hb3
    simp only [Value.slice.injEq] at e
    exact e.2.1
  clear hA0
  refine (walk n0 D0 a1 D2 b3 oa3 oc3 W (kok_of_laid hL) rD0 ⟨hl2, hr2⟩ hb3).mono fun e W' ⟨he, hbw⟩ => ?_
  subst he
  refine ⟨_, rfl, post_law laidOut ?_ rfl rfl hW' rfl rfl rfl hbw⟩
  intro t ht
  rw [Tryd.params4] at ht
  have hm : t ∈ [3, 22, 26, 30] := by
    simp at ht
    rcases ht with rfl|rfl|rfl|rfl <;> simp
  have hall : ([3, 22, 26, 30].all fun u => Tryd.prog.readableRec u && decide (u < Tryd.prog.types.size)) = true := by kernel_rfl
  have := List.all_eq_true.1 hall t hm
  simpa using this

theorem over : Rows.merkleIncludesMatchesReferenceRow.holds Tryd.pinned (OpenSpec.ofChange Rows.merkleIncludesMatchesReferenceSpec) :=
  OpenClaim.holds_of_wide 4 Tryd.f4 rfl rfl rfl rfl rfl rfl rfl ⟨rfl, rfl, rfl, rfl, rfl⟩ rfl rfl rfl rfl rfl (by kernel_rfl) Tryd.func4 (by kernel_rfl)
    (of_decide_eq_true (by kernel_rfl)) (by unfold Func.isWrapper; first | (rw [if_pos (by decide +kernel)]; kernel_rfl) | (rw [if_neg (by decide +kernel)]; exact ⟨rfl, rfl⟩))
    (fun os started H enc _ => lifted os started H enc)

/-- THE STATEMENT. -/
theorem proved : Rows.MerkleIncludesMatchesReferenceCardSaid :=
  Claim7.holds_tied_plain_at .later [] [.data] true (true, "ea83294f5b67d008c3aa80d7c08f5dc94fc0d0607cdbc7283e27c890a7edc858") false
    over (fun _ h => by cases h) (by kernel_rfl) (fun _ h => by cases h) merkleIncludesMatchesReference_row_tie rfl ⟨rfl, rfl⟩ (by kernel_rfl) rfl
    (fun f fn hf hfn => by
      obtain rfl : f = 4 := Option.some.inj ((show Tryd.prog.funcNamed "wagonpool/wagonpoollaw04.MerkleIncludesMatchesReference" = some 4 by kernel_rfl).symm.trans hf) |>.symm
      obtain rfl : fn = Tryd.f4 := (Option.some.inj (Tryd.func4.symm.trans hfn)).symm
      exact ⟨by kernel_rfl, fun j t ht => by
        rw [Tryd.params4] at ht
        have hm : t ∈ [3, 22, 26, 30] := by
          have := Array.mem_of_getElem? ht
          simp at this
          rcases this with rfl|rfl|rfl|rfl <;> simp
        have hall : ([3, 22, 26, 30].all fun u => !Tryd.prog.wantsStandIn u) = true := by kernel_rfl
        exact (show Tryd.prog.wantsStandIn t = false by simpa using List.all_eq_true.1 hall t hm)⟩)
    (by kernel_rfl)
#print axioms proved
end Go.Proofs.YthmpeeipbclhkaaDoor.merkleIncludesMatchesReference
