/-
  The statement of MerkleMatchesReference: walk and row.
-/
import Derived.Test.YthmpeeipbclhkaaDoorSn
import Derived.Test.YthmpeeipbclhkaaDoorRz
import Derived.Test.YthmpeeipbclhkaaDoorSm
import Derived.Test.YthmpeeipbclhkaaDoorLw
import Derived.Test.YthmpeeipbclhkaaDoorOs
import Derived.Test.YthmpeeipbclhkaaDoorEq
import Derived.Test.YthmpeeipbclhkaaDoorEc
import Derived.Test.YthmpeeipbclhkaaDoorFi
import Derived.ChangeMaps5
namespace Go.Proofs.YthmpeeipbclhkaaDoor.merkleMatchesReference
open Go.ChangeShapes Go.WideShapes Go.ChangeAt Go.RowKit
set_option linter.unusedVariables false
set_option linter.unusedSimpArgs false

theorem dlNil (F : Nat → Prop) (w : World) : Dl F w (.slice none 0 0) [] := ⟨by simp, by simp, none, 0, rfl, by simp, by simp⟩

theorem pathBoth (l : List (List Int)) (oa : Option Addr) (oc : Nat) (i : Int) (hl : l.length ≤ 64) (hdg : ∀ x ∈ l, Dg x) : ∃ (P : List (List Int)) (E : Int),
    (∀ w', KOk w' → Dl (fun k => k < w'.heap.size) w' (.slice oa l.length oc) l → Calls Tryd.prog 17 #[.slice oa l.length oc, .int .i64 i] w' fun e w'' => ∃ a c, e = .returned (.tuple #[.slice a P.length c, .int .i64 E]) ∧ Below w'.heap.size w' w'' ∧ Dl (fun k => w'.heap.size ≤ k ∧ k < w''.heap.size) w'' (.slice a P.length c) P) ∧
    (∀ w', Dl (fun k => k < w'.heap.size) w' (.slice oa l.length oc) l → Calls Tryd.prog 18 #[.slice oa l.length oc, .int .i64 i] w' fun e w'' => ∃ a c, e = .returned (.tuple #[.slice a P.length c, .int .i64 E]) ∧ Below w'.heap.size w' w'' ∧ Dl (fun k => w'.heap.size ≤ k ∧ k < w''.heap.size) w'' (.slice a P.length c) P) := by
  by_cases h : i < 0 ∨ ((2 ^ dpt l.length : Nat) : Int) ≤ i
  · refine ⟨[], 1, fun w' _ _ => ?_, fun w' _ => ?_⟩
    · refine (pathBad_any l oa oc i w' (by omega) h).mono ?_
      rintro e w'' ⟨he, hb⟩
      exact ⟨none, 0, he, hb, dlNil _ _⟩
    · refine (rpathBad_any l oa oc i w' (by omega) h).mono ?_
      rintro e w'' ⟨he, hb⟩
      exact ⟨none, 0, he, hb, dlNil _ _⟩
  · obtain ⟨I, rfl⟩ : ∃ I : Nat, i = (I : Int) := ⟨i.toNat, by omega⟩
    have hI : I < 2 ^ dpt l.length := by omega
    refine ⟨pathD l I, 0, fun w' h1 h2 => ?_, fun w' h2 => ?_⟩
    · refine (pathOk_any l oa oc I w' h1 h2 (by omega) hI).mono ?_
      rintro e w'' ⟨v, he, hb, hd⟩
      obtain ⟨a, c, rfl⟩ := hd.shape
      exact ⟨a, c, he, hb, hd⟩
    · refine (rpathOk_any l oa oc I w' h2 (by omega) hI).mono ?_
      rintro e w'' ⟨v, he, hb, hd⟩
      obtain ⟨a, c, rfl⟩ := hd.shape
      exact ⟨a, c, he, hb, hd⟩

set_option maxRecDepth 100000 in
set_option maxHeartbeats 8000000 in
theorem walk (a b : List (List Int)) (oa ob : Option Addr) (ca cb : Nat) (j k i : Int) (w : World) (hk : KOk w) (hv : Dl (fun k => k < w.heap.size) w (.slice oa a.length ca) a) (hv2 : Dl (fun k => k < w.heap.size) w (.slice ob b.length cb) b) (hki : -9223372036854775808 ≤ k ∧ k ≤ 9223372036854775807) :
    Calls Tryd.prog 3 #[.slice oa a.length ca, .slice ob b.length cb, .int .i64 j, .int .i64 k, .int .i64 i] w fun e w' => e = .returned (.bool true) ∧ Below w.heap.size w w' := by
  have HK := Lib.hid hk
  have HV := Lib.hid hv
  have HV2 := Lib.hid hv2
  have HS := Lib.hid (St4.nil w)
  have hfa : ∀ w', Calls Tryd.prog 12 #[.slice oa a.length ca] w' fun e w'' => e = .returned (.bool (decide (a.length ≤ 64))) ∧ w' = w'' := fun w' => (few_any a oa ca w').mono (fun e w2 h => ⟨h.1, h.2.symm⟩)
  have hfb : ∀ w', Calls Tryd.prog 12 #[.slice ob b.length cb] w' fun e w'' => e = .returned (.bool (decide (b.length ≤ 64))) ∧ w' = w'' := fun w' => (few_any b ob cb w').mono (fun e w2 h => ⟨h.1, h.2.symm⟩)
  clear hk hv hv2
  by_cases h64 : a.length ≤ 64
  · rw [decide_eq_true h64] at hfa
    by_cases h65 : b.length ≤ 64
    · rw [decide_eq_true h65] at hfb
      have hdga := HV.out.2.1
      have hX := nodeV_dg a j k hdga
      have hRD := rootD_dg a hdga
      have hna : ∀ w', KOk w' → Dl (fun k => k < w'.heap.size) w' (.slice oa a.length ca) a → Calls Tryd.prog 13 #[.slice oa a.length ca, .int .i64 j, .int .i64 k] w' fun e w'' => e = .returned (.tuple #[.agg (byteVals (nodeV a j k)).toArray, .bool (!nodeX0 j k)]) ∧ Below w'.heap.size w' w'' :=
        fun w' h1 h2 => nodeC a oa ca j k w' h1 h2 (by omega)
      have hnb : ∀ w', Dl (fun k => k < w'.heap.size) w' (.slice oa a.length ca) a → Calls Tryd.prog 14 #[.slice oa a.length ca, .int .i64 j, .int .i64 k] w' fun e w'' => e = .returned (.tuple #[.agg (byteVals (nodeV a j k)).toArray, .bool (!nodeX0 j k)]) ∧ Below w'.heap.size w' w'' :=
        fun w' h2 => rnodeC a oa ca j k w' h2 (by omega) hki
      have hra : ∀ w', KOk w' → Dl (fun k => k < w'.heap.size) w' (.slice oa a.length ca) a → Calls Tryd.prog 15 #[.slice oa a.length ca] w' fun e w'' => e = .returned (.tuple #[.agg (.int .i64 (a.length : Int) :: byteVals (rootD a)).toArray, .int .i64 0]) ∧ Below w'.heap.size w' w'' :=
        fun w' h1 h2 => root_any a oa ca w' h1 h2 (by omega)
      have hrb : ∀ w', Dl (fun k => k < w'.heap.size) w' (.slice oa a.length ca) a → Calls Tryd.prog 16 #[.slice oa a.length ca] w' fun e w'' => e = .returned (.tuple #[.agg (.int .i64 (a.length : Int) :: byteVals (rootD a)).toArray, .int .i64 0]) ∧ Below w'.heap.size w' w'' :=
        fun w' h2 => rroot_any a oa ca w' h2 (by omega)
      obtain ⟨P, E, hpa, hpb⟩ := pathBoth a oa ca i h64 hdga
      obtain ⟨X, hXX⟩ : ∃ X, X = nodeV a j k := ⟨_, rfl⟩
      obtain ⟨bq, hbq⟩ : ∃ b, b = (!nodeX0 j k) := ⟨_, rfl⟩
      obtain ⟨R, hR⟩ : ∃ R, R = rootD a := ⟨_, rfl⟩
      rw [← hXX] at hX
      rw [← hR] at hRD
      simp only [← hXX, ← hbq] at hna hnb
      simp only [← hR] at hra hrb
      have hxl := hX.1; have hrl := hRD.1
      have hqa : ∀ w', KOk w' → Calls Tryd.prog 22 #[.agg (byteVals X).toArray, .agg (byteVals R).toArray] w' fun e w'' => e = .returned (.agg (byteVals (prt X R)).toArray) ∧ Below w'.heap.size w' w'' := fun w' h => parent_any X R w' h hX hRD
      have hqb : ∀ w', Calls Tryd.prog 23 #[.agg (byteVals X).toArray, .agg (byteVals R).toArray] w' fun e w'' => e = .returned (.agg (byteVals (prt X R)).toArray) ∧ Below w'.heap.size w' w'' := fun w' => rparent_any X R w' hX hRD
      have hdl := (prt_dg X R).1
      obtain ⟨D, hD⟩ : ∃ D, D = prt X R := ⟨_, rfl⟩
      rw [← hD] at hqa hqb hdl
      have hda : ∀ w', Calls Tryd.prog 24 #[.int .i64 k] w' fun e w'' => e = .returned (.int .i64 (dep k)) ∧ w' = w'' := fun w' => (depth_any k w').mono (fun e w2 h => ⟨h.1, h.2.symm⟩)
      have hdb : ∀ w', Calls Tryd.prog 25 #[.int .i64 k] w' fun e w'' => e = .returned (.int .i64 (dep k)) ∧ w' = w'' := fun w' => (rdepth_any k w').mono (fun e w2 h => ⟨h.1, h.2.symm⟩)
      obtain ⟨dk, hdk⟩ : ∃ d, d = dep k := ⟨_, rfl⟩
      rw [← hdk] at hda hdb
      have hia : ∀ w', KOk w' → Dl (fun k => k < w'.heap.size) w' (.slice oa a.length ca) a → Dl (fun k => k < w'.heap.size) w' (.slice ob b.length cb) b → Calls Tryd.prog 26 #[.slice oa a.length ca, .slice ob b.length cb] w' fun e w'' => e = .returned (.int .i64 (fdiff a b)) ∧ Below w'.heap.size w' w'' :=
        fun w' h1 h2 h3 => first_any a b oa ob ca cb w' h1 h2 h3
      have hib : ∀ w', Dl (fun k => k < w'.heap.size) w' (.slice oa a.length ca) a → Dl (fun k => k < w'.heap.size) w' (.slice ob b.length cb) b → Calls Tryd.prog 27 #[.slice oa a.length ca, .slice ob b.length cb] w' fun e w'' => e = .returned (.int .i64 (fdiff a b)) ∧ Below w'.heap.size w' w'' :=
        fun w' h2 h3 => rfirst_any a b oa ob ca cb w' h2 h3
      obtain ⟨F, hF⟩ : ∃ F, F = fdiff a b := ⟨_, rfl⟩
      simp only [← hF] at hia hib
      have hsa : ∀ w' u c u2 c2, Dl (fun k => k < w'.heap.size) w' (.slice u P.length c) P → Dl (fun k => k < w'.heap.size) w' (.slice u2 P.length c2) P → Calls Tryd.prog 19 #[.slice u P.length c, .slice u2 P.length c2] w' fun e w'' => e = .returned (.bool true) ∧ Below w'.heap.size w' w'' := by
        intro w' u c u2 c2 h1 h2
        have h := same_any P P u u2 c c2 w' h1 h2
        rw [decide_eq_true rfl] at h
        exact h
      obtain ⟨PD, hPD⟩ : ∃ PD, PD = pdd := ⟨_, rfl⟩
      have hpl : PD.length = 32 := by rw [hPD]; exact pdd_dg.1
      have hya : ∀ w', KOk w' → Calls Tryd.prog 20 #[] w' fun e w'' => e = .returned (.agg (byteVals PD).toArray) ∧ Below w'.heap.size w' w'' := fun w' h => by rw [hPD]; exact pad_any w' h
      have hyb : ∀ w', Calls Tryd.prog 21 #[] w' fun e w'' => e = .returned (.agg (byteVals PD).toArray) ∧ Below w'.heap.size w' w'' := fun w' => by rw [hPD]; exact rpad_any w'
      have ex := eqSame X hxl; have ed := eqSame D hdl; have ep := eqSame PD hpl
      have ec := eqCom (a.length : Int) R hrl
      have HFA := Lib.hid hfa; have HFB := Lib.hid hfb; have HNA := Lib.hid hna; have HNB := Lib.hid hnb; have HRA := Lib.hid hra; have HRB := Lib.hid hrb; have HPA := Lib.hid hpa; have HPB := Lib.hid hpb
      have HQA := Lib.hid hqa; have HQB := Lib.hid hqb; have HDA := Lib.hid hda; have HDB := Lib.hid hdb; have HIA := Lib.hid hia; have HIB := Lib.hid hib; have HSA := Lib.hid hsa; have HYA := Lib.hid hya; have HYB := Lib.hid hyb
      clear hfa hfb hna hnb hra hrb hpa hpb hqa hqb hda hdb hia hib hsa hya hyb hX hRD hXX hbq hR hD hdk hF hPD hdga
      go_enter Tryd.func3, Tryd.ntmps3
      go_wp2_with fail
      refine (sane_true _ (HK.out.below HS.out.below)).mono ?_
      rintro e w1 ⟨rfl, hb⟩
      replace HS := Lib.hid (HS.out.call hb)
      clear hb
      go_wp2_with fail
      refine (HFA.out _).mono ?_
      rintro e w2 ⟨rfl, rfl⟩
      go_wp2_with fail
      refine (HFB.out _).mono ?_
      rintro e w2 ⟨rfl, rfl⟩
      go_wp2_with fail
      refine (HNA.out _ (HK.out.below HS.out.below) (HV.out.on HS.out.below)).mono ?_
      rintro e wx ⟨rfl, hb⟩
      replace HS := Lib.hid (HS.out.call hb)
      clear hb
      go_wp2_with (refine wpList_newD HS.out rfl (.tmp 11) (.tmp 38) rfl rfl X rfl hxl rfl ?_; intro wS hS; replace HS := Lib.hid hS; clear hS; (try simp only [Act.put, List.setIfInBounds_toArray, List.set_cons_zero, List.set_cons_succ, List.getElem_toArray, List.getElem_cons_zero, List.getElem_cons_succ]))
      refine (HNB.out _ (HV.out.on HS.out.below)).mono ?_
      rintro e wy ⟨rfl, hb⟩
      replace HS := Lib.hid (HS.out.call hb)
      clear hb
      go_wp2_with (refine wpList_newD HS.out rfl (.tmp 13) (.tmp 45) rfl rfl X rfl hxl rfl ?_; intro wS hS; replace HS := Lib.hid hS; clear hS; (try simp only [Act.put, List.setIfInBounds_toArray, List.set_cons_zero, List.set_cons_succ, List.getElem_toArray, List.getElem_cons_zero, List.getElem_cons_succ]))
      refine (HRA.out _ (HK.out.below HS.out.below) (HV.out.on HS.out.below)).mono ?_
      rintro e wc ⟨rfl, hb⟩
      replace HS := Lib.hid (HS.out.call hb)
      clear hb
      go_wp2_with (refine wpList_newC HS.out rfl (.tmp 15) (.tmp 50) rfl rfl (a.length : Int) R rfl hrl rfl ?_; intro wS hS; replace HS := Lib.hid hS; clear hS; (try simp only [Act.put, List.setIfInBounds_toArray, List.set_cons_zero, List.set_cons_succ, List.getElem_toArray, List.getElem_cons_zero, List.getElem_cons_succ]))
      refine (HRB.out _ (HV.out.on HS.out.below)).mono ?_
      rintro e wd ⟨rfl, hb⟩
      replace HS := Lib.hid (HS.out.call hb)
      clear hb
      go_wp2_with (refine wpList_newC HS.out rfl (.tmp 17) (.tmp 55) rfl rfl (a.length : Int) R rfl hrl rfl ?_; intro wS hS; replace HS := Lib.hid hS; clear hS; (try simp only [Act.put, List.setIfInBounds_toArray, List.set_cons_zero, List.set_cons_succ, List.getElem_toArray, List.getElem_cons_zero, List.getElem_cons_succ]))
      refine (HPA.out _ (HK.out.below HS.out.below) (HV.out.on HS.out.below)).mono ?_
      rintro e wp ⟨pa, pc, rfl, hb, hd⟩
      replace HS := Lib.hid (HS.out.callAlso hb hd)
      clear hb hd
      go_wp2_with fail
      refine (HPB.out _ (HV.out.on HS.out.below)).mono ?_
      rintro e wq ⟨qa, qc, rfl, hb, hd⟩
      replace HS := Lib.hid (HS.out.callAlso hb hd)
      clear hb hd
      generalize wx.heap.size = gx at *
      generalize wy.heap.size = gy at *
      generalize wc.heap.size = gc at *
      generalize wd.heap.size = gd at *
      go_wp2_with (first | (refine wpList_loadG (by rfl) (.tmp 11) rfl gx rfl X (HS.out.range (by (with_reducible (repeat (first | exact List.mem_cons_self | refine List.mem_cons_of_mem _ ?_))))) hxl ?_; (try simp only [Act.put, List.setIfInBounds_toArray, List.set_cons_zero, List.set_cons_succ, List.getElem_toArray, List.getElem_cons_zero, List.getElem_cons_succ])) | (refine wpList_loadG (by rfl) (.tmp 13) rfl gy rfl X (HS.out.range (by (with_reducible (repeat (first | exact List.mem_cons_self | refine List.mem_cons_of_mem _ ?_))))) hxl ?_; (try simp only [Act.put, List.setIfInBounds_toArray, List.set_cons_zero, List.set_cons_succ, List.getElem_toArray, List.getElem_cons_zero, List.getElem_cons_succ])) | (refine wpList_loadC (by rfl) (.tmp 15) rfl gc rfl (.int .i64 (a.length : Int)) R (HS.out.range (by (with_reducible (repeat (first | exact List.mem_cons_self | refine List.mem_cons_of_mem _ ?_))))) hrl ?_; (try simp only [Act.put, List.setIfInBounds_toArray, List.set_cons_zero, List.set_cons_succ, List.getElem_toArray, List.getElem_cons_zero, List.getElem_cons_succ])) | (refine wpList_loadC (by rfl) (.tmp 17) rfl gd rfl (.int .i64 (a.length : Int)) R (HS.out.range (by (with_reducible (repeat (first | exact List.mem_cons_self | refine List.mem_cons_of_mem _ ?_))))) hrl ?_; (try simp only [Act.put, List.setIfInBounds_toArray, List.set_cons_zero, List.set_cons_succ, List.getElem_toArray, List.getElem_cons_zero, List.getElem_cons_succ])))
      refine (HSA.out _ _ _ _ _ (HS.out.dl (by (with_reducible (repeat (first | exact List.mem_cons_self | refine List.mem_cons_of_mem _ ?_))))) (HS.out.dl (by (with_reducible (repeat (first | exact List.mem_cons_self | refine List.mem_cons_of_mem _ ?_)))))).mono ?_
      rintro e ws ⟨rfl, hb⟩
      replace HS := Lib.hid (HS.out.call hb)
      clear hb
      go_upto_region 13 with fail
      refine wp_region_held_drew (S := fun w' => St4 w [(gd, 30, Value.int .i64 (a.length : Int) :: byteVals R), (gc, 30, Value.int .i64 (a.length : Int) :: byteVals R), (gy, 26, byteVals X), (gx, 26, byteVals X)] [(.slice qa P.length qc, P), (.slice pa P.length pc, P)] w') (by kernel_rfl) HS.out.drew (fun hHeld => ?_)
      change wpAnyH _ _ _ _ _ 31 #[false, false, false, false, false, false, false, false, false, false, false, false, false, false, false, false, false, false, false, false, false, false, false, false, false, false, false, false, false, false, false] _ _
      refine wpAnyH_ready (rs := [0]) (by kernel_rfl) (by simp) ?_
      refine AllReadyH.cons (o := _) rfl (fun K hK => ?_) AllReadyH.nil
      go_simp
      refine (HYA.out _ (HK.out.below hHeld.below)).mono ?_
      rintro e V ⟨rfl, hb⟩
      have h5 := hHeld.call hb
      clear hb hHeld
      go_wp2_with fail
      refine hK.out _ _ (h5) (fun hHeld => ?_)
      clear hK K
      (try simp only [Act.put, List.setIfInBounds_toArray, List.set_cons_zero, List.set_cons_succ, List.getElem_toArray, List.getElem_cons_zero, List.getElem_cons_succ])
      refine wpAnyH_ready (rs := [1]) (by kernel_rfl) (by simp) ?_
      refine AllReadyH.cons (o := _) rfl (fun K hK => ?_) AllReadyH.nil
      go_simp
      refine (HYB.out _).mono ?_
      rintro e V ⟨rfl, hb⟩
      replace h5 := hHeld.call hb
      clear hb hHeld
      go_wp2_with fail
      refine hK.out _ _ (h5) (fun hHeld => ?_)
      clear hK K
      (try simp only [Act.put, List.setIfInBounds_toArray, List.set_cons_zero, List.set_cons_succ, List.getElem_toArray, List.getElem_cons_zero, List.getElem_cons_succ])
      refine wpAnyH_take (i := 2) (oi := _) (v := .bool true) rfl (by kernel_rfl) (by kernel_rfl) (by kernel_rfl) (fun _ _ _ h => h) (Or.inl ⟨by rfl, fun wx hSw => ?_⟩) (by assumption) ?_
      · go_simp
        try (first | omega | (rw [IntKind.wrap_i64]; omega))
      (try simp only [Act.put, List.setIfInBounds_toArray, List.set_cons_zero, List.set_cons_succ, List.getElem_toArray, List.getElem_cons_zero, List.getElem_cons_succ])
      refine wpAnyH_take (i := 3) (oi := _) (v := .bool true) rfl (by kernel_rfl) (by kernel_rfl) (by kernel_rfl) (fun _ _ _ h => h) (Or.inl ⟨by rfl, fun wx hSw => ?_⟩) (by assumption) ?_
      · go_simp
        try (first | omega | (rw [IntKind.wrap_i64]; omega))
      (try simp only [Act.put, List.setIfInBounds_toArray, List.set_cons_zero, List.set_cons_succ, List.getElem_toArray, List.getElem_cons_zero, List.getElem_cons_succ])
      refine wpAnyH_take (i := 4) (oi := _) (v := .agg (byteVals X).toArray) rfl (by kernel_rfl) (by kernel_rfl) (by kernel_rfl) (fun _ _ _ h => h) (yieldsIf_load_mid (by rfl) 26 _ rfl gx 0 rfl (byteVals X) _ (fun wx hSw => hSw.range (by (with_reducible (repeat (first | exact List.mem_cons_self | refine List.mem_cons_of_mem _ ?_))))) Tryd.underlying26 rfl (size26 _ hxl)) (by assumption) ?_
      (try simp only [Act.put, List.setIfInBounds_toArray, List.set_cons_zero, List.set_cons_succ, List.getElem_toArray, List.getElem_cons_zero, List.getElem_cons_succ])
      refine wpAnyH_take (i := 5) (oi := _) (v := .pointer (some ⟨gc, 1, none⟩)) rfl (by kernel_rfl) (by kernel_rfl) (by kernel_rfl) (fun _ _ _ h => h) (Or.inl ⟨by rfl, fun wx hSw => ?_⟩) (by assumption) ?_
      · go_simp
        try (first | omega | (rw [IntKind.wrap_i64]; omega))
      (try simp only [Act.put, List.setIfInBounds_toArray, List.set_cons_zero, List.set_cons_succ, List.getElem_toArray, List.getElem_cons_zero, List.getElem_cons_succ])
      refine wpAnyH_take (i := 6) (oi := _) (v := .agg (byteVals R).toArray) rfl (by kernel_rfl) (by kernel_rfl) (by kernel_rfl) (fun _ _ _ h => h) (yieldsIf_load_mid (by rfl) 26 _ rfl gc 1 rfl (byteVals R) _ (fun wx hSw => range_tail (hSw.range (by (with_reducible (repeat (first | exact List.mem_cons_self | refine List.mem_cons_of_mem _ ?_)))))) Tryd.underlying26 rfl (size26 _ hrl)) (by assumption) ?_
      (try simp only [Act.put, List.setIfInBounds_toArray, List.set_cons_zero, List.set_cons_succ, List.getElem_toArray, List.getElem_cons_zero, List.getElem_cons_succ])
      refine wpAnyH_take (i := 8) (oi := _) (v := .agg (byteVals X).toArray) rfl (by kernel_rfl) (by kernel_rfl) (by kernel_rfl) (fun _ _ _ h => h) (yieldsIf_load_mid (by rfl) 26 _ rfl gx 0 rfl (byteVals X) _ (fun wx hSw => hSw.range (by (with_reducible (repeat (first | exact List.mem_cons_self | refine List.mem_cons_of_mem _ ?_))))) Tryd.underlying26 rfl (size26 _ hxl)) (by assumption) ?_
      (try simp only [Act.put, List.setIfInBounds_toArray, List.set_cons_zero, List.set_cons_succ, List.getElem_toArray, List.getElem_cons_zero, List.getElem_cons_succ])
      refine wpAnyH_take (i := 9) (oi := _) (v := .pointer (some ⟨gc, 1, none⟩)) rfl (by kernel_rfl) (by kernel_rfl) (by kernel_rfl) (fun _ _ _ h => h) (Or.inl ⟨by rfl, fun wx hSw => ?_⟩) (by assumption) ?_
      · go_simp
        try (first | omega | (rw [IntKind.wrap_i64]; omega))
      (try simp only [Act.put, List.setIfInBounds_toArray, List.set_cons_zero, List.set_cons_succ, List.getElem_toArray, List.getElem_cons_zero, List.getElem_cons_succ])
      refine wpAnyH_take (i := 10) (oi := _) (v := .agg (byteVals R).toArray) rfl (by kernel_rfl) (by kernel_rfl) (by kernel_rfl) (fun _ _ _ h => h) (yieldsIf_load_mid (by rfl) 26 _ rfl gc 1 rfl (byteVals R) _ (fun wx hSw => range_tail (hSw.range (by (with_reducible (repeat (first | exact List.mem_cons_self | refine List.mem_cons_of_mem _ ?_)))))) Tryd.underlying26 rfl (size26 _ hrl)) (by assumption) ?_
      (try simp only [Act.put, List.setIfInBounds_toArray, List.set_cons_zero, List.set_cons_succ, List.getElem_toArray, List.getElem_cons_zero, List.getElem_cons_succ])
      refine wpAnyH_ready (rs := [7]) (by kernel_rfl) (by simp) ?_
      refine AllReadyH.cons (o := _) rfl (fun K hK => ?_) AllReadyH.nil
      go_simp
      refine (HQA.out _ (HK.out.below hHeld.below)).mono ?_
      rintro e V ⟨rfl, hb⟩
      replace h5 := hHeld.call hb
      clear hb hHeld
      go_wp2_with fail
      refine hK.out _ _ (h5) (fun hHeld => ?_)
      clear hK K
      (try simp only [Act.put, List.setIfInBounds_toArray, List.set_cons_zero, List.set_cons_succ, List.getElem_toArray, List.getElem_cons_zero, List.getElem_cons_succ])
      refine wpAnyH_ready (rs := [11]) (by kernel_rfl) (by simp) ?_
      refine AllReadyH.cons (o := _) rfl (fun K hK => ?_) AllReadyH.nil
      go_simp
      refine (HQB.out _).mono ?_
      rintro e V ⟨rfl, hb⟩
      replace h5 := hHeld.call hb
      clear hb hHeld
      go_wp2_with fail
      refine hK.out _ _ (h5) (fun hHeld => ?_)
      clear hK K
      (try simp only [Act.put, List.setIfInBounds_toArray, List.set_cons_zero, List.set_cons_succ, List.getElem_toArray, List.getElem_cons_zero, List.getElem_cons_succ])
      refine wpAnyH_take (i := 12) (oi := _) (v := .bool true) rfl (by kernel_rfl) (by kernel_rfl) (by kernel_rfl) (fun _ _ _ h => h) (Or.inl ⟨by rfl, fun wx hSw => ?_⟩) (by assumption) ?_
      · go_simp
        try (first | omega | (rw [IntKind.wrap_i64]; omega))
      (try simp only [Act.put, List.setIfInBounds_toArray, List.set_cons_zero, List.set_cons_succ, List.getElem_toArray, List.getElem_cons_zero, List.getElem_cons_succ])
      refine wpAnyH_take (i := 13) (oi := _) (v := .bool true) rfl (by kernel_rfl) (by kernel_rfl) (by kernel_rfl) (fun _ _ _ h => h) (Or.inl ⟨by rfl, fun wx hSw => ?_⟩) (by assumption) ?_
      · go_simp
        try (first | omega | (rw [IntKind.wrap_i64]; omega))
      (try simp only [Act.put, List.setIfInBounds_toArray, List.set_cons_zero, List.set_cons_succ, List.getElem_toArray, List.getElem_cons_zero, List.getElem_cons_succ])
      refine wpAnyH_take (i := 14) (oi := _) (v := .bool true) rfl (by kernel_rfl) (by kernel_rfl) (by kernel_rfl) (fun _ _ _ h => h) (Or.inl ⟨by rfl, fun wx hSw => ?_⟩) (by assumption) ?_
      · go_simp
        try (first | omega | (rw [IntKind.wrap_i64]; omega))
      (try simp only [Act.put, List.setIfInBounds_toArray, List.set_cons_zero, List.set_cons_succ, List.getElem_toArray, List.getElem_cons_zero, List.getElem_cons_succ])
      refine wpAnyH_take (i := 15) (oi := _) (v := .int .i64 k) rfl (by kernel_rfl) (by kernel_rfl) (by kernel_rfl) (fun _ _ _ h => h) (Or.inl ⟨by rfl, fun wx hSw => ?_⟩) (by assumption) ?_
      · go_simp
        try (first | omega | (rw [IntKind.wrap_i64]; omega))
      (try simp only [Act.put, List.setIfInBounds_toArray, List.set_cons_zero, List.set_cons_succ, List.getElem_toArray, List.getElem_cons_zero, List.getElem_cons_succ])
      refine wpAnyH_take (i := 17) (oi := _) (v := .int .i64 k) rfl (by kernel_rfl) (by kernel_rfl) (by kernel_rfl) (fun _ _ _ h => h) (Or.inl ⟨by rfl, fun wx hSw => ?_⟩) (by assumption) ?_
      · go_simp
        try (first | omega | (rw [IntKind.wrap_i64]; omega))
      (try simp only [Act.put, List.setIfInBounds_toArray, List.set_cons_zero, List.set_cons_succ, List.getElem_toArray, List.getElem_cons_zero, List.getElem_cons_succ])
      refine wpAnyH_ready (rs := [16]) (by kernel_rfl) (by simp) ?_
      refine AllReadyH.cons (o := _) rfl (fun K hK => ?_) AllReadyH.nil
      go_simp
      refine (HDA.out _).mono ?_
      rintro e V ⟨rfl, rfl⟩
      go_wp2_with fail
      refine hK.out _ _ (hHeld) (fun hHeld => ?_)
      clear hK K
      (try simp only [Act.put, List.setIfInBounds_toArray, List.set_cons_zero, List.set_cons_succ, List.getElem_toArray, List.getElem_cons_zero, List.getElem_cons_succ])
      refine wpAnyH_ready (rs := [18]) (by kernel_rfl) (by simp) ?_
      refine AllReadyH.cons (o := _) rfl (fun K hK => ?_) AllReadyH.nil
      go_simp
      refine (HDB.out _).mono ?_
      rintro e V ⟨rfl, rfl⟩
      go_wp2_with fail
      refine hK.out _ _ (hHeld) (fun hHeld => ?_)
      clear hK K
      (try simp only [Act.put, List.setIfInBounds_toArray, List.set_cons_zero, List.set_cons_succ, List.getElem_toArray, List.getElem_cons_zero, List.getElem_cons_succ])
      refine wpAnyH_take (i := 19) (oi := _) (v := .bool true) rfl (by kernel_rfl) (by kernel_rfl) (by kernel_rfl) (fun _ _ _ h => h) (Or.inl ⟨by rfl, fun wx hSw => ?_⟩) (by assumption) ?_
      · go_simp
        try (first | omega | (rw [IntKind.wrap_i64]; omega))
      (try simp only [Act.put, List.setIfInBounds_toArray, List.set_cons_zero, List.set_cons_succ, List.getElem_toArray, List.getElem_cons_zero, List.getElem_cons_succ])
      refine wpAnyH_take (i := 20) (oi := _) (v := .bool true) rfl (by kernel_rfl) (by kernel_rfl) (by kernel_rfl) (fun _ _ _ h => h) (Or.inl ⟨by rfl, fun wx hSw => ?_⟩) (by assumption) ?_
      · go_simp
        try (first | omega | (rw [IntKind.wrap_i64]; omega))
      (try simp only [Act.put, List.setIfInBounds_toArray, List.set_cons_zero, List.set_cons_succ, List.getElem_toArray, List.getElem_cons_zero, List.getElem_cons_succ])
      refine wpAnyH_take (i := 21) (oi := _) (v := .bool true) rfl (by kernel_rfl) (by kernel_rfl) (by kernel_rfl) (fun _ _ _ h => h) (Or.inl ⟨by rfl, fun wx hSw => ?_⟩) (by assumption) ?_
      · go_simp
        try (first | omega | (rw [IntKind.wrap_i64]; omega))
      (try simp only [Act.put, List.setIfInBounds_toArray, List.set_cons_zero, List.set_cons_succ, List.getElem_toArray, List.getElem_cons_zero, List.getElem_cons_succ])
      refine wpAnyH_take (i := 22) (oi := _) (v := .slice oa a.length ca) rfl (by kernel_rfl) (by kernel_rfl) (by kernel_rfl) (fun _ _ _ h => h) (Or.inl ⟨by rfl, fun wx hSw => ?_⟩) (by assumption) ?_
      · go_simp
        try (first | omega | (rw [IntKind.wrap_i64]; omega))
      (try simp only [Act.put, List.setIfInBounds_toArray, List.set_cons_zero, List.set_cons_succ, List.getElem_toArray, List.getElem_cons_zero, List.getElem_cons_succ])
      refine wpAnyH_take (i := 23) (oi := _) (v := .slice ob b.length cb) rfl (by kernel_rfl) (by kernel_rfl) (by kernel_rfl) (fun _ _ _ h => h) (Or.inl ⟨by rfl, fun wx hSw => ?_⟩) (by assumption) ?_
      · go_simp
        try (first | omega | (rw [IntKind.wrap_i64]; omega))
      (try simp only [Act.put, List.setIfInBounds_toArray, List.set_cons_zero, List.set_cons_succ, List.getElem_toArray, List.getElem_cons_zero, List.getElem_cons_succ])
      refine wpAnyH_take (i := 25) (oi := _) (v := .slice oa a.length ca) rfl (by kernel_rfl) (by kernel_rfl) (by kernel_rfl) (fun _ _ _ h => h) (Or.inl ⟨by rfl, fun wx hSw => ?_⟩) (by assumption) ?_
      · go_simp
        try (first | omega | (rw [IntKind.wrap_i64]; omega))
      (try simp only [Act.put, List.setIfInBounds_toArray, List.set_cons_zero, List.set_cons_succ, List.getElem_toArray, List.getElem_cons_zero, List.getElem_cons_succ])
      refine wpAnyH_take (i := 26) (oi := _) (v := .slice ob b.length cb) rfl (by kernel_rfl) (by kernel_rfl) (by kernel_rfl) (fun _ _ _ h => h) (Or.inl ⟨by rfl, fun wx hSw => ?_⟩) (by assumption) ?_
      · go_simp
        try (first | omega | (rw [IntKind.wrap_i64]; omega))
      (try simp only [Act.put, List.setIfInBounds_toArray, List.set_cons_zero, List.set_cons_succ, List.getElem_toArray, List.getElem_cons_zero, List.getElem_cons_succ])
      refine wpAnyH_ready (rs := [24]) (by kernel_rfl) (by simp) ?_
      refine AllReadyH.cons (o := _) rfl (fun K hK => ?_) AllReadyH.nil
      go_simp
      refine (HIA.out _ (HK.out.below hHeld.below) (HV.out.on hHeld.below) (HV2.out.on hHeld.below)).mono ?_
      rintro e V ⟨rfl, hb⟩
      replace h5 := hHeld.call hb
      clear hb hHeld
      go_wp2_with fail
      refine hK.out _ _ (h5) (fun hHeld => ?_)
      clear hK K
      (try simp only [Act.put, List.setIfInBounds_toArray, List.set_cons_zero, List.set_cons_succ, List.getElem_toArray, List.getElem_cons_zero, List.getElem_cons_succ])
      refine wpAnyH_ready (rs := [27]) (by kernel_rfl) (by simp) ?_
      refine AllReadyH.cons (o := _) rfl (fun K hK => ?_) AllReadyH.nil
      go_simp
      refine (HIB.out _ (HV.out.on hHeld.below) (HV2.out.on hHeld.below)).mono ?_
      rintro e V ⟨rfl, hb⟩
      replace h5 := hHeld.call hb
      clear hb hHeld
      go_wp2_with fail
      refine hK.out _ _ (h5) (fun hHeld => ?_)
      clear hK K
      (try simp only [Act.put, List.setIfInBounds_toArray, List.set_cons_zero, List.set_cons_succ, List.getElem_toArray, List.getElem_cons_zero, List.getElem_cons_succ])
      refine wpAnyH_take (i := 28) (oi := _) (v := .bool true) rfl (by kernel_rfl) (by kernel_rfl) (by kernel_rfl) (fun _ _ _ h => h) (Or.inl ⟨by rfl, fun wx hSw => ?_⟩) (by assumption) ?_
      · go_simp
        try (first | omega | (rw [IntKind.wrap_i64]; omega))
      (try simp only [Act.put, List.setIfInBounds_toArray, List.set_cons_zero, List.set_cons_succ, List.getElem_toArray, List.getElem_cons_zero, List.getElem_cons_succ])
      refine wpAnyH_take (i := 29) (oi := _) (v := .bool true) rfl (by kernel_rfl) (by kernel_rfl) (by kernel_rfl) (fun _ _ _ h => h) (Or.inl ⟨by rfl, fun wx hSw => ?_⟩) (by assumption) ?_
      · go_simp
        try (first | omega | (rw [IntKind.wrap_i64]; omega))
      (try simp only [Act.put, List.setIfInBounds_toArray, List.set_cons_zero, List.set_cons_succ, List.getElem_toArray, List.getElem_cons_zero, List.getElem_cons_succ])
      refine wpAnyH_take (i := 30) (oi := _) (v := .bool true) rfl (by kernel_rfl) (by kernel_rfl) (by kernel_rfl) (fun _ _ _ h => h) (Or.inl ⟨by rfl, fun wx hSw => ?_⟩) (by assumption) ?_
      · go_simp
        try (first | omega | (rw [IntKind.wrap_i64]; omega))
      (try simp only [Act.put, List.setIfInBounds_toArray, List.set_cons_zero, List.set_cons_succ, List.getElem_toArray, List.getElem_cons_zero, List.getElem_cons_succ])
      refine wpAnyH_done (by kernel_rfl) ?_ _
      go_wp2_with fail
      go_ret
      exact ⟨rfl, h5.below⟩
    · rw [decide_eq_false h65] at hfb
      have HFA := Lib.hid hfa; have HFB := Lib.hid hfb
      clear hfa hfb
      go_enter Tryd.func3, Tryd.ntmps3
      go_wp2_with fail
      refine (sane_true _ (HK.out.below HS.out.below)).mono ?_
      rintro e w1 ⟨rfl, hb⟩
      replace HS := Lib.hid (HS.out.call hb)
      clear hb
      go_wp2_with fail
      refine (HFA.out _).mono ?_
      rintro e w2 ⟨rfl, rfl⟩
      go_wp2_with fail
      refine (HFB.out _).mono ?_
      rintro e w2 ⟨rfl, rfl⟩
      go_wp2
      go_ret
      exact ⟨rfl, HS.out.below⟩
  · rw [decide_eq_false h64] at hfa
    have HFA := Lib.hid hfa
    clear hfa hfb
    go_enter Tryd.func3, Tryd.ntmps3
    go_wp2_with fail
    refine (sane_true _ (HK.out.below HS.out.below)).mono ?_
    rintro e w1 ⟨rfl, hb⟩
    replace HS := Lib.hid (HS.out.call hb)
    clear hb
    go_wp2_with fail
    refine (HFA.out _).mono ?_
    rintro e w2 ⟨rfl, rfl⟩
    go_wp2
    go_ret
    exact ⟨rfl, HS.out.below⟩

/-- The door's own heap meets the condition. -/
theorem door_met (os : Os) (args : Array Value) : laidMetH Tryd.prog Rows.merkleMatchesReferenceRow.laid ((World.doorLaid Tryd.prog 400 os).forCall (fun _ _ => 0) ⟨#[], args, []⟩).memory :=
  laidMetH_of_parts3 (fuel := 8) (laidMet_of_run' 8 (by kernel_rfl) (by kernel_rfl)) (by kernel_rfl) (by kernel_rfl)

set_option maxRecDepth 100000 in
theorem lifted (os : Os) (started : os.Started) (H : Type) (enc : TypeId × Value → H) :
    ReturnsInHanded {} Tryd.checked os 3 .any (fun w args => (Rows.merkleMatchesReferenceSpec.pre enc Tryd.prog Tryd.f3 [] false w args ∧ laidMetH Tryd.prog Rows.merkleMatchesReferenceRow.laid w) ∧ sizedMet enc Tryd.prog Tryd.f3 (OpenSpec.ofChange Rows.merkleMatchesReferenceSpec) false w args)
      (Rows.merkleMatchesReferenceSpec.post enc Tryd.prog Tryd.f3 false true false false) := by
  refine returnsInHanded_of_change_and (C := Tryd.checked) (X := fun w _ => laidMetH Tryd.prog Rows.merkleMatchesReferenceRow.laid w) (fun _ _ _ hh h => h.of_heap hh) own started (by kernel_rfl) Tryd.func3
    (ChangeSpec.witness_shaped (enc := enc) (C := Tryd.checked) (os := os) (X := fun w _ => laidMetH Tryd.prog Rows.merkleMatchesReferenceRow.laid w) false (World.doorLaid Tryd.prog 400 os) #[.slice none 0 0, .slice none 0 0, .int .i64 0, .int .i64 0, .int .i64 0] 8 rfl (World.shaped_of_RefB (by kernel_rfl) (by kernel_rfl)) (by kernel_rfl) (by kernel_rfl) (by kernel_rfl) (door_met os _)) ?_
  intro W base args ds gs before hval0 hW _ hsz0 hL _
  have hsz : (DataW.weightsEach Tryd.prog (Tryd.f3.params.toList ++ Rows.merkleMatchesReferenceSpec.plain.varTypes Tryd.prog) (ds ++ gs)).all (· ≤ reachBytes) = true := hsz0
  have hval : ∀ (j : Nat) t v, Tryd.f3.params[j]? = some t → args[j]? = some v → Value.okWide Tryd.prog W .any base t v := hval0
  clear hsz0 hval0
  have hW' := hW
  obtain ⟨p, q, hA0, hV, rfl, hfz, hnd⟩ := hW
  have hA : DataW.TrodAll enc Tryd.prog W 0 (fun _ => true) true Tryd.f3.params.toList args.toList ds p := hA0
  rw [Tryd.params3] at hA hval hsz
  obtain ⟨v0, vs0, d0, ds0, p0, q0, hargs, rfl, rfl, h0, r0⟩ := trodAll_cons hA
  obtain ⟨v1, vs1, d1, ds1, p1, q1, rfl, rfl, rfl, h1, r1⟩ := trodAll_cons r0
  obtain ⟨v2, vs2, d2, ds2, p2, q2, rfl, rfl, rfl, h2, r2⟩ := trodAll_cons r1
  obtain ⟨v3, vs3, d3, ds3, p3, q3, rfl, rfl, rfl, h3, r3⟩ := trodAll_cons r2
  obtain ⟨v4, vs4, d4, ds4, p4, q4, rfl, rfl, rfl, h4, r4⟩ := trodAll_cons r3
  obtain ⟨rfl, rfl, rfl⟩ := trodAll_nil r4
  obtain rfl : args = #[v0, v1, v2, v3, v4] := by cases args; simp_all
  obtain ⟨rfl, rfl⟩ := trodVars_none hV
  have hw0 : ∀ n ∈ d0.weights Tryd.prog 22, n ≤ reachBytes := by
    intro n hn
    have := List.all_eq_true.1 hsz n (DataW.weights_mem_each (t := 22) (d := d0) (j := 0) rfl rfl n hn)
    simpa using this
  obtain ⟨oa0, ol0, oc0, rfl⟩ := okWide_slice Tryd.underlying22 (hval 0 22 v0 rfl rfl)
  obtain ⟨fu0, hf0⟩ := h0
  obtain ⟨b0, hb0⟩ := openDs (v := .slice oa0 ol0 oc0) hf0 hw0
  obtain rfl : ol0 = b0.length := by
    obtain ⟨_, _, _, _, e, _⟩ := hb0
    simp only [Value.slice.injEq] at e
    exact e.2.1
  have hw1 : ∀ n ∈ d1.weights Tryd.prog 22, n ≤ reachBytes := by
    intro n hn
    have := List.all_eq_true.1 hsz n (DataW.weights_mem_each (t := 22) (d := d1) (j := 1) rfl rfl n hn)
    simpa using this
  obtain ⟨oa1, ol1, oc1, rfl⟩ := okWide_slice Tryd.underlying22 (hval 1 22 v1 rfl rfl)
  obtain ⟨fu1, hf1⟩ := h1
  obtain ⟨b1, hb1⟩ := openDs (v := .slice oa1 ol1 oc1) hf1 hw1
  obtain rfl : ol1 = b1.length := by
    obtain ⟨_, _, _, _, e, _⟩ := hb1
    simp only [Value.slice.injEq] at e
    exact e.2.1
  obtain ⟨a2, rfl, rfl, rfl, wf2⟩ := open_int Tryd.underlying3 (hval 2 3 v2 rfl rfl) h2
  have ru2 := i64_wf wf2
  obtain ⟨a3, rfl, rfl, rfl, wf3⟩ := open_int Tryd.underlying3 (hval 3 3 v3 rfl rfl) h3
  have ru3 := i64_wf wf3
  obtain ⟨a4, rfl, rfl, rfl, wf4⟩ := open_int Tryd.underlying3 (hval 4 3 v4 rfl rfl) h4
  have ru4 := i64_wf wf4
  clear hA0
  refine (walk b0 b1 oa0 oa1 oc0 oc1 a2 a3 a4 W (kok_of_laid hL) hb0 hb1 ru3).mono fun e W' ⟨he, hbw⟩ => ?_
  subst he
  refine ⟨_, rfl, post_law laidOut ?_ rfl rfl hW' rfl rfl rfl hbw⟩
  intro t ht
  rw [Tryd.params3] at ht
  have hm : t ∈ [3, 22] := by
    simp at ht
    rcases ht with rfl|rfl|rfl|rfl|rfl <;> simp
  have hall : ([3, 22].all fun u => Tryd.prog.readableRec u && decide (u < Tryd.prog.types.size)) = true := by kernel_rfl
  have := List.all_eq_true.1 hall t hm
  simpa using this

theorem over : Rows.merkleMatchesReferenceRow.holds Tryd.pinned (OpenSpec.ofChange Rows.merkleMatchesReferenceSpec) :=
  OpenClaim.holds_of_wide 3 Tryd.f3 rfl rfl rfl rfl rfl rfl rfl ⟨rfl, rfl, rfl, rfl, rfl⟩ rfl rfl rfl rfl rfl (by kernel_rfl) Tryd.func3 (by kernel_rfl)
    (of_decide_eq_true (by kernel_rfl)) (by unfold Func.isWrapper; first | (rw [if_pos (by decide +kernel)]; kernel_rfl) | (rw [if_neg (by decide +kernel)]; exact ⟨rfl, rfl⟩))
    (fun os started H enc _ => lifted os started H enc)

/-- THE STATEMENT. -/
theorem proved : Rows.MerkleMatchesReferenceCardSaid :=
  Claim7.holds_tied_plain_at .later [] [.data] true (true, "ea83294f5b67d008c3aa80d7c08f5dc94fc0d0607cdbc7283e27c890a7edc858") false
    over (fun _ h => by cases h) (by kernel_rfl) (fun _ h => by cases h) merkleMatchesReference_row_tie rfl ⟨rfl, rfl⟩ (by kernel_rfl) rfl
    (fun f fn hf hfn => by
      obtain rfl : f = 3 := Option.some.inj ((show Tryd.prog.funcNamed "wagonpool/wagonpoollaw04.MerkleMatchesReference" = some 3 by kernel_rfl).symm.trans hf) |>.symm
      obtain rfl : fn = Tryd.f3 := (Option.some.inj (Tryd.func3.symm.trans hfn)).symm
      exact ⟨by kernel_rfl, fun j t ht => by
        rw [Tryd.params3] at ht
        have hm : t ∈ [3, 22] := by
          have := Array.mem_of_getElem? ht
          simp at this
          rcases this with rfl|rfl|rfl|rfl|rfl <;> simp
        have hall : ([3, 22].all fun u => !Tryd.prog.wantsStandIn u) = true := by kernel_rfl
        exact (show Tryd.prog.wantsStandIn t = false by simpa using List.all_eq_true.1 hall t hm)⟩)
    (by kernel_rfl)
#print axioms proved
end Go.Proofs.YthmpeeipbclhkaaDoor.merkleMatchesReference
