/-
  The statement of MerklePads: walk and row.
-/
import Derived.Test.YthmpeeipbclhkaaDoorSn
import Derived.Test.YthmpeeipbclhkaaDoorNc
import Derived.Test.YthmpeeipbclhkaaDoorLw
import Derived.Test.YthmpeeipbclhkaaDoorOs
import Derived.Test.YthmpeeipbclhkaaDoorEq
import Derived.Test.YthmpeeipbclhkaaDoorFi
import Derived.ChangeMaps5
namespace Go.Proofs.YthmpeeipbclhkaaDoor.merklePads
set_option linter.unusedSimpArgs false
open Go.ChangeShapes Go.WideShapes Go.ChangeAt Go.RowKit
set_option linter.unusedVariables false

theorem fdiff_same (a b : List (List Int)) (h : ∀ j, a.getD j pdd = b.getD j pdd) : fdiff a b = -1 := ffrom_same _ _ _ 0 h

theorem nd_same (l m : List (List Int)) (h : ∀ j, l.getD j pdd = m.getD j pdd) (j k : Nat) : nd prt pdd l j k = nd prt pdd m j k := nd_local prt pdd l m j k k (fun t _ => h _)

theorem nodeV_same (l m : List (List Int)) (h : ∀ j, l.getD j pdd = m.getD j pdd) (j k : Int) : nodeV l j k = nodeV m j k := by
  unfold nodeV; rw [nd_same l m h]

theorem pads_getD (l : List (List Int)) (n j : Nat) : l.getD j pdd = (l ++ List.replicate n pdd).getD j pdd := by
  rw [List.getD_eq_getElem?_getD, List.getD_eq_getElem?_getD]
  by_cases h : j < l.length
  · rw [List.getElem?_append_left h]
  · rw [List.getElem?_append_right (by omega), List.getElem?_eq_none (by omega), List.getElem?_replicate]
    split <;> rfl

theorem apsLen {w wr : World} {v : Value} {ds : List (List Int)} (h : ApS w ds v wr) : ∃ a c, v = .slice a ds.length c := by
  rcases h.own.2 with ⟨h0, h1⟩ | ⟨g, cap, cr, h1, _⟩
  · exact ⟨none, 0, by rw [h0, h1]⟩
  · exact ⟨_, _, h1⟩

set_option maxRecDepth 100000 in
set_option maxHeartbeats 4000000 in
theorem walk (l : List (List Int)) (oa : Option Addr) (oc : Nat) (more j k : Int) (w : World) (hk : KOk w) (hv : Dl (fun k => k < w.heap.size) w (.slice oa l.length oc) l) (hm : -9223372036854775808 ≤ more ∧ more ≤ 9223372036854775807) :
    Calls Tryd.prog 8 #[.slice oa l.length oc, .int .i64 more, .int .i64 j, .int .i64 k] w fun e w' => e = .returned (.bool true) ∧ Below w.heap.size w w' := by
  have HK := Lib.hid hk
  have HV := Lib.hid hv
  have HS := Lib.hid (St4.nil w)
  have hll := hv.1
  clear hk hv
  by_cases h40 : l.length ≤ 40
  · have q0 : ¬ (40 < (l.length : Int)) := by omega
    have hpad : ∀ w', KOk w' → Calls Tryd.prog 20 #[] w' fun e w'' => e = .returned (.agg (byteVals pdd).toArray) ∧ Below w'.heap.size w' w'' := fun w' h => pad_any w' h
    have hpl := pdd_dg.1
    have hdg : ∀ n, ∀ x ∈ l ++ List.replicate n pdd, Dg x := by
      intro n x hx
      rcases List.mem_append.1 hx with h | h
      · exact HV.out.2.1 x h
      · rw [List.mem_replicate] at h; rw [h.2]; exact pdd_dg
    have hgd := pads_getD l
    have hna : ∀ w', KOk w' → Dl (fun k => k < w'.heap.size) w' (.slice oa l.length oc) l → Calls Tryd.prog 13 #[.slice oa l.length oc, .int .i64 j, .int .i64 k] w' fun e w'' => e = .returned (.tuple #[.agg (byteVals (nodeV l j k)).toArray, .bool (!nodeX0 j k)]) ∧ Below w'.heap.size w' w'' :=
      fun w' h1 h2 => nodeC l oa oc j k w' h1 h2 (by omega)
    have hnb : ∀ n a c w', n ≤ 24 → KOk w' → Dl (fun k => k < w'.heap.size) w' (.slice a (l.length + n) c) (l ++ List.replicate n pdd) → Calls Tryd.prog 13 #[.slice a (l.length + n) c, .int .i64 j, .int .i64 k] w' fun e w'' => e = .returned (.tuple #[.agg (byteVals (nodeV l j k)).toArray, .bool (!nodeX0 j k)]) ∧ Below w'.heap.size w' w'' := by
      intro n a c w' hn h1 h2
      have hlen : (l ++ List.replicate n pdd).length = l.length + n := by simp
      have h := nodeC (l ++ List.replicate n pdd) a c j k w' h1 (by rw [hlen]; exact h2) (by omega)
      rw [hlen, ← nodeV_same l (l ++ List.replicate n pdd) (hgd n)] at h
      exact h
    have hfa : ∀ n a c w', KOk w' → Dl (fun k => k < w'.heap.size) w' (.slice oa l.length oc) l → Dl (fun k => k < w'.heap.size) w' (.slice a (l.length + n) c) (l ++ List.replicate n pdd) → Calls Tryd.prog 26 #[.slice oa l.length oc, .slice a (l.length + n) c] w' fun e w'' => e = .returned (.int .i64 (-1)) ∧ Below w'.heap.size w' w'' := by
      intro n a c w' h1 h2 h3
      have hlen : (l ++ List.replicate n pdd).length = l.length + n := by simp
      have h := first_any l (l ++ List.replicate n pdd) oa a oc c w' h1 h2 (by rw [hlen]; exact h3)
      rw [hlen, fdiff_same l _ (hgd n)] at h
      exact h
    have hfb : ∀ n a c w', KOk w' → Dl (fun k => k < w'.heap.size) w' (.slice oa l.length oc) l → Dl (fun k => k < w'.heap.size) w' (.slice a (l.length + n) c) (l ++ List.replicate n pdd) → Calls Tryd.prog 26 #[.slice a (l.length + n) c, .slice oa l.length oc] w' fun e w'' => e = .returned (.int .i64 (-1)) ∧ Below w'.heap.size w' w'' := by
      intro n a c w' h1 h2 h3
      have hlen : (l ++ List.replicate n pdd).length = l.length + n := by simp
      have h := first_any (l ++ List.replicate n pdd) l a oa c oc w' h1 (by rw [hlen]; exact h3) h2
      rw [hlen, fdiff_same _ l (fun j => (hgd n j).symm)] at h
      exact h
    obtain ⟨D, hD⟩ : ∃ D, D = nodeV l j k := ⟨_, rfl⟩
    have hDl : D.length = 32 := by rw [hD]; exact nodeV_len l j k HV.out.2.1
    obtain ⟨bq, hbq⟩ : ∃ b, b = (!nodeX0 j k) := ⟨_, rfl⟩
    rw [← hD, ← hbq] at hna hnb
    obtain ⟨PD, hPD⟩ : ∃ PD, PD = pdd := ⟨_, rfl⟩
    rw [← hPD] at hpad hpl hdg hnb hfa hfb
    have ed := eqSame D hDl
    have HP := Lib.hid hpad; have HDG := Lib.hid hdg; have HNA := Lib.hid hna; have HNB := Lib.hid hnb; have HFA := Lib.hid hfa; have HFB := Lib.hid hfb
    clear hpad hdg hna hnb hfa hfb hD hbq hPD hgd
    go_enter Tryd.func8, Tryd.ntmps8
    go_wp2_with fail
    refine (sane_true _ (HK.out.below HS.out.below)).mono ?_
    rintro e w1 ⟨rfl, hb⟩
    replace HS := Lib.hid (HS.out.call hb)
    clear hb
    obtain ⟨v1, wa, hr1, h1⟩ := (ApS.new w1).pushL (fun k => k < (w1.alloc (.cells #[] 26)).heap.size) (l := l) (u := .slice oa l.length oc) ((HV.out.on (HS.out.alloc (.cells #[] 26)).below)) (by simp; omega)
    rw [List.nil_append] at h1
    have R1 := Lib.hid hr1; have H1 := Lib.hid h1
    clear hr1 h1
    go_wp2_with (first | (at_builtin; refine wp_appd rfl rfl rfl (.tmp 20) (.tmp 21) rfl rfl rfl R1.out ?_))
    go_loopw [9, 10] (fun x i wr => ∃ n : Nat, n ≤ 24 ∧ i = .int .i64 n ∧ Hid (ApS w1 (l ++ List.replicate n PD) x wr)) (fun _ i _ => 24 - (intOf i).toNat)
    case atStart => exact ⟨0, by omega, rfl, by rw [List.replicate_zero, List.append_nil]; exact H1⟩
    case round =>
      clear H1 R1
      obtain ⟨n, hn, rfl, H⟩ := hrel
      by_cases hlt : n < 24 ∧ (n : Int) < more
      · obtain ⟨b1, b2⟩ := hlt
        have b3 : (n : Int) < 24 := by omega
        have hf := fold_zero PD hpl
        have hbl : (byteVals PD).length = 32 := by rw [byteVals_length, hpl]
        go_wp2_with fail
        refine (HP.out _ (HK.out.below (HS.out.call H.out.below).below)).mono ?_
        rintro e w5 ⟨rfl, hb5⟩
        obtain ⟨v6, w6, hr6, h6⟩ := (H.out.call hb5).push PD hpl (by simp; omega)
        rw [List.append_assoc, ← List.replicate_succ'] at h6
        have H6 := Lib.hid h6; have R6 := Lib.hid hr6
        clear h6 hr6 hb5
        go_wp2_with (first | (at_builtin; refine wp_appd rfl rfl rfl (.tmp 32) (.tmp 34) rfl rfl rfl R6.out ?_))
        go_roundw
        case rel => exact ⟨n + 1, by omega, by go_num, H6⟩
        case measure => simp [intOf]; omega
      · have hdl := own_dl H.out.own (HDG.out n) (by simp; omega)
        obtain ⟨va, vc, rfl⟩ := apsLen H.out
        have hlen : (l ++ List.replicate n PD).length = l.length + n := by simp
        rw [hlen] at hdl ⊢
        replace HS := Lib.hid (HS.out.callAlso H.out.below hdl)
        clear hdl H hlen
        have hcase : (n : Int) < more ∧ ¬ ((n : Int) < 24) ∨ ¬ ((n : Int) < more) := by omega
        clear hlt
        rcases hcase with ⟨b1, b2⟩ | b1
        · have b3 : decide ((n : Int) < 24) = false := decide_eq_false b2
          go_wp2_with fail
          refine (HNA.out _ (HK.out.below HS.out.below) (HV.out.on HS.out.below)).mono ?_
          rintro e wx ⟨rfl, hb⟩
          replace HS := Lib.hid (HS.out.call hb)
          clear hb
          go_wp2_with (refine wpList_newD HS.out rfl (.tmp 11) (.tmp 41) rfl rfl D rfl hDl rfl ?_; intro wS hS; replace HS := Lib.hid hS; clear hS; (try simp only [Act.put, List.setIfInBounds_toArray, List.set_cons_zero, List.set_cons_succ, List.getElem_toArray, List.getElem_cons_zero, List.getElem_cons_succ]))
          refine (HNB.out _ _ _ _ hn (HK.out.below HS.out.below) (HS.out.dl (by (with_reducible (repeat (first | exact List.mem_cons_self | refine List.mem_cons_of_mem _ ?_)))))).mono ?_
          rintro e wy ⟨rfl, hb⟩
          replace HS := Lib.hid (HS.out.call hb)
          clear hb
          go_wp2_with (first | (refine wpList_newD HS.out rfl (.tmp 13) (.tmp 48) rfl rfl D rfl hDl rfl ?_; intro wS hS; replace HS := Lib.hid hS; clear hS; (try simp only [Act.put, List.setIfInBounds_toArray, List.set_cons_zero, List.set_cons_succ, List.getElem_toArray, List.getElem_cons_zero, List.getElem_cons_succ])) | (refine wpList_loadG (by rfl) (.tmp 11) rfl wx.heap.size rfl D (HS.out.range (by (with_reducible (repeat (first | exact List.mem_cons_self | refine List.mem_cons_of_mem _ ?_))))) hDl ?_; (try simp only [Act.put, List.setIfInBounds_toArray, List.set_cons_zero, List.set_cons_succ, List.getElem_toArray, List.getElem_cons_zero, List.getElem_cons_succ])) | (refine wpList_loadG (by rfl) (.tmp 13) rfl wy.heap.size rfl D (HS.out.range (by (with_reducible (repeat (first | exact List.mem_cons_self | refine List.mem_cons_of_mem _ ?_))))) hDl ?_; (try simp only [Act.put, List.setIfInBounds_toArray, List.set_cons_zero, List.set_cons_succ, List.getElem_toArray, List.getElem_cons_zero, List.getElem_cons_succ])))
          refine (HFA.out _ _ _ _ (HK.out.below HS.out.below) (HV.out.on HS.out.below) (HS.out.dl (by (with_reducible (repeat (first | exact List.mem_cons_self | refine List.mem_cons_of_mem _ ?_)))))).mono ?_
          rintro e wz ⟨rfl, hb⟩
          replace HS := Lib.hid (HS.out.call hb)
          clear hb
          go_wp2_with fail
          refine (HFB.out _ _ _ _ (HK.out.below HS.out.below) (HV.out.on HS.out.below) (HS.out.dl (by (with_reducible (repeat (first | exact List.mem_cons_self | refine List.mem_cons_of_mem _ ?_)))))).mono ?_
          rintro e wu ⟨rfl, hb⟩
          replace HS := Lib.hid (HS.out.call hb)
          clear hb
          go_wp2
          go_ret
          exact ⟨rfl, HS.out.below⟩
        · have b3 : decide ((n : Int) < more) = false := decide_eq_false b1
          go_wp2_with fail
          refine (HNA.out _ (HK.out.below HS.out.below) (HV.out.on HS.out.below)).mono ?_
          rintro e wx ⟨rfl, hb⟩
          replace HS := Lib.hid (HS.out.call hb)
          clear hb
          go_wp2_with (refine wpList_newD HS.out rfl (.tmp 11) (.tmp 41) rfl rfl D rfl hDl rfl ?_; intro wS hS; replace HS := Lib.hid hS; clear hS; (try simp only [Act.put, List.setIfInBounds_toArray, List.set_cons_zero, List.set_cons_succ, List.getElem_toArray, List.getElem_cons_zero, List.getElem_cons_succ]))
          refine (HNB.out _ _ _ _ hn (HK.out.below HS.out.below) (HS.out.dl (by (with_reducible (repeat (first | exact List.mem_cons_self | refine List.mem_cons_of_mem _ ?_)))))).mono ?_
          rintro e wy ⟨rfl, hb⟩
          replace HS := Lib.hid (HS.out.call hb)
          clear hb
          go_wp2_with (first | (refine wpList_newD HS.out rfl (.tmp 13) (.tmp 48) rfl rfl D rfl hDl rfl ?_; intro wS hS; replace HS := Lib.hid hS; clear hS; (try simp only [Act.put, List.setIfInBounds_toArray, List.set_cons_zero, List.set_cons_succ, List.getElem_toArray, List.getElem_cons_zero, List.getElem_cons_succ])) | (refine wpList_loadG (by rfl) (.tmp 11) rfl wx.heap.size rfl D (HS.out.range (by (with_reducible (repeat (first | exact List.mem_cons_self | refine List.mem_cons_of_mem _ ?_))))) hDl ?_; (try simp only [Act.put, List.setIfInBounds_toArray, List.set_cons_zero, List.set_cons_succ, List.getElem_toArray, List.getElem_cons_zero, List.getElem_cons_succ])) | (refine wpList_loadG (by rfl) (.tmp 13) rfl wy.heap.size rfl D (HS.out.range (by (with_reducible (repeat (first | exact List.mem_cons_self | refine List.mem_cons_of_mem _ ?_))))) hDl ?_; (try simp only [Act.put, List.setIfInBounds_toArray, List.set_cons_zero, List.set_cons_succ, List.getElem_toArray, List.getElem_cons_zero, List.getElem_cons_succ])))
          refine (HFA.out _ _ _ _ (HK.out.below HS.out.below) (HV.out.on HS.out.below) (HS.out.dl (by (with_reducible (repeat (first | exact List.mem_cons_self | refine List.mem_cons_of_mem _ ?_)))))).mono ?_
          rintro e wz ⟨rfl, hb⟩
          replace HS := Lib.hid (HS.out.call hb)
          clear hb
          go_wp2_with fail
          refine (HFB.out _ _ _ _ (HK.out.below HS.out.below) (HV.out.on HS.out.below) (HS.out.dl (by (with_reducible (repeat (first | exact List.mem_cons_self | refine List.mem_cons_of_mem _ ?_)))))).mono ?_
          rintro e wu ⟨rfl, hb⟩
          replace HS := Lib.hid (HS.out.call hb)
          clear hb
          go_wp2
          go_ret
          exact ⟨rfl, HS.out.below⟩
  · have q0 : 40 < (l.length : Int) := by omega
    go_enter Tryd.func8, Tryd.ntmps8
    go_wp2_with fail
    refine (sane_true _ (HK.out.below HS.out.below)).mono ?_
    rintro e w1 ⟨rfl, hb⟩
    replace HS := Lib.hid (HS.out.call hb)
    clear hb
    go_wp2
    go_ret
    exact ⟨rfl, HS.out.below⟩

/-- The door's own heap meets the condition. -/
theorem door_met (os : Os) (args : Array Value) : laidMetH Tryd.prog Rows.merklePadsRow.laid ((World.doorLaid Tryd.prog 400 os).forCall (fun _ _ => 0) ⟨#[], args, []⟩).memory :=
  laidMetH_of_parts3 (fuel := 8) (laidMet_of_run' 8 (by kernel_rfl) (by kernel_rfl)) (by kernel_rfl) (by kernel_rfl)

set_option maxRecDepth 100000 in
theorem lifted (os : Os) (started : os.Started) (H : Type) (enc : TypeId × Value → H) :
    ReturnsInHanded {} Tryd.checked os 8 .any (fun w args => (Rows.merklePadsSpec.pre enc Tryd.prog Tryd.f8 [] false w args ∧ laidMetH Tryd.prog Rows.merklePadsRow.laid w) ∧ sizedMet enc Tryd.prog Tryd.f8 (OpenSpec.ofChange Rows.merklePadsSpec) false w args)
      (Rows.merklePadsSpec.post enc Tryd.prog Tryd.f8 false true false false) := by
  refine returnsInHanded_of_change_and (C := Tryd.checked) (X := fun w _ => laidMetH Tryd.prog Rows.merklePadsRow.laid w) (fun _ _ _ hh h => h.of_heap hh) own started (by kernel_rfl) Tryd.func8
    (ChangeSpec.witness_shaped (enc := enc) (C := Tryd.checked) (os := os) (X := fun w _ => laidMetH Tryd.prog Rows.merklePadsRow.laid w) false (World.doorLaid Tryd.prog 400 os) #[.slice none 0 0, .int .i64 0, .int .i64 0, .int .i64 0] 8 rfl (World.shaped_of_RefB (by kernel_rfl) (by kernel_rfl)) (by kernel_rfl) (by kernel_rfl) (by kernel_rfl) (door_met os _)) ?_
  intro W base args ds gs before hval0 hW _ hsz0 hL _
  have hsz : (DataW.weightsEach Tryd.prog (Tryd.f8.params.toList ++ Rows.merklePadsSpec.plain.varTypes Tryd.prog) (ds ++ gs)).all (· ≤ reachBytes) = true := hsz0
  have hval : ∀ (j : Nat) t v, Tryd.f8.params[j]? = some t → args[j]? = some v → Value.okWide Tryd.prog W .any base t v := hval0
  clear hsz0 hval0
  have hW' := hW
  obtain ⟨p, q, hA0, hV, rfl, hfz, hnd⟩ := hW
  have hA : DataW.TrodAll enc Tryd.prog W 0 (fun _ => true) true Tryd.f8.params.toList args.toList ds p := hA0
  rw [Tryd.params8] at hA hval hsz
  obtain ⟨v0, vs0, d0, ds0, p0, q0, hargs, rfl, rfl, h0, r0⟩ := trodAll_cons hA
  obtain ⟨v1, vs1, d1, ds1, p1, q1, rfl, rfl, rfl, h1, r1⟩ := trodAll_cons r0
  obtain ⟨v2, vs2, d2, ds2, p2, q2, rfl, rfl, rfl, h2, r2⟩ := trodAll_cons r1
  obtain ⟨v3, vs3, d3, ds3, p3, q3, rfl, rfl, rfl, h3, r3⟩ := trodAll_cons r2
  obtain ⟨rfl, rfl, rfl⟩ := trodAll_nil r3
  obtain rfl : args = #[v0, v1, v2, v3] := by cases args; simp_all
  obtain ⟨rfl, rfl⟩ := trodVars_none hV
  have hw0 : ∀ n ∈ d0.weights Tryd.prog 22, n ≤ reachBytes := by
    intro n hn
    have := List.all_eq_true.1 hsz n (DataW.weights_mem_each (t := 22) (d := d0) (j := 0) rfl rfl n hn)
    simpa using this
  obtain ⟨oa0, ol0, oc0, rfl⟩ := okWide_slice Tryd.underlying22 (hval 0 22 v0 rfl rfl)
  obtain ⟨fu0, hf0⟩ := h0
  obtain ⟨b0, hb0⟩ := openDs (v := .slice oa0 ol0 oc0) hf0 hw0
  obtain rfl : ol0 = b0.length := by
    obtain ⟨_, _, _, _, e, _⟩ := hb0
    simp only [Value.slice.injEq] at e
    exact e.2.1
  obtain ⟨a1, rfl, rfl, rfl, wf1⟩ := open_int Tryd.underlying3 (hval 1 3 v1 rfl rfl) h1
  have ru1 := i64_wf wf1
  obtain ⟨a2, rfl, rfl, rfl, wf2⟩ := open_int Tryd.underlying3 (hval 2 3 v2 rfl rfl) h2
  have ru2 := i64_wf wf2
  obtain ⟨a3, rfl, rfl, rfl, wf3⟩ := open_int Tryd.underlying3 (hval 3 3 v3 rfl rfl) h3
  have ru3 := i64_wf wf3
  clear hA0
  refine (walk b0 oa0 oc0 a1 a2 a3 W (kok_of_laid hL) hb0 ru1).mono fun e W' ⟨he, hbw⟩ => ?_
  subst he
  refine ⟨_, rfl, post_law laidOut ?_ rfl rfl hW' rfl rfl rfl hbw⟩
  intro t ht
  rw [Tryd.params8] at ht
  have hm : t ∈ [3, 22] := by
    simp at ht
    rcases ht with rfl|rfl|rfl|rfl <;> simp
  have hall : ([3, 22].all fun u => Tryd.prog.readableRec u && decide (u < Tryd.prog.types.size)) = true := by kernel_rfl
  have := List.all_eq_true.1 hall t hm
  simpa using this

theorem over : Rows.merklePadsRow.holds Tryd.pinned (OpenSpec.ofChange Rows.merklePadsSpec) :=
  OpenClaim.holds_of_wide 8 Tryd.f8 rfl rfl rfl rfl rfl rfl rfl ⟨rfl, rfl, rfl, rfl, rfl⟩ rfl rfl rfl rfl rfl (by kernel_rfl) Tryd.func8 (by kernel_rfl)
    (of_decide_eq_true (by kernel_rfl)) (by unfold Func.isWrapper; first | (rw [if_pos (by decide +kernel)]; kernel_rfl) | (rw [if_neg (by decide +kernel)]; exact ⟨rfl, rfl⟩))
    (fun os started H enc _ => lifted os started H enc)

/-- THE STATEMENT. -/
theorem proved : Rows.MerklePadsCardSaid :=
  Claim7.holds_tied_plain_at .later [] [.data] true (true, "ea83294f5b67d008c3aa80d7c08f5dc94fc0d0607cdbc7283e27c890a7edc858") false
    over (fun _ h => by cases h) (by kernel_rfl) (fun _ h => by cases h) merklePads_row_tie rfl ⟨rfl, rfl⟩ (by kernel_rfl) rfl
    (fun f fn hf hfn => by
      obtain rfl : f = 8 := Option.some.inj ((show Tryd.prog.funcNamed "wagonpool/wagonpoollaw04.MerklePads" = some 8 by kernel_rfl).symm.trans hf) |>.symm
      obtain rfl : fn = Tryd.f8 := (Option.some.inj (Tryd.func8.symm.trans hfn)).symm
      exact ⟨by kernel_rfl, fun j t ht => by
        rw [Tryd.params8] at ht
        have hm : t ∈ [3, 22] := by
          have := Array.mem_of_getElem? ht
          simp at this
          rcases this with rfl|rfl|rfl|rfl <;> simp
        have hall : ([3, 22].all fun u => !Tryd.prog.wantsStandIn u) = true := by kernel_rfl
        exact (show Tryd.prog.wantsStandIn t = false by simpa using List.all_eq_true.1 hall t hm)⟩)
    (by kernel_rfl)
#print axioms proved
end Go.Proofs.YthmpeeipbclhkaaDoor.merklePads
