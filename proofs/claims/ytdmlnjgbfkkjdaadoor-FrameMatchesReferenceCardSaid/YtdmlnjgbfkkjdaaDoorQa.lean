/-
  The statement 'Rows.FrameMatchesReferenceCardSaid': for every byte sequence the law that Crc and Make return what the reference returns answers true; the argument reads as it did. Condition: the table of the checksum lies as the program's text lays it.
-/
import Derived.Test.YtdmlnjgbfkkjdaaDoorFr
import Derived.ChangeMaps5
namespace Go.Proofs.YtdmlnjgbfkkjdaaDoor.frameMatchesReference
open Go.ChangeShapes Go.WideShapes Go.ChangeAt Go.RowKit Go.Lib
set_option linter.unusedVariables false
set_option linter.unusedSimpArgs false

set_option maxRecDepth 100000 in
set_option maxHeartbeats 4000000 in
theorem walk (b : List Int) (v : Value) (w : World) (hk : KOk w) (hv : Bs (fun k => k < w.heap.size) w v b) :
    Calls Tryd.prog 3 #[v] w fun e w' => e = .returned (.bool true) ∧ Below w.heap.size w w' := by
  have HK := Lib.hid hk; have HV := Lib.hid hv
  have HC := Lib.hid (show ∀ wx, Below w.heap.size w wx → Calls Tryd.prog 13 #[v] wx fun e w' => e = .returned (.int .u32 (crcI b : Nat)) ∧ wx = w' from fun wx hx => crc_any b v wx (hk.below hx) (hv.on hx))
  have HD := Lib.hid (show ∀ wx, Below w.heap.size w wx → Calls Tryd.prog 14 #[v] wx fun e w' => e = .returned (.int .u32 (crcI b : Nat)) ∧ wx = w' from fun wx hx => rcrc_any b v wx (hv.on hx))
  generalize crcI b = C at *
  obtain ⟨a, c, rfl⟩ := hv.shape
  clear hk
  have hrg : Rg8 b := hv.2.1
  obtain ⟨n, hn⟩ : ∃ n, n = b.length := ⟨_, rfl⟩
  rw [← hn] at HV HC HD ⊢
  have HN := Lib.hid hn; clear hn hv
  by_cases hb : n ≤ 8192
  · have hfl := (frm_len b).2
    have HFL := Lib.hid (show (frm b).length ≤ 140737488355328 by have := HN.out; omega)
    have HRG := Lib.hid (frm_rg hrg)
    clear hfl hrg
    go_enter Tryd.func3, Tryd.ntmps3
    go_wp2_with fail
    refine (sane_true w HK.out).mono ?_
    rintro e w1 ⟨rfl, hb1⟩
    have HB1 := Lib.hid hb1; clear hb1
    go_wp2_with fail
    refine (make_any b _ w1 (HK.out.below HB1.out) (HV.out.on HB1.out) (by rw [← HN.out]; exact hb)).mono ?_
    rintro e w2 ⟨v2, rfl, hb2, ho2⟩
    have HB2 := Lib.hid (btrans HB1.out hb2)
    have HF2 := Lib.hid (Bs.own ho2 HFL.out HRG.out)
    clear hb2 ho2
    go_wp2_with fail
    refine (rmake_any b _ w2 (HV.out.on HB2.out) (by rw [← HN.out]; exact hb)).mono ?_
    rintro e w3 ⟨v3, rfl, hb3, ho3⟩
    have HB3 := Lib.hid (btrans HB2.out hb3)
    have hcv2 := conv_str (HF2.out.on hb3)
    have hcv3 := conv_str (Bs.own ho3 HFL.out HRG.out)
    clear hb3 ho3
    generalize strOfNums (frm b) = SA at *
    go_wp2_with fail
    refine (HC.out w3 HB3.out).mono ?_
    rintro e w4 ⟨rfl, rfl⟩
    go_wp2_with fail
    refine (HD.out w3 HB3.out).mono ?_
    rintro e w4 ⟨rfl, rfl⟩
    go_wp2
    go_ret
    exact ⟨rfl, HB3.out⟩
  · have hb' : 8192 < n := by omega
    clear hrg hb
    go_enter Tryd.func3, Tryd.ntmps3
    go_wp2_with fail
    refine (sane_true w HK.out).mono ?_
    rintro e w1 ⟨rfl, hb1⟩
    have HB1 := Lib.hid hb1; clear hb1
    go_wp2_with fail
    refine (make_big b _ w1 (HV.out.on HB1.out) (by rw [← HN.out]; exact hb')).mono ?_
    rintro e w2 ⟨rfl, rfl⟩
    go_wp2_with fail
    refine (rmake_big b _ w1 (HV.out.on HB1.out) (by rw [← HN.out]; exact hb')).mono ?_
    rintro e w2 ⟨rfl, rfl⟩
    have hcv := conv_str (bs_nil (fun _ => True) w1)
    go_wp2_with fail
    refine (HC.out w1 HB1.out).mono ?_
    rintro e w4 ⟨rfl, rfl⟩
    go_wp2_with fail
    refine (HD.out w1 HB1.out).mono ?_
    rintro e w4 ⟨rfl, rfl⟩
    go_wp2
    go_ret
    exact ⟨rfl, HB1.out⟩

/-- The door's own heap meets the condition. -/
theorem door_met (os : Os) (args : Array Value) : laidMetH Tryd.prog Rows.frameMatchesReferenceRow.laid ((World.doorLaid Tryd.prog 400 os).forCall (fun _ _ => 0) ⟨#[], args, []⟩).memory :=
  laidMetH_of_parts3 (fuel := 8) (laidMet_of_run' 8 (by kernel_rfl) (by kernel_rfl)) (by kernel_rfl) (by kernel_rfl)

set_option maxRecDepth 100000 in
theorem lifted (os : Os) (started : os.Started) (H : Type) (enc : TypeId × Value → H) :
    ReturnsInHanded {} Tryd.checked os 3 .any (fun w args => (Rows.frameMatchesReferenceSpec.pre enc Tryd.prog Tryd.f3 [] false w args ∧ laidMetH Tryd.prog Rows.frameMatchesReferenceRow.laid w) ∧ sizedMet enc Tryd.prog Tryd.f3 (OpenSpec.ofChange Rows.frameMatchesReferenceSpec) false w args)
      (Rows.frameMatchesReferenceSpec.post enc Tryd.prog Tryd.f3 false true false false) := by
  refine returnsInHanded_of_change_and (C := Tryd.checked) (X := fun w _ => laidMetH Tryd.prog Rows.frameMatchesReferenceRow.laid w) (fun _ _ _ hh h => h.of_heap hh) own started (by kernel_rfl) Tryd.func3
    (ChangeSpec.witness_shaped (enc := enc) (C := Tryd.checked) (os := os) (X := fun w _ => laidMetH Tryd.prog Rows.frameMatchesReferenceRow.laid w) false (World.doorLaid Tryd.prog 400 os) #[.slice none 0 0] 8 rfl (World.shaped_of_RefB (by kernel_rfl) (by kernel_rfl)) (by kernel_rfl) (by kernel_rfl) (by kernel_rfl) (door_met os _)) ?_
  intro W base args ds gs before hval0 hW _ hsz0 hL _
  have hsz : (DataW.weightsEach Tryd.prog (Tryd.f3.params.toList ++ Rows.frameMatchesReferenceSpec.plain.varTypes Tryd.prog) (ds ++ gs)).all (· ≤ reachBytes) = true := hsz0
  clear hsz0
  have hval : ∀ (j : Nat) t v, Tryd.f3.params[j]? = some t → args[j]? = some v → Value.okWide Tryd.prog W .any base t v := hval0
  clear hval0
  have hW' := hW
  obtain ⟨p, q, hA0, hV, rfl, hfz, hnd⟩ := hW
  have hA : DataW.TrodAll enc Tryd.prog W 0 (fun _ => true) true Tryd.f3.params.toList args.toList ds p := hA0
  rw [Tryd.params3] at hA hval hsz
  obtain ⟨v0, vs0, d0, ds0, p0, q0, hargs, rfl, rfl, h0, r0⟩ := trodAll_cons hA
  obtain ⟨rfl, rfl, rfl⟩ := trodAll_nil r0
  obtain rfl : args = #[v0] := by cases args; simp_all
  obtain ⟨rfl, rfl⟩ := trodVars_none hV
  have hw0 : ∀ n ∈ d0.weights Tryd.prog 22, n ≤ reachBytes := by
    intro n hn
    have := List.all_eq_true.1 hsz n (DataW.weights_mem_each (t := 22) (d := d0) (j := 0) rfl rfl n hn)
    simpa using this
  obtain ⟨oa0, ol0, oc0, rfl⟩ := okWide_slice Tryd.underlying22 (hval 0 22 v0 rfl rfl)
  obtain ⟨fu0, hf0⟩ := h0
  obtain ⟨b0, hb0⟩ := openB (v := .slice oa0 ol0 oc0) hf0 hw0
  clear hA0
  refine (walk b0 _ W (kok_of_laid hL) hb0).mono fun e W' ⟨he, hbw⟩ => ?_
  subst he
  refine ⟨_, rfl, post_law laidOut ?_ rfl rfl hW' rfl rfl rfl hbw⟩
  intro t ht
  rw [Tryd.params3] at ht
  have hm : t ∈ [22] := by
    simp at ht
    subst ht; simp
  have hall : ([22].all fun u => Tryd.prog.readableRec u && decide (u < Tryd.prog.types.size)) = true := by kernel_rfl
  have := List.all_eq_true.1 hall t hm
  simpa using this

theorem over : Rows.frameMatchesReferenceRow.holds Tryd.pinned (OpenSpec.ofChange Rows.frameMatchesReferenceSpec) :=
  OpenClaim.holds_of_wide 3 Tryd.f3 rfl rfl rfl rfl rfl rfl rfl ⟨rfl, rfl, rfl, rfl, rfl⟩ rfl rfl rfl rfl rfl (by kernel_rfl) Tryd.func3 (by kernel_rfl)
    (of_decide_eq_true (by kernel_rfl)) (by unfold Func.isWrapper; first | (rw [if_pos (by decide +kernel)]; kernel_rfl) | (rw [if_neg (by decide +kernel)]; exact ⟨rfl, rfl⟩))
    (fun os started H enc _ => lifted os started H enc)

/-- THE STATEMENT. -/
theorem proved : Rows.FrameMatchesReferenceCardSaid :=
  Claim7.holds_tied_plain_at .later [] [.data] true (true, "77527d3cf38f6b3763f46bed1e18cdecc3d688c4d8546000962d453ae035ff12") false
    over (fun _ h => by cases h) (by kernel_rfl) (fun _ h => by cases h) frameMatchesReference_row_tie rfl ⟨rfl, rfl⟩ (by kernel_rfl) rfl
    (fun f fn hf hfn => by
      obtain rfl : f = 3 := Option.some.inj ((show Tryd.prog.funcNamed "wagonpool/wagonpoollaw10.FrameMatchesReference" = some 3 by kernel_rfl).symm.trans hf) |>.symm
      obtain rfl : fn = Tryd.f3 := (Option.some.inj (Tryd.func3.symm.trans hfn)).symm
      exact ⟨by kernel_rfl, fun j t ht => by
        rw [Tryd.params3] at ht
        have hm : t ∈ [22] := by
          have := Array.mem_of_getElem? ht
          simp at this
          subst this; simp
        have hall : ([22].all fun u => !Tryd.prog.wantsStandIn u) = true := by kernel_rfl
        exact (show Tryd.prog.wantsStandIn t = false by simpa using List.all_eq_true.1 hall t hm)⟩)
    (by kernel_rfl)
#print axioms proved
end Go.Proofs.YtdmlnjgbfkkjdaaDoor.frameMatchesReference
