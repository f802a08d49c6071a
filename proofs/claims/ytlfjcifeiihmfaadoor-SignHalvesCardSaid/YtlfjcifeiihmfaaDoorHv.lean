/-
  The statement 'Rows.SignHalvesCardSaid': for all numbers the law of the halves (and of Fermat) returns true; the argument reads as it did.
-/
import Derived.Test.YtlfjcifeiihmfaaDoorMs
import Derived.Test.YtlfjcifeiihmfaaDoorLw
import Derived.ChangeMaps5
namespace Go.Proofs.YtlfjcifeiihmfaaDoor.signHalves
open Go.ChangeShapes Go.WideShapes Go.ChangeAt Go.RowKit
set_option linter.unusedVariables false

theorem vld_edge (x : Nat) (h : x < 2 ∨ x = 2305843009213690798) : vld x = false := by
  unfold vld
  rcases h with h | rfl
  · rw [decide_eq_false (by omega : ¬ 2 ≤ x), Bool.false_and]
  · rw [powP_pw _ _ (by decide)]; decide +kernel

theorem vld_mid (x : Nat) (h : 2 ≤ x) (h1 : x < 2305843009213690799) : vld x = decide (powP x 1152921504606845399 = 1) := by
  unfold vld
  rw [decide_eq_true h, decide_eq_true h1, Bool.true_and, Bool.true_and]

theorem powP_iff (x n : Nat) (h : x ^ n % PP = 1 ↔ ¬ ((PP - x) ^ n % PP = 1)) : powP x n = 1 ↔ ¬ powP (PP - x) n = 1 := h
theorem powP_one (x n : Nat) (h : x ^ n % PP = 1) : powP x n = 1 := h

theorem lit_Q : (1152921504606845399 : Nat) = QQ := rfl
theorem lit_P : (2305843009213690799 : Nat) = PP := rfl
theorem lit_P1 : (2305843009213690798 : Nat) = PP - 1 := rfl

theorem vld_neg (x : Nat) (h : 2 ≤ x) (h1 : x < 2305843009213690798) : vld (2305843009213690799 - x) = !vld x := by
  rw [vld_mid x h (by omega), vld_mid _ (by omega) (by omega), lit_Q, lit_P]
  have hh := powP_iff x _ (halves (x := x) (by omega) (by rw [← lit_P]; omega))
  by_cases c : powP x QQ = 1
  · rw [decide_eq_true c, decide_eq_false (hh.1 c), Bool.not_true]
  · have : powP (PP - x) QQ = 1 := Classical.byContradiction fun n => c (hh.2 n)
    rw [decide_eq_false c, decide_eq_true this, Bool.not_false]

theorem fermat_P (x : Nat) (h : 0 < x) (h1 : x < 2305843009213690799) : powP x 2305843009213690798 = 1 := by
  rw [lit_P1]
  rw [lit_P] at h1
  exact powP_one x _ (fermat_one prm_P (not_dvd_of_lt h h1))

set_option maxRecDepth 100000 in
set_option maxHeartbeats 2000000 in
theorem walk (a : Int) (w : World) (ha : 0 ≤ a ∧ a < 18446744073709551616) :
    Calls Tryd.prog 7 #[.int .u64 a] w fun e w' => e = .returned (.bool true) ∧ Below w.heap.size w w' := by
  obtain ⟨A, hA⟩ : ∃ A : Nat, a % 2305843009213690799 = (A : Int) := ⟨(a % 2305843009213690799).toNat, by omega⟩
  have V1 := Lib.hid (fun w => valid_any A w (by omega))
  have ha0 := ha.1
  obtain ⟨AA, hAA⟩ : ∃ z : Int, z = (A : Int) := ⟨_, rfl⟩
  have lA : 0 ≤ AA ∧ AA < 2305843009213690799 := by omega
  rw [← hAA] at V1 hA
  by_cases hc : A < 2 ∨ A = 2305843009213690798
  · rw [vld_edge A hc] at V1
    have hcA : AA < 2 ∨ 2305843009213690797 < AA := by omega
    clear hc hAA ha
    rcases hcA with hcA | hcA
    all_goals
      go_enter Tryd.func7, Tryd.ntmps7
      go_wp2_with fail
      refine (sane_true _).mono ?_
      rintro e w1 ⟨rfl, hb1⟩
      have B1 := Lib.hid hb1; clear hb1
      go_wp2_with fail
      refine (V1.out _).mono ?_
      rintro e w2 ⟨rfl, hb2⟩
      have B2 := Lib.hid (B1.out.trans (hb2.mono B1.out.size)); clear hb2
      go_wp2
      go_ret
      exact ⟨rfl, B2.out⟩
  · have V2 := Lib.hid (fun w => valid_any (2305843009213690799 - A) w (by omega))
    rw [vld_neg A (by omega) (by omega)] at V2
    have hm := Lib.hid (vld_mid A (by omega) (by omega))
    have P1 := Lib.hid (fun w => powP_any A 1152921504606845399 w (by omega) (by decide))
    have P2 := Lib.hid (fun w => powP_any A 2305843009213690798 w (by omega) (by decide))
    rw [fermat_P A (by omega) (by omega)] at P2
    obtain ⟨NN, hNN⟩ : ∃ z : Int, z = ((2305843009213690799 - A : Nat) : Int) := ⟨_, rfl⟩
    have hN : 2305843009213690799 - AA = NN := by omega
    rw [← hAA] at P1 P2
    rw [← hNN] at V2
    have e1 : ((1152921504606845399 : Nat) : Int) = 1152921504606845399 := rfl
    have e2 : ((2305843009213690798 : Nat) : Int) = 2305843009213690798 := rfl
    have e3 : ((1 : Nat) : Int) = 1 := rfl
    rw [e1] at P1
    rw [e2, e3] at P2
    have l1 : 2 ≤ AA := by omega
    have l2 : AA ≤ 2305843009213690797 := by omega
    clear e1 e2 e3 hNN hAA hc ha lA
    generalize vld A = v at *
    generalize powP A 1152921504606845399 = y at *
    obtain ⟨Y, hY⟩ : ∃ z : Int, z = (y : Int) := ⟨_, rfl⟩
    have hv : v = (Y == 1) := by
      rw [hm.out]
      by_cases c : y = 1
      · have : Y = 1 := by omega
        rw [decide_eq_true c, this]; decide
      · have : ¬ Y = 1 := by omega
        rw [decide_eq_false c, beq_eq_false_iff_ne.2 this]
    rw [← hY] at P1
    clear hm hY
    cases v
    all_goals
      have hv' := hv.symm
      clear hv
      simp only [Bool.not_true, Bool.not_false] at V2
      go_enter Tryd.func7, Tryd.ntmps7
      go_wp2_with fail
      refine (sane_true _).mono ?_
      rintro e w1 ⟨rfl, hb1⟩
      have B1 := Lib.hid hb1; clear hb1
      go_wp2_with fail
      refine (V1.out _).mono ?_
      rintro e w2 ⟨rfl, hb2⟩
      have B2 := Lib.hid (B1.out.trans (hb2.mono B1.out.size)); clear hb2
      go_wp2_with fail
      refine (V2.out _).mono ?_
      rintro e w3 ⟨rfl, hb3⟩
      have B3 := Lib.hid (B2.out.trans (hb3.mono B2.out.size)); clear hb3
      go_wp2_with fail
      refine (V1.out _).mono ?_
      rintro e w4 ⟨rfl, hb4⟩
      have B4 := Lib.hid (B3.out.trans (hb4.mono B3.out.size)); clear hb4
      go_wp2_with fail
      refine (P1.out _).mono ?_
      rintro e w5 ⟨rfl, hb5⟩
      have B5 := Lib.hid (B4.out.trans (hb5.mono B4.out.size)); clear hb5
      go_wp2_with fail
      refine (P2.out _).mono ?_
      rintro e w6 ⟨rfl, hb6⟩
      have B6 := Lib.hid (B5.out.trans (hb6.mono B5.out.size)); clear hb6
      go_wp2
      go_ret
      exact ⟨rfl, B6.out⟩


/-- The door's own heap meets the condition. -/
theorem door_met (os : Os) (args : Array Value) : laidMetH Tryd.prog Rows.signHalvesRow.laid ((World.doorLaid Tryd.prog 400 os).forCall (fun _ _ => 0) ⟨#[], args, []⟩).memory :=
  laidMetH_of_parts3 (fuel := 8) (laidMet_of_run' 8 (by kernel_rfl) (by kernel_rfl)) (by kernel_rfl) (by kernel_rfl)

set_option maxRecDepth 100000 in
theorem lifted (os : Os) (started : os.Started) (H : Type) (enc : TypeId × Value → H) :
    ReturnsInHanded {} Tryd.checked os 7 .any (fun w args => (Rows.signHalvesSpec.pre enc Tryd.prog Tryd.f7 [] false w args ∧ laidMetH Tryd.prog Rows.signHalvesRow.laid w) ∧ sizedMet enc Tryd.prog Tryd.f7 (OpenSpec.ofChange Rows.signHalvesSpec) false w args)
      (Rows.signHalvesSpec.post enc Tryd.prog Tryd.f7 false true false false) := by
  refine returnsInHanded_of_change_and (C := Tryd.checked) (X := fun w _ => laidMetH Tryd.prog Rows.signHalvesRow.laid w) (fun _ _ _ hh h => h.of_heap hh) own started (by kernel_rfl) Tryd.func7
    (ChangeSpec.witness_shaped (enc := enc) (C := Tryd.checked) (os := os) (X := fun w _ => laidMetH Tryd.prog Rows.signHalvesRow.laid w) false (World.doorLaid Tryd.prog 400 os) #[.int .u64 0] 8 rfl (World.shaped_of_RefB (by kernel_rfl) (by kernel_rfl)) (by kernel_rfl) (by kernel_rfl) (by kernel_rfl) (door_met os _)) ?_
  intro W base args ds gs before hval0 hW _ hsz0 hL _
  have hsz : (DataW.weightsEach Tryd.prog (Tryd.f7.params.toList ++ Rows.signHalvesSpec.plain.varTypes Tryd.prog) (ds ++ gs)).all (· ≤ reachBytes) = true := hsz0
  have hval : ∀ (j : Nat) t v, Tryd.f7.params[j]? = some t → args[j]? = some v → Value.okWide Tryd.prog W .any base t v := hval0
  clear hsz0 hval0
  have hW' := hW
  obtain ⟨p, q, hA0, hV, rfl, hfz, hnd⟩ := hW
  have hA : DataW.TrodAll enc Tryd.prog W 0 (fun _ => true) true Tryd.f7.params.toList args.toList ds p := hA0
  rw [Tryd.params7] at hA hval hsz
  obtain ⟨v0, vs0, d0, ds0, p0, q0, hargs, rfl, rfl, h0, r0⟩ := trodAll_cons hA
  obtain ⟨rfl, rfl, rfl⟩ := trodAll_nil r0
  obtain rfl : args = #[v0] := by cases args; simp_all
  obtain ⟨rfl, rfl⟩ := trodVars_none hV
  obtain ⟨a0, rfl, rfl, rfl, wf0⟩ := open_int Tryd.underlying23 (hval 0 23 v0 rfl rfl) h0
  have ru0 : 0 ≤ a0 ∧ a0 < 18446744073709551616 := u64_wf wf0
  clear hA0
  refine (walk a0 W ru0).mono fun e W' ⟨he, hbw⟩ => ?_
  subst he
  refine ⟨_, rfl, post_law laidOut ?_ rfl rfl hW' rfl rfl rfl hbw⟩
  intro t ht
  rw [Tryd.params7] at ht
  have hm : t ∈ [23] := by simp at ht; simp; omega
  have hall : ([23].all fun u => Tryd.prog.readableRec u && decide (u < Tryd.prog.types.size)) = true := by kernel_rfl
  have := List.all_eq_true.1 hall t hm
  simpa using this

theorem over : Rows.signHalvesRow.holds Tryd.pinned (OpenSpec.ofChange Rows.signHalvesSpec) :=
  OpenClaim.holds_of_wide 7 Tryd.f7 rfl rfl rfl rfl rfl rfl rfl ⟨rfl, rfl, rfl, rfl, rfl⟩ rfl rfl rfl rfl rfl (by kernel_rfl) Tryd.func7 (by kernel_rfl)
    (of_decide_eq_true (by kernel_rfl)) (by unfold Func.isWrapper; first | (rw [if_pos (by decide +kernel)]; kernel_rfl) | (rw [if_neg (by decide +kernel)]; exact ⟨rfl, rfl⟩))
    (fun os started H enc _ => lifted os started H enc)

/-- THE STATEMENT. -/
theorem proved : Rows.SignHalvesCardSaid :=
  Claim7.holds_tied_plain_at .later [] [.data] true (true, "f6b8e2bca58b870a70669e1a5b4edbfcbd882eeab9a8bd45ca4f43270d351360") false
    over (fun _ h => by cases h) (by kernel_rfl) (fun _ h => by cases h) signHalves_row_tie rfl ⟨rfl, rfl⟩ (by kernel_rfl) rfl
    (fun f fn hf hfn => by
      obtain rfl : f = 7 := Option.some.inj ((show Tryd.prog.funcNamed "wagonpool/wagonpoollaw03.SignHalves" = some 7 by kernel_rfl).symm.trans hf) |>.symm
      obtain rfl : fn = Tryd.f7 := (Option.some.inj (Tryd.func7.symm.trans hfn)).symm
      exact ⟨by kernel_rfl, fun j t ht => by
        rw [Tryd.params7] at ht
        have hm : t ∈ [23] := by have := Array.mem_of_getElem? ht; simp at this; simp; omega
        have hall : ([23].all fun u => !Tryd.prog.wantsStandIn u) = true := by kernel_rfl
        exact (show Tryd.prog.wantsStandIn t = false by simpa using List.all_eq_true.1 hall t hm)⟩)
    (by kernel_rfl)
#print axioms proved
end Go.Proofs.YtlfjcifeiihmfaaDoor.signHalves
