/-
  The statement 'Rows.SignKeysCardSaid': for all secret keys the law of the keys returns true; the arguments read as they did.
-/
import Derived.Test.YtlfjcifeiihmfaaDoorMs
import Derived.Test.YtlfjcifeiihmfaaDoorLw
import Derived.ChangeMaps5
namespace Go.Proofs.YtlfjcifeiihmfaaDoor.signKeys
open Go.ChangeShapes Go.WideShapes Go.ChangeAt Go.RowKit
set_option linter.unusedVariables false

theorem keys_mul (a b : Nat) : powP 4 a * powP 4 b % 2305843009213690799 = powP 4 ((a + b) % 1152921504606845399) := by
  have h := G_cycle (a + b)
  unfold powP
  rw [h, Nat.pow_add]
  exact (Nat.mul_mod _ _ _).symm

theorem keys_zero : powP 4 0 = 1 := by decide +kernel

set_option maxRecDepth 100000 in
set_option maxHeartbeats 2000000 in
theorem walk (a b : Int) (w : World) (ha : 0 ≤ a ∧ a < 18446744073709551616) (hb : 0 ≤ b ∧ b < 18446744073709551616) :
    Calls Tryd.prog 8 #[.int .u64 a, .int .u64 b] w fun e w' => e = .returned (.bool true) ∧ Below w.heap.size w w' := by
  obtain ⟨A, hA⟩ : ∃ A : Nat, a % 1152921504606845398 + 1 = (A : Int) := ⟨(a % 1152921504606845398 + 1).toNat, by omega⟩
  obtain ⟨B, hB⟩ : ∃ B : Nat, b % 1152921504606845398 + 1 = (B : Int) := ⟨(b % 1152921504606845398 + 1).toNat, by omega⟩
  have P1 := Lib.hid (fun w => public_ok A w (by omega) (by omega))
  have P2 := Lib.hid (fun w => public_ok B w (by omega) (by omega))
  have T1 := Lib.hid (fun w => ltimes_any (powP 4 A) (powP 4 B) 2305843009213690799 w (powP_lt _ _) (by decide) (powP_lt' _ _))
  rw [keys_mul] at T1
  have lx := Lib.hid (powP_lt 4 A)
  have ly := Lib.hid (powP_lt 4 B)
  obtain ⟨S, hS⟩ : ∃ S : Nat, (A + B) % 1152921504606845399 = S := ⟨_, rfl⟩
  rw [hS] at T1
  have ec : ((2305843009213690799 : Nat) : Int) = 2305843009213690799 := rfl
  rw [ec] at T1
  clear ec
  obtain ⟨AA, hAA⟩ : ∃ z : Int, z = (A : Int) := ⟨_, rfl⟩
  obtain ⟨BB, hBB⟩ : ∃ z : Int, z = (B : Int) := ⟨_, rfl⟩
  obtain ⟨SS, hSS⟩ : ∃ z : Int, z = (S : Int) := ⟨_, rfl⟩
  obtain ⟨X, hX⟩ : ∃ z : Int, z = (powP 4 A : Int) := ⟨_, rfl⟩
  obtain ⟨Y, hY⟩ : ∃ z : Int, z = (powP 4 B : Int) := ⟨_, rfl⟩
  have lX : X < 2305843009213690799 := by have := lx.out; omega
  have lY : Y < 2305843009213690799 := by have := ly.out; omega
  have ls : (AA + BB) % 1152921504606845399 = SS := by omega
  have lA : 1 ≤ AA ∧ AA < 1152921504606845399 := by omega
  have lB : 1 ≤ BB ∧ BB < 1152921504606845399 := by omega
  rw [← hAA, ← hX] at P1
  rw [← hBB, ← hY] at P2
  rw [← hX, ← hY] at T1
  rw [← hAA] at hA
  rw [← hBB] at hB
  have ha0 := ha.1
  have hb0 := hb.1
  by_cases h0 : S = 0
  · subst h0
    rw [keys_zero] at T1
    have P3 := Lib.hid (fun w => public_bad 0 w (.inl rfl))
    have e1 : ((1 : Nat) : Int) = 1 := rfl
    have e0 : ((0 : Nat) : Int) = 0 := rfl
    rw [e1] at T1
    rw [e0] at P3 hSS
    subst hSS
    clear e1 e0 hS hX hY hAA hBB lx ly ha hb
    go_enter Tryd.func8, Tryd.ntmps8
    go_wp2_with fail
    refine (sane_true _).mono ?_
    rintro e w1 ⟨rfl, hb1⟩
    have B1 := Lib.hid hb1; clear hb1
    go_wp2_with fail
    refine (P1.out _).mono ?_
    rintro e w2 ⟨rfl, hb2⟩
    have B2 := Lib.hid (B1.out.trans (hb2.mono B1.out.size)); clear hb2
    go_wp2_with fail
    refine (P2.out _).mono ?_
    rintro e w3 ⟨rfl, hb3⟩
    have B3 := Lib.hid (B2.out.trans (hb3.mono B2.out.size)); clear hb3
    go_wp2_with fail
    refine (P3.out _).mono ?_
    rintro e w4 ⟨rfl, hb4⟩
    have B4 := Lib.hid (B3.out.trans (hb4.mono B3.out.size)); clear hb4
    go_wp2_with fail
    refine (T1.out _).mono ?_
    rintro e w5 ⟨rfl, rfl⟩
    go_wp2
    go_ret
    exact ⟨rfl, B4.out⟩
  · have P3 := Lib.hid (fun w => public_ok S w (by omega) (by omega))
    obtain ⟨Z, hZ⟩ : ∃ z : Int, z = (powP 4 S : Int) := ⟨_, rfl⟩
    rw [← hSS, ← hZ] at P3
    rw [← hZ] at T1
    have lS : 1 ≤ SS := by omega
    have lS' : (SS == 0) = false := by rw [beq_eq_false_iff_ne]; omega
    clear hS hX hY hZ hSS hAA hBB lx ly ha hb h0
    go_enter Tryd.func8, Tryd.ntmps8
    go_wp2_with fail
    refine (sane_true _).mono ?_
    rintro e w1 ⟨rfl, hb1⟩
    have B1 := Lib.hid hb1; clear hb1
    go_wp2_with fail
    refine (P1.out _).mono ?_
    rintro e w2 ⟨rfl, hb2⟩
    have B2 := Lib.hid (B1.out.trans (hb2.mono B1.out.size)); clear hb2
    go_wp2_with fail
    refine (P2.out _).mono ?_
    rintro e w3 ⟨rfl, hb3⟩
    have B3 := Lib.hid (B2.out.trans (hb3.mono B2.out.size)); clear hb3
    go_wp2_with fail
    refine (P3.out _).mono ?_
    rintro e w4 ⟨rfl, hb4⟩
    have B4 := Lib.hid (B3.out.trans (hb4.mono B3.out.size)); clear hb4
    go_wp2_with fail
    refine (T1.out _).mono ?_
    rintro e w5 ⟨rfl, rfl⟩
    go_wp2
    go_ret
    exact ⟨rfl, B4.out⟩


/-- The door's own heap meets the condition. -/
theorem door_met (os : Os) (args : Array Value) : laidMetH Tryd.prog Rows.signKeysRow.laid ((World.doorLaid Tryd.prog 400 os).forCall (fun _ _ => 0) ⟨#[], args, []⟩).memory :=
  laidMetH_of_parts3 (fuel := 8) (laidMet_of_run' 8 (by kernel_rfl) (by kernel_rfl)) (by kernel_rfl) (by kernel_rfl)

set_option maxRecDepth 100000 in
theorem lifted (os : Os) (started : os.Started) (H : Type) (enc : TypeId × Value → H) :
    ReturnsInHanded {} Tryd.checked os 8 .any (fun w args => (Rows.signKeysSpec.pre enc Tryd.prog Tryd.f8 [] false w args ∧ laidMetH Tryd.prog Rows.signKeysRow.laid w) ∧ sizedMet enc Tryd.prog Tryd.f8 (OpenSpec.ofChange Rows.signKeysSpec) false w args)
      (Rows.signKeysSpec.post enc Tryd.prog Tryd.f8 false true false false) := by
  refine returnsInHanded_of_change_and (C := Tryd.checked) (X := fun w _ => laidMetH Tryd.prog Rows.signKeysRow.laid w) (fun _ _ _ hh h => h.of_heap hh) own started (by kernel_rfl) Tryd.func8
    (ChangeSpec.witness_shaped (enc := enc) (C := Tryd.checked) (os := os) (X := fun w _ => laidMetH Tryd.prog Rows.signKeysRow.laid w) false (World.doorLaid Tryd.prog 400 os) #[.int .u64 0, .int .u64 0] 8 rfl (World.shaped_of_RefB (by kernel_rfl) (by kernel_rfl)) (by kernel_rfl) (by kernel_rfl) (by kernel_rfl) (door_met os _)) ?_
  intro W base args ds gs before hval0 hW _ hsz0 hL _
  have hsz : (DataW.weightsEach Tryd.prog (Tryd.f8.params.toList ++ Rows.signKeysSpec.plain.varTypes Tryd.prog) (ds ++ gs)).all (· ≤ reachBytes) = true := hsz0
  have hval : ∀ (j : Nat) t v, Tryd.f8.params[j]? = some t → args[j]? = some v → Value.okWide Tryd.prog W .any base t v := hval0
  clear hsz0 hval0
  have hW' := hW
  obtain ⟨p, q, hA0, hV, rfl, hfz, hnd⟩ := hW
  have hA : DataW.TrodAll enc Tryd.prog W 0 (fun _ => true) true Tryd.f8.params.toList args.toList ds p := hA0
  rw [Tryd.params8] at hA hval hsz
  obtain ⟨v0, vs0, d0, ds0, p0, q0, hargs, rfl, rfl, h0, r0⟩ := trodAll_cons hA
  obtain ⟨v1, vs1, d1, ds1, p1, q1, rfl, rfl, rfl, h1, r1⟩ := trodAll_cons r0
  obtain ⟨rfl, rfl, rfl⟩ := trodAll_nil r1
  obtain rfl : args = #[v0, v1] := by cases args; simp_all
  obtain ⟨rfl, rfl⟩ := trodVars_none hV
  obtain ⟨a0, rfl, rfl, rfl, wf0⟩ := open_int Tryd.underlying23 (hval 0 23 v0 rfl rfl) h0
  have ru0 : 0 ≤ a0 ∧ a0 < 18446744073709551616 := u64_wf wf0
  obtain ⟨a1, rfl, rfl, rfl, wf1⟩ := open_int Tryd.underlying23 (hval 1 23 v1 rfl rfl) h1
  have ru1 : 0 ≤ a1 ∧ a1 < 18446744073709551616 := u64_wf wf1
  clear hA0
  refine (walk a0 a1 W ru0 ru1).mono fun e W' ⟨he, hbw⟩ => ?_
  subst he
  refine ⟨_, rfl, post_law laidOut ?_ rfl rfl hW' rfl rfl rfl hbw⟩
  intro t ht
  rw [Tryd.params8] at ht
  have hm : t ∈ [23] := by simp at ht; simp; omega
  have hall : ([23].all fun u => Tryd.prog.readableRec u && decide (u < Tryd.prog.types.size)) = true := by kernel_rfl
  have := List.all_eq_true.1 hall t hm
  simpa using this

theorem over : Rows.signKeysRow.holds Tryd.pinned (OpenSpec.ofChange Rows.signKeysSpec) :=
  OpenClaim.holds_of_wide 8 Tryd.f8 rfl rfl rfl rfl rfl rfl rfl ⟨rfl, rfl, rfl, rfl, rfl⟩ rfl rfl rfl rfl rfl (by kernel_rfl) Tryd.func8 (by kernel_rfl)
    (of_decide_eq_true (by kernel_rfl)) (by unfold Func.isWrapper; first | (rw [if_pos (by decide +kernel)]; kernel_rfl) | (rw [if_neg (by decide +kernel)]; exact ⟨rfl, rfl⟩))
    (fun os started H enc _ => lifted os started H enc)

/-- THE STATEMENT. -/
theorem proved : Rows.SignKeysCardSaid :=
  Claim7.holds_tied_plain_at .later [] [.data] true (true, "f6b8e2bca58b870a70669e1a5b4edbfcbd882eeab9a8bd45ca4f43270d351360") false
    over (fun _ h => by cases h) (by kernel_rfl) (fun _ h => by cases h) signKeys_row_tie rfl ⟨rfl, rfl⟩ (by kernel_rfl) rfl
    (fun f fn hf hfn => by
      obtain rfl : f = 8 := Option.some.inj ((show Tryd.prog.funcNamed "wagonpool/wagonpoollaw03.SignKeys" = some 8 by kernel_rfl).symm.trans hf) |>.symm
      obtain rfl : fn = Tryd.f8 := (Option.some.inj (Tryd.func8.symm.trans hfn)).symm
      exact ⟨by kernel_rfl, fun j t ht => by
        rw [Tryd.params8] at ht
        have hm : t ∈ [23] := by have := Array.mem_of_getElem? ht; simp at this; simp; omega
        have hall : ([23].all fun u => !Tryd.prog.wantsStandIn u) = true := by kernel_rfl
        exact (show Tryd.prog.wantsStandIn t = false by simpa using List.all_eq_true.1 hall t hm)⟩)
    (by kernel_rfl)
#print axioms proved
end Go.Proofs.YtlfjcifeiihmfaaDoor.signKeys
