/-
  The statement 'Rows.SignPowersCardSaid': for all numbers the law of the powers returns true; the arguments read as they did.
-/
import Derived.Test.YtlfjcifeiihmfaaDoorMs
import Derived.Test.YtlfjcifeiihmfaaDoorLw
import Derived.ChangeMaps5
namespace Go.Proofs.YtlfjcifeiihmfaaDoor.signPowers
open Go.ChangeShapes Go.WideShapes Go.ChangeAt Go.RowKit
set_option linter.unusedVariables false

theorem pow_add_P (b m n : Nat) : powP b (m + n) = powP b m * powP b n % PP := by
  unfold powP
  rw [Nat.pow_add, Nat.mul_mod]

theorem pow_pow_P (b m n : Nat) : powP (powP b m) n = powP (powP b n) m := by
  unfold powP
  rw [← Nat.pow_mod, ← Nat.pow_mod, ← Nat.pow_mul, ← Nat.pow_mul, Nat.mul_comm]

set_option maxRecDepth 100000 in
set_option maxHeartbeats 2000000 in
theorem walk (b m n : Int) (w : World) (hb : 0 ≤ b ∧ b < 18446744073709551616) (hm : 0 ≤ m ∧ m < 18446744073709551616) (hn : 0 ≤ n ∧ n < 18446744073709551616) :
    Calls Tryd.prog 6 #[.int .u64 b, .int .u64 m, .int .u64 n] w fun e w' => e = .returned (.bool true) ∧ Below w.heap.size w w' := by
  obtain ⟨B, rfl⟩ : ∃ B : Nat, b = (B : Int) := ⟨b.toNat, by omega⟩
  obtain ⟨M, hM⟩ : ∃ M : Nat, m / 2 = (M : Int) := ⟨(m / 2).toNat, by omega⟩
  obtain ⟨N, hN⟩ : ∃ N : Nat, n / 2 = (N : Int) := ⟨(n / 2).toNat, by omega⟩
  have hMl : M < 9223372036854775808 := by omega
  have hNl : N < 9223372036854775808 := by omega
  have P1 := Lib.hid (fun w => powP_any B M w (by omega) (by omega))
  have P2 := Lib.hid (fun w => powP_any B N w (by omega) (by omega))
  have P3 := Lib.hid (fun w => powP_any B (M + N) w (by omega) (by omega))
  have P4 := Lib.hid (fun w => powP_any (powP B M) N w (powP_lt' _ _) (by omega))
  have P5 := Lib.hid (fun w => powP_any (powP B N) M w (powP_lt' _ _) (by omega))
  have T1 := Lib.hid (fun w => ltimes_any (powP B M) (powP B N) 2305843009213690799 w (powP_lt _ _) (by decide) (powP_lt' _ _))
  have e1 := Lib.hid (pow_add_P B M N)
  have e2 := Lib.hid (pow_pow_P B M N)
  have lx := Lib.hid (powP_lt B M)
  have ly := Lib.hid (powP_lt B N)
  generalize powP B M = x at *
  generalize powP B N = y at *
  generalize powP B (M + N) = z at *
  generalize powP x N = u at *
  generalize powP y M = v at *
  generalize x * y % 2305843009213690799 = t at *
  have ezt : z = t := e1.out
  have euv : u = v := e2.out
  subst ezt
  subst euv
  obtain ⟨X, hX⟩ : ∃ X : Int, X = (x : Int) := ⟨_, rfl⟩
  obtain ⟨Y, hY⟩ : ∃ Y : Int, Y = (y : Int) := ⟨_, rfl⟩
  have lX : X < 2305843009213690799 := by have := lx.out; omega
  have lY : Y < 2305843009213690799 := by have := ly.out; omega
  have ec : ((2305843009213690799 : Nat) : Int) = 2305843009213690799 := rfl
  rw [ec] at T1
  rw [← hX] at P1 P4 T1
  rw [← hY] at P2 P5 T1
  have hsum : (M : Int) + (N : Int) = ((M + N : Nat) : Int) := (Int.natCast_add M N).symm
  rw [← hsum] at P3
  clear hX hY e1 e2 lx ly hsum
  have hm0 := hm.1
  have lm : (M : Int) < 9223372036854775808 ∧ 0 ≤ (M : Int) := by omega
  have ln : (N : Int) < 9223372036854775808 ∧ 0 ≤ (N : Int) := by omega
  clear hm hn hb ec hMl hNl
  generalize (B : Int) = bb at *
  generalize ((M : Nat) : Int) = mm at *
  generalize ((N : Nat) : Int) = nn at *
  go_enter Tryd.func6, Tryd.ntmps6
  go_wp2_with fail
  refine (sane_true _).mono ?_
  rintro e w1 ⟨rfl, hb1⟩
  have B1 := Lib.hid hb1; clear hb1
  go_wp2_with fail
  refine (P1.out _).mono ?_
  rintro e w2 ⟨rfl, hb2⟩
  have B2 := Lib.hid (B1.out.trans (hb2.mono B1.out.size)); clear hb2
  go_wp2_with fail
  refine (P2.out _).mono ?_
  rintro e w3 ⟨rfl, hb3⟩
  have B3 := Lib.hid (B2.out.trans (hb3.mono B2.out.size)); clear hb3
  go_wp2_with fail
  refine (P3.out _).mono ?_
  rintro e w4 ⟨rfl, hb4⟩
  have B4 := Lib.hid (B3.out.trans (hb4.mono B3.out.size)); clear hb4
  go_wp2_with fail
  refine (T1.out _).mono ?_
  rintro e w5 ⟨rfl, rfl⟩
  go_wp2_with fail
  refine (P4.out _).mono ?_
  rintro e w5 ⟨rfl, hb5⟩
  have B5 := Lib.hid (B4.out.trans (hb5.mono B4.out.size)); clear hb5
  go_wp2_with fail
  refine (P5.out _).mono ?_
  rintro e w6 ⟨rfl, hb6⟩
  have B6 := Lib.hid (B5.out.trans (hb6.mono B5.out.size)); clear hb6
  go_wp2
  go_ret
  exact ⟨rfl, B6.out⟩


/-- The door's own heap meets the condition. -/
theorem door_met (os : Os) (args : Array Value) : laidMetH Tryd.prog Rows.signPowersRow.laid ((World.doorLaid Tryd.prog 400 os).forCall (fun _ _ => 0) ⟨#[], args, []⟩).memory :=
  laidMetH_of_parts3 (fuel := 8) (laidMet_of_run' 8 (by kernel_rfl) (by kernel_rfl)) (by kernel_rfl) (by kernel_rfl)

set_option maxRecDepth 100000 in
theorem lifted (os : Os) (started : os.Started) (H : Type) (enc : TypeId × Value → H) :
    ReturnsInHanded {} Tryd.checked os 6 .any (fun w args => (Rows.signPowersSpec.pre enc Tryd.prog Tryd.f6 [] false w args ∧ laidMetH Tryd.prog Rows.signPowersRow.laid w) ∧ sizedMet enc Tryd.prog Tryd.f6 (OpenSpec.ofChange Rows.signPowersSpec) false w args)
      (Rows.signPowersSpec.post enc Tryd.prog Tryd.f6 false true false false) := by
  refine returnsInHanded_of_change_and (C := Tryd.checked) (X := fun w _ => laidMetH Tryd.prog Rows.signPowersRow.laid w) (fun _ _ _ hh h => h.of_heap hh) own started (by kernel_rfl) Tryd.func6
    (ChangeSpec.witness_shaped (enc := enc) (C := Tryd.checked) (os := os) (X := fun w _ => laidMetH Tryd.prog Rows.signPowersRow.laid w) false (World.doorLaid Tryd.prog 400 os) #[.int .u64 0, .int .u64 0, .int .u64 0] 8 rfl (World.shaped_of_RefB (by kernel_rfl) (by kernel_rfl)) (by kernel_rfl) (by kernel_rfl) (by kernel_rfl) (door_met os _)) ?_
  intro W base args ds gs before hval0 hW _ hsz0 hL _
  have hsz : (DataW.weightsEach Tryd.prog (Tryd.f6.params.toList ++ Rows.signPowersSpec.plain.varTypes Tryd.prog) (ds ++ gs)).all (· ≤ reachBytes) = true := hsz0
  have hval : ∀ (j : Nat) t v, Tryd.f6.params[j]? = some t → args[j]? = some v → Value.okWide Tryd.prog W .any base t v := hval0
  clear hsz0 hval0
  have hW' := hW
  obtain ⟨p, q, hA0, hV, rfl, hfz, hnd⟩ := hW
  have hA : DataW.TrodAll enc Tryd.prog W 0 (fun _ => true) true Tryd.f6.params.toList args.toList ds p := hA0
  rw [Tryd.params6] at hA hval hsz
  obtain ⟨v0, vs0, d0, ds0, p0, q0, hargs, rfl, rfl, h0, r0⟩ := trodAll_cons hA
  obtain ⟨v1, vs1, d1, ds1, p1, q1, rfl, rfl, rfl, h1, r1⟩ := trodAll_cons r0
  obtain ⟨v2, vs2, d2, ds2, p2, q2, rfl, rfl, rfl, h2, r2⟩ := trodAll_cons r1
  obtain ⟨rfl, rfl, rfl⟩ := trodAll_nil r2
  obtain rfl : args = #[v0, v1, v2] := by cases args; simp_all
  obtain ⟨rfl, rfl⟩ := trodVars_none hV
  obtain ⟨a0, rfl, rfl, rfl, wf0⟩ := open_int Tryd.underlying23 (hval 0 23 v0 rfl rfl) h0
  have ru0 : 0 ≤ a0 ∧ a0 < 18446744073709551616 := u64_wf wf0
  obtain ⟨a1, rfl, rfl, rfl, wf1⟩ := open_int Tryd.underlying23 (hval 1 23 v1 rfl rfl) h1
  have ru1 : 0 ≤ a1 ∧ a1 < 18446744073709551616 := u64_wf wf1
  obtain ⟨a2, rfl, rfl, rfl, wf2⟩ := open_int Tryd.underlying23 (hval 2 23 v2 rfl rfl) h2
  have ru2 : 0 ≤ a2 ∧ a2 < 18446744073709551616 := u64_wf wf2
  clear hA0
  refine (walk a0 a1 a2 W ru0 ru1 ru2).mono fun e W' ⟨he, hbw⟩ => ?_
  subst he
  refine ⟨_, rfl, post_law laidOut ?_ rfl rfl hW' rfl rfl rfl hbw⟩
  intro t ht
  rw [Tryd.params6] at ht
  have hm : t ∈ [23] := by simp at ht; simp; omega
  have hall : ([23].all fun u => Tryd.prog.readableRec u && decide (u < Tryd.prog.types.size)) = true := by kernel_rfl
  have := List.all_eq_true.1 hall t hm
  simpa using this

theorem over : Rows.signPowersRow.holds Tryd.pinned (OpenSpec.ofChange Rows.signPowersSpec) :=
  OpenClaim.holds_of_wide 6 Tryd.f6 rfl rfl rfl rfl rfl rfl rfl ⟨rfl, rfl, rfl, rfl, rfl⟩ rfl rfl rfl rfl rfl (by kernel_rfl) Tryd.func6 (by kernel_rfl)
    (of_decide_eq_true (by kernel_rfl)) (by unfold Func.isWrapper; first | (rw [if_pos (by decide +kernel)]; kernel_rfl) | (rw [if_neg (by decide +kernel)]; exact ⟨rfl, rfl⟩))
    (fun os started H enc _ => lifted os started H enc)

/-- THE STATEMENT. -/
theorem proved : Rows.SignPowersCardSaid :=
  Claim7.holds_tied_plain_at .later [] [.data] true (true, "f6b8e2bca58b870a70669e1a5b4edbfcbd882eeab9a8bd45ca4f43270d351360") false
    over (fun _ h => by cases h) (by kernel_rfl) (fun _ h => by cases h) signPowers_row_tie rfl ⟨rfl, rfl⟩ (by kernel_rfl) rfl
    (fun f fn hf hfn => by
      obtain rfl : f = 6 := Option.some.inj ((show Tryd.prog.funcNamed "wagonpool/wagonpoollaw03.SignPowers" = some 6 by kernel_rfl).symm.trans hf) |>.symm
      obtain rfl : fn = Tryd.f6 := (Option.some.inj (Tryd.func6.symm.trans hfn)).symm
      exact ⟨by kernel_rfl, fun j t ht => by
        rw [Tryd.params6] at ht
        have hm : t ∈ [23] := by have := Array.mem_of_getElem? ht; simp at this; simp; omega
        have hall : ([23].all fun u => !Tryd.prog.wantsStandIn u) = true := by kernel_rfl
        exact (show Tryd.prog.wantsStandIn t = false by simpa using List.all_eq_true.1 hall t hm)⟩)
    (by kernel_rfl)
#print axioms proved
end Go.Proofs.YtlfjcifeiihmfaaDoor.signPowers
