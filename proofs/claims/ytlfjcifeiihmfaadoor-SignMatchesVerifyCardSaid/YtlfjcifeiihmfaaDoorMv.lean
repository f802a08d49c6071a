/-
  The statement 'Rows.SignMatchesVerifyCardSaid': for all keys, messages and signatures Verify, Valid and Pow return what the reference returns; the arguments read as they did.
-/
import Derived.Test.YtlfjcifeiihmfaaDoorRv
import Derived.Test.YtlfjcifeiihmfaaDoorMs
import Derived.Test.YtlfjcifeiihmfaaDoorOs
import Derived.ChangeMaps5
namespace Go.Proofs.YtlfjcifeiihmfaaDoor.signMatchesVerify
open Go.ChangeShapes Go.WideShapes Go.ChangeAt Go.RowKit
set_option linter.unusedVariables false

theorem beq_swap (a b : Int) : ((a == b) == (b == a)) = true := by
  by_cases h : a = b
  · subst h; simp
  · rw [beq_eq_false_iff_ne.2 h, beq_eq_false_iff_ne.2 (Ne.symm h)]; rfl

theorem beq_same (a b : Int) : (a == b) = (b == a) := by
  have := beq_swap a b
  simpa using this

set_option maxHeartbeats 400000 in
theorem short_yes (a : Option Addr) (n k : Nat) (w : World) (h : n ≤ 2000 ∨ 65536 < n) : Calls Tryd.prog 12 #[.slice a n k] w fun e w' => e = .returned (.bool true) ∧ w = w' := by
  rcases h with h | h
  · have h' : (n : Int) ≤ 2000 := by omega
    clear h
    go_enter Tryd.func12, Tryd.ntmps12
    go_wp2
    go_ret
    exact ⟨rfl, rfl⟩
  · have h' : 65536 < (n : Int) := by omega
    clear h
    go_enter Tryd.func12, Tryd.ntmps12
    go_wp2
    go_ret
    exact ⟨rfl, rfl⟩

set_option maxHeartbeats 400000 in
theorem short_no (a : Option Addr) (n k : Nat) (w : World) (h : 2000 < n) (h1 : n ≤ 65536) : Calls Tryd.prog 12 #[.slice a n k] w fun e w' => e = .returned (.bool false) ∧ w = w' := by
  have hb : (decide ((n : Int) ≤ 2000) || decide (65536 < (n : Int))) = false := by
    rw [Bool.or_eq_false_iff, decide_eq_false_iff_not, decide_eq_false_iff_not]; omega
  have Hb := Lib.hid hb
  have h' : 2000 < (n : Int) := by omega
  have h1' : (n : Int) ≤ 65536 := by omega
  clear h h1 hb
  go_enter Tryd.func12, Tryd.ntmps12
  go_wp2
  go_ret
  refine ⟨?_, rfl⟩
  show Ending.returned (.bool (decide ((n : Int) ≤ 2000) || decide (65536 < (n : Int)))) = _
  rw [Hb.out]

/-- Both verifications return the same. -/
theorem both (p c g : Nat) (m : List Int) (a' : Option Addr) (k' : Nat) (hp : p < 18446744073709551616) (hc : c < 18446744073709551616) (hg : g < 18446744073709551616) (hs : m.length ≤ 2000 ∨ 65536 < m.length) :
    ∃ v : Bool, (∀ w, KOk w → Bs (fun k => k < w.heap.size) w (.slice a' m.length k') m → Calls Tryd.prog 19 #[.int .u64 (p : Int), .slice a' m.length k', .agg #[.int .u64 (c : Int), .int .u64 (g : Int)]] w fun e w' => e = .returned (.bool v) ∧ Below w.heap.size w w') ∧
      (∀ w, Bs (fun k => k < w.heap.size) w (.slice a' m.length k') m → Calls Tryd.prog 20 #[.int .u64 (p : Int), .slice a' m.length k', .agg #[.int .u64 (c : Int), .int .u64 (g : Int)]] w fun e w' => e = .returned (.bool v) ∧ Below w.heap.size w w') := by
  by_cases h : vld p = false ∨ 65536 < m.length ∨ 1152921504606845399 ≤ c ∨ 1152921504606845399 ≤ g
  · exact ⟨false, fun w _ _ => verify_bad p c g a' m.length k' w hp hc hg h, fun w _ => rverify_bad p c g a' m.length k' w hp hc hg h⟩
  · have hv : vld p = true := by
      cases hh : vld p with
      | false => exact absurd (.inl hh) h
      | true => rfl
    have hm : m.length ≤ 2000 := by omega
    refine ⟨(c : Int) == chal (resid p c g) p m, fun w hk hb => verify_ok p c g m _ w hk hb hp hv (by omega) (by omega) (by omega), fun w hb => ?_⟩
    rw [beq_same]
    exact rverify_ok p c g m _ w hb hp hv (by omega) (by omega) hm

set_option maxRecDepth 100000 in
set_option maxHeartbeats 4000000 in
theorem walk (p : Int) (m : List Int) (a' : Option Addr) (k' : Nat) (c g : Int) (w : World) (hk : KOk w) (hp : 0 ≤ p ∧ p < 18446744073709551616) (hv' : Bs (fun k => k < w.heap.size) w (.slice a' m.length k') m) (hc : 0 ≤ c ∧ c < 18446744073709551616) (hg : 0 ≤ g ∧ g < 18446744073709551616) :
    Calls Tryd.prog 4 #[.int .u64 p, .slice a' m.length k', .agg #[.int .u64 c, .int .u64 g]] w fun e w' => e = .returned (.bool true) ∧ Below w.heap.size w w' := by
  have HK := Lib.hid hk; have HV' := Lib.hid hv'
  clear hk hv'
  have z0 := Kq.start w c g
  by_cases hs : m.length ≤ 2000 ∨ 65536 < m.length
  · have S1 := Lib.hid (fun w => short_yes a' m.length k' w hs)
    obtain ⟨P, rfl⟩ : ∃ P : Nat, p = (P : Int) := ⟨p.toNat, by omega⟩
    obtain ⟨C, rfl⟩ : ∃ C : Nat, c = (C : Int) := ⟨c.toNat, by omega⟩
    obtain ⟨G, rfl⟩ : ∃ G : Nat, g = (G : Int) := ⟨g.toNat, by omega⟩
    obtain ⟨v, F1, F2⟩ := both P C G m a' k' (by omega) (by omega) (by omega) hs
    have HF1 := Lib.hid F1; have HF2 := Lib.hid F2
    have V1 := Lib.hid (fun w => valid_any P w (by omega))
    have V2 := Lib.hid (fun w => rvalid_any P w (by omega))
    have E1 := Lib.hid (fun w => powP_any P G w (by omega) (by omega))
    have E2 := Lib.hid (fun w => rpowP_any P G w (by omega) (by omega))
    clear F1 F2 hp hc hg hs
    generalize vld P = vv at *
    generalize (powP P G : Int) = y at *
    generalize (P : Int) = p at *
    generalize (C : Int) = c at *
    generalize (G : Int) = g at *
    have FV := Lib.hid (fun W' (hz : Kq w c g W') => HF1.out W' (HK.out.below hz.1) (HV'.out.up2 (fun k hk => hz.1.block k hk) hz.1.size))
    have FW := Lib.hid (fun W' (hz : Kq w c g W') => HF2.out W' (HV'.out.up2 (fun k hk => hz.1.block k hk) hz.1.size))
    generalize hM : m.length = M at *
    cases v <;> cases vv
    all_goals
      go_enter Tryd.func4, Tryd.ntmps4
      go_wp2_with fail
      refine (sane_true _).mono ?_
      rintro e w1 ⟨rfl, hb1⟩
      have z1 := z0.next hb1; clear hb1
      go_wp2_with fail
      refine (S1.out _).mono ?_
      rintro e w2 ⟨rfl, rfl⟩
      have c0 := z1.c0
      have c1 := z1.c1
      go_wp2_with fail
      go_region_held3 (fun w' => w'.cell? ⟨w.heap.size, 0, none⟩ = some (.int .u64 c) ∧ w'.cell? ⟨w.heap.size, 1, none⟩ = some (.int .u64 g) ∧ Kq w c g w') (first | (with_reducible exact Kq.all (by with_reducible assumption)) | (with_reducible exact Kq.all (Kq.drew (by with_reducible assumption))))
        (first | (go_at_call 19; refine (FV.out _ (Kq.drew z1)).mono ?_; rintro e wa ⟨rfl, hba⟩; have z2 := Kq.next (Kq.drew z1) hba; clear hba) | (go_at_call 20; refine (FW.out _ z2).mono ?_; rintro e wb ⟨rfl, hbb⟩; have z3 := Kq.next z2 hbb; clear hbb) | (go_at_call 21; refine (V1.out _).mono ?_; rintro e wc ⟨rfl, hbc⟩; have z4 := Kq.next z3 hbc; clear hbc) | (go_at_call 22; refine (V2.out _).mono ?_; rintro e wd ⟨rfl, rfl⟩) | (go_at_call 23; refine (E1.out _).mono ?_; rintro e we ⟨rfl, hbe⟩; have z5 := Kq.next z4 hbe; clear hbe) | (go_at_call 24; refine (E2.out _).mono ?_; rintro e wf ⟨rfl, rfl⟩))
      go_wp2_with fail
      go_ret
      exact ⟨rfl, z5.1⟩
  · have S1 := Lib.hid (fun w => short_no a' m.length k' w (by omega) (by omega))
    generalize m.length = M at *
    clear hs
    go_enter Tryd.func4, Tryd.ntmps4
    go_wp2_with fail
    refine (sane_true _).mono ?_
    rintro e w1 ⟨rfl, hb1⟩
    have z1 := z0.next hb1; clear hb1
    go_wp2_with fail
    refine (S1.out _).mono ?_
    rintro e w2 ⟨rfl, rfl⟩
    go_wp2
    go_ret
    exact ⟨rfl, z1.1⟩


/-- The door's own heap meets the condition. -/
theorem door_met (os : Os) (args : Array Value) : laidMetH Tryd.prog Rows.signMatchesVerifyRow.laid ((World.doorLaid Tryd.prog 400 os).forCall (fun _ _ => 0) ⟨#[], args, []⟩).memory :=
  laidMetH_of_parts3 (fuel := 8) (laidMet_of_run' 8 (by kernel_rfl) (by kernel_rfl)) (by kernel_rfl) (by kernel_rfl)

set_option maxRecDepth 100000 in
theorem lifted (os : Os) (started : os.Started) (H : Type) (enc : TypeId × Value → H) :
    ReturnsInHanded {} Tryd.checked os 4 .any (fun w args => (Rows.signMatchesVerifySpec.pre enc Tryd.prog Tryd.f4 [] false w args ∧ laidMetH Tryd.prog Rows.signMatchesVerifyRow.laid w) ∧ sizedMet enc Tryd.prog Tryd.f4 (OpenSpec.ofChange Rows.signMatchesVerifySpec) false w args)
      (Rows.signMatchesVerifySpec.post enc Tryd.prog Tryd.f4 false true false false) := by
  refine returnsInHanded_of_change_and (C := Tryd.checked) (X := fun w _ => laidMetH Tryd.prog Rows.signMatchesVerifyRow.laid w) (fun _ _ _ hh h => h.of_heap hh) own started (by kernel_rfl) Tryd.func4
    (ChangeSpec.witness_shaped (enc := enc) (C := Tryd.checked) (os := os) (X := fun w _ => laidMetH Tryd.prog Rows.signMatchesVerifyRow.laid w) false (World.doorLaid Tryd.prog 400 os) #[.int .u64 0, .slice none 0 0, .agg #[.int .u64 0, .int .u64 0]] 8 rfl (World.shaped_of_RefB (by kernel_rfl) (by kernel_rfl)) (by kernel_rfl) (by kernel_rfl) (by kernel_rfl) (door_met os _)) ?_
  intro W base args ds gs before hval0 hW _ hsz0 hL _
  have hsz : (DataW.weightsEach Tryd.prog (Tryd.f4.params.toList ++ Rows.signMatchesVerifySpec.plain.varTypes Tryd.prog) (ds ++ gs)).all (· ≤ reachBytes) = true := hsz0
  have hval : ∀ (j : Nat) t v, Tryd.f4.params[j]? = some t → args[j]? = some v → Value.okWide Tryd.prog W .any base t v := hval0
  clear hsz0 hval0
  have hW' := hW
  obtain ⟨p, q, hA0, hV, rfl, hfz, hnd⟩ := hW
  have hA : DataW.TrodAll enc Tryd.prog W 0 (fun _ => true) true Tryd.f4.params.toList args.toList ds p := hA0
  rw [Tryd.params4] at hA hval hsz
  obtain ⟨v0, vs0, d0, ds0, p0, q0, hargs, rfl, rfl, h0, r0⟩ := trodAll_cons hA
  obtain ⟨v1, vs1, d1, ds1, p1, q1, rfl, rfl, rfl, h1, r1⟩ := trodAll_cons r0
  obtain ⟨v2, vs2, d2, ds2, p2, q2, rfl, rfl, rfl, h2, r2⟩ := trodAll_cons r1
  obtain ⟨rfl, rfl, rfl⟩ := trodAll_nil r2
  obtain rfl : args = #[v0, v1, v2] := by cases args; simp_all
  obtain ⟨rfl, rfl⟩ := trodVars_none hV
  obtain ⟨a0, rfl, rfl, rfl, wf0⟩ := open_int Tryd.underlying23 (hval 0 23 v0 rfl rfl) h0
  have ru0 : 0 ≤ a0 ∧ a0 < 18446744073709551616 := u64_wf wf0
  have hw1 : ∀ n ∈ d1.weights Tryd.prog 22, n ≤ reachBytes := by
    intro n hn
    have := List.all_eq_true.1 hsz n (DataW.weights_mem_each (t := 22) (d := d1) (j := 1) rfl rfl n hn)
    simpa using this
  obtain ⟨oa1, ol1, oc1, rfl⟩ := okWide_slice Tryd.underlying22 (hval 1 22 v1 rfl rfl)
  obtain ⟨fu1, hf1⟩ := h1
  obtain ⟨b1, hb1⟩ := openB (v := .slice oa1 ol1 oc1) hf1 hw1
  obtain rfl : ol1 = b1.length := by
    obtain ⟨_, _, _, _, e, _⟩ := hb1
    simp only [Value.slice.injEq] at e
    exact e.2.1
  obtain ⟨c2, g2, rfl, rc2, rg2⟩ := openSig (hval 2 31 v2 rfl rfl) h2
  clear hA0
  refine (walk a0 b1 oa1 oc1 c2 g2 W (kok_of_laid hL) ru0 hb1 rc2 rg2).mono fun e W' ⟨he, hbw⟩ => ?_
  subst he
  refine ⟨_, rfl, post_law laidOut ?_ rfl rfl hW' rfl rfl rfl hbw⟩
  intro t ht
  rw [Tryd.params4] at ht
  have hm : t ∈ [22, 23, 31] := by simp at ht; rcases ht with rfl | rfl | rfl <;> simp
  have hall : ([22, 23, 31].all fun u => Tryd.prog.readableRec u && decide (u < Tryd.prog.types.size)) = true := by kernel_rfl
  have := List.all_eq_true.1 hall t hm
  simpa using this

theorem over : Rows.signMatchesVerifyRow.holds Tryd.pinned (OpenSpec.ofChange Rows.signMatchesVerifySpec) :=
  OpenClaim.holds_of_wide 4 Tryd.f4 rfl rfl rfl rfl rfl rfl rfl ⟨rfl, rfl, rfl, rfl, rfl⟩ rfl rfl rfl rfl rfl (by kernel_rfl) Tryd.func4 (by kernel_rfl)
    (of_decide_eq_true (by kernel_rfl)) (by unfold Func.isWrapper; first | (rw [if_pos (by decide +kernel)]; kernel_rfl) | (rw [if_neg (by decide +kernel)]; exact ⟨rfl, rfl⟩))
    (fun os started H enc _ => lifted os started H enc)

/-- THE STATEMENT. -/
theorem proved : Rows.SignMatchesVerifyCardSaid :=
  Claim7.holds_tied_plain_at .later [] [.data] true (true, "f6b8e2bca58b870a70669e1a5b4edbfcbd882eeab9a8bd45ca4f43270d351360") false
    over (fun _ h => by cases h) (by kernel_rfl) (fun _ h => by cases h) signMatchesVerify_row_tie rfl ⟨rfl, rfl⟩ (by kernel_rfl) rfl
    (fun f fn hf hfn => by
      obtain rfl : f = 4 := Option.some.inj ((show Tryd.prog.funcNamed "wagonpool/wagonpoollaw03.SignMatchesVerify" = some 4 by kernel_rfl).symm.trans hf) |>.symm
      obtain rfl : fn = Tryd.f4 := (Option.some.inj (Tryd.func4.symm.trans hfn)).symm
      exact ⟨by kernel_rfl, fun j t ht => by
        rw [Tryd.params4] at ht
        have hm : t ∈ [22, 23, 31] := by have := Array.mem_of_getElem? ht; simp at this; rcases this with rfl | rfl | rfl <;> simp
        have hall : ([22, 23, 31].all fun u => !Tryd.prog.wantsStandIn u) = true := by kernel_rfl
        exact (show Tryd.prog.wantsStandIn t = false by simpa using List.all_eq_true.1 hall t hm)⟩)
    (by kernel_rfl)
#print axioms proved
end Go.Proofs.YtlfjcifeiihmfaaDoor.signMatchesVerify
