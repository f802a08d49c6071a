/-
  The statement 'Rows.SignVerifiesCardSaid': for all seeds and messages the law of verification returns true; the arguments read as they did.
-/
import Derived.Test.YtlfjcifeiihmfaaDoorNv
import Derived.Test.YtlfjcifeiihmfaaDoorMs
import Derived.Test.YtlfjcifeiihmfaaDoorLw
import Derived.ChangeMaps5
namespace Go.Proofs.YtlfjcifeiihmfaaDoor.signVerifies
open Go.ChangeShapes Go.WideShapes Go.ChangeAt Go.RowKit
set_option linter.unusedVariables false

set_option maxRecDepth 100000 in
set_option maxHeartbeats 2000000 in
theorem walk (b m : List Int) (a : Option Addr) (k : Nat) (a' : Option Addr) (k' : Nat) (w : World) (hk : KOk w) (hv : Bs (fun k => k < w.heap.size) w (.slice a b.length k) b) (hv' : Bs (fun k => k < w.heap.size) w (.slice a' m.length k') m) :
    Calls Tryd.prog 5 #[.slice a b.length k, .slice a' m.length k'] w fun e w' => e = .returned (.bool true) ∧ Below w.heap.size w w' := by
  have HK := Lib.hid hk; have HV := Lib.hid hv; have HV' := Lib.hid hv'
  clear hk hv hv'
  by_cases h1 : 1 ≤ b.length
  · by_cases h2 : b.length ≤ 64
    · by_cases h3 : m.length ≤ 2000
      · obtain ⟨x, hx⟩ : ∃ x : Nat, (x : Int) = secF secS b := ⟨(secF secS b).toNat, by have := secF_range secS b; omega⟩
        have hxr := secF_range secS b
        have x0 : 0 < x := by omega
        have x1 : x < 1152921504606845399 := by omega
        have S1 := Lib.hid (fun W hk hv => secret_ok b a k W hk hv (by omega) h2)
        rw [← hx] at S1
        have P1 := Lib.hid (fun w => public_ok x w x0 x1)
        have G1 := Lib.hid (fun W hk hv => sign_ok x m (.slice a' m.length k') W hk hv x0 x1 (by omega))
        obtain ⟨c, g, hc, hg, cl, gl, hr⟩ := sig_nat x m
        have hvp := vld_pub x x0 x1
        have pl := powP_lt' 4 x
        have A1 := Lib.hid (fun w => valid_any (powP 4 x) w pl)
        rw [hvp] at A1
        have F1 := Lib.hid (fun W hk hv => verify_ok (powP 4 x) c g m (.slice a' m.length k') W hk hv pl hvp cl gl (by omega))
        have hch := sig_chal x m c g hr
        have hbt : ((c : Int) == chal (resid (powP 4 x) c g) (powP 4 x) m) = true := by rw [hch, hc, beq_self_eq_true]
        rw [hbt] at F1
        rw [hc, hg] at G1
        obtain ⟨X, hX⟩ : ∃ z : Int, z = (x : Int) := ⟨_, rfl⟩
        obtain ⟨C, hC⟩ : ∃ z : Int, z = (c : Int) := ⟨_, rfl⟩
        obtain ⟨G, hG⟩ : ∃ z : Int, z = (g : Int) := ⟨_, rfl⟩
        obtain ⟨PX, hPX⟩ : ∃ z : Int, z = (powP 4 x : Int) := ⟨_, rfl⟩
        have C1 : C < 1152921504606845399 := by omega
        have G2 : G < 1152921504606845399 := by omega
        rw [← hX] at S1 P1 G1
        rw [← hPX] at P1 A1 F1
        rw [← hC, ← hG] at G1 F1
        clear hX hC hG hPX hbt hch hvp pl hc hg cl gl hr hx hxr x0 x1
        have l1 : 1 ≤ (b.length : Int) := by omega
        have l2 : (b.length : Int) ≤ 64 := by omega
        have l3 : (m.length : Int) ≤ 2000 := by omega
        clear h1 h2 h3
        generalize hM : m.length = M at *
        generalize hN : b.length = N at *
        go_enter Tryd.func5, Tryd.ntmps5
        go_wp2_with fail
        refine (sane_true _).mono ?_
        rintro e w1 ⟨rfl, hb1⟩
        have B1 := Lib.hid hb1; clear hb1
        have S2 := Lib.hid (S1.out w1 (HK.out.below B1.out) (HV.out.up2 (fun k hk => B1.out.block k hk) B1.out.size))
        go_wp2_with fail
        refine S2.out.mono ?_
        rintro e w2 ⟨rfl, hb2⟩
        have B2 := Lib.hid (B1.out.trans (hb2.mono B1.out.size)); clear hb2
        go_wp2_with fail
        refine (P1.out _).mono ?_
        rintro e w3 ⟨rfl, hb3⟩
        have B3 := Lib.hid (B2.out.trans (hb3.mono B2.out.size)); clear hb3
        have G3 := Lib.hid (G1.out w3 (HK.out.below B3.out) (HV'.out.up2 (fun k hk => B3.out.block k hk) B3.out.size))
        go_wp2_with fail
        refine G3.out.mono ?_
        rintro e w4 ⟨rfl, hb4⟩
        have B4 := Lib.hid (B3.out.trans (hb4.mono B3.out.size)); clear hb4
        have Q4 := Lib.hid (Kq.start w4 C G)
        go_wp2_with fail
        refine (A1.out _).mono ?_
        rintro e w5 ⟨rfl, hb5⟩
        have Q5 := Lib.hid (Q4.out.next hb5); clear hb5
        have c0 := Q5.out.c0
        have c1 := Q5.out.c1
        have hbw : Below w.heap.size w w5 := B4.out.trans (Q5.out.1.mono B4.out.size)
        have F2 := Lib.hid (F1.out w5 (HK.out.below hbw) (HV'.out.up2 (fun k hk => hbw.block k hk) hbw.size))
        have HBW := Lib.hid hbw; clear hbw
        go_wp2_with fail
        refine F2.out.mono ?_
        rintro e w6 ⟨rfl, hb6⟩
        have B6 := Lib.hid (HBW.out.trans (hb6.mono HBW.out.size)); clear hb6
        go_wp2
        go_ret
        exact ⟨rfl, B6.out⟩
      · have l3 : 2000 < (m.length : Int) := by omega
        clear h1 h2 h3
        generalize m.length = M at *
        generalize b.length = N at *
        go_enter Tryd.func5, Tryd.ntmps5
        go_wp2_with fail
        refine (sane_true _).mono ?_
        rintro e w1 ⟨rfl, hb1⟩
        have B1 := Lib.hid hb1; clear hb1
        go_wp2
        all_goals go_ret
        all_goals exact ⟨rfl, B1.out⟩
    · have l3 : 64 < (b.length : Int) := by omega
      clear h1 h2
      generalize m.length = M at *
      generalize b.length = N at *
      go_enter Tryd.func5, Tryd.ntmps5
      go_wp2_with fail
      refine (sane_true _).mono ?_
      rintro e w1 ⟨rfl, hb1⟩
      have B1 := Lib.hid hb1; clear hb1
      go_wp2
      all_goals go_ret
      all_goals exact ⟨rfl, B1.out⟩
  · have l3 : (b.length : Int) < 1 := by omega
    clear h1
    generalize m.length = M at *
    generalize b.length = N at *
    go_enter Tryd.func5, Tryd.ntmps5
    go_wp2_with fail
    refine (sane_true _).mono ?_
    rintro e w1 ⟨rfl, hb1⟩
    have B1 := Lib.hid hb1; clear hb1
    go_wp2
    all_goals go_ret
    all_goals exact ⟨rfl, B1.out⟩


/-- The door's own heap meets the condition. -/
theorem door_met (os : Os) (args : Array Value) : laidMetH Tryd.prog Rows.signVerifiesRow.laid ((World.doorLaid Tryd.prog 400 os).forCall (fun _ _ => 0) ⟨#[], args, []⟩).memory :=
  laidMetH_of_parts3 (fuel := 8) (laidMet_of_run' 8 (by kernel_rfl) (by kernel_rfl)) (by kernel_rfl) (by kernel_rfl)

set_option maxRecDepth 100000 in
theorem lifted (os : Os) (started : os.Started) (H : Type) (enc : TypeId × Value → H) :
    ReturnsInHanded {} Tryd.checked os 5 .any (fun w args => (Rows.signVerifiesSpec.pre enc Tryd.prog Tryd.f5 [] false w args ∧ laidMetH Tryd.prog Rows.signVerifiesRow.laid w) ∧ sizedMet enc Tryd.prog Tryd.f5 (OpenSpec.ofChange Rows.signVerifiesSpec) false w args)
      (Rows.signVerifiesSpec.post enc Tryd.prog Tryd.f5 false true false false) := by
  refine returnsInHanded_of_change_and (C := Tryd.checked) (X := fun w _ => laidMetH Tryd.prog Rows.signVerifiesRow.laid w) (fun _ _ _ hh h => h.of_heap hh) own started (by kernel_rfl) Tryd.func5
    (ChangeSpec.witness_shaped (enc := enc) (C := Tryd.checked) (os := os) (X := fun w _ => laidMetH Tryd.prog Rows.signVerifiesRow.laid w) false (World.doorLaid Tryd.prog 400 os) #[.slice none 0 0, .slice none 0 0] 8 rfl (World.shaped_of_RefB (by kernel_rfl) (by kernel_rfl)) (by kernel_rfl) (by kernel_rfl) (by kernel_rfl) (door_met os _)) ?_
  intro W base args ds gs before hval0 hW _ hsz0 hL _
  have hsz : (DataW.weightsEach Tryd.prog (Tryd.f5.params.toList ++ Rows.signVerifiesSpec.plain.varTypes Tryd.prog) (ds ++ gs)).all (· ≤ reachBytes) = true := hsz0
  have hval : ∀ (j : Nat) t v, Tryd.f5.params[j]? = some t → args[j]? = some v → Value.okWide Tryd.prog W .any base t v := hval0
  clear hsz0 hval0
  have hW' := hW
  obtain ⟨p, q, hA0, hV, rfl, hfz, hnd⟩ := hW
  have hA : DataW.TrodAll enc Tryd.prog W 0 (fun _ => true) true Tryd.f5.params.toList args.toList ds p := hA0
  rw [Tryd.params5] at hA hval hsz
  obtain ⟨v0, vs0, d0, ds0, p0, q0, hargs, rfl, rfl, h0, r0⟩ := trodAll_cons hA
  obtain ⟨v1, vs1, d1, ds1, p1, q1, rfl, rfl, rfl, h1, r1⟩ := trodAll_cons r0
  obtain ⟨rfl, rfl, rfl⟩ := trodAll_nil r1
  obtain rfl : args = #[v0, v1] := by cases args; simp_all
  obtain ⟨rfl, rfl⟩ := trodVars_none hV
  have hw0 : ∀ n ∈ d0.weights Tryd.prog 22, n ≤ reachBytes := by
    intro n hn
    have := List.all_eq_true.1 hsz n (DataW.weights_mem_each (t := 22) (d := d0) (j := 0) rfl rfl n hn)
    simpa using this
  obtain ⟨oa0, ol0, oc0, rfl⟩ := okWide_slice Tryd.underlying22 (hval 0 22 v0 rfl rfl)
  obtain ⟨fu0, hf0⟩ := h0
  obtain ⟨b0, hb0⟩ := openB (v := .slice oa0 ol0 oc0) hf0 hw0
  obtain rfl : ol0 = b0.length := by
    obtain ⟨_, _, _, _, e, _⟩ := hb0
    simp only [Value.slice.injEq] at e
    exact e.2.1
  have hw1 : ∀ n ∈ d1.weights Tryd.prog 22, n ≤ reachBytes := by
    intro n hn
    have := List.all_eq_true.1 hsz n (DataW.weights_mem_each (t := 22) (d := d1) (j := 1) rfl rfl n hn)
    simpa using this
  obtain ⟨oa1, ol1, oc1, rfl⟩ := okWide_slice Tryd.underlying22 (hval 1 22 v1 rfl rfl)
  obtain ⟨fu1, hf1⟩ := h1
  obtain ⟨b1, hb1⟩ := openB (v := .slice oa1 ol1 oc1) hf1 hw1
  obtain rfl : ol1 = b1.length := by
    obtain ⟨_, _, _, _, e, _⟩ := hb1
    simp only [Value.slice.injEq] at e
    exact e.2.1
  clear hA0
  refine (walk b0 b1 oa0 oc0 oa1 oc1 W (kok_of_laid hL) hb0 hb1).mono fun e W' ⟨he, hbw⟩ => ?_
  subst he
  refine ⟨_, rfl, post_law laidOut ?_ rfl rfl hW' rfl rfl rfl hbw⟩
  intro t ht
  rw [Tryd.params5] at ht
  have hm : t ∈ [22] := by simp at ht; simp; omega
  have hall : ([22].all fun u => Tryd.prog.readableRec u && decide (u < Tryd.prog.types.size)) = true := by kernel_rfl
  have := List.all_eq_true.1 hall t hm
  simpa using this

theorem over : Rows.signVerifiesRow.holds Tryd.pinned (OpenSpec.ofChange Rows.signVerifiesSpec) :=
  OpenClaim.holds_of_wide 5 Tryd.f5 rfl rfl rfl rfl rfl rfl rfl ⟨rfl, rfl, rfl, rfl, rfl⟩ rfl rfl rfl rfl rfl (by kernel_rfl) Tryd.func5 (by kernel_rfl)
    (of_decide_eq_true (by kernel_rfl)) (by unfold Func.isWrapper; first | (rw [if_pos (by decide +kernel)]; kernel_rfl) | (rw [if_neg (by decide +kernel)]; exact ⟨rfl, rfl⟩))
    (fun os started H enc _ => lifted os started H enc)

/-- THE STATEMENT. -/
theorem proved : Rows.SignVerifiesCardSaid :=
  Claim7.holds_tied_plain_at .later [] [.data] true (true, "f6b8e2bca58b870a70669e1a5b4edbfcbd882eeab9a8bd45ca4f43270d351360") false
    over (fun _ h => by cases h) (by kernel_rfl) (fun _ h => by cases h) signVerifies_row_tie rfl ⟨rfl, rfl⟩ (by kernel_rfl) rfl
    (fun f fn hf hfn => by
      obtain rfl : f = 5 := Option.some.inj ((show Tryd.prog.funcNamed "wagonpool/wagonpoollaw03.SignVerifies" = some 5 by kernel_rfl).symm.trans hf) |>.symm
      obtain rfl : fn = Tryd.f5 := (Option.some.inj (Tryd.func5.symm.trans hfn)).symm
      exact ⟨by kernel_rfl, fun j t ht => by
        rw [Tryd.params5] at ht
        have hm : t ∈ [22] := by have := Array.mem_of_getElem? ht; simp at this; simp; omega
        have hall : ([22].all fun u => !Tryd.prog.wantsStandIn u) = true := by kernel_rfl
        exact (show Tryd.prog.wantsStandIn t = false by simpa using List.all_eq_true.1 hall t hm)⟩)
    (by kernel_rfl)
#print axioms proved
end Go.Proofs.YtlfjcifeiihmfaaDoor.signVerifies
