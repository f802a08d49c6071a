/-
  The statement 'Rows.SignMatchesCardSaid': for all seeds, secret keys and messages Secret, Public and Sign return what the reference returns; the arguments read as they did.
-/
import Derived.Test.YtlfjcifeiihmfaaDoorRs
import Derived.Test.YtlfjcifeiihmfaaDoorMs
import Derived.Test.YtlfjcifeiihmfaaDoorOs
import Derived.ChangeMaps5
namespace Go.Proofs.YtlfjcifeiihmfaaDoor.signMatches
open Go.ChangeShapes Go.WideShapes Go.ChangeAt Go.RowKit
set_option linter.unusedVariables false

set_option maxHeartbeats 400000 in
theorem short_yes (a : Option Addr) (n k : Nat) (w : World) (h : n ≤ 2000 ∨ 65536 < n) : Calls Tryd.prog 12 #[.slice a n k] w fun e w' => e = .returned (.bool true) ∧ w = w' := by
  rcases h with h | h
  · have h' : (n : Int) ≤ 2000 := by omega
    clear h
    go_enter Tryd.func12, Tryd.ntmps12
    go_wp2
    go_ret
    exact ⟨rfl, rfl⟩
  · have h' : 65536 < (n : Int) := by omega
    clear h
    go_enter Tryd.func12, Tryd.ntmps12
    go_wp2
    go_ret
    exact ⟨rfl, rfl⟩

set_option maxHeartbeats 400000 in
theorem short_no (a : Option Addr) (n k : Nat) (w : World) (h : 2000 < n) (h1 : n ≤ 65536) : Calls Tryd.prog 12 #[.slice a n k] w fun e w' => e = .returned (.bool false) ∧ w = w' := by
  have hb : (decide ((n : Int) ≤ 2000) || decide (65536 < (n : Int))) = false := by
    rw [Bool.or_eq_false_iff, decide_eq_false_iff_not, decide_eq_false_iff_not]; omega
  have Hb := Lib.hid hb
  have h' : 2000 < (n : Int) := by omega
  have h1' : (n : Int) ≤ 65536 := by omega
  clear h h1 hb
  go_enter Tryd.func12, Tryd.ntmps12
  go_wp2
  go_ret
  refine ⟨?_, rfl⟩
  show Ending.returned (.bool (decide ((n : Int) ≤ 2000) || decide (65536 < (n : Int)))) = _
  rw [Hb.out]

/-- Secret and the reference's return the same. -/
theorem secrets (b : List Int) (a : Option Addr) (k : Nat) :
    ∃ x e : Int, (∀ w, KOk w → Bs (fun k => k < w.heap.size) w (.slice a b.length k) b → Calls Tryd.prog 13 #[.slice a b.length k] w fun r w' => r = .returned (.tuple #[.int .u64 x, .int .i64 e]) ∧ Below w.heap.size w w') ∧
      (∀ w, Bs (fun k => k < w.heap.size) w (.slice a b.length k) b → Calls Tryd.prog 14 #[.slice a b.length k] w fun r w' => r = .returned (.tuple #[.int .u64 x, .int .i64 e]) ∧ Below w.heap.size w w') := by
  by_cases h : 0 < b.length ∧ b.length ≤ 64
  · exact ⟨secF secS b, 0, fun w hk hv => secret_ok b a k w hk hv h.1 h.2, fun w hv => rsecret_ok b a k w hv h.1 h.2⟩
  · refine ⟨0, 1, fun w _ _ => (secret_bad b.length a k w (by omega)).mono ?_, fun w _ => (rsecret_bad b.length a k w (by omega)).mono ?_⟩
    · rintro e w' ⟨rfl, rfl⟩
      exact ⟨rfl, Below.refl _ _⟩
    · rintro e w' ⟨rfl, rfl⟩
      exact ⟨rfl, Below.refl _ _⟩

/-- Public and the reference's return the same. -/
theorem publics (x : Nat) (hx : x < 18446744073709551616) :
    ∃ p e : Int, (∀ w, Calls Tryd.prog 15 #[.int .u64 (x : Int)] w fun r w' => r = .returned (.tuple #[.int .u64 p, .int .i64 e]) ∧ Below w.heap.size w w') ∧
      (∀ w, Calls Tryd.prog 16 #[.int .u64 (x : Int)] w fun r w' => r = .returned (.tuple #[.int .u64 p, .int .i64 e]) ∧ w = w') := by
  by_cases h : 0 < x ∧ x < 1152921504606845399
  · exact ⟨powP 4 x, 0, fun w => public_ok x w h.1 h.2, fun w => rpublic_ok x w h.1 h.2⟩
  · exact ⟨0, 30, fun w => public_bad x w (by omega), fun w => rpublic_bad x w (by omega)⟩

/-- Sign and the reference's return the same. -/
theorem signs (x : Nat) (hx : x < 18446744073709551616) (m : List Int) (a : Option Addr) (k : Nat) (hs : m.length ≤ 2000 ∨ 65536 < m.length) :
    ∃ c g e : Int, (∀ w, KOk w → Bs (fun k => k < w.heap.size) w (.slice a m.length k) m → Calls Tryd.prog 17 #[.int .u64 (x : Int), .slice a m.length k] w fun r w' => r = .returned (.tuple #[.agg #[.int .u64 c, .int .u64 g], .int .i64 e]) ∧ Below w.heap.size w w') ∧
      (∀ w, Bs (fun k => k < w.heap.size) w (.slice a m.length k) m → Calls Tryd.prog 18 #[.int .u64 (x : Int), .slice a m.length k] w fun r w' => r = .returned (.tuple #[.agg #[.int .u64 c, .int .u64 g], .int .i64 e]) ∧ Below w.heap.size w w') := by
  by_cases h : 0 < x ∧ x < 1152921504606845399
  · rcases hs with hs | hs
    · exact ⟨sigC x m, sigS x m, 0, fun w hk hv => sign_ok x m _ w hk hv h.1 h.2 (by omega), fun w hv => rsign_ok x m _ w hv h.1 h.2 hs⟩
    · exact ⟨0, 0, 2, fun w _ _ => sign_long x a m.length k w h.1 h.2 hs, fun w _ => rsign_long x a m.length k w h.1 h.2 hs⟩
  · exact ⟨0, 0, 30, fun w _ _ => sign_badkey (x : Int) a m.length k w (by omega) (by omega) (by omega), fun w _ => rsign_badkey (x : Int) a m.length k w (by omega) (by omega) (by omega)⟩

set_option maxRecDepth 100000 in
set_option maxHeartbeats 4000000 in
theorem walk (b : List Int) (a : Option Addr) (k : Nat) (x : Int) (m : List Int) (a' : Option Addr) (k' : Nat) (w : World) (hk : KOk w) (hv : Bs (fun k => k < w.heap.size) w (.slice a b.length k) b) (hx : 0 ≤ x ∧ x < 18446744073709551616) (hv' : Bs (fun k => k < w.heap.size) w (.slice a' m.length k') m) :
    Calls Tryd.prog 3 #[.slice a b.length k, .int .u64 x, .slice a' m.length k'] w fun e w' => e = .returned (.bool true) ∧ Below w.heap.size w w' := by
  have HK := Lib.hid hk; have HV := Lib.hid hv; have HV' := Lib.hid hv'
  clear hk hv hv'
  by_cases hb : b.length ≤ 2000
  · by_cases hs : m.length ≤ 2000 ∨ 65536 < m.length
    · have S1 := Lib.hid (fun w => short_yes a' m.length k' w hs)
      obtain ⟨X, rfl⟩ : ∃ X : Nat, x = (X : Int) := ⟨x.toNat, by omega⟩
      obtain ⟨s, e, A1, A2⟩ := secrets b a k
      obtain ⟨p, f, B1, B2⟩ := publics X (by omega)
      obtain ⟨c, g, i, C1, C2⟩ := signs X (by omega) m a' k' hs
      have FA := Lib.hid (fun W' (hb : Below w.heap.size w W') => A1 W' (HK.out.below hb) (HV.out.up2 (fun k hk => hb.block k hk) hb.size))
      have FA2 := Lib.hid (fun W' (hb : Below w.heap.size w W') => A2 W' (HV.out.up2 (fun k hk => hb.block k hk) hb.size))
      have FB := Lib.hid B1
      have FB2 := Lib.hid B2
      have FC := Lib.hid (fun W' (hb : Below w.heap.size w W') => C1 W' (HK.out.below hb) (HV'.out.up2 (fun k hk => hb.block k hk) hb.size))
      have FC2 := Lib.hid (fun W' (hb : Below w.heap.size w W') => C2 W' (HV'.out.up2 (fun k hk => hb.block k hk) hb.size))
      have l1 : (b.length : Int) ≤ 2000 := by omega
      clear A1 A2 B1 B2 C1 C2 hs hb hx
      generalize (X : Int) = x at *
      generalize hM : m.length = M at *
      generalize hN : b.length = N at *
      go_enter Tryd.func3, Tryd.ntmps3
      go_wp2_with fail
      refine (sane_true _).mono ?_
      rintro e w1 ⟨rfl, hb1⟩
      have D1 := Lib.hid hb1; clear hb1
      go_wp2_with fail
      refine (S1.out _).mono ?_
      rintro e w2 ⟨rfl, rfl⟩
      go_wp2_with fail
      refine (FA.out _ D1.out).mono ?_
      rintro e w3 ⟨rfl, hb3⟩
      have D3 := Lib.hid (D1.out.trans (hb3.mono D1.out.size)); clear hb3
      go_wp2_with fail
      refine (FA2.out _ D3.out).mono ?_
      rintro e w4 ⟨rfl, hb4⟩
      have D4 := Lib.hid (D3.out.trans (hb4.mono D3.out.size)); clear hb4
      go_wp2_with fail
      refine (FB.out _).mono ?_
      rintro e w5 ⟨rfl, hb5⟩
      have D5 := Lib.hid (D4.out.trans (hb5.mono D4.out.size)); clear hb5
      go_wp2_with fail
      refine (FB2.out _).mono ?_
      rintro e w6 ⟨rfl, rfl⟩
      go_wp2_with fail
      refine (FC.out _ D5.out).mono ?_
      rintro e w7 ⟨rfl, hb7⟩
      have D7 := Lib.hid (D5.out.trans (hb7.mono D5.out.size)); clear hb7
      go_wp2_with fail
      have z7 := Kq.start w7 c g
      refine (FC2.out _ (D7.out.trans (z7.1.mono D7.out.size))).mono ?_
      rintro e w8 ⟨rfl, hb8⟩
      have z8 := z7.next hb8
      have z9 := Kq.start w8 c g
      have y9 := z8.next z9.1
      have c0 := y9.c0
      have c1 := y9.c1
      have d0 := z9.c0
      have d1 := z9.c1
      clear hb8
      go_wp2_with fail
      go_ret
      exact ⟨rfl, D7.out.trans (y9.1.mono D7.out.size)⟩
    · have S1 := Lib.hid (fun w => short_no a' m.length k' w (by omega) (by omega))
      have l1 : (b.length : Int) ≤ 2000 := by omega
      clear hs hb
      generalize m.length = M at *
      generalize b.length = N at *
      go_enter Tryd.func3, Tryd.ntmps3
      go_wp2_with fail
      refine (sane_true _).mono ?_
      rintro e w1 ⟨rfl, hb1⟩
      have D1 := Lib.hid hb1; clear hb1
      go_wp2_with fail
      refine (S1.out _).mono ?_
      rintro e w2 ⟨rfl, rfl⟩
      go_wp2
      go_ret
      exact ⟨rfl, D1.out⟩
  · have l1 : 2000 < (b.length : Int) := by omega
    clear hb
    generalize m.length = M at *
    generalize b.length = N at *
    go_enter Tryd.func3, Tryd.ntmps3
    go_wp2_with fail
    refine (sane_true _).mono ?_
    rintro e w1 ⟨rfl, hb1⟩
    have D1 := Lib.hid hb1; clear hb1
    go_wp2
    go_ret
    exact ⟨rfl, D1.out⟩


/-- The door's own heap meets the condition. -/
theorem door_met (os : Os) (args : Array Value) : laidMetH Tryd.prog Rows.signMatchesRow.laid ((World.doorLaid Tryd.prog 400 os).forCall (fun _ _ => 0) ⟨#[], args, []⟩).memory :=
  laidMetH_of_parts3 (fuel := 8) (laidMet_of_run' 8 (by kernel_rfl) (by kernel_rfl)) (by kernel_rfl) (by kernel_rfl)

set_option maxRecDepth 100000 in
theorem lifted (os : Os) (started : os.Started) (H : Type) (enc : TypeId × Value → H) :
    ReturnsInHanded {} Tryd.checked os 3 .any (fun w args => (Rows.signMatchesSpec.pre enc Tryd.prog Tryd.f3 [] false w args ∧ laidMetH Tryd.prog Rows.signMatchesRow.laid w) ∧ sizedMet enc Tryd.prog Tryd.f3 (OpenSpec.ofChange Rows.signMatchesSpec) false w args)
      (Rows.signMatchesSpec.post enc Tryd.prog Tryd.f3 false true false false) := by
  refine returnsInHanded_of_change_and (C := Tryd.checked) (X := fun w _ => laidMetH Tryd.prog Rows.signMatchesRow.laid w) (fun _ _ _ hh h => h.of_heap hh) own started (by kernel_rfl) Tryd.func3
    (ChangeSpec.witness_shaped (enc := enc) (C := Tryd.checked) (os := os) (X := fun w _ => laidMetH Tryd.prog Rows.signMatchesRow.laid w) false (World.doorLaid Tryd.prog 400 os) #[.slice none 0 0, .int .u64 0, .slice none 0 0] 8 rfl (World.shaped_of_RefB (by kernel_rfl) (by kernel_rfl)) (by kernel_rfl) (by kernel_rfl) (by kernel_rfl) (door_met os _)) ?_
  intro W base args ds gs before hval0 hW _ hsz0 hL _
  have hsz : (DataW.weightsEach Tryd.prog (Tryd.f3.params.toList ++ Rows.signMatchesSpec.plain.varTypes Tryd.prog) (ds ++ gs)).all (· ≤ reachBytes) = true := hsz0
  have hval : ∀ (j : Nat) t v, Tryd.f3.params[j]? = some t → args[j]? = some v → Value.okWide Tryd.prog W .any base t v := hval0
  clear hsz0 hval0
  have hW' := hW
  obtain ⟨p, q, hA0, hV, rfl, hfz, hnd⟩ := hW
  have hA : DataW.TrodAll enc Tryd.prog W 0 (fun _ => true) true Tryd.f3.params.toList args.toList ds p := hA0
  rw [Tryd.params3] at hA hval hsz
  obtain ⟨v0, vs0, d0, ds0, p0, q0, hargs, rfl, rfl, h0, r0⟩ := trodAll_cons hA
  obtain ⟨v1, vs1, d1, ds1, p1, q1, rfl, rfl, rfl, h1, r1⟩ := trodAll_cons r0
  obtain ⟨v2, vs2, d2, ds2, p2, q2, rfl, rfl, rfl, h2, r2⟩ := trodAll_cons r1
  obtain ⟨rfl, rfl, rfl⟩ := trodAll_nil r2
  obtain rfl : args = #[v0, v1, v2] := by cases args; simp_all
  obtain ⟨rfl, rfl⟩ := trodVars_none hV
  have hw0 : ∀ n ∈ d0.weights Tryd.prog 22, n ≤ reachBytes := by
    intro n hn
    have := List.all_eq_true.1 hsz n (DataW.weights_mem_each (t := 22) (d := d0) (j := 0) rfl rfl n hn)
    simpa using this
  obtain ⟨oa0, ol0, oc0, rfl⟩ := okWide_slice Tryd.underlying22 (hval 0 22 v0 rfl rfl)
  obtain ⟨fu0, hf0⟩ := h0
  obtain ⟨b0, hb0⟩ := openB (v := .slice oa0 ol0 oc0) hf0 hw0
  obtain rfl : ol0 = b0.length := by
    obtain ⟨_, _, _, _, e, _⟩ := hb0
    simp only [Value.slice.injEq] at e
    exact e.2.1
  obtain ⟨a1, rfl, rfl, rfl, wf1⟩ := open_int Tryd.underlying23 (hval 1 23 v1 rfl rfl) h1
  have ru1 : 0 ≤ a1 ∧ a1 < 18446744073709551616 := u64_wf wf1
  have hw2 : ∀ n ∈ d2.weights Tryd.prog 22, n ≤ reachBytes := by
    intro n hn
    have := List.all_eq_true.1 hsz n (DataW.weights_mem_each (t := 22) (d := d2) (j := 2) rfl rfl n hn)
    simpa using this
  obtain ⟨oa2, ol2, oc2, rfl⟩ := okWide_slice Tryd.underlying22 (hval 2 22 v2 rfl rfl)
  obtain ⟨fu2, hf2⟩ := h2
  obtain ⟨b2, hb2⟩ := openB (v := .slice oa2 ol2 oc2) hf2 hw2
  obtain rfl : ol2 = b2.length := by
    obtain ⟨_, _, _, _, e, _⟩ := hb2
    simp only [Value.slice.injEq] at e
    exact e.2.1
  clear hA0
  refine (walk b0 oa0 oc0 a1 b2 oa2 oc2 W (kok_of_laid hL) hb0 ru1 hb2).mono fun e W' ⟨he, hbw⟩ => ?_
  subst he
  refine ⟨_, rfl, post_law laidOut ?_ rfl rfl hW' rfl rfl rfl hbw⟩
  intro t ht
  rw [Tryd.params3] at ht
  have hm : t ∈ [22, 23] := by simp at ht; first | (rcases ht with rfl | rfl | rfl <;> simp) | (rcases ht with rfl | rfl <;> simp)
  have hall : ([22, 23].all fun u => Tryd.prog.readableRec u && decide (u < Tryd.prog.types.size)) = true := by kernel_rfl
  have := List.all_eq_true.1 hall t hm
  simpa using this

theorem over : Rows.signMatchesRow.holds Tryd.pinned (OpenSpec.ofChange Rows.signMatchesSpec) :=
  OpenClaim.holds_of_wide 3 Tryd.f3 rfl rfl rfl rfl rfl rfl rfl ⟨rfl, rfl, rfl, rfl, rfl⟩ rfl rfl rfl rfl rfl (by kernel_rfl) Tryd.func3 (by kernel_rfl)
    (of_decide_eq_true (by kernel_rfl)) (by unfold Func.isWrapper; first | (rw [if_pos (by decide +kernel)]; kernel_rfl) | (rw [if_neg (by decide +kernel)]; exact ⟨rfl, rfl⟩))
    (fun os started H enc _ => lifted os started H enc)

/-- THE STATEMENT. -/
theorem proved : Rows.SignMatchesCardSaid :=
  Claim7.holds_tied_plain_at .later [] [.data] true (true, "f6b8e2bca58b870a70669e1a5b4edbfcbd882eeab9a8bd45ca4f43270d351360") false
    over (fun _ h => by cases h) (by kernel_rfl) (fun _ h => by cases h) signMatches_row_tie rfl ⟨rfl, rfl⟩ (by kernel_rfl) rfl
    (fun f fn hf hfn => by
      obtain rfl : f = 3 := Option.some.inj ((show Tryd.prog.funcNamed "wagonpool/wagonpoollaw03.SignMatches" = some 3 by kernel_rfl).symm.trans hf) |>.symm
      obtain rfl : fn = Tryd.f3 := (Option.some.inj (Tryd.func3.symm.trans hfn)).symm
      exact ⟨by kernel_rfl, fun j t ht => by
        rw [Tryd.params3] at ht
        have hm : t ∈ [22, 23] := by have := Array.mem_of_getElem? ht; simp at this; first | (rcases this with rfl | rfl | rfl <;> simp) | (rcases this with rfl | rfl <;> simp)
        have hall : ([22, 23].all fun u => !Tryd.prog.wantsStandIn u) = true := by kernel_rfl
        exact (show Tryd.prog.wantsStandIn t = false by simpa using List.all_eq_true.1 hall t hm)⟩)
    (by kernel_rfl)
#print axioms proved
end Go.Proofs.YtlfjcifeiihmfaaDoor.signMatches
