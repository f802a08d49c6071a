/-
  The statement 'Rows.MoneyArithmeticCardSaid': for all arguments the law returns true; the arguments read as they did. Condition: the listed variables lie as the program's text lays them.
-/
import Derived.Test.YtempnbchiofghaaGreatDoorFr
import Derived.ChangeMaps5
namespace Go.Proofs.YtempnbchiofghaaGreatDoor.moneyArithmetic
open Go.ChangeShapes Go.WideShapes Go.ChangeAt Go.RowKit Go.Lib
set_option linter.unusedVariables false
set_option linter.unusedSimpArgs false

theorem add_as {a b s e : Int} (h : addV a b = (s, e)) (w : World) : Calls Tryz.prog 13 #[.int .i64 a, .int .i64 b] w fun x w' => x = .returned (.tuple #[.int .i64 s, .int .i64 e]) ∧ w = w' := by
  have := add_any a b w
  rw [h] at this
  exact this
theorem sub_as {a b s e : Int} (h : subV a b = (s, e)) (w : World) : Calls Tryz.prog 15 #[.int .i64 a, .int .i64 b] w fun x w' => x = .returned (.tuple #[.int .i64 s, .int .i64 e]) ∧ w = w' := by
  have := sub_any a b w
  rw [h] at this
  exact this
theorem mul_as {a b s e : Int} (h : mulV a b = (s, e)) (w : World) : Calls Tryz.prog 17 #[.int .i64 a, .int .i64 b] w fun x w' => x = .returned (.tuple #[.int .i64 s, .int .i64 e]) ∧ w = w' := by
  have := mul_any a b w
  rw [h] at this
  exact this
theorem rin_as {a : Int} {x : Bool} (h : decide (inR a) = x) (w : World) : Calls Tryz.prog 32 #[.int .i64 a] w fun e w' => e = .returned (.bool x) ∧ w = w' := by
  have := rin_any a w
  rw [h] at this
  exact this
theorem addV_comm (a b : Int) : addV a b = addV b a := by unfold addV; rw [Int.add_comm]; simp only [and_comm]
theorem mulV_comm (a b : Int) : mulV a b = mulV b a := by unfold mulV; rw [Int.mul_comm]; simp only [and_comm]
theorem chk_ok {a s : Int} (h : chk a = (s, 0)) : s = a ∧ inR a := by
  unfold chk at h
  split at h
  · simp only [Prod.mk.injEq, and_true] at h; exact ⟨h.symm, by assumption⟩
  · simp at h
theorem mulV_ok {a b s : Int} (h : mulV a b = (s, 0)) : s = a * b ∧ inR (a * b) := by
  unfold mulV at h
  split at h
  · exact chk_ok h
  · simp at h
theorem addV_ok {a b s : Int} (h : addV a b = (s, 0)) : s = a + b ∧ inR (a + b) ∧ inR a ∧ inR b := by
  unfold addV at h
  split at h
  · rename_i hi
    exact ⟨(chk_ok h).1, (chk_ok h).2, hi.1, hi.2⟩
  · simp at h
theorem addV_code (a b s e : Int) (h : addV a b = (s, e)) : e = 0 ∨ e = 3 := by
  unfold addV chk at h
  split at h
  · split at h <;> simp at h <;> omega
  · simp at h; omega
theorem subV_back {a b : Int} (h : inR (a + b)) (ha : inR a) (hb : inR b) : subV (a + b) b = (a, 0) := by
  unfold subV chk
  rw [if_pos ⟨h, hb⟩, if_pos (by rw [Int.add_sub_cancel]; exact ha), Int.add_sub_cancel]
theorem dist (c a b L R W X : Int) (h1 : mulV c a = (L, 0)) (h2 : mulV c b = (R, 0)) (h3 : mulV c (a + b) = (W, 0)) (h4 : addV L R = (X, 0)) : X = W := by
  rw [(mulV_ok h3).1, (addV_ok h4).1, (mulV_ok h1).1, (mulV_ok h2).1, Int.mul_add]

set_option maxRecDepth 100000 in
set_option maxHeartbeats 8000000 in
theorem walk (a b c : Int) (w : World) (hk : LK w) (ha : I64 a) (hb : I64 b) : Calls Tryz.prog 5 #[.int .i64 a, .int .i64 b, .int .i64 c] w fun e w' => e = .returned (.bool true) ∧ Below w.heap.size w w' := by
  have HS := Lib.hid (sane_true w hk)
  clear hk
  obtain ⟨S, E, hS⟩ : ∃ S E, addV a b = (S, E) := ⟨_, _, rfl⟩
  have hS' : addV b a = (S, E) := (addV_comm b a).trans hS
  obtain ⟨M, G, hM⟩ : ∃ M G, mulV a b = (M, G) := ⟨_, _, rfl⟩
  have hM' : mulV b a = (M, G) := (mulV_comm b a).trans hM
  obtain ⟨L, LE, hL⟩ : ∃ L LE, mulV c a = (L, LE) := ⟨_, _, rfl⟩
  obtain ⟨R, RE, hR⟩ : ∃ R RE, mulV c b = (R, RE) := ⟨_, _, rfl⟩
  obtain ⟨W, WE, hW⟩ : ∃ W WE, mulV c S = (W, WE) := ⟨_, _, rfl⟩
  obtain ⟨X, XE, hX⟩ : ∃ X XE, addV L R = (X, XE) := ⟨_, _, rfl⟩
  have A1 := Lib.hid (fun w => add_as hS w); have A2 := Lib.hid (fun w => add_as hS' w); have A3 := Lib.hid (fun w => mul_as hM w); have A4 := Lib.hid (fun w => mul_as hM' w)
  have A5 := Lib.hid (fun w => mul_as hL w); have A6 := Lib.hid (fun w => mul_as hR w); have A7 := Lib.hid (fun w => mul_as hW w); have A8 := Lib.hid (fun w => add_as hX w)
  have n1 : (S != S) = false := by simp
  have n2 : (E != E) = false := by simp
  have n3 : (M != M) = false := by simp
  have n4 : (G != G) = false := by simp
  by_cases i0 : inR a
  · have R0 := Lib.hid (fun w => rin_as (decide_eq_true i0) w)
    by_cases i1 : inR b
    · have R1 := Lib.hid (fun w => rin_as (decide_eq_true i1) w)
      obtain ⟨T, hT⟩ : ∃ T, a + b = T := ⟨_, rfl⟩
      have hwr : IntKind.i64.wrap (a + b) = T := by rw [← hT]; exact in_sum i0 i1
      by_cases i2 : inR T
      · have R2 := Lib.hid (fun w => rin_as (decide_eq_true i2) w)
        obtain ⟨rfl, rfl⟩ : S = T ∧ E = 0 := by
          unfold addV chk at hS
          rw [if_pos ⟨i0, i1⟩, hT, if_pos i2] at hS
          simp only [Prod.mk.injEq] at hS
          exact ⟨hS.1.symm, hS.2.symm⟩
        have hsb : subV S b = (a, 0) := by rw [← hT]; exact subV_back (by rw [hT]; exact i2) i0 i1
        have A9 := Lib.hid (fun w => sub_as hsb w)
        have n5 : (a != a) = false := by simp
        have key : LE = 0 → RE = 0 → WE = 0 → XE = 0 → X = W := by
          rintro rfl rfl rfl rfl
          exact dist c a b L R W X hL hR (by rw [hT]; exact hW) hX
        have HK := Lib.hid key
        clear hS hS' hM hM' hL hR hW hX key hsb hT
        go_enter Tryz.func5, Tryz.ntmps5
        go_wp2_with fail
        refine (HS.out).mono ?_
        rintro e w1 ⟨rfl, hb⟩
        have HB := Lib.hid hb
        clear hb HS
        go_wp2_with fail
        refine (A1.out _).mono ?_
        rintro e w' ⟨rfl, rfl⟩
        go_wp2_with fail
        refine (A2.out _).mono ?_
        rintro e w' ⟨rfl, rfl⟩
        go_wp2_with fail
        refine (A3.out _).mono ?_
        rintro e w' ⟨rfl, rfl⟩
        go_wp2_with fail
        refine (A4.out _).mono ?_
        rintro e w' ⟨rfl, rfl⟩
        go_wp2_with fail
        refine (R0.out _).mono ?_
        rintro e w' ⟨rfl, rfl⟩
        go_wp2_with fail
        refine (R1.out _).mono ?_
        rintro e w' ⟨rfl, rfl⟩
        go_wp2_with fail
        refine (R2.out _).mono ?_
        rintro e w' ⟨rfl, rfl⟩
        go_wp2_with fail
        refine (A9.out _).mono ?_
        rintro e w' ⟨rfl, rfl⟩
        go_wp2_with fail
        refine (A5.out _).mono ?_
        rintro e w' ⟨rfl, rfl⟩
        go_wp2_with fail
        refine (A6.out _).mono ?_
        rintro e w' ⟨rfl, rfl⟩
        go_wp2_with fail
        refine (A7.out _).mono ?_
        rintro e w' ⟨rfl, rfl⟩
        go_wp2_with fail
        refine (A8.out _).mono ?_
        rintro e w' ⟨rfl, rfl⟩
        by_cases e0 : LE = 0
        · have b0 : (LE != 0) = false := by simp [e0]
          by_cases e1 : RE = 0
          · have b1 : (RE != 0) = false := by simp [e1]
            by_cases e2 : WE = 0
            · have b2 : (WE != 0) = false := by simp [e2]
              by_cases e3 : XE = 0
              · have b3 : (XE != 0) = false := by simp [e3]
                obtain rfl := HK.out e0 e1 e2 e3
                have b4 : (X == X) = true := by simp
                clear e0 e1 e2 e3 HK
                go_wp2
                go_ret
                exact ⟨rfl, HB.out⟩
              · have b3 : (XE != 0) = true := by simp [e3]
                clear e0 e1 e2 e3 HK
                go_wp2
                go_ret
                exact ⟨rfl, HB.out⟩
            · have b2 : (WE != 0) = true := by simp [e2]
              clear e0 e1 e2 HK
              go_wp2
              go_ret
              exact ⟨rfl, HB.out⟩
          · have b1 : (RE != 0) = true := by simp [e1]
            clear e0 e1 HK
            go_wp2
            go_ret
            exact ⟨rfl, HB.out⟩
        · have b0 : (LE != 0) = true := by simp [e0]
          clear e0 HK
          go_wp2
          go_ret
          exact ⟨rfl, HB.out⟩
      · have R2 := Lib.hid (fun w => rin_as (decide_eq_false i2) w)
        obtain ⟨rfl, rfl⟩ : S = 0 ∧ E = 3 := by
          unfold addV chk at hS
          rw [if_pos ⟨i0, i1⟩, hT, if_neg i2] at hS
          simp only [Prod.mk.injEq] at hS
          exact ⟨hS.1.symm, hS.2.symm⟩
        clear hS hS' hM hM' hL hR hW hX hT
        go_enter Tryz.func5, Tryz.ntmps5
        go_wp2_with fail
        refine (HS.out).mono ?_
        rintro e w1 ⟨rfl, hb⟩
        have HB := Lib.hid hb
        clear hb HS
        go_wp2_with fail
        refine (A1.out _).mono ?_
        rintro e w' ⟨rfl, rfl⟩
        go_wp2_with fail
        refine (A2.out _).mono ?_
        rintro e w' ⟨rfl, rfl⟩
        go_wp2_with fail
        refine (A3.out _).mono ?_
        rintro e w' ⟨rfl, rfl⟩
        go_wp2_with fail
        refine (A4.out _).mono ?_
        rintro e w' ⟨rfl, rfl⟩
        go_wp2_with fail
        refine (R0.out _).mono ?_
        rintro e w' ⟨rfl, rfl⟩
        go_wp2_with fail
        refine (R1.out _).mono ?_
        rintro e w' ⟨rfl, rfl⟩
        go_wp2_with fail
        refine (R2.out _).mono ?_
        rintro e w' ⟨rfl, rfl⟩
        go_wp2_with fail
        refine (A5.out _).mono ?_
        rintro e w' ⟨rfl, rfl⟩
        go_wp2_with fail
        refine (A6.out _).mono ?_
        rintro e w' ⟨rfl, rfl⟩
        go_wp2_with fail
        refine (A7.out _).mono ?_
        rintro e w' ⟨rfl, rfl⟩
        go_wp2_with fail
        refine (A8.out _).mono ?_
        rintro e w' ⟨rfl, rfl⟩
        go_wp2
        go_ret
        exact ⟨rfl, HB.out⟩
    · have R1 := Lib.hid (fun w => rin_as (decide_eq_false i1) w)
      obtain ⟨rfl, rfl⟩ : S = 0 ∧ E = 3 := by
        unfold addV at hS
        rw [if_neg (fun h => i1 h.2)] at hS
        simp only [Prod.mk.injEq] at hS
        exact ⟨hS.1.symm, hS.2.symm⟩
      clear hS hS' hM hM' hL hR hW hX
      go_enter Tryz.func5, Tryz.ntmps5
      go_wp2_with fail
      refine (HS.out).mono ?_
      rintro e w1 ⟨rfl, hb⟩
      have HB := Lib.hid hb
      clear hb HS
      go_wp2_with fail
      refine (A1.out _).mono ?_
      rintro e w' ⟨rfl, rfl⟩
      go_wp2_with fail
      refine (A2.out _).mono ?_
      rintro e w' ⟨rfl, rfl⟩
      go_wp2_with fail
      refine (A3.out _).mono ?_
      rintro e w' ⟨rfl, rfl⟩
      go_wp2_with fail
      refine (A4.out _).mono ?_
      rintro e w' ⟨rfl, rfl⟩
      go_wp2_with fail
      refine (R0.out _).mono ?_
      rintro e w' ⟨rfl, rfl⟩
      go_wp2_with fail
      refine (R1.out _).mono ?_
      rintro e w' ⟨rfl, rfl⟩
      go_wp2_with fail
      refine (A5.out _).mono ?_
      rintro e w' ⟨rfl, rfl⟩
      go_wp2_with fail
      refine (A6.out _).mono ?_
      rintro e w' ⟨rfl, rfl⟩
      go_wp2_with fail
      refine (A7.out _).mono ?_
      rintro e w' ⟨rfl, rfl⟩
      go_wp2_with fail
      refine (A8.out _).mono ?_
      rintro e w' ⟨rfl, rfl⟩
      go_wp2
      go_ret
      exact ⟨rfl, HB.out⟩
  · have R0 := Lib.hid (fun w => rin_as (decide_eq_false i0) w)
    obtain ⟨rfl, rfl⟩ : S = 0 ∧ E = 3 := by
      unfold addV at hS
      rw [if_neg (fun h => i0 h.1)] at hS
      simp only [Prod.mk.injEq] at hS
      exact ⟨hS.1.symm, hS.2.symm⟩
    clear hS hS' hM hM' hL hR hW hX
    go_enter Tryz.func5, Tryz.ntmps5
    go_wp2_with fail
    refine (HS.out).mono ?_
    rintro e w1 ⟨rfl, hb⟩
    have HB := Lib.hid hb
    clear hb HS
    go_wp2_with fail
    refine (A1.out _).mono ?_
    rintro e w' ⟨rfl, rfl⟩
    go_wp2_with fail
    refine (A2.out _).mono ?_
    rintro e w' ⟨rfl, rfl⟩
    go_wp2_with fail
    refine (A3.out _).mono ?_
    rintro e w' ⟨rfl, rfl⟩
    go_wp2_with fail
    refine (A4.out _).mono ?_
    rintro e w' ⟨rfl, rfl⟩
    go_wp2_with fail
    refine (R0.out _).mono ?_
    rintro e w' ⟨rfl, rfl⟩
    go_wp2_with fail
    refine (A5.out _).mono ?_
    rintro e w' ⟨rfl, rfl⟩
    go_wp2_with fail
    refine (A6.out _).mono ?_
    rintro e w' ⟨rfl, rfl⟩
    go_wp2_with fail
    refine (A7.out _).mono ?_
    rintro e w' ⟨rfl, rfl⟩
    go_wp2_with fail
    refine (A8.out _).mono ?_
    rintro e w' ⟨rfl, rfl⟩
    go_wp2
    go_ret
    exact ⟨rfl, HB.out⟩

set_option maxRecDepth 100000 in
theorem lifted (os : Os) (started : os.Started) (H : Type) (enc : TypeId × Value → H) :
    ReturnsInHanded {} Tryz.checked os 5 .any (fun w args => (Rows.moneyArithmeticSpec.pre enc Tryz.prog Tryz.f5 [] false w args ∧ laidMetH Tryz.prog Rows.moneyArithmeticRow.laid w) ∧ sizedMet enc Tryz.prog Tryz.f5 (OpenSpec.ofChange Rows.moneyArithmeticSpec) false w args)
      (Rows.moneyArithmeticSpec.post enc Tryz.prog Tryz.f5 false true false false) := by
  refine returnsInHanded_of_change_and (C := Tryz.checked) (X := fun w _ => laidMetH Tryz.prog Rows.moneyArithmeticRow.laid w) (fun _ _ _ hh h => h.of_heap hh) own started (by kernel_rfl) Tryz.func5
    (ChangeSpec.witness_shaped (enc := enc) (C := Tryz.checked) (os := os) (X := fun w _ => laidMetH Tryz.prog Rows.moneyArithmeticRow.laid w) false (World.laidAll Tryz.prog os laidAllOf) #[.int .i64 0, .int .i64 0, .int .i64 0] 8 (World.laidAll_os _ _ _) (World.shaped_of_ZipB (by kernel_rfl) (by kernel_rfl)) (by kernel_rfl) (by kernel_rfl) (by kernel_rfl) (laidAll_met os _)) ?_
  intro W base args ds gs before hval0 hW _ hsz0 hL _
  have hsz : (DataW.weightsEach Tryz.prog (Tryz.f5.params.toList ++ Rows.moneyArithmeticSpec.plain.varTypes Tryz.prog) (ds ++ gs)).all (· ≤ reachBytes) = true := hsz0
  clear hsz0
  have hval : ∀ (j : Nat) t v, Tryz.f5.params[j]? = some t → args[j]? = some v → Value.okWide Tryz.prog W .any base t v := hval0
  clear hval0
  have hW' := hW
  obtain ⟨p, q, hA0, hV, rfl, hfz, hnd⟩ := hW
  have hA : DataW.TrodAll enc Tryz.prog W 0 (fun _ => true) true Tryz.f5.params.toList args.toList ds p := hA0
  rw [Tryz.params5] at hA hval hsz
  obtain ⟨v0, vs0, d0, ds0, p0, q0, hargs, rfl, rfl, h0, r0⟩ := trodAll_cons hA
  obtain ⟨v1, vs1, d1, ds1, p1, q1, rfl, rfl, rfl, h1, r1⟩ := trodAll_cons r0
  obtain ⟨v2, vs2, d2, ds2, p2, q2, rfl, rfl, rfl, h2, r2⟩ := trodAll_cons r1
  obtain ⟨rfl, rfl, rfl⟩ := trodAll_nil r2
  obtain rfl : args = #[v0, v1, v2] := by cases args; simp_all
  obtain ⟨rfl, rfl⟩ := trodVars_none hV
  obtain ⟨a0, rfl, rfl, rfl, wf0⟩ := open_int Tryz.underlying3 (hval 0 3 v0 rfl rfl) h0
  have ru0 := i64_wf wf0
  obtain ⟨a1, rfl, rfl, rfl, wf1⟩ := open_int Tryz.underlying3 (hval 1 3 v1 rfl rfl) h1
  have ru1 := i64_wf wf1
  obtain ⟨a2, rfl, rfl, rfl, wf2⟩ := open_int Tryz.underlying3 (hval 2 3 v2 rfl rfl) h2
  have ru2 := i64_wf wf2
  clear hA0
  refine (walk a0 a1 a2 W (lk_of_laid hL) ru0 ru1).mono fun e W' ⟨he, hbw⟩ => ?_
  subst he
  refine ⟨_, rfl, post_law laidOut ?_ rfl rfl hW' rfl rfl rfl hbw⟩
  intro t ht
  rw [Tryz.params5] at ht
  have hm : t ∈ [3] := by
    simp at ht
    subst ht; simp
  have hall : ([3].all fun u => Tryz.prog.readableRec u && decide (u < Tryz.prog.types.size)) = true := by kernel_rfl
  have := List.all_eq_true.1 hall t hm
  simpa using this

theorem over : Rows.moneyArithmeticRow.holds Tryz.pinned (OpenSpec.ofChange Rows.moneyArithmeticSpec) :=
  OpenClaim.holds_of_wide 5 Tryz.f5 rfl rfl rfl rfl rfl rfl rfl ⟨rfl, rfl, rfl, rfl, rfl⟩ rfl rfl rfl rfl rfl (by kernel_rfl) Tryz.func5 (by kernel_rfl)
    (of_decide_eq_true (by kernel_rfl)) (by unfold Func.isWrapper; first | (rw [if_pos (by decide +kernel)]; kernel_rfl) | (rw [if_neg (by decide +kernel)]; exact ⟨rfl, rfl⟩))
    (fun os started H enc _ => lifted os started H enc)

/-- THE STATEMENT. -/
theorem proved : Rows.MoneyArithmeticCardSaid :=
  Claim7.holds_tied_plain_at .later [] [.data, .data, .data, .data, .sentinel, .sentinel, .pinned] true (true, "d474b3da227b1f68ed449b6e949976c410548039ae0db78d056320657f151c7e") true
    over (fun _ h => by cases h) (by kernel_rfl) (fun _ h => by cases h) moneyArithmetic_row_tie rfl ⟨rfl, rfl⟩ (by kernel_rfl) rfl
    (fun f fn hf hfn => by
      obtain rfl : f = 5 := Option.some.inj ((show Tryz.prog.funcNamed "wagonpool/wagonpoollaw07.MoneyArithmetic" = some 5 by kernel_rfl).symm.trans hf) |>.symm
      obtain rfl : fn = Tryz.f5 := (Option.some.inj (Tryz.func5.symm.trans hfn)).symm
      exact ⟨by kernel_rfl, fun j t ht => by
        rw [Tryz.params5] at ht
        have hm : t ∈ [3] := by
          have := Array.mem_of_getElem? ht
          simp at this
          subst this; simp
        have hall : ([3].all fun u => !Tryz.prog.wantsStandIn u) = true := by kernel_rfl
        exact (show Tryz.prog.wantsStandIn t = false by simpa using List.all_eq_true.1 hall t hm)⟩)
    (by kernel_rfl)
#print axioms proved
end Go.Proofs.YtempnbchiofghaaGreatDoor.moneyArithmetic
