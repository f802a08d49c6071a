/-
  The statement 'Rows.MoneyMonotonicCardSaid': for all arguments the law returns true; the arguments read as they did. Condition: the listed variables lie as the program's text lays them.
-/
import Derived.Test.YtempnbchiofghaaGreatDoorFr
import Derived.ChangeMaps5
namespace Go.Proofs.YtempnbchiofghaaGreatDoor.moneyMonotonic
open Go.ChangeShapes Go.WideShapes Go.ChangeAt Go.RowKit Go.Lib
set_option linter.unusedVariables false
set_option linter.unusedSimpArgs false

theorem div_as {a b m s e : Int} (hb : I64 b) (h : divV a b m = (s, e)) (w : World) : Calls Tryz.prog 19 #[.int .i64 a, .int .i64 b, .int .i64 m] w fun x w' => x = .returned (.tuple #[.int .i64 s, .int .i64 e]) ∧ w = w' := by
  have := div_any a b m hb w
  rw [h] at this
  exact this
theorem divV_ok {a b m s : Int} (h : divV a b m = (s, 0)) : s = divQ a b m ∧ 0 < b := by
  unfold divV at h
  split at h
  · split at h
    · split at h
      · simp at h
      · simp only [Prod.mk.injEq, and_true] at h; exact ⟨h.symm, by omega⟩
    · simp at h
  · simp at h
theorem divQ_mono {a a' b m : Int} (hb : 0 < b) (h : a ≤ a') : divQ a b m ≤ divQ a' b m := by
  unfold divQ
  split
  · exact Int.ediv_le_ediv hb h
  · split
    · have := Int.ediv_le_ediv hb (show -a' ≤ -a by omega)
      omega
    · exact Int.ediv_le_ediv (by omega) (by omega)

set_option maxRecDepth 100000 in
set_option maxHeartbeats 8000000 in
theorem walk (a b c d : Int) (w : World) (hk : LK w) (hc : I64 c) : Calls Tryz.prog 7 #[.int .i64 a, .int .i64 b, .int .i64 c, .int .i64 d] w fun e w' => e = .returned (.bool true) ∧ Below w.heap.size w w' := by
  have HS := Lib.hid (sane_true w hk)
  obtain ⟨S, E, hS⟩ : ∃ S E, divV a c d = (S, E) := ⟨_, _, rfl⟩
  obtain ⟨T, G, hT⟩ : ∃ T G, divV b c d = (T, G) := ⟨_, _, rfl⟩
  have A1 := Lib.hid (fun w => div_as hc hS w); have A2 := Lib.hid (fun w => div_as hc hT w)
  have key : E = 0 → G = 0 → (a ≤ b → S ≤ T) ∧ (b ≤ a → T ≤ S) := by
    rintro rfl rfl
    obtain ⟨rfl, hp⟩ := divV_ok hS
    obtain ⟨rfl, _⟩ := divV_ok hT
    exact ⟨divQ_mono hp, divQ_mono hp⟩
  have HK := Lib.hid key
  clear hk hS hT key hc
  go_enter Tryz.func7, Tryz.ntmps7
  go_wp2_with fail
  refine (HS.out).mono ?_
  rintro e w1 ⟨rfl, hb⟩
  have HB := Lib.hid hb
  clear hb HS
  go_wp2_with fail
  refine (A1.out _).mono ?_
  rintro e w' ⟨rfl, rfl⟩
  go_wp2_with fail
  refine (A2.out _).mono ?_
  rintro e w' ⟨rfl, rfl⟩
  by_cases e0 : E = 0
  · have b0 : (E != 0) = false := by simp [e0]
    by_cases e1 : G = 0
    · have b1 : (G != 0) = false := by simp [e1]
      obtain ⟨k1, k2⟩ := HK.out e0 e1
      clear e0 e1 HK
      by_cases h : a ≤ b
      · have k := k1 h
        have kd : decide (S ≤ T) = true := decide_eq_true k
        clear k1 k2
        go_wp2
        go_ret
        exact ⟨rfl, HB.out⟩
      · have k := k2 (by omega)
        have kd : decide (T ≤ S) = true := decide_eq_true k
        have h' : b < a := by omega
        clear k1 k2
        go_wp2
        go_ret
        exact ⟨rfl, HB.out⟩
    · have b1 : (G != 0) = true := by simp [e1]
      clear e0 e1 HK
      go_wp2
      go_ret
      exact ⟨rfl, HB.out⟩
  · have b0 : (E != 0) = true := by simp [e0]
    clear e0 HK
    go_wp2
    go_ret
    exact ⟨rfl, HB.out⟩

set_option maxRecDepth 100000 in
theorem lifted (os : Os) (started : os.Started) (H : Type) (enc : TypeId × Value → H) :
    ReturnsInHanded {} Tryz.checked os 7 .any (fun w args => (Rows.moneyMonotonicSpec.pre enc Tryz.prog Tryz.f7 [] false w args ∧ laidMetH Tryz.prog Rows.moneyMonotonicRow.laid w) ∧ sizedMet enc Tryz.prog Tryz.f7 (OpenSpec.ofChange Rows.moneyMonotonicSpec) false w args)
      (Rows.moneyMonotonicSpec.post enc Tryz.prog Tryz.f7 false true false false) := by
  refine returnsInHanded_of_change_and (C := Tryz.checked) (X := fun w _ => laidMetH Tryz.prog Rows.moneyMonotonicRow.laid w) (fun _ _ _ hh h => h.of_heap hh) own started (by kernel_rfl) Tryz.func7
    (ChangeSpec.witness_shaped (enc := enc) (C := Tryz.checked) (os := os) (X := fun w _ => laidMetH Tryz.prog Rows.moneyMonotonicRow.laid w) false (World.laidAll Tryz.prog os laidAllOf) #[.int .i64 0, .int .i64 0, .int .i64 0, .int .i64 0] 8 (World.laidAll_os _ _ _) (World.shaped_of_ZipB (by kernel_rfl) (by kernel_rfl)) (by kernel_rfl) (by kernel_rfl) (by kernel_rfl) (laidAll_met os _)) ?_
  intro W base args ds gs before hval0 hW _ hsz0 hL _
  have hsz : (DataW.weightsEach Tryz.prog (Tryz.f7.params.toList ++ Rows.moneyMonotonicSpec.plain.varTypes Tryz.prog) (ds ++ gs)).all (· ≤ reachBytes) = true := hsz0
  clear hsz0
  have hval : ∀ (j : Nat) t v, Tryz.f7.params[j]? = some t → args[j]? = some v → Value.okWide Tryz.prog W .any base t v := hval0
  clear hval0
  have hW' := hW
  obtain ⟨p, q, hA0, hV, rfl, hfz, hnd⟩ := hW
  have hA : DataW.TrodAll enc Tryz.prog W 0 (fun _ => true) true Tryz.f7.params.toList args.toList ds p := hA0
  rw [Tryz.params7] at hA hval hsz
  obtain ⟨v0, vs0, d0, ds0, p0, q0, hargs, rfl, rfl, h0, r0⟩ := trodAll_cons hA
  obtain ⟨v1, vs1, d1, ds1, p1, q1, rfl, rfl, rfl, h1, r1⟩ := trodAll_cons r0
  obtain ⟨v2, vs2, d2, ds2, p2, q2, rfl, rfl, rfl, h2, r2⟩ := trodAll_cons r1
  obtain ⟨v3, vs3, d3, ds3, p3, q3, rfl, rfl, rfl, h3, r3⟩ := trodAll_cons r2
  obtain ⟨rfl, rfl, rfl⟩ := trodAll_nil r3
  obtain rfl : args = #[v0, v1, v2, v3] := by cases args; simp_all
  obtain ⟨rfl, rfl⟩ := trodVars_none hV
  obtain ⟨a0, rfl, rfl, rfl, wf0⟩ := open_int Tryz.underlying3 (hval 0 3 v0 rfl rfl) h0
  have ru0 := i64_wf wf0
  obtain ⟨a1, rfl, rfl, rfl, wf1⟩ := open_int Tryz.underlying3 (hval 1 3 v1 rfl rfl) h1
  have ru1 := i64_wf wf1
  obtain ⟨a2, rfl, rfl, rfl, wf2⟩ := open_int Tryz.underlying3 (hval 2 3 v2 rfl rfl) h2
  have ru2 := i64_wf wf2
  obtain ⟨a3, rfl, rfl, rfl, wf3⟩ := open_int Tryz.underlying3 (hval 3 3 v3 rfl rfl) h3
  have ru3 := i64_wf wf3
  clear hA0
  refine (walk a0 a1 a2 a3 W (lk_of_laid hL) ru2).mono fun e W' ⟨he, hbw⟩ => ?_
  subst he
  refine ⟨_, rfl, post_law laidOut ?_ rfl rfl hW' rfl rfl rfl hbw⟩
  intro t ht
  rw [Tryz.params7] at ht
  have hm : t ∈ [3] := by
    simp at ht
    subst ht; simp
  have hall : ([3].all fun u => Tryz.prog.readableRec u && decide (u < Tryz.prog.types.size)) = true := by kernel_rfl
  have := List.all_eq_true.1 hall t hm
  simpa using this

theorem over : Rows.moneyMonotonicRow.holds Tryz.pinned (OpenSpec.ofChange Rows.moneyMonotonicSpec) :=
  OpenClaim.holds_of_wide 7 Tryz.f7 rfl rfl rfl rfl rfl rfl rfl ⟨rfl, rfl, rfl, rfl, rfl⟩ rfl rfl rfl rfl rfl (by kernel_rfl) Tryz.func7 (by kernel_rfl)
    (of_decide_eq_true (by kernel_rfl)) (by unfold Func.isWrapper; first | (rw [if_pos (by decide +kernel)]; kernel_rfl) | (rw [if_neg (by decide +kernel)]; exact ⟨rfl, rfl⟩))
    (fun os started H enc _ => lifted os started H enc)

/-- THE STATEMENT. -/
theorem proved : Rows.MoneyMonotonicCardSaid :=
  Claim7.holds_tied_plain_at .later [] [.data, .data, .data, .data, .sentinel, .sentinel, .pinned] true (true, "d474b3da227b1f68ed449b6e949976c410548039ae0db78d056320657f151c7e") true
    over (fun _ h => by cases h) (by kernel_rfl) (fun _ h => by cases h) moneyMonotonic_row_tie rfl ⟨rfl, rfl⟩ (by kernel_rfl) rfl
    (fun f fn hf hfn => by
      obtain rfl : f = 7 := Option.some.inj ((show Tryz.prog.funcNamed "wagonpool/wagonpoollaw07.MoneyMonotonic" = some 7 by kernel_rfl).symm.trans hf) |>.symm
      obtain rfl : fn = Tryz.f7 := (Option.some.inj (Tryz.func7.symm.trans hfn)).symm
      exact ⟨by kernel_rfl, fun j t ht => by
        rw [Tryz.params7] at ht
        have hm : t ∈ [3] := by
          have := Array.mem_of_getElem? ht
          simp at this
          subst this; simp
        have hall : ([3].all fun u => !Tryz.prog.wantsStandIn u) = true := by kernel_rfl
        exact (show Tryz.prog.wantsStandIn t = false by simpa using List.all_eq_true.1 hall t hm)⟩)
    (by kernel_rfl)
#print axioms proved
end Go.Proofs.YtempnbchiofghaaGreatDoor.moneyMonotonic
