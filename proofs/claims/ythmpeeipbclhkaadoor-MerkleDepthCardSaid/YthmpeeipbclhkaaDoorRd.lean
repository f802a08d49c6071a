/-
  The statement of MerkleDepth: walk and row.
-/
import Derived.Test.YthmpeeipbclhkaaDoorSn
import Derived.Test.YthmpeeipbclhkaaDoorLw
import Derived.Test.YthmpeeipbclhkaaDoorOs
import Derived.ChangeMaps5
namespace Go.Proofs.YthmpeeipbclhkaaDoor.merkleDepth
set_option linter.unusedSimpArgs false
open Go.ChangeShapes Go.WideShapes Go.ChangeAt Go.RowKit
set_option linter.unusedVariables false

set_option maxRecDepth 100000 in
set_option maxHeartbeats 2000000 in
theorem walk (n : Int) (w : World) (hk : KOk w) (hn : -9223372036854775808 ≤ n ∧ n ≤ 9223372036854775807) :
    Calls Tryd.prog 6 #[.int .i64 n] w fun e w' => e = .returned (.bool true) ∧ Below w.heap.size w w' := by
  have HK := Lib.hid hk
  clear hk
  by_cases hr : n < 0 ∨ 65536 < n
  · have hdp : dep n = -1 := by unfold dep; rw [if_pos hr]
    have hd : ∀ w', Calls Tryd.prog 24 #[.int .i64 n] w' fun e w'' => e = .returned (.int .i64 (-1)) ∧ w' = w'' :=
      fun w' => (depth_any n w').mono (fun e w2 h => ⟨by rw [← hdp]; exact h.1, h.2.symm⟩)
    have HD := Lib.hid hd
    clear hd hdp
    by_cases h0 : n < 0
    · clear hr
      go_enter Tryd.func6, Tryd.ntmps6
      go_wp2_with fail
      refine (sane_true _ HK.out).mono ?_
      rintro e w1 ⟨rfl, hb1⟩
      have HB := Lib.hid hb1
      clear hb1
      go_wp2_with fail
      refine (HD.out _).mono ?_
      rintro e w2 ⟨rfl, rfl⟩
      go_wp2
      go_ret
      exact ⟨rfl, HB.out⟩
    · have h1 : 65536 < n := by omega
      clear hr
      go_enter Tryd.func6, Tryd.ntmps6
      go_wp2_with fail
      refine (sane_true _ HK.out).mono ?_
      rintro e w1 ⟨rfl, hb1⟩
      have HB := Lib.hid hb1
      clear hb1
      go_wp2_with fail
      refine (HD.out _).mono ?_
      rintro e w2 ⟨rfl, rfl⟩
      go_wp2
      go_ret
      exact ⟨rfl, HB.out⟩
  · obtain ⟨m, rfl⟩ : ∃ m : Nat, n = (m : Int) := ⟨n.toNat, by omega⟩
    have hm : m ≤ 65536 := by omega
    have hge := dpt_ge m
    have hls := dpt_least m
    have h16 := dpt_le16 hm
    have hd : ∀ w', Calls Tryd.prog 24 #[.int .i64 (m : Int)] w' fun e w'' => e = .returned (.int .i64 (dpt m : Int)) ∧ w' = w'' :=
      fun w' => (depth_any (m : Int) w').mono (fun e w2 h => ⟨by rw [← dep_nat m hm]; exact h.1, h.2.symm⟩)
    obtain ⟨D, hD⟩ : ∃ D, D = dpt m := ⟨_, rfl⟩
    rw [← hD] at hge hls h16 hd
    have HD := Lib.hid hd
    have HGE := Lib.hid hge
    have HLS := Lib.hid hls
    have g0 : ¬ ((m : Int) < 0) := by omega
    have g1 : ¬ (65536 < (m : Int)) := by omega
    have g2 : ¬ ((D : Int) < 0) := by omega
    have g3 : ¬ (16 < (D : Int)) := by omega
    clear hd hge hls hD hr hn
    go_enter Tryd.func6, Tryd.ntmps6
    go_wp2_with fail
    refine (sane_true _ HK.out).mono ?_
    rintro e w1 ⟨rfl, hb1⟩
    have HB := Lib.hid hb1
    clear hb1
    go_wp2_with fail
    refine (HD.out _).mono ?_
    rintro e w2 ⟨rfl, rfl⟩
    go_wp2
    go_loopw [4, 5] (fun p i wr => ∃ k N : Nat, Hid (N = 2 ^ k) ∧ k ≤ D ∧ N ≤ 65536 ∧ p = .int .i64 N ∧ i = .int .i64 k ∧ wr = w1) (fun _ i _ => D - (intOf i).toNat)
    case atStart => exact ⟨0, 1, Lib.hid rfl, by omega, by omega, rfl, rfl, rfl⟩
    case round =>
      obtain ⟨k, N, HN, hkD, hN, rfl, rfl, rfl⟩ := hrel
      by_cases hlt : k < D
      · have hlt2 : (k : Int) < (D : Int) := by omega
        have HN2 : Hid (2 * N = 2 ^ (k + 1)) := Lib.hid (by rw [HN.out, Nat.pow_succ]; omega)
        have hN2 : 2 * N ≤ 65536 := by
          rw [HN2.out]
          have : 2 ^ (k + 1) ≤ 2 ^ 16 := Nat.pow_le_pow_right (by decide) (by omega)
          omega
        clear HN
        go_wp2
        go_roundw
        case rel => exact ⟨k + 1, 2 * N, HN2, by omega, hN2, by go_num, by go_num, trivial⟩
        case measure => simp [intOf]; omega
      · have hlt2 : ¬ ((k : Int) < (D : Int)) := by omega
        have hkk : k = D := by omega
        subst hkk
        have hge2 : (m : Int) ≤ (N : Int) := by have := HGE.out; rw [← HN.out] at this; omega
        by_cases hk0 : k = 0
        · subst hk0
          go_wp2
          go_ret
          exact ⟨rfl, HB.out⟩
        · have hk1 : ¬ ((k : Int) = 0) := by omega
          have hk2 : ((k : Int) == 0) = false := by simp; omega
          have hlast : (N : Int) / 2 < (m : Int) := by
            have e : N = 2 * 2 ^ (k - 1) := by rw [HN.out, Nat.mul_comm, ← Nat.pow_succ]; congr 1; omega
            have : ¬ (m ≤ 2 ^ (k - 1)) := fun h => by have := HLS.out _ h; omega
            omega
          go_wp2
          go_ret
          exact ⟨rfl, HB.out⟩

/-- The door's own heap meets the condition. -/
theorem door_met (os : Os) (args : Array Value) : laidMetH Tryd.prog Rows.merkleDepthRow.laid ((World.doorLaid Tryd.prog 400 os).forCall (fun _ _ => 0) ⟨#[], args, []⟩).memory :=
  laidMetH_of_parts3 (fuel := 8) (laidMet_of_run' 8 (by kernel_rfl) (by kernel_rfl)) (by kernel_rfl) (by kernel_rfl)

set_option maxRecDepth 100000 in
theorem lifted (os : Os) (started : os.Started) (H : Type) (enc : TypeId × Value → H) :
    ReturnsInHanded {} Tryd.checked os 6 .any (fun w args => (Rows.merkleDepthSpec.pre enc Tryd.prog Tryd.f6 [] false w args ∧ laidMetH Tryd.prog Rows.merkleDepthRow.laid w) ∧ sizedMet enc Tryd.prog Tryd.f6 (OpenSpec.ofChange Rows.merkleDepthSpec) false w args)
      (Rows.merkleDepthSpec.post enc Tryd.prog Tryd.f6 false true false false) := by
  refine returnsInHanded_of_change_and (C := Tryd.checked) (X := fun w _ => laidMetH Tryd.prog Rows.merkleDepthRow.laid w) (fun _ _ _ hh h => h.of_heap hh) own started (by kernel_rfl) Tryd.func6
    (ChangeSpec.witness_shaped (enc := enc) (C := Tryd.checked) (os := os) (X := fun w _ => laidMetH Tryd.prog Rows.merkleDepthRow.laid w) false (World.doorLaid Tryd.prog 400 os) #[.int .i64 0] 8 rfl (World.shaped_of_RefB (by kernel_rfl) (by kernel_rfl)) (by kernel_rfl) (by kernel_rfl) (by kernel_rfl) (door_met os _)) ?_
  intro W base args ds gs before hval0 hW _ hsz0 hL _
  have hsz : (DataW.weightsEach Tryd.prog (Tryd.f6.params.toList ++ Rows.merkleDepthSpec.plain.varTypes Tryd.prog) (ds ++ gs)).all (· ≤ reachBytes) = true := hsz0
  have hval : ∀ (j : Nat) t v, Tryd.f6.params[j]? = some t → args[j]? = some v → Value.okWide Tryd.prog W .any base t v := hval0
  clear hsz0 hval0
  have hW' := hW
  obtain ⟨p, q, hA0, hV, rfl, hfz, hnd⟩ := hW
  have hA : DataW.TrodAll enc Tryd.prog W 0 (fun _ => true) true Tryd.f6.params.toList args.toList ds p := hA0
  rw [Tryd.params6] at hA hval hsz
  obtain ⟨v0, vs0, d0, ds0, p0, q0, hargs, rfl, rfl, h0, r0⟩ := trodAll_cons hA
  obtain ⟨rfl, rfl, rfl⟩ := trodAll_nil r0
  obtain rfl : args = #[v0] := by cases args; simp_all
  obtain ⟨rfl, rfl⟩ := trodVars_none hV
  obtain ⟨a0, rfl, rfl, rfl, wf0⟩ := open_int Tryd.underlying3 (hval 0 3 v0 rfl rfl) h0
  have ru0 := i64_wf wf0
  clear hA0
  refine (walk a0 W (kok_of_laid hL) ru0).mono fun e W' ⟨he, hbw⟩ => ?_
  subst he
  refine ⟨_, rfl, post_law laidOut ?_ rfl rfl hW' rfl rfl rfl hbw⟩
  intro t ht
  rw [Tryd.params6] at ht
  have hm : t ∈ [3] := by
    simp at ht
    subst ht; simp
  have hall : ([3].all fun u => Tryd.prog.readableRec u && decide (u < Tryd.prog.types.size)) = true := by kernel_rfl
  have := List.all_eq_true.1 hall t hm
  simpa using this

theorem over : Rows.merkleDepthRow.holds Tryd.pinned (OpenSpec.ofChange Rows.merkleDepthSpec) :=
  OpenClaim.holds_of_wide 6 Tryd.f6 rfl rfl rfl rfl rfl rfl rfl ⟨rfl, rfl, rfl, rfl, rfl⟩ rfl rfl rfl rfl rfl (by kernel_rfl) Tryd.func6 (by kernel_rfl)
    (of_decide_eq_true (by kernel_rfl)) (by unfold Func.isWrapper; first | (rw [if_pos (by decide +kernel)]; kernel_rfl) | (rw [if_neg (by decide +kernel)]; exact ⟨rfl, rfl⟩))
    (fun os started H enc _ => lifted os started H enc)

/-- THE STATEMENT. -/
theorem proved : Rows.MerkleDepthCardSaid :=
  Claim7.holds_tied_plain_at .later [] [.data] true (true, "ea83294f5b67d008c3aa80d7c08f5dc94fc0d0607cdbc7283e27c890a7edc858") false
    over (fun _ h => by cases h) (by kernel_rfl) (fun _ h => by cases h) merkleDepth_row_tie rfl ⟨rfl, rfl⟩ (by kernel_rfl) rfl
    (fun f fn hf hfn => by
      obtain rfl : f = 6 := Option.some.inj ((show Tryd.prog.funcNamed "wagonpool/wagonpoollaw04.MerkleDepth" = some 6 by kernel_rfl).symm.trans hf) |>.symm
      obtain rfl : fn = Tryd.f6 := (Option.some.inj (Tryd.func6.symm.trans hfn)).symm
      exact ⟨by kernel_rfl, fun j t ht => by
        rw [Tryd.params6] at ht
        have hm : t ∈ [3] := by
          have := Array.mem_of_getElem? ht
          simp at this
          subst this; simp
        have hall : ([3].all fun u => !Tryd.prog.wantsStandIn u) = true := by kernel_rfl
        exact (show Tryd.prog.wantsStandIn t = false by simpa using List.all_eq_true.1 hall t hm)⟩)
    (by kernel_rfl)
#print axioms proved
end Go.Proofs.YthmpeeipbclhkaaDoor.merkleDepth
