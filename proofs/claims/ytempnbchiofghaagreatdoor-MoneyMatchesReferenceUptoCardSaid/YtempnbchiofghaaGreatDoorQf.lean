/-
  The statement 'Rows.MoneyMatchesReferenceUptoCardSaid': for all arguments of at most 1048576 elements the law returns true; the arguments read as they did. Condition: the listed variables lie as the program's text lays them.
-/
import Derived.Test.YtempnbchiofghaaGreatDoorUa
import Derived.ChangeMaps5
namespace Go.Proofs.YtempnbchiofghaaGreatDoor.moneyMatchesReference
open Go.ChangeShapes Go.WideShapes Go.ChangeAt Go.RowKit Go.Lib
set_option linter.unusedVariables false
set_option linter.unusedSimpArgs false

theorem pair_as {f : FuncId} {args : Array Value} {p : Int × Int} {s e : Int} {w : World} (h : p = (s, e)) (k : Calls Tryz.prog f args w fun x w' => x = .returned (.tuple #[.int .i64 p.1, .int .i64 p.2]) ∧ w = w') : Calls Tryz.prog f args w fun x w' => x = .returned (.tuple #[.int .i64 s, .int .i64 e]) ∧ w = w' := by
  rw [h] at k
  exact k

set_option maxRecDepth 100000 in
set_option maxHeartbeats 16000000 in
theorem walk (a b m : Int) (v : Value) (l : List Int) (w : World) (hk : LK w) (hb : I64 b) (hl : Hl (fun k => k < w.heap.size) w v l) (hn : l.length ≤ 1048576) : Calls Tryz.prog 3 #[.int .i64 a, .int .i64 b, .int .i64 m, v] w fun e w' => e = .returned (.bool true) ∧ Below w.heap.size w w' := by
  have HS := Lib.hid (sane_true w hk)
  have HL := Lib.hid hl
  have hlen0 : l.length ≤ 2147483647 := by omega
  obtain ⟨A, AE, hA⟩ : ∃ A AE, addV a b = (A, AE) := ⟨_, _, rfl⟩
  obtain ⟨B, BE, hB⟩ : ∃ A AE, subV a b = (A, AE) := ⟨_, _, rfl⟩
  obtain ⟨C, CE, hC⟩ : ∃ A AE, mulV a b = (A, AE) := ⟨_, _, rfl⟩
  obtain ⟨D, DE, hD⟩ : ∃ A AE, divV a b m = (A, AE) := ⟨_, _, rfl⟩
  obtain ⟨S, SE, hS⟩ : ∃ A AE, sumV l = (A, AE) := ⟨_, _, rfl⟩
  have A1 := Lib.hid (fun w => pair_as hA (add_any a b w)); have A2 := Lib.hid (fun w => pair_as hA (radd_any a b w))
  have A3 := Lib.hid (fun w => pair_as hB (sub_any a b w)); have A4 := Lib.hid (fun w => pair_as hB (rsub_any a b w))
  have A5 := Lib.hid (fun w => pair_as hC (mul_any a b w)); have A6 := Lib.hid (fun w => pair_as hC (rmul_any a b w))
  have A7 := Lib.hid (fun w => pair_as hD (div_any a b m hb w)); have A8 := Lib.hid (fun w => pair_as hD (rdiv_any a b m w))
  have A9 := Lib.hid (fun w hh => pair_as hS (sum_any l v w hh hlen0)); have A10 := Lib.hid (fun w hh => pair_as hS (rsum_any l v w hh hlen0))
  obtain ⟨oa, c, rfl⟩ := hl.shape
  obtain ⟨n, hnn⟩ : ∃ n, l.length = n := ⟨_, rfl⟩
  rw [hnn] at A9 A10 HL ⊢
  have n1 : (A != A) = false := by simp
  have n2 : (AE != AE) = false := by simp
  have n3 : (B != B) = false := by simp
  have n4 : (BE != BE) = false := by simp
  have n5 : (C != C) = false := by simp
  have n6 : (CE != CE) = false := by simp
  have e1 : (D == D) = true := by simp
  have e2 : (DE == DE) = true := by simp
  have e3 : (S == S) = true := by simp
  have e4 : (SE == SE) = true := by simp
  clear hk hb hl hn hlen0 hA hB hC hD hS hnn
  go_enter Tryz.func3, Tryz.ntmps3
  go_wp2_with fail
  refine (HS.out).mono ?_
  rintro e w1 ⟨rfl, hb⟩
  have HB := Lib.hid hb
  clear hb HS
  go_wp2_with fail
  refine (A1.out _).mono ?_
  rintro e w' ⟨rfl, rfl⟩
  go_wp2_with fail
  refine (A2.out _).mono ?_
  rintro e w' ⟨rfl, rfl⟩
  go_wp2_with fail
  refine (A3.out _).mono ?_
  rintro e w' ⟨rfl, rfl⟩
  go_wp2_with fail
  refine (A4.out _).mono ?_
  rintro e w' ⟨rfl, rfl⟩
  go_wp2_with fail
  refine (A5.out _).mono ?_
  rintro e w' ⟨rfl, rfl⟩
  go_wp2_with fail
  refine (A6.out _).mono ?_
  rintro e w' ⟨rfl, rfl⟩
  go_wp2_with fail
  refine (A7.out _).mono ?_
  rintro e w' ⟨rfl, rfl⟩
  go_wp2_with fail
  refine (A8.out _).mono ?_
  rintro e w' ⟨rfl, rfl⟩
  go_wp2_with fail
  refine (A9.out _ (HL.out.on HB.out)).mono ?_
  rintro e w' ⟨rfl, rfl⟩
  go_wp2_with fail
  refine (A10.out _ (HL.out.on HB.out)).mono ?_
  rintro e w' ⟨rfl, rfl⟩
  go_wp2
  go_ret
  exact ⟨rfl, HB.out⟩

set_option maxRecDepth 100000 in
theorem lifted (os : Os) (started : os.Started) (H : Type) (enc : TypeId × Value → H) (F : Stop.Interp) :
    ReturnsInHanded {} Tryz.checked os 3 .any (fun w args => ((Rows.OpenSpec.upto Rows.moneyMatchesReferenceSpec).pre enc Tryz.prog Tryz.f3 [] false w args ∧ laidMetH Tryz.prog Rows.moneyMatchesReferenceUptoRow.laid w) ∧ sizedMet enc Tryz.prog Tryz.f3 (Rows.OpenSpec.upto Rows.moneyMatchesReferenceSpec) false w args)
      (((Rows.OpenSpec.upto Rows.moneyMatchesReferenceSpec).at F).post enc Tryz.prog Tryz.f3 false true false false) := by
  refine returnsUpto (C := Tryz.checked) (s := (Rows.OpenSpec.upto Rows.moneyMatchesReferenceSpec)) (k := Rows.uptoSmall) rfl own started (by kernel_rfl) Tryz.func3
    (World.laidAll Tryz.prog os laidAllOf) #[.int .i64 0, .int .i64 0, .int .i64 0, .slice none 0 0] 8 (World.laidAll_os _ _ _) (World.shaped_of_ZipB (by kernel_rfl) (by kernel_rfl)) (by kernel_rfl)
    (x := ([.lit (.int .i64 0), .lit (.int .i64 0), .lit (.int .i64 0), .nil], [], [])) (by kernel_rfl) rfl (by kernel_rfl) (laidAll_met os _) ?_
  intro W base args ds gs before hval0 hW hk hL
  have hval : ∀ (j : Nat) t v, Tryz.f3.params[j]? = some t → args[j]? = some v → Value.okWide Tryz.prog W .any base t v := hval0
  clear hval0
  have hW' := hW
  obtain ⟨p, q, hA0, hV, rfl, hfz, hnd⟩ := hW
  have hA : DataW.TrodAll enc Tryz.prog W 0 (fun _ => true) true Tryz.f3.params.toList args.toList ds p := hA0
  rw [Tryz.params3] at hA hval
  obtain ⟨v0, vs0, d0, ds0, p0, q0, hargs, rfl, rfl, h0, r0⟩ := trodAll_cons hA
  obtain ⟨v1, vs1, d1, ds1, p1, q1, rfl, rfl, rfl, h1, r1⟩ := trodAll_cons r0
  obtain ⟨v2, vs2, d2, ds2, p2, q2, rfl, rfl, rfl, h2, r2⟩ := trodAll_cons r1
  obtain ⟨v3, vs3, d3, ds3, p3, q3, rfl, rfl, rfl, h3, r3⟩ := trodAll_cons r2
  obtain ⟨rfl, rfl, rfl⟩ := trodAll_nil r3
  obtain rfl : args = #[v0, v1, v2, v3] := by cases args; simp_all
  obtain ⟨rfl, rfl⟩ := trodVars_none hV
  have hbk := of_decide_eq_true hk
  simp only [List.append_nil, Rows.uptoBulkAll] at hbk
  obtain ⟨a0, rfl, rfl, rfl, wf0⟩ := open_int Tryz.underlying3 (hval 0 3 v0 rfl rfl) h0
  have ru0 := i64_wf wf0
  obtain ⟨a1, rfl, rfl, rfl, wf1⟩ := open_int Tryz.underlying3 (hval 1 3 v1 rfl rfl) h1
  have ru1 := i64_wf wf1
  obtain ⟨a2, rfl, rfl, rfl, wf2⟩ := open_int Tryz.underlying3 (hval 2 3 v2 rfl rfl) h2
  have ru2 := i64_wf wf2
  obtain ⟨oa3, ol3, oc3, rfl⟩ := okWide_slice Tryz.underlying22 (hval 3 22 v3 rfl rfl)
  obtain ⟨fu3, hf3⟩ := h3
  obtain ⟨b3, hb3, hbl3⟩ := openUH (v := .slice oa3 ol3 oc3) hf3 (by show Rows.uptoBulk d3 ≤ _; omega)
  obtain rfl : ol3 = b3.length := by
    obtain ⟨_, _, _, _, e, _⟩ := hb3
    simp only [Value.slice.injEq] at e
    exact e.2.1
  clear hA0
  refine (walk a0 a1 a2 _ b3 W (lk_of_laid hL) ru1 hb3 hbl3).mono fun e W' ⟨he, hbw⟩ => ?_
  subst he
  refine ⟨_, rfl, post_law laidOut ?_ rfl rfl hW' rfl rfl rfl hbw⟩
  intro t ht
  rw [Tryz.params3] at ht
  have hm : t ∈ [3, 22] := by
    simp at ht
    rcases ht with rfl|rfl <;> simp
  have hall : ([3, 22].all fun u => Tryz.prog.readableRec u && decide (u < Tryz.prog.types.size)) = true := by kernel_rfl
  have := List.all_eq_true.1 hall t hm
  simpa using this

theorem over : Rows.moneyMatchesReferenceUptoRow.holds Tryz.pinned (Rows.OpenSpec.upto Rows.moneyMatchesReferenceSpec) :=
  OpenClaim.holds_of_cond 3 Tryz.f3 rfl rfl rfl rfl rfl rfl rfl ⟨rfl, rfl, rfl, rfl, rfl⟩ rfl rfl rfl rfl rfl (by kernel_rfl) Tryz.func3 (by kernel_rfl)
    (of_decide_eq_true (by kernel_rfl)) (by unfold Func.isWrapper; first | (rw [if_pos (by decide +kernel)]; kernel_rfl) | (rw [if_neg (by decide +kernel)]; exact ⟨rfl, rfl⟩))
    (fun os started H enc _ F => lifted os started H enc F)

/-- THE STATEMENT. -/
theorem proved : Rows.MoneyMatchesReferenceUptoCardSaid :=
  Claim7.holds_tied_plain_at .later [] [.data, .data, .data, .data, .sentinel, .sentinel, .pinned] true (true, "d474b3da227b1f68ed449b6e949976c410548039ae0db78d056320657f151c7e") true
    over (fun _ h => by cases h) (by kernel_rfl) (fun _ h => by cases h) moneyMatchesReferenceUpto_row_tie rfl ⟨rfl, rfl⟩ (by kernel_rfl) rfl
    (fun f fn hf hfn => by
      obtain rfl : f = 3 := Option.some.inj ((show Tryz.prog.funcNamed "wagonpool/wagonpoollaw07.MoneyMatchesReference" = some 3 by kernel_rfl).symm.trans hf) |>.symm
      obtain rfl : fn = Tryz.f3 := (Option.some.inj (Tryz.func3.symm.trans hfn)).symm
      exact ⟨by kernel_rfl, fun j t ht => by
        rw [Tryz.params3] at ht
        have hm : t ∈ [3, 22] := by
          have := Array.mem_of_getElem? ht
          simp at this
          rcases this with rfl|rfl <;> simp
        have hall : ([3, 22].all fun u => !Tryz.prog.wantsStandIn u) = true := by kernel_rfl
        exact (show Tryz.prog.wantsStandIn t = false by simpa using List.all_eq_true.1 hall t hm)⟩)
    (by kernel_rfl)
#print axioms proved
end Go.Proofs.YtempnbchiofghaaGreatDoor.moneyMatchesReference
