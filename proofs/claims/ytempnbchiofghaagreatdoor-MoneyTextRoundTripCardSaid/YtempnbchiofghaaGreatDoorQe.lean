/-
  The statement 'Rows.MoneyTextRoundTripCardSaid': for all arguments the law returns true; the arguments read as they did. Condition: the listed variables lie as the program's text lays them.
-/
import Derived.Test.YtempnbchiofghaaGreatDoorFr
import Derived.Test.YtempnbchiofghaaGreatDoorPe
import Derived.ChangeMaps5
namespace Go.Proofs.YtempnbchiofghaaGreatDoor.moneyTextRoundTrip
open Go.ChangeShapes Go.WideShapes Go.ChangeAt Go.RowKit Go.Lib
set_option linter.unusedVariables false
set_option linter.unusedSimpArgs false

theorem rin_as {a : Int} {x : Bool} (h : decide (inR a) = x) (w : World) : Calls Tryz.prog 32 #[.int .i64 a] w fun e w' => e = .returned (.bool x) ∧ w = w' := by
  have := rin_any a w
  rw [h] at this
  exact this
theorem ptxt_any {a C E : Int} (ha : I64 a) (h : PV (txt a) C E) (w : World) (hk : LK w) : Calls Tryz.prog 25 #[.string ⟨(txt a).toArray⟩] w fun e w' => e = .returned (.tuple #[.int .i64 C, .int .i64 E]) ∧ Below w.heap.size w w' := by
  refine parse_any ⟨(txt a).toArray⟩ ?_ C E (by simpa using h) w hk
  have := txt_len a ha
  simp only [ByteArray.size, List.size_toArray]
  omega
theorem bself (S : ByteArray) : (S == S) = true := by
  cases S with
  | mk d => show (d == d) = true; simp
theorem text_back {C : Int} {S : ByteArray} (h : PV S.data.toList C 0) (w : World) (hk : LK w) : Calls Tryz.prog 30 #[.int .i64 C] w fun e w' => e = .returned (.string S) ∧ Below w.heap.size w w' := by
  obtain ⟨h1, h2⟩ := txt_pv h
  have := text_any C ⟨by have := h1.1; omega, by have := h1.2; omega⟩ w hk.tab
  have e : (⟨(txt C).toArray⟩ : ByteArray) = S := ba_ext (by simpa using h2)
  rw [e] at this
  exact this

set_option maxRecDepth 100000 in
set_option maxHeartbeats 16000000 in
theorem walk (a : Int) (S : ByteArray) (w : World) (hk : LK w) (ha : I64 a) (hz : S.size ≤ 140737488355328) : Calls Tryz.prog 10 #[.int .i64 a, .string S] w fun e w' => e = .returned (.bool true) ∧ Below w.heap.size w w' := by
  have HS := Lib.hid (sane_true w hk)
  have HK := Lib.hid hk; have HA := Lib.hid ha; have HZ := Lib.hid hz
  obtain ⟨C, E, hP⟩ := pv_exists (txt a)
  obtain ⟨D, F, hQ⟩ := pv_exists S.data.toList
  have hp := pv_txt hP
  have HP1 := Lib.hid hP; have HP2 := Lib.hid hQ; have HP3 := Lib.hid hp
  clear hk ha hz hP hQ hp
  go_enter Tryz.func10, Tryz.ntmps10
  go_wp2_with fail
  refine (HS.out).mono ?_
  rintro e w2 ⟨rfl, hb⟩
  have HB1 := Lib.hid hb
  clear hb HS
  have HC := Lib.hid (text_any a HA.out _ (HK.out.on HB1.out).tab)
  go_wp2_with fail
  refine HC.out.mono ?_
  rintro e w3 ⟨rfl, hb⟩
  have HB2 := Lib.hid (btrans HB1.out hb)
  clear hb HB1 HC
  have HC := Lib.hid (ptxt_any HA.out HP1.out _ (HK.out.on HB2.out))
  go_wp2_with fail
  refine HC.out.mono ?_
  rintro e w4 ⟨rfl, hb⟩
  have HB3 := Lib.hid (btrans HB2.out hb)
  clear hb HB2 HC
  have HC := Lib.hid (parse_any S HZ.out D F HP2.out _ (HK.out.on HB3.out))
  go_wp2_with fail
  refine HC.out.mono ?_
  rintro e w5 ⟨rfl, hb⟩
  have HB4 := Lib.hid (btrans HB3.out hb)
  clear hb HB3 HC
  by_cases i0 : inR a
  · have R0 := Lib.hid (fun w => rin_as (decide_eq_true i0) w)
    obtain ⟨c1, c2⟩ := HP3.out.1 i0
    subst c2
    have b0 : (C != a) = false := by simp [c1]
    clear c1 i0 HP3
    go_wp2_with fail
    refine (R0.out _).mono ?_
    rintro e w' ⟨rfl, rfl⟩
    go_wp2_with fail
    refine (R0.out _).mono ?_
    rintro e w' ⟨rfl, rfl⟩
    by_cases f0 : F = 0
    · subst f0
      have b4 : ((0:Int) != 0) = false := rfl
      have Z := Lib.hid (fun w => rin_as (decide_eq_true (txt_pv HP2.out).1) w)
      have hSS : (S == S) = true := bself S
      go_wp2_with fail
      refine (Z.out _).mono ?_
      rintro e w' ⟨rfl, rfl⟩
      have HC := Lib.hid (text_back HP2.out _ (HK.out.on HB4.out))
      go_wp2_with fail
      refine HC.out.mono ?_
      rintro e w6 ⟨rfl, hb⟩
      have HB5 := Lib.hid (btrans HB4.out hb)
      clear hb HB4 HC
      go_wp2
      go_ret
      exact ⟨rfl, HB5.out⟩
    · have b4 : (F != 0) = true := by simp [f0]
      rcases pv_code HP2.out with f1 | ⟨f1, f2⟩
      · exact absurd f1 f0
      · subst f1
        rcases f2 with rfl | rfl
        · clear f0
          go_wp2
          go_ret
          exact ⟨rfl, HB4.out⟩
        · clear f0
          go_wp2
          go_ret
          exact ⟨rfl, HB4.out⟩
  · have R0 := Lib.hid (fun w => rin_as (decide_eq_false i0) w)
    obtain ⟨c1, c2⟩ := HP3.out.2 i0
    subst c1
    subst c2
    clear i0 HP3
    go_wp2_with fail
    refine (R0.out _).mono ?_
    rintro e w' ⟨rfl, rfl⟩
    go_wp2_with fail
    refine (R0.out _).mono ?_
    rintro e w' ⟨rfl, rfl⟩
    by_cases f0 : F = 0
    · subst f0
      have b4 : ((0:Int) != 0) = false := rfl
      have Z := Lib.hid (fun w => rin_as (decide_eq_true (txt_pv HP2.out).1) w)
      have hSS : (S == S) = true := bself S
      go_wp2_with fail
      refine (Z.out _).mono ?_
      rintro e w' ⟨rfl, rfl⟩
      have HC := Lib.hid (text_back HP2.out _ (HK.out.on HB4.out))
      go_wp2_with fail
      refine HC.out.mono ?_
      rintro e w6 ⟨rfl, hb⟩
      have HB5 := Lib.hid (btrans HB4.out hb)
      clear hb HB4 HC
      go_wp2
      go_ret
      exact ⟨rfl, HB5.out⟩
    · have b4 : (F != 0) = true := by simp [f0]
      rcases pv_code HP2.out with f1 | ⟨f1, f2⟩
      · exact absurd f1 f0
      · subst f1
        rcases f2 with rfl | rfl
        · clear f0
          go_wp2
          go_ret
          exact ⟨rfl, HB4.out⟩
        · clear f0
          go_wp2
          go_ret
          exact ⟨rfl, HB4.out⟩

set_option maxRecDepth 100000 in
theorem lifted (os : Os) (started : os.Started) (H : Type) (enc : TypeId × Value → H) :
    ReturnsInHanded {} Tryz.checked os 10 .any (fun w args => (Rows.moneyTextRoundTripSpec.pre enc Tryz.prog Tryz.f10 [] false w args ∧ laidMetH Tryz.prog Rows.moneyTextRoundTripRow.laid w) ∧ sizedMet enc Tryz.prog Tryz.f10 (OpenSpec.ofChange Rows.moneyTextRoundTripSpec) false w args)
      (Rows.moneyTextRoundTripSpec.post enc Tryz.prog Tryz.f10 false true false false) := by
  refine returnsInHanded_of_change_and (C := Tryz.checked) (X := fun w _ => laidMetH Tryz.prog Rows.moneyTextRoundTripRow.laid w) (fun _ _ _ hh h => h.of_heap hh) own started (by kernel_rfl) Tryz.func10
    (ChangeSpec.witness_shaped (enc := enc) (C := Tryz.checked) (os := os) (X := fun w _ => laidMetH Tryz.prog Rows.moneyTextRoundTripRow.laid w) false (World.laidAll Tryz.prog os laidAllOf) #[.int .i64 0, .string ⟨#[]⟩] 8 (World.laidAll_os _ _ _) (World.shaped_of_ZipB (by kernel_rfl) (by kernel_rfl)) (by kernel_rfl) (by kernel_rfl) (by kernel_rfl) (laidAll_met os _)) ?_
  intro W base args ds gs before hval0 hW _ hsz0 hL _
  have hsz : (DataW.weightsEach Tryz.prog (Tryz.f10.params.toList ++ Rows.moneyTextRoundTripSpec.plain.varTypes Tryz.prog) (ds ++ gs)).all (· ≤ reachBytes) = true := hsz0
  clear hsz0
  have hval : ∀ (j : Nat) t v, Tryz.f10.params[j]? = some t → args[j]? = some v → Value.okWide Tryz.prog W .any base t v := hval0
  clear hval0
  have hW' := hW
  obtain ⟨p, q, hA0, hV, rfl, hfz, hnd⟩ := hW
  have hA : DataW.TrodAll enc Tryz.prog W 0 (fun _ => true) true Tryz.f10.params.toList args.toList ds p := hA0
  rw [Tryz.params10] at hA hval hsz
  obtain ⟨v0, vs0, d0, ds0, p0, q0, hargs, rfl, rfl, h0, r0⟩ := trodAll_cons hA
  obtain ⟨v1, vs1, d1, ds1, p1, q1, rfl, rfl, rfl, h1, r1⟩ := trodAll_cons r0
  obtain ⟨rfl, rfl, rfl⟩ := trodAll_nil r1
  obtain rfl : args = #[v0, v1] := by cases args; simp_all
  obtain ⟨rfl, rfl⟩ := trodVars_none hV
  obtain ⟨a0, rfl, rfl, rfl, wf0⟩ := open_int Tryz.underlying3 (hval 0 3 v0 rfl rfl) h0
  have ru0 := i64_wf wf0
  have hw1 : ∀ n ∈ d1.weights Tryz.prog 9, n ≤ reachBytes := by
    intro n hn
    have := List.all_eq_true.1 hsz n (DataW.weights_mem_each (t := 9) (d := d1) (j := 1) rfl rfl n hn)
    simpa using this
  obtain ⟨s1, rfl, rfl, _, hs1⟩ := Go.ChangeMaps.open_string Tryz.underlying9 (hval 1 9 v1 rfl rfl) h1
  have hz1 : s1.size ≤ 140737488355328 := by
    have h1 := hw1 s1.data.toList.length (by simp only [DataW.weights, List.mem_cons, true_or])
    have h2 : s1.data.toList.length = s1.size := Array.length_toList
    have h3 : reachBytes = 0x7ffffffff000 := rfl
    omega
  clear hA0
  refine (walk a0 s1 W (lk_of_laid hL) ru0 hz1).mono fun e W' ⟨he, hbw⟩ => ?_
  subst he
  refine ⟨_, rfl, post_law laidOut ?_ rfl rfl hW' rfl rfl rfl hbw⟩
  intro t ht
  rw [Tryz.params10] at ht
  have hm : t ∈ [3, 9] := by
    simp at ht
    rcases ht with rfl|rfl <;> simp
  have hall : ([3, 9].all fun u => Tryz.prog.readableRec u && decide (u < Tryz.prog.types.size)) = true := by kernel_rfl
  have := List.all_eq_true.1 hall t hm
  simpa using this

theorem over : Rows.moneyTextRoundTripRow.holds Tryz.pinned (OpenSpec.ofChange Rows.moneyTextRoundTripSpec) :=
  OpenClaim.holds_of_wide 10 Tryz.f10 rfl rfl rfl rfl rfl rfl rfl ⟨rfl, rfl, rfl, rfl, rfl⟩ rfl rfl rfl rfl rfl (by kernel_rfl) Tryz.func10 (by kernel_rfl)
    (of_decide_eq_true (by kernel_rfl)) (by unfold Func.isWrapper; first | (rw [if_pos (by decide +kernel)]; kernel_rfl) | (rw [if_neg (by decide +kernel)]; exact ⟨rfl, rfl⟩))
    (fun os started H enc _ => lifted os started H enc)

/-- THE STATEMENT. -/
theorem proved : Rows.MoneyTextRoundTripCardSaid :=
  Claim7.holds_tied_plain_at .later [] [.data, .data, .data, .data, .sentinel, .sentinel, .pinned] true (true, "d474b3da227b1f68ed449b6e949976c410548039ae0db78d056320657f151c7e") true
    over (fun _ h => by cases h) (by kernel_rfl) (fun _ h => by cases h) moneyTextRoundTrip_row_tie rfl ⟨rfl, rfl⟩ (by kernel_rfl) rfl
    (fun f fn hf hfn => by
      obtain rfl : f = 10 := Option.some.inj ((show Tryz.prog.funcNamed "wagonpool/wagonpoollaw07.MoneyTextRoundTrip" = some 10 by kernel_rfl).symm.trans hf) |>.symm
      obtain rfl : fn = Tryz.f10 := (Option.some.inj (Tryz.func10.symm.trans hfn)).symm
      exact ⟨by kernel_rfl, fun j t ht => by
        rw [Tryz.params10] at ht
        have hm : t ∈ [3, 9] := by
          have := Array.mem_of_getElem? ht
          simp at this
          rcases this with rfl|rfl <;> simp
        have hall : ([3, 9].all fun u => !Tryz.prog.wantsStandIn u) = true := by kernel_rfl
        exact (show Tryz.prog.wantsStandIn t = false by simpa using List.all_eq_true.1 hall t hm)⟩)
    (by kernel_rfl)
#print axioms proved
end Go.Proofs.YtempnbchiofghaaGreatDoor.moneyTextRoundTrip
