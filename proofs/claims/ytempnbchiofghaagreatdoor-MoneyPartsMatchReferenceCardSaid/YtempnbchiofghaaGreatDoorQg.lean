/-
  The statement 'Rows.MoneyPartsMatchReferenceCardSaid': for all arguments the law returns true; the arguments read as they did. Condition: the listed variables lie as the program's text lays them.
-/
import Derived.Test.YtempnbchiofghaaGreatDoorFr
import Derived.ChangeMaps5
namespace Go.Proofs.YtempnbchiofghaaGreatDoor.moneyPartsMatchReference
open Go.ChangeShapes Go.WideShapes Go.ChangeAt Go.RowKit Go.Lib
set_option linter.unusedVariables false
set_option linter.unusedSimpArgs false

theorem pair_as {f : FuncId} {args : Array Value} {p : Int × Int} {s e : Int} {w : World} (h : p = (s, e)) (k : Calls Tryz.prog f args w fun x w' => x = .returned (.tuple #[.int .i64 p.1, .int .i64 p.2]) ∧ w = w') : Calls Tryz.prog f args w fun x w' => x = .returned (.tuple #[.int .i64 s, .int .i64 e]) ∧ w = w' := by
  rw [h] at k
  exact k
theorem pairB_as {f : FuncId} {args : Array Value} {p : Int × Int} {s e : Int} {w : World} (h : p = (s, e)) (k : Calls Tryz.prog f args w fun x w' => x = .returned (.tuple #[.int .i64 p.1, .int .i64 p.2]) ∧ Below w.heap.size w w') : Calls Tryz.prog f args w fun x w' => x = .returned (.tuple #[.int .i64 s, .int .i64 e]) ∧ Below w.heap.size w w' := by
  rw [h] at k
  exact k
theorem bself (S : ByteArray) : (S == S) = true := by
  cases S with
  | mk d => show (d == d) = true; simp
theorem text_as {a : Int} {T : ByteArray} (h : (⟨(txt a).toArray⟩ : ByteArray) = T) (ha : I64 a) (w : World) (hk : LK w) : Calls Tryz.prog 30 #[.int .i64 a] w fun e w' => e = .returned (.string T) ∧ Below w.heap.size w w' := by
  have := text_any a ha w hk.tab
  rw [h] at this
  exact this
theorem rtext_as {a : Int} {T : ByteArray} (h : (⟨(txt a).toArray⟩ : ByteArray) = T) (ha : I64 a) (w : World) : Calls Tryz.prog 31 #[.int .i64 a] w fun e w' => e = .returned (.string T) ∧ Below w.heap.size w w' := by
  have := rtext_any a ha w
  rw [h] at this
  exact this
theorem same_as {l : List Int} {v1 v2 : Value} {w : World} (h1 : Hl (fun k => k < w.heap.size) w v1 l) (h2 : Hl (fun k => k < w.heap.size) w v2 l) : Calls Tryz.prog 29 #[v1, v2] w fun e w' => e = .returned (.bool true) ∧ Below w.heap.size w w' := by
  have := same_any l l v1 v2 w h1 h2
  rw [decide_eq_true rfl] at this
  exact this
theorem two_lists {t : Int} {ws : List Int} {E : Int} {sv1 sv2 : Value} {ord : List Nat} {w2 w3 : World} (hb : Below w2.heap.size w2 w3) (h1 : E ≠ 0 → sv1 = .slice none 0 0) (h2 : E ≠ 0 → sv2 = .slice none 0 0)
    (k1 : E = 0 → Hl (fun k => k < w2.heap.size) w2 sv1 (shl t ws ord)) (k2 : E = 0 → Hl (fun k => k < w3.heap.size) w3 sv2 (shl t ws ord)) : ∃ L, Hl (fun k => k < w3.heap.size) w3 sv1 L ∧ Hl (fun k => k < w3.heap.size) w3 sv2 L := by
  by_cases h : E = 0
  · exact ⟨_, (k1 h).on hb, k2 h⟩
  · rw [h1 h, h2 h]
    exact ⟨[], hl_nil _ _ _ _, hl_nil _ _ _ _⟩

set_option maxRecDepth 100000 in
set_option maxHeartbeats 16000000 in
theorem walk (t : Int) (v : Value) (ws : List Int) (S : ByteArray) (x0 x1 x2 x3 x4 : Int) (w : World) (hk : LK w) (ht : I64 t) (hv : Hl (fun k => k < w.heap.size) w v ws) (hz : S.size ≤ 140737488355328) :
    Calls Tryz.prog 4 #[.int .i64 t, v, .string S, .agg #[.int .i64 x0, .int .i64 x1, .int .i64 x2, .int .i64 x3, .int .i64 x4]] w fun e w' => e = .returned (.bool true) ∧ Below w.heap.size w w' := by
  have HS := Lib.hid (sane_true (w.alloc (.cells #[.int .i64 x0, .int .i64 x1, .int .i64 x2, .int .i64 x3, .int .i64 x4] 30)) (hk.on (ball (Below.refl _ _) _)))
  have HB0 : Hid (Below (w.alloc (.cells #[.int .i64 x0, .int .i64 x1, .int .i64 x2, .int .i64 x3, .int .i64 x4] 30)).heap.size (w.alloc (.cells #[.int .i64 x0, .int .i64 x1, .int .i64 x2, .int .i64 x3, .int .i64 x4] 30)) (w.alloc (.cells #[.int .i64 x0, .int .i64 x1, .int .i64 x2, .int .i64 x3, .int .i64 x4] 30))) := Lib.hid (Below.refl _ _)
  have HBF : Hid (Below w.heap.size w (w.alloc (.cells #[.int .i64 x0, .int .i64 x1, .int .i64 x2, .int .i64 x3, .int .i64 x4] 30))) := Lib.hid (ball (Below.refl _ _) _)
  have HK : Hid (LK (w.alloc (.cells #[.int .i64 x0, .int .i64 x1, .int .i64 x2, .int .i64 x3, .int .i64 x4] 30))) := Lib.hid (hk.on (ball (Below.refl _ _) _))
  have HV : Hid (Hl (fun k => k < (w.alloc (.cells #[.int .i64 x0, .int .i64 x1, .int .i64 x2, .int .i64 x3, .int .i64 x4] 30)).heap.size) (w.alloc (.cells #[.int .i64 x0, .int .i64 x1, .int .i64 x2, .int .i64 x3, .int .i64 x4] 30)) v ws) := Lib.hid (hv.on (ball (Below.refl _ _) _))
  have l_b : w.heap.size < (w.alloc (.cells #[.int .i64 x0, .int .i64 x1, .int .i64 x2, .int .i64 x3, .int .i64 x4] 30)).heap.size := by rw [World.size_alloc]; omega
  have hbx := heap_alloc_new w (.cells #[.int .i64 x0, .int .i64 x1, .int .i64 x2, .int .i64 x3, .int .i64 x4] 30)
  have Q0 := Lib.hid (show (w.alloc (.cells #[.int .i64 x0, .int .i64 x1, .int .i64 x2, .int .i64 x3, .int .i64 x4] 30)).cell? ⟨w.heap.size, 0, none⟩ = some (.int .i64 x0) from (cell_of_row _ _ 0 _ _ _ hbx).trans rfl)
  have Q1 := Lib.hid (show (w.alloc (.cells #[.int .i64 x0, .int .i64 x1, .int .i64 x2, .int .i64 x3, .int .i64 x4] 30)).cell? ⟨w.heap.size, 1, none⟩ = some (.int .i64 x1) from (cell_of_row _ _ 1 _ _ _ hbx).trans rfl)
  have Q2 := Lib.hid (show (w.alloc (.cells #[.int .i64 x0, .int .i64 x1, .int .i64 x2, .int .i64 x3, .int .i64 x4] 30)).cell? ⟨w.heap.size, 2, none⟩ = some (.int .i64 x2) from (cell_of_row _ _ 2 _ _ _ hbx).trans rfl)
  have Q3 := Lib.hid (show (w.alloc (.cells #[.int .i64 x0, .int .i64 x1, .int .i64 x2, .int .i64 x3, .int .i64 x4] 30)).cell? ⟨w.heap.size, 3, none⟩ = some (.int .i64 x3) from (cell_of_row _ _ 3 _ _ _ hbx).trans rfl)
  have Q4 := Lib.hid (show (w.alloc (.cells #[.int .i64 x0, .int .i64 x1, .int .i64 x2, .int .i64 x3, .int .i64 x4] 30)).cell? ⟨w.heap.size, 4, none⟩ = some (.int .i64 x4) from (cell_of_row _ _ 4 _ _ _ hbx).trans rfl)
  have HLB := Lib.hid l_b
  obtain ⟨E, hE⟩ := sherr_exists t ws
  obtain ⟨C, D, hP⟩ := pv_exists S.data.toList
  obtain ⟨X, XE, hX⟩ : ∃ X XE, worthV x0 x1 x2 x3 x4 = (X, XE) := ⟨_, _, rfl⟩
  obtain ⟨T, hT⟩ : ∃ T, (⟨(txt t).toArray⟩ : ByteArray) = T := ⟨_, rfl⟩
  have HE := Lib.hid hE; have HP := Lib.hid hP; have HX := Lib.hid hX; have HT := Lib.hid hT; have HI := Lib.hid ht; have HZ := Lib.hid hz
  obtain ⟨oa, c, rfl⟩ := hv.shape
  obtain ⟨n, hnn⟩ : ∃ n, ws.length = n := ⟨_, rfl⟩
  rw [hnn] at HV ⊢
  have n1 : (E == E) = true := by simp
  have n2 : (C == C) = true := by simp
  have n3 : (D == D) = true := by simp
  have n4 : (X == X) = true := by simp
  have n5 : (XE == XE) = true := by simp
  have n6 : (T == T) = true := bself T
  clear hk ht hv hz l_b hbx hE hP hX hT hnn
  go_enter Tryz.func4, Tryz.ntmps4
  go_wp2_with fail
  refine (HS.out).mono ?_
  rintro e w1 ⟨rfl, hb⟩
  have HB1 := Lib.hid (btrans HB0.out hb)
  clear hb HS
  by_cases g : 300 < (n : Int)
  · have g' : decide ((300 : Int) < (n : Int)) = true := decide_eq_true g
    go_wp2
    go_ret
    exact ⟨rfl, btrans HBF.out HB1.out⟩
  have g' : decide ((300 : Int) < (n : Int)) = false := decide_eq_false g
  have HC := Lib.hid (share_any t ws _ w1 E HE.out (HV.out.on HB1.out))
  go_wp2_with fail
  refine HC.out.mono ?_
  rintro e w2 ⟨sv1, rfl, hb, hs⟩
  have HB2 := Lib.hid (btrans HB1.out hb)
  obtain ⟨ord, hord, hl1⟩ : ∃ ord, (E = 0 → IsOrd (rf (absT t) ws.sum ws) ws.length ord) ∧ (E = 0 → Hl (fun k => k < w2.heap.size) w2 sv1 (shl t ws ord)) := by
    by_cases h : E = 0
    · obtain ⟨ord, h1, h2⟩ := hs.2 h
      exact ⟨ord, fun _ => h1, fun _ => h2⟩
    · exact ⟨[], fun h' => absurd h' h, fun h' => absurd h' h⟩
  have HN1 := Lib.hid hs.1; have HL1 := Lib.hid hl1; have HO := Lib.hid hord
  clear hb hs hl1 hord HC
  have HC := Lib.hid (rshare_any t ws _ w2 E HE.out ord HO.out (HV.out.on HB2.out))
  go_wp2_with fail
  refine HC.out.mono ?_
  rintro e w3 ⟨sv2, rfl, hb, hn2, hl2⟩
  have HB3 := Lib.hid (btrans HB2.out hb)
  obtain ⟨L, hl3, hl4⟩ := two_lists hb HN1.out hn2 HL1.out hl2
  have HL3 := Lib.hid hl3; have HL4 := Lib.hid hl4
  clear hb hn2 hl2 hl3 hl4 HC HN1 HL1 HO
  have HC := Lib.hid (parse_any S HZ.out C D HP.out w3 (HK.out.on HB3.out))
  go_wp2_with fail
  refine HC.out.mono ?_
  rintro e w4 ⟨rfl, hb⟩
  have H34 := Lib.hid hb
  have HB4 := Lib.hid (btrans HB3.out hb)
  clear hb HC
  have HC := Lib.hid (rparse_any S (by have := HZ.out; omega) C D HP.out w4)
  go_wp2_with fail
  refine HC.out.mono ?_
  rintro e w' ⟨rfl, rfl⟩
  clear HC
  have c0 := (HB4.out.cell (p := ⟨w.heap.size, 0, none⟩) HLB.out).trans Q0.out
  have c1 := (HB4.out.cell (p := ⟨w.heap.size, 1, none⟩) HLB.out).trans Q1.out
  have c2 := (HB4.out.cell (p := ⟨w.heap.size, 2, none⟩) HLB.out).trans Q2.out
  have c3 := (HB4.out.cell (p := ⟨w.heap.size, 3, none⟩) HLB.out).trans Q3.out
  have c4 := (HB4.out.cell (p := ⟨w.heap.size, 4, none⟩) HLB.out).trans Q4.out
  have HC := Lib.hid (pairB_as HX.out (worth_any x0 x1 x2 x3 x4 w4))
  go_wp2_with fail
  refine HC.out.mono ?_
  rintro e w5 ⟨rfl, hb⟩
  have H35 := Lib.hid (btrans H34.out hb)
  have HB5 := Lib.hid (btrans HB4.out hb)
  clear hb HC
  clear c0 c1 c2 c3 c4
  have c0 := (HB5.out.cell (p := ⟨w.heap.size, 0, none⟩) HLB.out).trans Q0.out
  have c1 := (HB5.out.cell (p := ⟨w.heap.size, 1, none⟩) HLB.out).trans Q1.out
  have c2 := (HB5.out.cell (p := ⟨w.heap.size, 2, none⟩) HLB.out).trans Q2.out
  have c3 := (HB5.out.cell (p := ⟨w.heap.size, 3, none⟩) HLB.out).trans Q3.out
  have c4 := (HB5.out.cell (p := ⟨w.heap.size, 4, none⟩) HLB.out).trans Q4.out
  have HC := Lib.hid (pair_as HX.out (rworth_any x0 x1 x2 x3 x4 w5))
  go_wp2_with fail
  refine HC.out.mono ?_
  rintro e w' ⟨rfl, rfl⟩
  clear HC c0 c1 c2 c3 c4 Q0 Q1 Q2 Q3 Q4
  have HC := Lib.hid (same_as (HL3.out.on H35.out) (HL4.out.on H35.out))
  go_wp2_with fail
  refine HC.out.mono ?_
  rintro e w6 ⟨rfl, hb⟩
  have HB6 := Lib.hid (btrans HB5.out hb)
  clear hb HC
  have HC := Lib.hid (text_as HT.out HI.out w6 (HK.out.on HB6.out))
  go_wp2_with fail
  refine HC.out.mono ?_
  rintro e w7 ⟨rfl, hb⟩
  have HB7 := Lib.hid (btrans HB6.out hb)
  clear hb HC
  have HC := Lib.hid (rtext_as HT.out HI.out w7)
  go_wp2_with fail
  refine HC.out.mono ?_
  rintro e w8 ⟨rfl, hb⟩
  have HB8 := Lib.hid (btrans HB7.out hb)
  clear hb HC
  go_wp2
  go_ret
  exact ⟨rfl, btrans HBF.out HB8.out⟩

set_option maxRecDepth 100000 in
theorem lifted (os : Os) (started : os.Started) (H : Type) (enc : TypeId × Value → H) :
    ReturnsInHanded {} Tryz.checked os 4 .any (fun w args => (Rows.moneyPartsMatchReferenceSpec.pre enc Tryz.prog Tryz.f4 [] false w args ∧ laidMetH Tryz.prog Rows.moneyPartsMatchReferenceRow.laid w) ∧ sizedMet enc Tryz.prog Tryz.f4 (OpenSpec.ofChange Rows.moneyPartsMatchReferenceSpec) false w args)
      (Rows.moneyPartsMatchReferenceSpec.post enc Tryz.prog Tryz.f4 false true false false) := by
  refine returnsInHanded_of_change_and (C := Tryz.checked) (X := fun w _ => laidMetH Tryz.prog Rows.moneyPartsMatchReferenceRow.laid w) (fun _ _ _ hh h => h.of_heap hh) own started (by kernel_rfl) Tryz.func4
    (ChangeSpec.witness_shaped (enc := enc) (C := Tryz.checked) (os := os) (X := fun w _ => laidMetH Tryz.prog Rows.moneyPartsMatchReferenceRow.laid w) false (World.laidAll Tryz.prog os laidAllOf) #[.int .i64 0, .slice none 0 0, .string ⟨#[]⟩, .agg #[.int .i64 0, .int .i64 0, .int .i64 0, .int .i64 0, .int .i64 0]] 8 (World.laidAll_os _ _ _) (World.shaped_of_ZipB (by kernel_rfl) (by kernel_rfl)) (by kernel_rfl) (by kernel_rfl) (by kernel_rfl) (laidAll_met os _)) ?_
  intro W base args ds gs before hval0 hW _ hsz0 hL _
  have hsz : (DataW.weightsEach Tryz.prog (Tryz.f4.params.toList ++ Rows.moneyPartsMatchReferenceSpec.plain.varTypes Tryz.prog) (ds ++ gs)).all (· ≤ reachBytes) = true := hsz0
  clear hsz0
  have hval : ∀ (j : Nat) t v, Tryz.f4.params[j]? = some t → args[j]? = some v → Value.okWide Tryz.prog W .any base t v := hval0
  clear hval0
  have hW' := hW
  obtain ⟨p, q, hA0, hV, rfl, hfz, hnd⟩ := hW
  have hA : DataW.TrodAll enc Tryz.prog W 0 (fun _ => true) true Tryz.f4.params.toList args.toList ds p := hA0
  rw [Tryz.params4] at hA hval hsz
  obtain ⟨v0, vs0, d0, ds0, p0, q0, hargs, rfl, rfl, h0, r0⟩ := trodAll_cons hA
  obtain ⟨v1, vs1, d1, ds1, p1, q1, rfl, rfl, rfl, h1, r1⟩ := trodAll_cons r0
  obtain ⟨v2, vs2, d2, ds2, p2, q2, rfl, rfl, rfl, h2, r2⟩ := trodAll_cons r1
  obtain ⟨v3, vs3, d3, ds3, p3, q3, rfl, rfl, rfl, h3, r3⟩ := trodAll_cons r2
  obtain ⟨rfl, rfl, rfl⟩ := trodAll_nil r3
  obtain rfl : args = #[v0, v1, v2, v3] := by cases args; simp_all
  obtain ⟨rfl, rfl⟩ := trodVars_none hV
  obtain ⟨a0, rfl, rfl, rfl, wf0⟩ := open_int Tryz.underlying3 (hval 0 3 v0 rfl rfl) h0
  have ru0 := i64_wf wf0
  have hw1 : ∀ n ∈ d1.weights Tryz.prog 22, n ≤ reachBytes := by
    intro n hn
    have := List.all_eq_true.1 hsz n (DataW.weights_mem_each (t := 22) (d := d1) (j := 1) rfl rfl n hn)
    simpa using this
  obtain ⟨oa1, ol1, oc1, rfl⟩ := okWide_slice Tryz.underlying22 (hval 1 22 v1 rfl rfl)
  obtain ⟨fu1, hf1⟩ := h1
  obtain ⟨b1, hb1⟩ := openH (v := .slice oa1 ol1 oc1) hf1 hw1
  obtain rfl : ol1 = b1.length := by
    obtain ⟨_, _, _, _, e, _⟩ := hb1
    simp only [Value.slice.injEq] at e
    exact e.2.1
  have hw2 : ∀ n ∈ d2.weights Tryz.prog 9, n ≤ reachBytes := by
    intro n hn
    have := List.all_eq_true.1 hsz n (DataW.weights_mem_each (t := 9) (d := d2) (j := 2) rfl rfl n hn)
    simpa using this
  obtain ⟨s2, rfl, rfl, _, hs2⟩ := Go.ChangeMaps.open_string Tryz.underlying9 (hval 2 9 v2 rfl rfl) h2
  have hz2 : s2.size ≤ 140737488355328 := by
    have h1 := hw2 s2.data.toList.length (by simp only [DataW.weights, List.mem_cons, true_or])
    have h2 : s2.data.toList.length = s2.size := Array.length_toList
    have h3 : reachBytes = 0x7ffffffff000 := rfl
    omega
  obtain ⟨x3, y3, z3, u3, t3, rfl, rx3, ry3, rz3, rr3, rt3⟩ := openA (hval 3 30 v3 rfl rfl) h3
  clear hA0
  refine (walk a0 _ b1 s2 x3 y3 z3 u3 t3 W (lk_of_laid hL) ru0 hb1 hz2).mono fun e W' ⟨he, hbw⟩ => ?_
  subst he
  refine ⟨_, rfl, post_law laidOut ?_ rfl rfl hW' rfl rfl rfl hbw⟩
  intro t ht
  rw [Tryz.params4] at ht
  have hm : t ∈ [3, 9, 22, 30] := by
    simp at ht
    rcases ht with rfl|rfl|rfl|rfl <;> simp
  have hall : ([3, 9, 22, 30].all fun u => Tryz.prog.readableRec u && decide (u < Tryz.prog.types.size)) = true := by kernel_rfl
  have := List.all_eq_true.1 hall t hm
  simpa using this

theorem over : Rows.moneyPartsMatchReferenceRow.holds Tryz.pinned (OpenSpec.ofChange Rows.moneyPartsMatchReferenceSpec) :=
  OpenClaim.holds_of_wide 4 Tryz.f4 rfl rfl rfl rfl rfl rfl rfl ⟨rfl, rfl, rfl, rfl, rfl⟩ rfl rfl rfl rfl rfl (by kernel_rfl) Tryz.func4 (by kernel_rfl)
    (of_decide_eq_true (by kernel_rfl)) (by unfold Func.isWrapper; first | (rw [if_pos (by decide +kernel)]; kernel_rfl) | (rw [if_neg (by decide +kernel)]; exact ⟨rfl, rfl⟩))
    (fun os started H enc _ => lifted os started H enc)

/-- THE STATEMENT. -/
theorem proved : Rows.MoneyPartsMatchReferenceCardSaid :=
  Claim7.holds_tied_plain_at .later [] [.data, .data, .data, .data, .sentinel, .sentinel, .pinned] true (true, "d474b3da227b1f68ed449b6e949976c410548039ae0db78d056320657f151c7e") true
    over (fun _ h => by cases h) (by kernel_rfl) (fun _ h => by cases h) moneyPartsMatchReference_row_tie rfl ⟨rfl, rfl⟩ (by kernel_rfl) rfl
    (fun f fn hf hfn => by
      obtain rfl : f = 4 := Option.some.inj ((show Tryz.prog.funcNamed "wagonpool/wagonpoollaw07.MoneyPartsMatchReference" = some 4 by kernel_rfl).symm.trans hf) |>.symm
      obtain rfl : fn = Tryz.f4 := (Option.some.inj (Tryz.func4.symm.trans hfn)).symm
      exact ⟨by kernel_rfl, fun j t ht => by
        rw [Tryz.params4] at ht
        have hm : t ∈ [3, 9, 22, 30] := by
          have := Array.mem_of_getElem? ht
          simp at this
          rcases this with rfl|rfl|rfl|rfl <;> simp
        have hall : ([3, 9, 22, 30].all fun u => !Tryz.prog.wantsStandIn u) = true := by kernel_rfl
        exact (show Tryz.prog.wantsStandIn t = false by simpa using List.all_eq_true.1 hall t hm)⟩)
    (by kernel_rfl)
#print axioms proved
end Go.Proofs.YtempnbchiofghaaGreatDoor.moneyPartsMatchReference
