/-
  The statement 'Rows.MoneySumsUptoCardSaid': for all arguments of at most 1048576 elements the law returns true; the arguments read as they did. Condition: the listed variables lie as the program's text lays them.
-/
import Derived.Test.YtempnbchiofghaaGreatDoorUa
import Derived.ChangeMaps5
namespace Go.Proofs.YtempnbchiofghaaGreatDoor.moneySums
open Go.ChangeShapes Go.WideShapes Go.ChangeAt Go.RowKit Go.Lib
set_option linter.unusedVariables false
set_option linter.unusedSimpArgs false

theorem pair_as {f : FuncId} {args : Array Value} {p : Int × Int} {s e : Int} {w : World} (h : p = (s, e)) (k : Calls Tryz.prog f args w fun x w' => x = .returned (.tuple #[.int .i64 p.1, .int .i64 p.2]) ∧ w = w') : Calls Tryz.prog f args w fun x w' => x = .returned (.tuple #[.int .i64 s, .int .i64 e]) ∧ w = w' := by
  rw [h] at k
  exact k
/-- The walk's step of a cut of a slice of ints. -/
theorem wp_sl {P : Program} {ops : Array Oper} {rest : List Oper} {o : Oper} {a : Act} {Q : Exit → Act → World → Prop} (hP : P = Tryz.prog) (hgd : o.guard = none) (x : Operand) (lo hi : Option Operand)
    (ho : o.op = .slice 22 x lo hi none) {w : World} {v r : Value} {lv hv : Option Value} (hx : a.eval x = v) (hlo : lo.map a.eval = lv) (hhi : hi.map a.eval = hv)
    (hr : (Instr.slice 22 v lv hv none).run Tryz.prog w = .ok r w) (hk : wpList P ops Q rest (a.put o.dst r) w) : wpList P ops Q (o :: rest) a w := by
  subst hP
  have hu : Tryz.prog.underlying 22 = some (.slice (Tryz.prog.elem 22)) := by kernel_rfl
  refine wpList_plain hgd fun K hK => ?_
  unfold Oper.wp execOp
  simp only [ho, hx, hlo, hhi, Option.map_none, Sem.run_bind, Sem.run_pure, Result.andThen_ok, run_sliceAt_slice (h := hu), hr]
  exact hK _ _ hk
theorem size3 (w : World) : (sizeOf (Tryz.prog.elem 22)).run Tryz.prog w = .ok 1 w := by
  have he : Tryz.prog.elem 22 = 3 := by kernel_rfl
  rw [he]
  have h3 : Tryz.t3.size = 1 := by kernel_rfl
  simp [sizeOf, h3, go_sem]
theorem cut_hi {F : Nat → Prop} {w : World} {a : Option Addr} {n cap : Nat} {l : List Int} (h : Hl F w (.slice a n cap) l) (N : Nat) (hN : N ≤ n) :
    ∃ V, (∀ w', (Instr.slice 22 (.slice a n cap) none (some (.int .i64 (N : Int))) none).run Tryz.prog w' = .ok V w') ∧ Hl F w V (l.take N) := by
  obtain ⟨h1, h2, a', c', h3, h4, h5⟩ := h
  simp only [Value.slice.injEq] at h3
  obtain ⟨rfl, rfl, rfl⟩ := h3
  have hu : Tryz.prog.underlying 22 = some (.slice (Tryz.prog.elem 22)) := by kernel_rfl
  refine ⟨_, fun w' => by rw [run_slice_h (P := Tryz.prog) (w := w') 22 a l.length cap hu .i64 (N : Int) (by omega) (by omega), size3, Result.andThen_ok], ?_⟩
  have hlen : (l.take N).length = N := by rw [List.length_take]; omega
  refine ⟨by rw [hlen]; omega, fun x hx => h2 x (List.mem_of_mem_take hx), (if cap = 0 then a else a.map (·.add (0 * 1))), cap - 0, ?_, by rw [hlen]; omega, fun hp => ?_⟩
  · unfold sliced; rw [hlen, Int.toNat_natCast, Nat.sub_zero N]
  · rw [hlen] at hp
    obtain ⟨g, off, rfl, hg, hc⟩ := h5 (by omega)
    refine ⟨g, off + 0 * 1, ?_, hg, fun i x hx => ?_⟩
    · rw [if_neg (by omega)]
      simp only [Option.map_some, Addr.add_lit]
    · rw [List.getElem?_take] at hx
      split at hx
      · have := hc _ _ hx
        rwa [show off + 0 * 1 + i = off + i by omega]
      · cases hx
theorem cut_lo {F : Nat → Prop} {w : World} {a : Option Addr} {n cap : Nat} {l : List Int} (h : Hl F w (.slice a n cap) l) (N : Nat) (hN : N ≤ n) :
    ∃ V, (∀ w', (Instr.slice 22 (.slice a n cap) (some (.int .i64 (N : Int))) none none).run Tryz.prog w' = .ok V w') ∧ Hl F w V (l.drop N) := by
  obtain ⟨h1, h2, a', c', h3, h4, h5⟩ := h
  simp only [Value.slice.injEq] at h3
  obtain ⟨rfl, rfl, rfl⟩ := h3
  have hu : Tryz.prog.underlying 22 = some (.slice (Tryz.prog.elem 22)) := by kernel_rfl
  refine ⟨_, fun w' => by rw [run_slice_l (P := Tryz.prog) (w := w') 22 a l.length cap hu .i64 (N : Int) (by omega) (by omega), size3, Result.andThen_ok], ?_⟩
  refine ⟨by rw [List.length_drop]; omega, fun x hx => h2 x (List.mem_of_mem_drop hx), (if cap = N then a else a.map (·.add (N * 1))), cap - N, ?_, by rw [List.length_drop]; omega, fun hp => ?_⟩
  · unfold sliced; rw [List.length_drop, Int.toNat_natCast]
  · rw [List.length_drop] at hp
    obtain ⟨g, off, rfl, hg, hc⟩ := h5 (by omega)
    refine ⟨g, off + N, ?_, hg, fun i x hx => ?_⟩
    · rw [if_neg (by omega)]
      simp only [Option.map_some, Addr.add_lit, Nat.mul_one]
    · rw [List.getElem?_drop] at hx
      have := hc _ _ hx
      rw [show off + N + i = off + (N + i) by omega]
      exact this

theorem sumV_rev (l : List Int) : sumV l.reverse = sumV l := by
  unfold sumV
  rw [List.sum_reverse]
  simp only [List.mem_reverse]
theorem chk_ok {a s : Int} (h : chk a = (s, 0)) : s = a ∧ inR a := by
  unfold chk at h
  split at h
  · simp only [Prod.mk.injEq, and_true] at h; exact ⟨h.symm, by assumption⟩
  · simp at h
theorem sumV_ok {l : List Int} {s : Int} (h : sumV l = (s, 0)) : (∀ x ∈ l, inR x) ∧ s = l.sum ∧ inR l.sum := by
  unfold sumV at h
  split at h
  · exact ⟨by assumption, (chk_ok h).1, (chk_ok h).2⟩
  · simp at h
theorem sumV_split {l : List Int} {N : Nat} {s t : Int} (h1 : sumV (l.take N) = (s, 0)) (h2 : sumV (l.drop N) = (t, 0)) : addV s t = sumV l := by
  obtain ⟨a1, rfl, c1⟩ := sumV_ok h1
  obtain ⟨a2, rfl, c2⟩ := sumV_ok h2
  have e : (l.take N).sum + (l.drop N).sum = l.sum := by rw [← List.sum_append, List.take_append_drop]
  unfold addV sumV
  rw [if_pos ⟨c1, c2⟩, e, if_pos]
  intro x hx
  rw [← List.take_append_drop N l] at hx
  rcases List.mem_append.1 hx with h | h
  · exact a1 x h
  · exact a2 x h

/-- The reversed list, as far as it goes. -/
structure One (w0 : World) (v : Value) (P : List Int) (w : World) : Prop where
  below : Below w0.heap.size w0 w
  own : Own w0.heap.size w v P
theorem One.push {w0 w : World} {v : Value} {P : List Int} (h : One w0 v P w) (x : Int) (hn : P.length ≤ 10000000) :
    ∃ v' w', (Builtin.append_ #[22, 22] 22 #[v, .slice (some ⟨w.heap.size, 0, none⟩) 1 1]).run Tryz.prog (w.alloc (.cells #[.int .i64 x] 3)) = .ok v' w' ∧ One w0 v' (P ++ [x]) w' := by
  obtain ⟨v', w', hr, h1, h2, h3⟩ := h.own.push h.below.size x hn
  exact ⟨v', w', hr, h.below.grown h2 h.below.size (fun k hk => (World.ownsRow.lt h.own k hk).1), h1⟩
theorem one_start (w : World) : One w (.slice (some ⟨w.heap.size, 0, none⟩) 0 0) [] (w.alloc (.cells #[] 3)) := ⟨ball (Below.refl _ _) _, own_new _ _ (Nat.le_refl _)⟩
theorem rev_step {l : List Int} {n k j : Nat} {x : Int} (hn : l.length = n) (hj : j + 1 + k = n) (h : l[j]? = some x) : l.reverse.take (k + 1) = l.reverse.take k ++ [x] := by
  rw [List.take_add_one, List.getElem?_reverse (by omega), hn, show n - 1 - k = j by omega, h]
  rfl

set_option maxRecDepth 100000 in
set_option maxHeartbeats 16000000 in
theorem walk (v : Value) (l : List Int) (b : Int) (w : World) (hk : LK w) (hl : Hl (fun k => k < w.heap.size) w v l) (hn0 : l.length ≤ 1048576) : Calls Tryz.prog 8 #[v, .int .i64 b] w fun e w' => e = .returned (.bool true) ∧ Below w.heap.size w w' := by
  have HS := Lib.hid (sane_true w hk)
  obtain ⟨oa, c, rfl⟩ := hl.shape
  obtain ⟨n, hn⟩ : ∃ n, l.length = n := ⟨_, rfl⟩
  rw [hn] at hl hn0 ⊢
  have HN := Lib.hid hn; have HH := Lib.hid hl
  obtain ⟨S, SE, hS⟩ : ∃ S SE, sumV l = (S, SE) := ⟨_, _, rfl⟩
  have HSV := Lib.hid hS
  have w0 : IntKind.i64.wrap ((n : Int) - 1) = (n : Int) - 1 := wrap_in (by omega) (by omega)
  clear hk hl hn hS
  go_enter Tryz.func8, Tryz.ntmps8
  go_wp2_with fail
  refine (HS.out).mono ?_
  rintro e w1 ⟨rfl, hb⟩
  have HB1 := Lib.hid hb
  have HO := Lib.hid (one_start w1)
  clear hb HS
  go_wp2
  generalize hWS : w1.alloc (.cells #[] 3) = wS at *
  clear hWS
  go_loopw [5, 6] (fun p q wr => ∃ (k : Nat) (x : Int), k ≤ n ∧ q = .int .i64 x ∧ Hid (x = (n : Int) - 1 - (k : Int)) ∧ Hid (One w1 p (l.reverse.take k) wr)) (fun _ q _ => (intOf q + 1).toNat)
  case atStart => exact ⟨0, (n : Int) - 1, by omega, rfl, Lib.hid (by omega), Lib.hid HO.out⟩
  case round =>
    obtain ⟨k, x, hk, rfl, HX, HW⟩ := hrel
    by_cases hlt : k < n
    · obtain ⟨j, hj⟩ : ∃ j : Nat, x = (j : Int) := ⟨n - 1 - k, by have := HX.out; omega⟩
      subst hj
      have hjn : j + 1 + k = n := by have := HX.out; omega
      obtain ⟨g, off, y, rfl, hg, hy, hyi, c0, hcap⟩ := HH.out.pick j (by have := HN.out; omega)
      have c1 : wr.cell? ⟨g, off + j, none⟩ = some (.int .i64 y) := ((btrans HB1.out HW.out.below).cell (p := ⟨g, off + j, none⟩) hg).trans c0
      have hjl : (j : Int) < (n : Int) := by omega
      have hj0 : decide ((0 : Int) ≤ (j : Int)) = true := decide_eq_true (by omega)
      have w2 : IntKind.i64.wrap ((j : Int) - 1) = (j : Int) - 1 := wrap_in (by omega) (by omega)
      have HST := Lib.hid (rev_step HN.out hjn hy)
      obtain ⟨v1, w1', hr1, ht1⟩ := HW.out.push y (by rw [List.length_take]; omega)
      have HR1 := Lib.hid hr1; have HT1 := Lib.hid ht1
      have HX2 : Hid ((j : Int) - 1 = (n : Int) - 1 - ((k + 1 : Nat) : Int)) := Lib.hid (by omega)
      clear hy hyi c0 hcap hg hr1 ht1 HX
      go_wp2_with (at_builtin; refine wp_appi rfl rfl rfl (.tmp 27) (.tmp 32) rfl rfl rfl HR1.out ?_)
      go_roundw
      case rel => exact ⟨k + 1, (j : Int) - 1, by omega, rfl, HX2, Lib.hid (by rw [HST.out]; exact HT1.out)⟩
      case measure => simp [intOf]
    · obtain rfl : k = n := by omega
      have hj0 : decide ((0 : Int) ≤ x) = false := decide_eq_false (by have := HX.out; omega)
      have HB := Lib.hid (btrans HB1.out HW.out.below)
      have hlw := HW.out.own.hl (fun u hu => HH.out.2.1 u (List.mem_reverse.1 (List.mem_of_mem_take hu))) (by rw [List.length_take]; omega)
      rw [List.take_of_length_le (by rw [List.length_reverse]; exact Nat.le_of_eq HN.out)] at hlw
      have HHR := Lib.hid hlw
      have HHW := Lib.hid (HH.out.on HB.out)
      have A1 := Lib.hid (pair_as HSV.out (sum_any l _ wr HHW.out (by rw [HN.out]; omega)))
      have A2 := Lib.hid (pair_as ((sumV_rev l).trans HSV.out) (sum_any l.reverse _ wr HHR.out (by rw [List.length_reverse, HN.out]; omega)))
      have n1 : (S != S) = false := by simp
      have n2 : (SE != SE) = false := by simp
      clear hlw HW HX hk hlt HB1 HO
      go_wp2_with fail
      refine A1.out.mono ?_
      rintro e w' ⟨rfl, rfl⟩
      go_wp2_with fail
      refine A2.out.mono ?_
      rintro e w' ⟨rfl, rfl⟩
      by_cases b0 : b < 0
      · have b0' : decide (b < 0) = true := decide_eq_true b0
        clear A1 A2
        go_wp2
        go_ret
        exact ⟨rfl, HB.out⟩
      have b0' : decide (b < 0) = false := decide_eq_false b0
      by_cases b1 : (k : Int) < b
      · have b1' : decide ((k : Int) < b) = true := decide_eq_true b1
        clear A1 A2
        go_wp2
        go_ret
        exact ⟨rfl, HB.out⟩
      have b1' : decide ((k : Int) < b) = false := decide_eq_false b1
      obtain ⟨N, rfl⟩ : ∃ N : Nat, b = (N : Int) := ⟨b.toNat, by omega⟩
      obtain ⟨V1, hr1, hv1⟩ := cut_hi HHW.out N (by omega)
      obtain ⟨V2, hr2, hv2⟩ := cut_lo HHW.out N (by omega)
      obtain ⟨X, XE, hX⟩ : ∃ S SE, sumV (l.take N) = (S, SE) := ⟨_, _, rfl⟩
      obtain ⟨Y, YE, hY⟩ : ∃ S SE, sumV (l.drop N) = (S, SE) := ⟨_, _, rfl⟩
      obtain ⟨Z, ZE, hZ⟩ : ∃ S SE, addV X Y = (S, SE) := ⟨_, _, rfl⟩
      have HZ : Hid (XE = 0 → YE = 0 → Z = S ∧ ZE = SE) := Lib.hid (by
        rintro rfl rfl
        have := (sumV_split hX hY).symm.trans hZ
        rw [HSV.out] at this
        simp only [Prod.mk.injEq] at this
        exact ⟨this.1.symm, this.2.symm⟩)
      have A3 := Lib.hid (pair_as hX (sum_any _ _ wr hv1 (by rw [List.length_take, HN.out]; omega)))
      have A4 := Lib.hid (pair_as hY (sum_any _ _ wr hv2 (by rw [List.length_drop, HN.out]; omega)))
      have A5 := Lib.hid (fun w => pair_as hZ (add_any X Y w))
      have HR1 := Lib.hid hr1; have HR2 := Lib.hid hr2
      clear hr1 hr2 hv1 hv2 hX hY hZ A1 A2 HHR
      go_wp2_with (refine wp_sl rfl rfl (.tmp 61) none (some (.tmp 62)) rfl rfl rfl rfl (HR1.out _) ?_)
      refine A3.out.mono ?_
      rintro e w' ⟨rfl, rfl⟩
      go_wp2_with (refine wp_sl rfl rfl (.tmp 68) (some (.tmp 69)) none rfl rfl rfl rfl (HR2.out _) ?_)
      refine A4.out.mono ?_
      rintro e w' ⟨rfl, rfl⟩
      by_cases e0 : XE = 0
      · have f0 : (XE != 0) = false := by simp [e0]
        by_cases e1 : YE = 0
        · have f1 : (YE != 0) = false := by simp [e1]
          obtain ⟨z1, z2⟩ := HZ.out e0 e1
          subst z1
          subst z2
          have f2 : (Z == Z) = true := by simp
          have f3 : (ZE == ZE) = true := by simp
          clear e0 e1 HZ
          go_wp2_with fail
          refine (A5.out _).mono ?_
          rintro e w' ⟨rfl, rfl⟩
          go_wp2
          go_ret
          exact ⟨rfl, HB.out⟩
        · have f1 : (YE != 0) = true := by simp [e1]
          clear e0 e1 HZ
          go_wp2
          go_ret
          exact ⟨rfl, HB.out⟩
      · have f0 : (XE != 0) = true := by simp [e0]
        clear e0 HZ
        go_wp2
        go_ret
        exact ⟨rfl, HB.out⟩

set_option maxRecDepth 100000 in
theorem lifted (os : Os) (started : os.Started) (H : Type) (enc : TypeId × Value → H) (F : Stop.Interp) :
    ReturnsInHanded {} Tryz.checked os 8 .any (fun w args => ((Rows.OpenSpec.upto Rows.moneySumsSpec).pre enc Tryz.prog Tryz.f8 [] false w args ∧ laidMetH Tryz.prog Rows.moneySumsUptoRow.laid w) ∧ sizedMet enc Tryz.prog Tryz.f8 (Rows.OpenSpec.upto Rows.moneySumsSpec) false w args)
      (((Rows.OpenSpec.upto Rows.moneySumsSpec).at F).post enc Tryz.prog Tryz.f8 false true false false) := by
  refine returnsUpto (C := Tryz.checked) (s := (Rows.OpenSpec.upto Rows.moneySumsSpec)) (k := Rows.uptoSmall) rfl own started (by kernel_rfl) Tryz.func8
    (World.laidAll Tryz.prog os laidAllOf) #[.slice none 0 0, .int .i64 0] 8 (World.laidAll_os _ _ _) (World.shaped_of_ZipB (by kernel_rfl) (by kernel_rfl)) (by kernel_rfl)
    (x := ([.nil, .lit (.int .i64 0)], [], [])) (by kernel_rfl) rfl (by kernel_rfl) (laidAll_met os _) ?_
  intro W base args ds gs before hval0 hW hk hL
  have hval : ∀ (j : Nat) t v, Tryz.f8.params[j]? = some t → args[j]? = some v → Value.okWide Tryz.prog W .any base t v := hval0
  clear hval0
  have hW' := hW
  obtain ⟨p, q, hA0, hV, rfl, hfz, hnd⟩ := hW
  have hA : DataW.TrodAll enc Tryz.prog W 0 (fun _ => true) true Tryz.f8.params.toList args.toList ds p := hA0
  rw [Tryz.params8] at hA hval
  obtain ⟨v0, vs0, d0, ds0, p0, q0, hargs, rfl, rfl, h0, r0⟩ := trodAll_cons hA
  obtain ⟨v1, vs1, d1, ds1, p1, q1, rfl, rfl, rfl, h1, r1⟩ := trodAll_cons r0
  obtain ⟨rfl, rfl, rfl⟩ := trodAll_nil r1
  obtain rfl : args = #[v0, v1] := by cases args; simp_all
  obtain ⟨rfl, rfl⟩ := trodVars_none hV
  have hbk := of_decide_eq_true hk
  simp only [List.append_nil, Rows.uptoBulkAll] at hbk
  obtain ⟨oa0, ol0, oc0, rfl⟩ := okWide_slice Tryz.underlying22 (hval 0 22 v0 rfl rfl)
  obtain ⟨fu0, hf0⟩ := h0
  obtain ⟨b0, hb0, hbl0⟩ := openUH (v := .slice oa0 ol0 oc0) hf0 (by show Rows.uptoBulk d0 ≤ _; omega)
  obtain rfl : ol0 = b0.length := by
    obtain ⟨_, _, _, _, e, _⟩ := hb0
    simp only [Value.slice.injEq] at e
    exact e.2.1
  obtain ⟨a1, rfl, rfl, rfl, wf1⟩ := open_int Tryz.underlying3 (hval 1 3 v1 rfl rfl) h1
  have ru1 := i64_wf wf1
  clear hA0
  refine (walk _ b0 a1 W (lk_of_laid hL) hb0 hbl0).mono fun e W' ⟨he, hbw⟩ => ?_
  subst he
  refine ⟨_, rfl, post_law laidOut ?_ rfl rfl hW' rfl rfl rfl hbw⟩
  intro t ht
  rw [Tryz.params8] at ht
  have hm : t ∈ [3, 22] := by
    simp at ht
    rcases ht with rfl|rfl <;> simp
  have hall : ([3, 22].all fun u => Tryz.prog.readableRec u && decide (u < Tryz.prog.types.size)) = true := by kernel_rfl
  have := List.all_eq_true.1 hall t hm
  simpa using this

theorem over : Rows.moneySumsUptoRow.holds Tryz.pinned (Rows.OpenSpec.upto Rows.moneySumsSpec) :=
  OpenClaim.holds_of_cond 8 Tryz.f8 rfl rfl rfl rfl rfl rfl rfl ⟨rfl, rfl, rfl, rfl, rfl⟩ rfl rfl rfl rfl rfl (by kernel_rfl) Tryz.func8 (by kernel_rfl)
    (of_decide_eq_true (by kernel_rfl)) (by unfold Func.isWrapper; first | (rw [if_pos (by decide +kernel)]; kernel_rfl) | (rw [if_neg (by decide +kernel)]; exact ⟨rfl, rfl⟩))
    (fun os started H enc _ F => lifted os started H enc F)

/-- THE STATEMENT. -/
theorem proved : Rows.MoneySumsUptoCardSaid :=
  Claim7.holds_tied_plain_at .later [] [.data, .data, .data, .data, .sentinel, .sentinel, .pinned] true (true, "d474b3da227b1f68ed449b6e949976c410548039ae0db78d056320657f151c7e") true
    over (fun _ h => by cases h) (by kernel_rfl) (fun _ h => by cases h) moneySumsUpto_row_tie rfl ⟨rfl, rfl⟩ (by kernel_rfl) rfl
    (fun f fn hf hfn => by
      obtain rfl : f = 8 := Option.some.inj ((show Tryz.prog.funcNamed "wagonpool/wagonpoollaw07.MoneySums" = some 8 by kernel_rfl).symm.trans hf) |>.symm
      obtain rfl : fn = Tryz.f8 := (Option.some.inj (Tryz.func8.symm.trans hfn)).symm
      exact ⟨by kernel_rfl, fun j t ht => by
        rw [Tryz.params8] at ht
        have hm : t ∈ [3, 22] := by
          have := Array.mem_of_getElem? ht
          simp at this
          rcases this with rfl|rfl <;> simp
        have hall : ([3, 22].all fun u => !Tryz.prog.wantsStandIn u) = true := by kernel_rfl
        exact (show Tryz.prog.wantsStandIn t = false by simpa using List.all_eq_true.1 hall t hm)⟩)
    (by kernel_rfl)
#print axioms proved
end Go.Proofs.YtempnbchiofghaaGreatDoor.moneySums
