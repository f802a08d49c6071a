/-
  The statement 'Rows.NetworkCheckMatchesReferenceSaid': for all arguments the law returns true; the arguments read as they did.
-/
import Derived.Test.YtbeoldklpklbfaaFr
namespace Go.Proofs.Ytbeoldklpklbfaa.networkCheckMatchesReference
open Go.ChangeShapes Go.WideShapes Go.ChangeAt Go.RowKit
set_option linter.unusedVariables false
set_option linter.unusedSimpArgs false

theorem cerr_chk {ps : List Pc} {es : List Ed} (h : chk ps es ≠ 0) (l : List Int) : cerr ps es l = chk ps es := if_neg h
section
variable {w : World} {V : Value} {ps : List Pc} {es : List Ed}
theorem eT (h : Nw w V ps es) (E : Int) (hE : E = chk ps es) (h0 : E ≠ 0) (f : Int) (hf : I64 f) : Calls Try.prog 15 #[V, .int .i64 f] w fun e w' => ∃ a c, e = .returned (.tuple #[.slice a 0 c, .int .i64 E]) ∧ Below w.heap.size w w' := by
  refine (timesP_any h f hf).mono ?_
  rintro e w' ⟨a, k, c, L, E', rfl, hb, hl, ⟨h1, h2, _⟩, _⟩
  have he : E' = E := by rw [h1, cerr_chk (by rw [← hE]; exact h0), hE]
  subst he
  rw [h2 h0] at hl
  obtain ⟨_, _, e⟩ := hl.shape
  simp only [Value.slice.injEq, List.length_nil] at e
  obtain ⟨rfl, rfl, rfl⟩ := e
  exact ⟨_, _, rfl, hb⟩
theorem eB (h : Nw w V ps es) (E : Int) (hE : E = chk ps es) (h0 : E ≠ 0) (a b : Int) (ha : I64 a) (hb : I64 b) : Calls Try.prog 16 #[V, .int .i64 a, .int .i64 b] w fun e w' => e = .returned (.tuple #[.int .i64 0, .int .i64 E]) ∧ Below w.heap.size w w' := by
  refine (betweenP_any h a b ha hb).mono ?_
  rintro e w' ⟨T, E', rfl, hb, hr, _⟩
  have hc := cerr_chk (by rw [← hE]; exact h0) [a, b]
  rcases hr with ⟨_, h1, h2⟩ | ⟨h1, _⟩
  · rw [h2, h1, hc, ← hE]; exact ⟨rfl, hb⟩
  · rw [hc, ← hE] at h1; exact absurd h1 h0
theorem eE (h : Nw w V ps es) (E : Int) (hE : E = chk ps es) (h0 : E ≠ 0) (a b : Int) (ha : I64 a) (hb : I64 b) : Calls Try.prog 18 #[V, .int .i64 a, .int .i64 b] w fun e w' => e = .returned (.tuple #[.int .i64 0, .int .i64 E]) ∧ Below w.heap.size w w' := by
  refine (edgeP_any h a b ha hb).mono ?_
  rintro e w' ⟨T, E', rfl, hb, hr⟩
  have hc := cerr_chk (by rw [← hE]; exact h0) [a, b]
  rcases hr with ⟨_, h1, h2⟩ | ⟨h1, _⟩
  · rw [h2, h1, hc, ← hE]; exact ⟨rfl, hb⟩
  · rw [hc, ← hE] at h1; exact absurd h1 h0
theorem eR (h : Nw w V ps es) (E : Int) (hE : E = chk ps es) (h0 : E ≠ 0) (a b : Int) (ha : I64 a) (hb : I64 b) : Calls Try.prog 17 #[V, .int .i64 a, .int .i64 b] w fun e w' => ∃ x c, e = .returned (.tuple #[.slice x 0 c, .int .i64 E]) ∧ Below w.heap.size w w' := by
  refine (routeP_any h a b ha hb).mono ?_
  rintro e w' ⟨x, k, c, R, E', rfl, hb, hl, hr⟩
  have hc := cerr_chk (by rw [← hE]; exact h0) [a, b]
  rcases hr with ⟨_, h1, h2⟩ | ⟨h1, _⟩
  · rw [h2] at hl
    obtain ⟨_, _, e⟩ := hl.shape
    simp only [Value.slice.injEq, List.length_nil] at e
    obtain ⟨rfl, rfl, rfl⟩ := e
    rw [h1, hc, ← hE]; exact ⟨_, _, rfl, hb⟩
  · rw [hc, ← hE] at h1; exact absurd h1 h0
theorem eS (h : Nw w V ps es) (E : Int) (hE : E = chk ps es) (h0 : E ≠ 0) {u : Value} {l : List Int} (hu : Hl (fun k => k < w.heap.size) w u l) (hl : l.length ≤ 1000) : Calls Try.prog 19 #[V, u] w fun e w' => ∃ x c, e = .returned (.tuple #[.slice x 0 c, .int .i64 E]) ∧ Below w.heap.size w w' := by
  refine (sharesP_any h hu (by omega)).mono ?_
  rintro e w' ⟨x, k, c, R, E', rfl, hb, hl, hr⟩
  have hc := cerr_chk (by rw [← hE]; exact h0) l
  rcases hr with ⟨_, h1, h2⟩ | ⟨h1, _⟩
  · rw [h2] at hl
    obtain ⟨_, _, e⟩ := hl.shape
    simp only [Value.slice.injEq, List.length_nil] at e
    obtain ⟨rfl, rfl, rfl⟩ := e
    rw [h1, hc, ← hE]; exact ⟨_, _, rfl, hb⟩
  · rw [hc, ← hE] at h1; exact absurd h1 h0
end

set_option maxRecDepth 100000 in
set_option maxHeartbeats 8000000 in
theorem walk (V0 : Value) (ps0 : List Pc) (es0 : List Ed) (a1 : Int) (a2 : Int) (w : World) (h0 : Nw w V0 ps0 es0) (h1 : I64 a1) (h2 : I64 a2) :
    Calls Try.prog 3 #[V0, .int .i64 a1, .int .i64 a2] w fun e w' => e = .returned (.bool true) ∧ Below w.heap.size w w' := by
  obtain ⟨va, vc, vb, vd, rfl, hh1, hh2⟩ := h0.shape
  obtain ⟨n, hn⟩ : ∃ n, n = ps0.length := ⟨_, rfl⟩
  obtain ⟨m, hm⟩ : ∃ m, m = es0.length := ⟨_, rfl⟩
  rw [← hn, ← hm] at h0 ⊢
  have HN := Lib.hid hn; have HM := Lib.hid hm
  obtain ⟨W, hW⟩ : ∃ W, W = w.alloc (.cells #[.slice va n vc, .slice vb m vd] 25) := ⟨_, rfl⟩
  have hB : Below w.heap.size w W := by rw [hW]; exact ball (Below.refl w.heap.size w) _
  have e0 : W.heap[w.heap.size]? = some (.cells #[.slice va n vc, .slice vb m vd] 25 (0, 0)) := by rw [hW]; exact bnew _ _
  have HV := Lib.hid (h0.on hB); have HB := Lib.hid hB; have HX := Lib.hid e0
  obtain ⟨b0, b1⟩ := box2 e0
  clear h0 hh1 hh2 hn hm hB e0
  obtain ⟨E, hE⟩ : ∃ E, E = chk ps0 es0 := ⟨_, rfl⟩
  have HE := Lib.hid hE; have H1 := Lib.hid h1; have H2 := Lib.hid h2
  clear hE h1 h2
  by_cases c1 : n ≤ 600
  · have d1 : decide ((n : Int) > 600) = false := decide_eq_false (by omega)
    by_cases c2 : m ≤ 2100
    · have d2 : decide ((m : Int) > 2100) = false := decide_eq_false (by omega)
      by_cases cE : E = 0
      · subst cE
        have Hc := Lib.hid (sane_true W)
        go_enter Try.func3, Try.ntmps3
        go_wp2_with fail
        rw [← hW]
        clear hW
        refine Hc.out.mono ?_
        rintro e w1 ⟨rfl, hb⟩
        replace HB := Lib.hid (btrans HB.out hb); replace HV := Lib.hid (HV.out.on hb); replace HX := Lib.hid (bon HX.out hb)
        clear hb b0 b1 Hc
        obtain ⟨b0, b1⟩ := box2 HX.out
        have Hc := Lib.hid (check_any HV.out 0 HE.out)
        go_wp2_with fail
        refine Hc.out.mono ?_
        rintro e w2 ⟨rfl, hb⟩
        replace HB := Lib.hid (btrans HB.out hb); replace HV := Lib.hid (HV.out.on hb); replace HX := Lib.hid (bon HX.out hb)
        clear hb b0 b1 Hc
        obtain ⟨b0, b1⟩ := box2 HX.out
        have Hc := Lib.hid (rcheck_any HV.out 0 HE.out)
        go_wp2_with fail
        refine Hc.out.mono ?_
        rintro e w3 ⟨rfl, hb⟩
        replace HB := Lib.hid (btrans HB.out hb); replace HV := Lib.hid (HV.out.on hb); replace HX := Lib.hid (bon HX.out hb)
        clear hb b0 b1 Hc
        obtain ⟨b0, b1⟩ := box2 HX.out
        go_wp2
        go_ret
        exact ⟨rfl, HB.out⟩
      · have dE : (E == 0) = false := by simpa using cE
        have dn : (E != E) = false := by simp
        have de : (E == E) = true := by simp
        have HE0 := Lib.hid cE
        clear cE
        have Hc := Lib.hid (sane_true W)
        go_enter Try.func3, Try.ntmps3
        go_wp2_with fail
        rw [← hW]
        clear hW
        refine Hc.out.mono ?_
        rintro e w1 ⟨rfl, hb⟩
        replace HB := Lib.hid (btrans HB.out hb); replace HV := Lib.hid (HV.out.on hb); replace HX := Lib.hid (bon HX.out hb)
        clear hb b0 b1 Hc
        obtain ⟨b0, b1⟩ := box2 HX.out
        have Hc := Lib.hid (check_any HV.out E HE.out)
        go_wp2_with fail
        refine Hc.out.mono ?_
        rintro e w2 ⟨rfl, hb⟩
        replace HB := Lib.hid (btrans HB.out hb); replace HV := Lib.hid (HV.out.on hb); replace HX := Lib.hid (bon HX.out hb)
        clear hb b0 b1 Hc
        obtain ⟨b0, b1⟩ := box2 HX.out
        have Hc := Lib.hid (rcheck_any HV.out E HE.out)
        go_wp2_with fail
        refine Hc.out.mono ?_
        rintro e w3 ⟨rfl, hb⟩
        replace HB := Lib.hid (btrans HB.out hb); replace HV := Lib.hid (HV.out.on hb); replace HX := Lib.hid (bon HX.out hb)
        clear hb b0 b1 Hc
        obtain ⟨b0, b1⟩ := box2 HX.out
        have Hc := Lib.hid (eT HV.out E HE.out HE0.out a1 H1.out)
        go_wp2_with fail
        refine Hc.out.mono ?_
        rintro e w4 ⟨t1, t2, rfl, hb⟩
        replace HB := Lib.hid (btrans HB.out hb); replace HV := Lib.hid (HV.out.on hb); replace HX := Lib.hid (bon HX.out hb)
        clear hb b0 b1 Hc
        obtain ⟨b0, b1⟩ := box2 HX.out
        have Hc := Lib.hid (eB HV.out E HE.out HE0.out a1 a2 H1.out H2.out)
        go_wp2_with fail
        refine Hc.out.mono ?_
        rintro e w5 ⟨rfl, hb⟩
        replace HB := Lib.hid (btrans HB.out hb); replace HV := Lib.hid (HV.out.on hb); replace HX := Lib.hid (bon HX.out hb)
        clear hb b0 b1 Hc
        obtain ⟨b0, b1⟩ := box2 HX.out
        have Hc := Lib.hid (eR HV.out E HE.out HE0.out a1 a2 H1.out H2.out)
        go_wp2_with fail
        refine Hc.out.mono ?_
        rintro e w6 ⟨r1, r2, rfl, hb⟩
        replace HB := Lib.hid (btrans HB.out hb); replace HV := Lib.hid (HV.out.on hb); replace HX := Lib.hid (bon HX.out hb)
        clear hb b0 b1 Hc
        obtain ⟨b0, b1⟩ := box2 HX.out
        have Hc := Lib.hid (eE HV.out E HE.out HE0.out a1 a2 H1.out H2.out)
        go_wp2_with fail
        refine Hc.out.mono ?_
        rintro e w7 ⟨rfl, hb⟩
        replace HB := Lib.hid (btrans HB.out hb); replace HV := Lib.hid (HV.out.on hb); replace HX := Lib.hid (bon HX.out hb)
        clear hb b0 b1 Hc
        obtain ⟨b0, b1⟩ := box2 HX.out
        have hl9 := ball (Below.refl w7.heap.size w7) (.cells #[.int .i64 a1, .int .i64 a2] 3)
        have HL9 := Lib.hid hl9
        have Hc := Lib.hid (eS (HV.out.on hl9) E HE.out HE0.out (hl_lit2 w7 a1 a2 H1.out H2.out) (by simp))
        clear hl9
        go_wp2_with fail
        refine Hc.out.mono ?_
        rintro e w8 ⟨s1, s2, rfl, hb⟩
        replace hb := btrans HL9.out hb
        replace HB := Lib.hid (btrans HB.out hb); replace HV := Lib.hid (HV.out.on hb); replace HX := Lib.hid (bon HX.out hb)
        clear hb b0 b1 Hc HL9
        obtain ⟨b0, b1⟩ := box2 HX.out
        go_wp2
        go_ret
        exact ⟨rfl, HB.out⟩
    · have d2 : decide ((m : Int) > 2100) = true := decide_eq_true (by omega)
      have Hc := Lib.hid (sane_true W)
      go_enter Try.func3, Try.ntmps3
      go_wp2_with fail
      rw [← hW]
      clear hW
      refine Hc.out.mono ?_
      rintro e w1 ⟨rfl, hb⟩
      replace HB := Lib.hid (btrans HB.out hb); replace HV := Lib.hid (HV.out.on hb); replace HX := Lib.hid (bon HX.out hb)
      clear hb b0 b1 Hc
      obtain ⟨b0, b1⟩ := box2 HX.out
      go_wp2
      go_ret
      exact ⟨rfl, HB.out⟩
  · have d1 : decide ((n : Int) > 600) = true := decide_eq_true (by omega)
    have Hc := Lib.hid (sane_true W)
    go_enter Try.func3, Try.ntmps3
    go_wp2_with fail
    rw [← hW]
    clear hW
    refine Hc.out.mono ?_
    rintro e w1 ⟨rfl, hb⟩
    replace HB := Lib.hid (btrans HB.out hb); replace HV := Lib.hid (HV.out.on hb); replace HX := Lib.hid (bon HX.out hb)
    clear hb b0 b1 Hc
    obtain ⟨b0, b1⟩ := box2 HX.out
    go_wp2
    go_ret
    exact ⟨rfl, HB.out⟩

set_option maxRecDepth 100000 in
theorem lifted (os : Os) (started : os.Started) (H : Type) (enc : TypeId × Value → H) :
    ReturnsInHanded {} Try.checked os 3 .any (Rows.networkCheckMatchesReferenceSpec.pre6 enc Try.prog Try.f3 Rows.networkCheckMatchesReferenceRow.domain false) (Rows.networkCheckMatchesReferenceSpec.post enc Try.prog Try.f3 false true false false) := by
  refine returnsInHanded_of_change_sized (C := Try.checked) own started (by kernel_rfl) Try.func3
    (ChangeSpec.witness6 (enc := enc) (C := Try.checked) false ⟨#[], #[.agg #[.slice none 0 0, .slice none 0 0], .int .i64 0, .int .i64 0], []⟩ 8 (by kernel_rfl) (by kernel_rfl) (by kernel_rfl) (by kernel_rfl)) ?_
  intro W base args ds gs before hval0 hW _ hsz0 _
  have hsz : (DataW.weightsEach Try.prog (Try.f3.params.toList ++ Rows.networkCheckMatchesReferenceSpec.plain.varTypes Try.prog) (ds ++ gs)).all (· ≤ reachBytes) = true := hsz0
  have hval : ∀ (j : Nat) t v, Try.f3.params[j]? = some t → args[j]? = some v → Value.okWide Try.prog W .any base t v := hval0
  clear hsz0 hval0
  have hW' := hW
  obtain ⟨p, q, hA0, hV, rfl, _, _⟩ := hW
  have hA : DataW.TrodAll enc Try.prog W 0 (fun _ => true) true Try.f3.params.toList args.toList ds p := hA0
  rw [Try.params3] at hA hval hsz
  obtain ⟨v0, vs0, d0, ds0, p0, q0, hargs, rfl, rfl, h0, r0⟩ := trodAll_cons hA
  obtain ⟨v1, vs1, d1, ds1, p1, q1, rfl, rfl, rfl, h1, r1⟩ := trodAll_cons r0
  obtain ⟨v2, vs2, d2, ds2, p2, q2, rfl, rfl, rfl, h2, r2⟩ := trodAll_cons r1
  obtain ⟨rfl, rfl, rfl⟩ := trodAll_nil r2
  obtain rfl : args = #[v0, v1, v2] := by cases args; simp_all
  obtain ⟨rfl, rfl⟩ := trodVars_none hV
  have hw0 : ∀ n ∈ d0.weights Try.prog 25, n ≤ reachBytes := by
    intro n hn
    have := List.all_eq_true.1 hsz n (DataW.weights_mem_each (t := 25) (d := d0) (j := 0) rfl rfl n hn)
    simpa using this
  obtain ⟨ps0, es0, hn0⟩ := openNw (hval 0 25 v0 rfl rfl) h0 hw0
  obtain ⟨a1, rfl, rfl, rfl, wf1⟩ := open_int Try.underlying3 (hval 1 3 v1 rfl rfl) h1
  obtain ⟨a2, rfl, rfl, rfl, wf2⟩ := open_int Try.underlying3 (hval 2 3 v2 rfl rfl) h2
  clear hA0
  refine (walk v0 ps0 es0 a1 a2 W hn0 (i64_wf wf1) (i64_wf wf2)).mono fun e W' ⟨he, hb⟩ => ?_
  subst he
  refine ⟨_, rfl, post_law laidOut ?_ rfl rfl hW' rfl rfl rfl hb⟩
  intro t ht
  rw [Try.params3] at ht
  have hm : t ∈ [3, 25] := (by decide : ∀ t ∈ (#[25, 3, 3] : Array TypeId).toList, t ∈ [3, 25]) t ht
  have hall : ([3, 25].all fun u => Try.prog.readableRec u && decide (u < Try.prog.types.size)) = true := by kernel_rfl
  have := List.all_eq_true.1 hall t hm
  simpa using this

theorem over : Rows.networkCheckMatchesReferenceRow.holds Try.pinned (OpenSpec.ofChange Rows.networkCheckMatchesReferenceSpec) :=
  OpenClaim.holds_of_wide 3 Try.f3 rfl rfl rfl rfl rfl rfl rfl ⟨rfl, rfl, rfl, rfl, rfl⟩ rfl rfl rfl rfl rfl (by kernel_rfl) Try.func3 (by kernel_rfl)
    (of_decide_eq_true (by kernel_rfl)) (by unfold Func.isWrapper; first | (rw [if_pos (by decide +kernel)]; kernel_rfl) | (rw [if_neg (by decide +kernel)]; exact ⟨rfl, rfl⟩))
    (fun os started H enc _ => lifted os started H enc)

/-- THE STATEMENT. -/
theorem proved : Rows.NetworkCheckMatchesReferenceSaid :=
  over
#print axioms proved
end Go.Proofs.Ytbeoldklpklbfaa.networkCheckMatchesReference
