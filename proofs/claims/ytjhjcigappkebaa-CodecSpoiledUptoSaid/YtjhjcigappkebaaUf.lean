/-
  The statement 'Rows.CodecSpoiledUptoSaid': for all values, numbers and bytes of bounded bulk the law of spoiled encodings returns true; the arguments read as they did.
-/
import Derived.Test.YtjhjcigappkebaaJb
import Derived.Test.YtjhjcigappkebaaMp
namespace Go.Proofs.Ytjhjcigappkebaa.codecSpoiled
open Go.ChangeShapes Go.WideShapes Go.ChangeAt Go.RowKit
set_option linter.unusedVariables false

theorem own : ownKnob Try.prog.godebug = none := by kernel_rfl
theorem laidOut : laidOutB Try.prog = true := by kernel_rfl

theorem Bs.store {F : Nat → Prop} {w : World} {g n c k : Nat} {b : List Int} {y : Int} (h : Bs F w (.slice (some ⟨g, 0, none⟩) n c) b) (hk : k < b.length) (hy : 0 ≤ y ∧ y ≤ 255) : Bs F (w.setCell ⟨g, k, none⟩ (.int .u8 y)) (.slice (some ⟨g, 0, none⟩) n c) (b.set k y) := by
  obtain ⟨h1, h2, a', c', h3, h4, h5⟩ := h
  simp only [Value.slice.injEq] at h3
  obtain ⟨rfl, rfl, rfl⟩ := h3
  have hl : (b.set k y).length = b.length := List.length_set
  refine ⟨by omega, fun u hu => ?_, some ⟨g, 0, none⟩, c, by rw [hl], by omega, fun hp => ?_⟩
  · rcases List.mem_or_eq_of_mem_set hu with h | h
    · exact h2 u h
    · rw [h]; exact hy
  · obtain ⟨g', off, e, hf, hc⟩ := h5 (by omega)
    simp only [Option.some.injEq, Addr.mk.injEq, and_true] at e
    obtain ⟨rfl, rfl⟩ := e
    refine ⟨g, 0, rfl, hf, fun j u hj => ?_⟩
    rw [List.getElem?_set] at hj
    split at hj
    · rename_i hkj
      subst hkj
      cases hj
      have := hc k b[k] (List.getElem?_eq_getElem hk)
      rw [Nat.zero_add] at this ⊢
      exact World.cell?_setCell_same w _ _ this
    · rename_i hkj
      refine (World.cell?_setCell_other w _ _ _ (fun e => ?_)).trans (hc j u hj)
      simp at e
      try omega

set_option maxHeartbeats 2000000 in
theorem walk (t : T) (at0 y0 : Int) (v : Value) (w : World) (hr : Rd (fun k => k < w.heap.size) w t v) (hat : I64 at0) (hy : 0 ≤ y0 ∧ y0 ≤ 255) (hsz : (enc t).length ≤ 9437184) :
    Calls Try.prog 11 #[v, .int .i64 at0, .int .u8 y0] w fun e w' => e = .returned (.bool true) ∧ Below w.heap.size w w' := by
  have hfit := Rd.fit t v hr
  obtain ⟨x2, y2, x3, y3, rfl⟩ := rdForm4 hr
  have hA := heldBox hr
  have HA := Lib.hid hA; have Hs := Lib.hid hsz; have Hf := Lib.hid hfit; have Hat := Lib.hid hat; have Hy := Lib.hid hy
  clear hA hr hsz hfit hat hy
  have err : ∀ c : Int, c = 2 ∨ c = 10 → chk t = c → Calls Try.prog 11 #[.agg #[.int .i64 t.kind, .int .i64 t.num, .slice x2 t.bs.length y2, .slice x3 t.els.length y3], .int .i64 at0, .int .u8 y0] w fun e w' => e = .returned (.bool true) ∧ Below w.heap.size w w' := by
    intro c hc hk
    have Hk := Lib.hid hk; clear hk
    rcases hc with rfl | rfl
    all_goals
      go_enter Try.func11, Try.ntmps11
      go_wp2_with fail
      refine (sane_true _).mono ?_
      rintro e w1 ⟨rfl, hb⟩
      have HA1 := Lib.hid (HA.out.below hb)
      have HB := Lib.hid (nextB (ball (Below.refl _ _) _) hb); clear hb HA
      obtain ⟨a0, a1, a2, a3⟩ := HA1.out.2.1
      go_wp2_with fail
      clear a0 a1 a2 a3
      refine (encodeE t _ _ w.heap.size _ _ _ _ HA1.out (by have := Hs.out; omega) Hk.out (by decide)).mono ?_
      rintro e w2 ⟨rfl, hb⟩
      have HA2 := Lib.hid (HA1.out.below hb)
      have HB2 := Lib.hid (nextB HB.out hb); clear hb HA1 HB
      obtain ⟨a0, a1, a2, a3⟩ := HA2.out.2.1
      go_wp2_with fail
      clear a0 a1 a2 a3
      refine (checkX t _ _ w.heap.size _ _ _ _ HA2.out (by have := Hs.out; omega) Hk.out).mono ?_
      rintro e w3 ⟨rfl, hb⟩
      have HB3 := Lib.hid (nextB HB2.out hb); clear hb HA2 HB2
      go_wp2_with fail
      go_ret
      exact ⟨rfl, HB3.out⟩
  have good : chk t = 0 → Calls Try.prog 11 #[.agg #[.int .i64 t.kind, .int .i64 t.num, .slice x2 t.bs.length y2, .slice x3 t.els.length y3], .int .i64 at0, .int .u8 y0] w fun e w' => e = .returned (.bool true) ∧ Below w.heap.size w w' := by
    intro hk
    have hpos : 1 ≤ (enc t).length := by obtain ⟨m', rest, h, _⟩ := enc_head t (by unfold chk at hk; split at hk <;> first | assumption | omega); rw [h]; simp
    have hle := chk_len t hk
    have hdt := dec_complete t Hf.out hk
    have Hk := Lib.hid hk; have Hpos := Lib.hid hpos; have Hle := Lib.hid hle; have Hdt := Lib.hid hdt; clear hk hpos hle hdt err
    generalize hn : (enc t).length = n at *
    have Hn := Lib.hid hn; clear hn
    have hn0 : ((n : Int) == 0) = false := by rw [beq_eq_false_iff_ne]; have := Hpos.out; omega
    go_enter Try.func11, Try.ntmps11
    go_wp2_with fail
    refine (sane_true _).mono ?_
    rintro e w1 ⟨rfl, hb⟩
    have HA1 := Lib.hid (HA.out.below hb)
    have HB := Lib.hid (nextB (ball (Below.refl _ _) _) hb); clear hb HA
    obtain ⟨a0, a1, a2, a3⟩ := HA1.out.2.1
    go_wp2_with fail
    clear a0 a1 a2 a3
    refine (encodeX t _ w.heap.size _ _ _ _ HA1.out (by have := Hs.out; have := Hn.out; omega) Hk.out).mono ?_
    rintro e w2 ⟨oa, oc, rfl, hb, hBs⟩
    rw [Hn.out] at hBs ⊢
    have HBs := Lib.hid hBs
    have HA2 := Lib.hid (HA1.out.below hb)
    have HB2 := Lib.hid (nextB HB.out hb); clear hb HA1 HB hBs
    go_wp2_with fail
    refine (joined_any (enc t) [] _ _ _ HBs.out (Bs.nil _ _) (by have := Hs.out; have := Hn.out; simp; omega)).mono ?_
    rintro e w3 ⟨vj, rfl, hb, hown⟩
    rw [List.append_nil, Hn.out] at hown
    obtain ⟨g, jc, rfl, hg, hgl⟩ : ∃ g c, vj = .slice (some ⟨g, 0, none⟩) n c ∧ w2.heap.size ≤ g ∧ g < w3.heap.size := by
      rcases hown.2 with ⟨_, h0⟩ | ⟨g, c, cur, h, h1, hh, _⟩
      · have := Hpos.out; omega
      · exact ⟨g, c, h, h1, (Array.getElem?_eq_some_iff.1 hh).1⟩
    have hjc : n ≤ jc ∧ ∀ k : Nat, w3.frozen? ⟨g, k, none⟩ = false := by
      rcases hown.2 with ⟨h, _⟩ | ⟨g', c', cur, h, _, hh, hn', _⟩
      · cases h
      · simp only [Value.slice.injEq, Option.some.injEq, Addr.mk.injEq, and_true] at h
        obtain ⟨rfl, _, rfl⟩ := h
        exact ⟨hn', fun k => by simp [World.frozen?, hh]⟩
    have hBj := Bs.kept (F' := fun k => k < w3.heap.size) (Bs.ofOwn (bs := enc t) (by rw [Hn.out]; exact hown) (by have := Hs.out; have := Hn.out; omega) HBs.out.2.1) (fun _ _ => rfl) (fun k hk => hk.2.1)
    have HBj := Lib.hid hBj
    have HBs3 := Lib.hid (HBs.out.up hb)
    have HA3 := Lib.hid (HA2.out.below hb)
    have HB3 := Lib.hid (nextB HB2.out hb)
    have Hg := Lib.hid hg; have Hgl := Lib.hid hgl; have Hjc := Lib.hid hjc
    have hAg : w.heap.size < w2.heap.size := by have := HA2.out.1; exact this
    have HAg := Lib.hid hAg
    have HBso := Lib.hid HBs.out
    have Hb23 := Lib.hid hb
    clear hb hown hBj hg hgl hjc hAg HBs
    go_wp2_with fail
    refine (around_any at0 n Hat.out (by have := Hpos.out; omega) (by have := Hle.out; omega) _).mono ?_
    rintro e w4 ⟨k, hkn, rfl, rfl⟩
    have hk0 : (0 : Int) ≤ k := by omega
    have Hkn := Lib.hid hkn
    obtain ⟨u, hu⟩ : ∃ u, w3.cell? ⟨g, k, none⟩ = some (.int .u8 u) := by
      obtain ⟨_, _, a', c', h3, _, h5⟩ := HBj.out
      obtain ⟨g', off, e, _, hc⟩ := h5 (by have := Hpos.out; have := Hn.out; omega)
      simp only [Value.slice.injEq] at h3
      rw [← h3.1] at e
      simp only [Option.some.injEq, Addr.mk.injEq, and_true] at e
      obtain ⟨rfl, rfl⟩ := e
      have := hc k _ (List.getElem?_eq_getElem (by have := Hn.out; omega))
      rw [Nat.zero_add] at this
      exact ⟨_, this⟩
    have hfz := Hjc.out.2 k
    have hx6 := Bs.store (y := y0) HBj.out (by have := Hn.out; omega) Hy.out (k := k)
    have hb36 : Below w2.heap.size w3 (w3.setCell ⟨g, k, none⟩ (.int .u8 y0)) := (Below.refl _ _).setCell Hg.out _
    have hb26 := Hb23.out.trans hb36
    have hx := Bs.kept (F' := fun k' => k' < (w3.setCell ⟨g, k, none⟩ (.int .u8 y0)).heap.size) hx6 (fun _ _ => rfl) (fun k' hk' => Nat.lt_of_lt_of_le hk' hb36.size)
    have HX := Lib.hid hx
    have HBs6 := Lib.hid (HBso.out.up hb26)
    have HA6 := Lib.hid (HA2.out.below hb26)
    have HB6 := Lib.hid (nextB HB2.out hb26)
    clear hx6 hb36 hb26 hx HBso HA2 HB2 Hb23 HBs3 HA3 HB3 HBj
    go_wp2_with fail
    clear hfz hu
    generalize w3.setCell ⟨g, k, none⟩ (.int .u8 y0) = W6 at *
    have hxr := HX.out.2.1
    generalize hxe : (enc t).set k y0 = x at *
    cases hdx : dec x with
    | error c =>
      have hne : x ≠ enc t := by
        intro e
        rw [e, Hdt.out] at hdx
        cases hdx
      have hc := dec_err x c hdx
      have Hdx := Lib.hid hdx; have Hne := Lib.hid hne; clear hdx hne hxr hxe
      refine (decodeE x c _ _ HX.out Hdx.out).mono ?_
      rintro e w7 ⟨rfl, hb⟩
      have HX7 := Lib.hid ((HX.out.up hb).up (ball (Below.refl _ _) (.cells #[.int .i64 0, .int .i64 0, .slice none 0 0, .slice none 0 0] 25)))
      have HBs7 := Lib.hid ((HBs6.out.up hb).up (ball (Below.refl _ _) (.cells #[.int .i64 0, .int .i64 0, .slice none 0 0, .slice none 0 0] 25)))
      have HB7 := Lib.hid (ball (nextB HB6.out hb) (.cells #[.int .i64 0, .int .i64 0, .slice none 0 0, .slice none 0 0] 25)); clear hb HB6 HX HBs6
      go_wp2_with fail
      refine (sameBytesX _ _ x (enc t) false _ _ _ (fun k hk => hk) (fun k hk => hk) HX7.out HBs7.out (decide_eq_false Hne.out)).mono ?_
      rintro e w8 ⟨rfl, hb⟩
      have HB8 := Lib.hid (nextB HB7.out hb); clear hb HB7 HX7 HBs7
      clear Hdx Hne
      rcases hc with rfl | rfl | rfl
      all_goals
        go_wp2_with fail
        go_ret
        exact ⟨rfl, HB8.out⟩
    | ok t' =>
      obtain ⟨hs1, hs2⟩ := dec_sound x t' hxr hdx
      have Hdx := Lib.hid hdx
      have hfin : ∃ c : Bool, sameT t t' = c ∧ decide (x = enc t) = c := by
        cases hst : sameT t t' with
        | true =>
          have := (sameT_iff t t').1 hst
          subst this
          exact ⟨true, rfl, decide_eq_true hs1.symm⟩
        | false =>
          refine ⟨false, rfl, decide_eq_false ?_⟩
          intro e
          rw [e, Hdt.out] at hdx
          cases hdx
          rw [sameT_self] at hst
          cases hst
      obtain ⟨c, hc1, hc2⟩ := hfin
      have Hc1 := Lib.hid hc1; have Hc2 := Lib.hid hc2
      clear hdx hc1 hc2 hs1 hs2 hxr hxe
      refine (decodeX x t' _ _ HX.out Hdx.out).mono ?_
      rintro e w7 ⟨p2, q2, p3, q3, rfl, hb, hrt⟩
      have HX7 := Lib.hid ((HX.out.up hb).up (ball (Below.refl _ _) (.cells #[.int .i64 t'.kind, .int .i64 t'.num, .slice p2 t'.bs.length q2, .slice p3 t'.els.length q3] 25)))
      have HBs7 := Lib.hid ((HBs6.out.up hb).up (ball (Below.refl _ _) (.cells #[.int .i64 t'.kind, .int .i64 t'.num, .slice p2 t'.bs.length q2, .slice p3 t'.els.length q3] 25)))
      have HA7 := Lib.hid ((HA6.out.below hb).below (ball (Below.refl _ _) (.cells #[.int .i64 t'.kind, .int .i64 t'.num, .slice p2 t'.bs.length q2, .slice p3 t'.els.length q3] 25)))
      have HD7 := Lib.hid (heldBox hrt)
      have HB7 := Lib.hid (ball (nextB HB6.out hb) (.cells #[.int .i64 t'.kind, .int .i64 t'.num, .slice p2 t'.bs.length q2, .slice p3 t'.els.length q3] 25)); clear hb HB6 HX HBs6 HA6 hrt
      go_wp2_with fail
      refine (sameBytesX _ _ x (enc t) c _ _ _ (fun k hk => hk) (fun k hk => hk) HX7.out HBs7.out Hc2.out).mono ?_
      rintro e w8 ⟨rfl, hb⟩
      have HA8 := Lib.hid (HA7.out.below hb); have HD8 := Lib.hid (HD7.out.below hb)
      have HB8 := Lib.hid (nextB HB7.out hb); clear hb HB7 HX7 HBs7 HA7 HD7
      generalize w7.heap.size = D at *
      cases c
      all_goals
        obtain ⟨a0, a1, a2, a3⟩ := HA8.out.2.1
        obtain ⟨d0, d1, d2, d3⟩ := HD8.out.2.1
        go_wp2_with fail
        clear a0 a1 a2 a3 d0 d1 d2 d3
        refine (sameX _ _ t t' _ _ _ _ (fun k hk => hk) (fun k hk => hk) HA8.out.2.2 HD8.out.2.2 Hc1.out).mono ?_
        rintro e w9 ⟨rfl, hb⟩
        have HB9 := Lib.hid (nextB HB8.out hb)
        go_wp2_with fail
        go_ret
        exact ⟨rfl, HB9.out⟩
  rcases chk_cases t with h | h | h
  · exact good h
  · exact err 2 (Or.inl rfl) h
  · exact err 10 (Or.inr rfl) h

theorem contract (H : Type) (enc0 : TypeId × Value → H) (W : World) (base : Nat) (args : Array Value) (ds gs : List (DataW H)) (before : List MemPlace)
    (hval : ∀ (j : Nat) t v, Try.f11.params[j]? = some t → args[j]? = some v → Value.okWide Try.prog W .any base t v)
    (hW : DataW.Whole enc0 Try.prog Try.f11.params.toList Rows.codecSpoiledSpec.vars false W args.toList ds gs before) (hk : Rows.uptoSmall H (ds ++ gs) = true) :
    Calls Try.prog 11 args W fun e W' => ∃ v, e = .returned v ∧ Rows.codecSpoiledSpec.post enc0 Try.prog Try.f11 false true false false W args v W' := by
  have hW' := hW
  obtain ⟨p, q, hA0, hV, rfl, _, _⟩ := hW
  have hA : DataW.TrodAll enc0 Try.prog W 0 (fun _ => true) true Try.f11.params.toList args.toList ds p := hA0
  rw [Try.params11] at hA hval
  obtain ⟨v0, vs0, d0, ds0, p0, q0, hargs, rfl, rfl, h0, r0⟩ := trodAll_cons hA
  obtain ⟨v1, vs1, d1, ds1, p1, q1, rfl, rfl, rfl, h1, r1⟩ := trodAll_cons r0
  obtain ⟨v2, vs2, d2, ds2, p2, q2, rfl, rfl, rfl, h2, r2⟩ := trodAll_cons r1
  obtain ⟨rfl, rfl, rfl⟩ := trodAll_nil r2
  obtain rfl : args = #[v0, v1, v2] := by cases args; simp_all
  obtain ⟨rfl, rfl⟩ := trodVars_none hV
  have hb := of_decide_eq_true hk
  simp only [List.append_nil, Rows.uptoBulkAll] at hb
  obtain ⟨t, ht, hl⟩ := openUV (hval 0 25 v0 rfl rfl) h0 (by omega)
  obtain ⟨a1, e1, e2, e3, wa⟩ := open_int Try.underlying3 (hval 1 3 v1 rfl rfl) h1
  subst e1
  obtain ⟨a2, f1, f2, f3, wb⟩ := open_int Try.underlying5 (hval 2 5 v2 rfl rfl) h2
  subst f1
  have i1 : I64 a1 := by
    have h1 : IntKind.i64.min = -9223372036854775808 := rfl
    have h2 : IntKind.i64.max = 9223372036854775807 := rfl
    simp only [Lit.wf, Bool.and_eq_true, decide_eq_true_eq] at wa
    unfold I64; omega
  have i2 : 0 ≤ a2 ∧ a2 ≤ 255 := by
    have h1 : IntKind.u8.min = 0 := rfl
    have h2 : IntKind.u8.max = 255 := rfl
    simp only [Lit.wf, Bool.and_eq_true, decide_eq_true_eq] at wb
    omega
  clear hA0
  refine (walk t a1 a2 v0 W ht i1 i2 hl).mono fun e W' ⟨he, hb⟩ => ?_
  subst he
  refine ⟨_, rfl, post_law laidOut ?_ rfl rfl hW' rfl rfl rfl hb⟩
  intro t ht
  rw [Try.params11] at ht
  simp at ht
  rcases ht with rfl | rfl | rfl
  · exact ⟨by kernel_rfl, of_decide_eq_true (by kernel_rfl)⟩
  · exact ⟨by kernel_rfl, of_decide_eq_true (by kernel_rfl)⟩
  · exact ⟨by kernel_rfl, of_decide_eq_true (by kernel_rfl)⟩

set_option maxRecDepth 100000 in
theorem lifted (os : Os) (started : os.Started) (H : Type) (enc0 : TypeId × Value → H) (F : Stop.Interp) :
    ReturnsInHanded {} Try.checked os 11 .any ((Rows.OpenSpec.upto Rows.codecSpoiledSpec).pre6 enc0 Try.prog Try.f11 Rows.codecSpoiledUptoRow.domain false) (((Rows.OpenSpec.upto Rows.codecSpoiledSpec).at F).post enc0 Try.prog Try.f11 false true false false) := by
  refine returnsInHanded_of_cond (C := Try.checked) (s := Rows.OpenSpec.upto Rows.codecSpoiledSpec) (k := Rows.uptoSmall) rfl own started (by kernel_rfl) Try.func11
    (OpenSpec.witness (enc := enc0) (C := Try.checked) (s := Rows.OpenSpec.upto Rows.codecSpoiledSpec) (k := Rows.uptoSmall) rfl false ⟨#[], #[.agg #[.int .i64 0, .int .i64 0, .slice none 0 0, .slice none 0 0], .int .i64 0, .int .u8 0], []⟩ 8 (by kernel_rfl) (by kernel_rfl) (by kernel_rfl)
      (x := ([.agg [.lit (.int .i64 0), .lit (.int .i64 0), .nil, .nil], .lit (.int .i64 0), .lit (.int .u8 0)], [], [])) (by kernel_rfl) rfl (by kernel_rfl)) ?_
  intro W base args ds gs before hval hW _ hk _
  exact contract H enc0 W base args ds gs before hval hW hk

theorem over : Rows.codecSpoiledUptoRow.holds Try.pinned (Rows.OpenSpec.upto Rows.codecSpoiledSpec) :=
  OpenClaim.holds_of_cond 11 Try.f11 rfl rfl rfl rfl rfl rfl rfl ⟨rfl, rfl, rfl, rfl, rfl⟩ rfl rfl rfl rfl rfl (by kernel_rfl) Try.func11 (by kernel_rfl)
    (of_decide_eq_true (by kernel_rfl)) (by unfold Func.isWrapper; first | (rw [if_pos (by decide +kernel)]; kernel_rfl) | (rw [if_neg (by decide +kernel)]; exact ⟨rfl, rfl⟩))
    (fun os started H enc0 _ F => lifted os started H enc0 F)

/-- THE STATEMENT. -/
theorem proved : Rows.CodecSpoiledUptoSaid :=
  over
#print axioms proved
end Go.Proofs.Ytjhjcigappkebaa.codecSpoiled
