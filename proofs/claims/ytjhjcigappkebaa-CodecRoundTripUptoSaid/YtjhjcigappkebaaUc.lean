/-
  The statement 'Rows.CodecRoundTripUptoSaid': for all values of bounded bulk the law of the round trip returns true; the argument reads as it did.
-/
import Derived.Test.YtjhjcigappkebaaUb
namespace Go.Proofs.Ytjhjcigappkebaa.codecRoundTrip
open Go.ChangeShapes Go.WideShapes Go.ChangeAt Go.RowKit
set_option linter.unusedVariables false

theorem own : ownKnob Try.prog.godebug = none := by kernel_rfl
theorem laidOut : laidOutB Try.prog = true := by kernel_rfl

set_option maxHeartbeats 2000000 in
theorem walk (t : T) (v : Value) (w : World) (hr : Rd (fun k => k < w.heap.size) w t v) (hsz : (enc t).length ≤ 9437184) :
    Calls Try.prog 5 #[v] w fun e w' => e = .returned (.bool true) ∧ Below w.heap.size w w' := by
  have hfit := Rd.fit t v hr
  obtain ⟨x2, y2, x3, y3, rfl⟩ := rdForm4 hr
  have hA := heldBox hr
  have HA := Lib.hid hA; have Hs := Lib.hid hsz; have Hf := Lib.hid hfit
  clear hA hr hsz hfit
  have err : ∀ c : Int, c = 2 ∨ c = 10 → chk t = c → Calls Try.prog 5 #[.agg #[.int .i64 t.kind, .int .i64 t.num, .slice x2 t.bs.length y2, .slice x3 t.els.length y3]] w fun e w' => e = .returned (.bool true) ∧ Below w.heap.size w w' := by
    intro c hc hk
    have Hk := Lib.hid hk; clear hk
    rcases hc with rfl | rfl
    all_goals
      go_enter Try.func5, Try.ntmps5
      go_wp2_with fail
      refine (sane_true _).mono ?_
      rintro e w1 ⟨rfl, hb⟩
      have HA1 := Lib.hid (HA.out.below hb)
      have HB := Lib.hid (nextB (ball (Below.refl _ _) _) hb); clear hb HA
      obtain ⟨a0, a1, a2, a3⟩ := HA1.out.2.1
      go_wp2_with fail
      clear a0 a1 a2 a3
      refine (checkX t _ _ w.heap.size _ _ _ _ HA1.out (by have := Hs.out; omega) Hk.out).mono ?_
      rintro e w2 ⟨rfl, hb⟩
      have HA2 := Lib.hid (HA1.out.below hb)
      have HB2 := Lib.hid (nextB HB.out hb); clear hb HA1 HB
      obtain ⟨a0, a1, a2, a3⟩ := HA2.out.2.1
      go_wp2_with fail
      clear a0 a1 a2 a3
      refine (encodeE t _ _ w.heap.size _ _ _ _ HA2.out (by have := Hs.out; omega) Hk.out (by decide)).mono ?_
      rintro e w3 ⟨rfl, hb⟩
      have HB3 := Lib.hid (nextB HB2.out hb); clear hb HA2 HB2
      go_wp2_with fail
      go_ret
      exact ⟨rfl, HB3.out⟩
  rcases chk_cases t with hk | hk | hk
  · have Hk := Lib.hid hk
    have hle : ((enc t).length : Int) ≤ 65536 := by have := chk_len t hk; omega
    clear err
    have Hd := Lib.hid (dec_complete t Hf.out hk)
    clear hk
    go_enter Try.func5, Try.ntmps5
    go_wp2_with fail
    refine (sane_true _).mono ?_
    rintro e w1 ⟨rfl, hb⟩
    have HA1 := Lib.hid (HA.out.below hb)
    have HB := Lib.hid (nextB (ball (Below.refl _ _) _) hb); clear hb HA
    obtain ⟨a0, a1, a2, a3⟩ := HA1.out.2.1
    go_wp2_with fail
    clear a0 a1 a2 a3
    refine (checkX t _ _ w.heap.size _ _ _ _ HA1.out (by have := Hs.out; omega) Hk.out).mono ?_
    rintro e w2 ⟨rfl, hb⟩
    have HA2 := Lib.hid (HA1.out.below hb)
    have HB2 := Lib.hid (nextB HB.out hb); clear hb HA1 HB
    obtain ⟨a0, a1, a2, a3⟩ := HA2.out.2.1
    go_wp2_with fail
    clear a0 a1 a2 a3
    refine (encodeX t _ w.heap.size _ _ _ _ HA2.out (by have := Hs.out; omega) Hk.out).mono ?_
    rintro e w3 ⟨oa, oc, rfl, hb, hBs⟩
    have HA3 := Lib.hid (HA2.out.below hb)
    have HB3 := Lib.hid (nextB HB2.out hb)
    have HBs := Lib.hid hBs
    clear hb hBs HA2 HB2
    go_wp2_with fail
    refine (decodeX (enc t) t _ _ HBs.out Hd.out).mono ?_
    rintro e w4 ⟨p2, q2, p3, q3, rfl, hb, hrt⟩
    have HX := Lib.hid (heldBox hrt)
    have HA4 := Lib.hid ((HA3.out.below hb).below (ball (Below.refl _ _) (.cells #[.int .i64 t.kind, .int .i64 t.num, .slice p2 t.bs.length q2, .slice p3 t.els.length q3] 25)))
    have HB4 := Lib.hid (nextB HB3.out hb)
    clear hb hrt HB3 HA3 HBs
    obtain ⟨a0, a1, a2, a3⟩ := HA4.out.2.1
    go_wp2_with fail
    clear a0 a1 a2 a3
    refine (sameX _ _ t t true _ _ _ (fun k hk => hk) (fun k hk => hk) HA4.out.2.2 HX.out.2.2 (sameT_self t)).mono ?_
    rintro e w5 ⟨rfl, hb⟩
    have HB5 := Lib.hid (nextB (ball HB4.out _) hb)
    clear hb HB4 HX HA4
    go_wp2_with fail
    go_ret
    exact ⟨rfl, HB5.out⟩
  · exact err 2 (Or.inl rfl) hk
  · exact err 10 (Or.inr rfl) hk

theorem contract (H : Type) (enc0 : TypeId × Value → H) (W : World) (base : Nat) (args : Array Value) (ds gs : List (DataW H)) (before : List MemPlace)
    (hval : ∀ (j : Nat) t v, Try.f5.params[j]? = some t → args[j]? = some v → Value.okWide Try.prog W .any base t v)
    (hW : DataW.Whole enc0 Try.prog Try.f5.params.toList Rows.codecRoundTripSpec.vars false W args.toList ds gs before) (hk : Rows.uptoSmall H (ds ++ gs) = true) :
    Calls Try.prog 5 args W fun e W' => ∃ v, e = .returned v ∧ Rows.codecRoundTripSpec.post enc0 Try.prog Try.f5 false true false false W args v W' := by
  have hW' := hW
  obtain ⟨p, q, hA0, hV, rfl, _, _⟩ := hW
  have hA : DataW.TrodAll enc0 Try.prog W 0 (fun _ => true) true Try.f5.params.toList args.toList ds p := hA0
  rw [Try.params5] at hA hval
  obtain ⟨v0, vs0, d0, ds0, p0, q0, hargs, rfl, rfl, h0, r0⟩ := trodAll_cons hA
  obtain ⟨rfl, rfl, rfl⟩ := trodAll_nil r0
  obtain rfl : args = #[v0] := by cases args; simp_all
  obtain ⟨rfl, rfl⟩ := trodVars_none hV
  have hb := of_decide_eq_true hk
  simp only [List.append_nil, Rows.uptoBulkAll] at hb
  obtain ⟨t, ht, hl⟩ := openUV (hval 0 25 v0 rfl rfl) h0 (by omega)
  clear hA0
  refine (walk t v0 W ht hl).mono fun e W' ⟨he, hb⟩ => ?_
  subst he
  refine ⟨_, rfl, post_law laidOut ?_ rfl rfl hW' rfl rfl rfl hb⟩
  intro t ht
  rw [Try.params5] at ht
  simp at ht
  subst ht
  exact ⟨by kernel_rfl, of_decide_eq_true (by kernel_rfl)⟩

set_option maxRecDepth 100000 in
theorem lifted (os : Os) (started : os.Started) (H : Type) (enc0 : TypeId × Value → H) (F : Stop.Interp) :
    ReturnsInHanded {} Try.checked os 5 .any ((Rows.OpenSpec.upto Rows.codecRoundTripSpec).pre6 enc0 Try.prog Try.f5 Rows.codecRoundTripUptoRow.domain false) (((Rows.OpenSpec.upto Rows.codecRoundTripSpec).at F).post enc0 Try.prog Try.f5 false true false false) := by
  refine returnsInHanded_of_cond (C := Try.checked) (s := Rows.OpenSpec.upto Rows.codecRoundTripSpec) (k := Rows.uptoSmall) rfl own started (by kernel_rfl) Try.func5
    (OpenSpec.witness (enc := enc0) (C := Try.checked) (s := Rows.OpenSpec.upto Rows.codecRoundTripSpec) (k := Rows.uptoSmall) rfl false ⟨#[], #[.agg #[.int .i64 0, .int .i64 0, .slice none 0 0, .slice none 0 0]], []⟩ 8 (by kernel_rfl) (by kernel_rfl) (by kernel_rfl)
      (x := ([.agg [.lit (.int .i64 0), .lit (.int .i64 0), .nil, .nil]], [], [])) (by kernel_rfl) rfl (by kernel_rfl)) ?_
  intro W base args ds gs before hval hW _ hk _
  exact contract H enc0 W base args ds gs before hval hW hk

theorem over : Rows.codecRoundTripUptoRow.holds Try.pinned (Rows.OpenSpec.upto Rows.codecRoundTripSpec) :=
  OpenClaim.holds_of_cond 5 Try.f5 rfl rfl rfl rfl rfl rfl rfl ⟨rfl, rfl, rfl, rfl, rfl⟩ rfl rfl rfl rfl rfl (by kernel_rfl) Try.func5 (by kernel_rfl)
    (of_decide_eq_true (by kernel_rfl)) (by unfold Func.isWrapper; first | (rw [if_pos (by decide +kernel)]; kernel_rfl) | (rw [if_neg (by decide +kernel)]; exact ⟨rfl, rfl⟩))
    (fun os started H enc0 _ F => lifted os started H enc0 F)

/-- THE STATEMENT. -/
theorem proved : Rows.CodecRoundTripUptoSaid :=
  over
#print axioms proved
end Go.Proofs.Ytjhjcigappkebaa.codecRoundTrip
