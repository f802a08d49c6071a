/-
  The statement 'Rows.CodecCanonicalSaid': for all byte sequences the law on what Decode accepts returns true; the argument reads as it did.
-/
import Derived.Test.YtjhjcigappkebaaMc
namespace Go.Proofs.Ytjhjcigappkebaa.codecCanonical
open Go.ChangeShapes Go.WideShapes Go.ChangeAt Go.RowKit
set_option linter.unusedVariables false

theorem own : ownKnob Try.prog.godebug = none := by kernel_rfl
theorem laidOut : laidOutB Try.prog = true := by kernel_rfl

set_option maxHeartbeats 2000000 in
theorem walk (b : List Int) (v : Value) (w : World) (hb : Bs (fun k => k < w.heap.size) w v b) :
    Calls Try.prog 6 #[v] w fun e w' => e = .returned (.bool true) ∧ Below w.heap.size w w' := by
  have hrange := hb.2.1
  have hlen := hb.1
  have Hb := Lib.hid hb; have Hr := Lib.hid hrange; have Hl := Lib.hid hlen
  clear hb hrange hlen
  cases hd : dec b with
  | error c =>
    have hc := dec_err b c hd
    have Hd := Lib.hid hd
    clear hd
    rcases hc with rfl | rfl | rfl
    all_goals
      go_enter Try.func6, Try.ntmps6
      go_wp2_with fail
      refine (sane_true _).mono ?_
      rintro e w1 ⟨rfl, hb⟩
      have HB := Lib.hid hb; clear hb
      go_wp2_with fail
      refine (decode_any w1 v b (Bs.kept Hb.out (fun k hk => HB.out.block k hk) (fun k hk => Nat.lt_of_lt_of_le hk HB.out.size))).mono ?_
      rintro e w2 ⟨hb2, hm⟩
      rw [Hd.out] at hm
      subst hm
      have HB2 := Lib.hid (nextB HB.out hb2); clear HB hb2
      unfold zeroV at *
      go_wp2_with fail
      refine (zero_same _).mono ?_
      rintro e w3 ⟨rfl, hb⟩
      have HB3 := Lib.hid (nextB (by repeat (first | exact HB2.out | apply Below.drew | apply ball)) hb); clear hb HB2
      go_wp2_with fail
      go_ret
      exact ⟨rfl, HB3.out⟩
  | ok t =>
    obtain ⟨he, hc⟩ := dec_sound b t Hr.out hd
    have Hd := Lib.hid hd; have He := Lib.hid he; have Hc := Lib.hid hc
    clear hd he hc
    go_enter Try.func6, Try.ntmps6
    go_wp2_with fail
    refine (sane_true _).mono ?_
    rintro e w1 ⟨rfl, hb⟩
    have HB := Lib.hid hb; clear hb
    go_wp2_with fail
    refine (decode_any w1 v b (Bs.kept Hb.out (fun k hk => HB.out.block k hk) (fun k hk => Nat.lt_of_lt_of_le hk HB.out.size))).mono ?_
    rintro e w2 ⟨hb2, hm⟩
    rw [Hd.out] at hm
    obtain ⟨vt, rfl, hrt⟩ := hm
    have HB2 := Lib.hid (nextB HB.out hb2)
    have hrt2 : Rd (fun k => k < w2.heap.size) w2 t vt := Rd.kept (fun k _ => rfl) (fun k hk => hk.2) _ _ hrt
    clear HB hb2 hrt
    obtain ⟨x2, y2, x3, y3, rfl⟩ := rdForm4 hrt2
    have hBox := heldBox hrt2
    have HX := Lib.hid hBox
    clear hBox hrt2
    go_wp2_with fail
    refine (encodeX t _ _ _ _ _ _ HX.out (by rw [He.out]; exact Hl.out) Hc.out).mono ?_
    rintro e w3 ⟨oa, oc, rfl, hb, hBs⟩
    have HX3 := Lib.hid (HX.out.below hb)
    have HB3 := Lib.hid (nextB (ball HB2.out _) hb)
    have HBs := Lib.hid hBs
    clear hb hBs HX HB2
    generalize w2.heap.size = D at *
    go_wp2_with fail
    refine (sameBytesX _ _ b (enc t) true _ _ w3 (fun k hk => hk) (fun k hk => hk) (Hb.out.up HB3.out) HBs.out (by rw [He.out]; simp)).mono ?_
    rintro e w4 ⟨rfl, hb⟩
    have HX4 := Lib.hid (HX3.out.below hb)
    have HB4 := Lib.hid (nextB HB3.out hb)
    clear hb HB3 HX3 HBs
    obtain ⟨d0, d1, d2, d3⟩ := HX4.out.2.1
    go_wp2_with fail
    clear d0 d1 d2 d3
    refine (checkX t 0 _ D _ _ _ _ HX4.out (by rw [He.out]; have := Hl.out; omega) Hc.out).mono ?_
    rintro e w5 ⟨rfl, hb⟩
    have HB5 := Lib.hid (nextB HB4.out hb)
    clear hb HB4 HX4
    go_wp2_with fail
    go_ret
    exact ⟨rfl, HB5.out⟩

set_option maxRecDepth 100000 in
theorem lifted (os : Os) (started : os.Started) (H : Type) (enc : TypeId × Value → H) :
    ReturnsInHanded {} Try.checked os 6 .any (Rows.codecCanonicalSpec.pre6 enc Try.prog Try.f6 Rows.codecCanonicalRow.domain false) (Rows.codecCanonicalSpec.post enc Try.prog Try.f6 false true false false) := by
  refine returnsInHanded_of_change_sized (C := Try.checked) own started (by kernel_rfl) Try.func6
    (ChangeSpec.witness6 (enc := enc) (C := Try.checked) false ⟨#[], #[.slice none 0 0], []⟩ 8 (by kernel_rfl) (by kernel_rfl) (by kernel_rfl) (by kernel_rfl)) ?_
  intro W base args ds gs before hval0 hW _ hsz0 _
  have hsz : (DataW.weightsEach Try.prog (Try.f6.params.toList ++ Rows.codecCanonicalSpec.plain.varTypes Try.prog) (ds ++ gs)).all (· ≤ reachBytes) = true := hsz0
  have hval : ∀ (j : Nat) t v, Try.f6.params[j]? = some t → args[j]? = some v → Value.okWide Try.prog W .any base t v := hval0
  clear hsz0 hval0
  have hW' := hW
  obtain ⟨p, q, hA0, hV, rfl, _, _⟩ := hW
  have hA : DataW.TrodAll enc Try.prog W 0 (fun _ => true) true Try.f6.params.toList args.toList ds p := hA0
  rw [Try.params6] at hA hval hsz
  obtain ⟨v0, vs0, d0, ds0, p0, q0, hargs, rfl, rfl, h0, r0⟩ := trodAll_cons hA
  obtain ⟨rfl, rfl, rfl⟩ := trodAll_nil r0
  obtain rfl : args = #[v0] := by cases args; simp_all
  obtain ⟨rfl, rfl⟩ := trodVars_none hV
  have hw : ∀ n ∈ d0.weights Try.prog 22, n ≤ reachBytes := by
    intro n hn
    have := List.all_eq_true.1 hsz n (DataW.weights_mem_each (t := 22) (d := d0) (j := 0) rfl rfl n hn)
    simpa using this
  obtain ⟨oa, ol, oc, rfl⟩ := okWide_slice Try.underlying22 (hval 0 22 v0 rfl rfl)
  obtain ⟨fuel, hf⟩ := h0
  obtain ⟨b, hb⟩ := openB (v := .slice oa ol oc) hf hw
  clear hA0
  refine (walk b _ W hb).mono fun e W' ⟨he, hb⟩ => ?_
  subst he
  refine ⟨_, rfl, post_law laidOut ?_ rfl rfl hW' rfl rfl rfl hb⟩
  intro t ht
  rw [Try.params6] at ht
  simp at ht
  subst ht
  exact ⟨by kernel_rfl, of_decide_eq_true (by kernel_rfl)⟩

theorem over : Rows.codecCanonicalRow.holds Try.pinned (OpenSpec.ofChange Rows.codecCanonicalSpec) :=
  OpenClaim.holds_of_wide 6 Try.f6 rfl rfl rfl rfl rfl rfl rfl ⟨rfl, rfl, rfl, rfl, rfl⟩ rfl rfl rfl rfl rfl (by kernel_rfl) Try.func6 (by kernel_rfl)
    (of_decide_eq_true (by kernel_rfl)) (by unfold Func.isWrapper; first | (rw [if_pos (by decide +kernel)]; kernel_rfl) | (rw [if_neg (by decide +kernel)]; exact ⟨rfl, rfl⟩))
    (fun os started H enc _ => lifted os started H enc)

/-- THE STATEMENT. -/
theorem proved : Rows.CodecCanonicalSaid :=
  over
#print axioms proved
end Go.Proofs.Ytjhjcigappkebaa.codecCanonical
