/-
  The statement 'Rows.CodecDecodeMatchesReferenceSaid': for all byte sequences Decode returns what the reference returns; the argument reads as it did.
-/
import Derived.Test.YtjhjcigappkebaaXe
namespace Go.Proofs.Ytjhjcigappkebaa.codecDecodeMatchesReference
open Go.ChangeShapes Go.WideShapes Go.ChangeAt Go.RowKit
set_option linter.unusedVariables false
set_option linter.unusedSimpArgs false

theorem own : ownKnob Try.prog.godebug = none := by kernel_rfl
theorem laidOut : laidOutB Try.prog = true := by kernel_rfl

set_option maxRecDepth 100000 in
set_option maxHeartbeats 2000000 in
theorem walk (b : List Int) (v : Value) (w : World) (hb : Bs (fun k => k < w.heap.size) w v b) :
    Calls Try.prog 4 #[v] w fun e w' => e = .returned (.bool true) ∧ Below w.heap.size w w' := by
  obtain ⟨va, vc, rfl⟩ : ∃ a c, v = .slice a b.length c := by
    obtain ⟨_, _, a, c, h, _⟩ := hb
    exact ⟨a, c, h⟩
  obtain ⟨t, ht⟩ : ∃ t, t = decT b := ⟨_, rfl⟩
  obtain ⟨c, hc⟩ : ∃ c, c = decC b := ⟨_, rfl⟩
  have h21 := fun (w' : World) (h : Bs (fun k => k < w'.heap.size) w' (.slice va b.length vc) b) => decodeU w' _ b h
  have h22 := fun (w' : World) (h : Bs (fun k => k < w'.heap.size) w' (.slice va b.length vc) b) => rdecodeU w' va vc b h
  rw [← ht, ← hc] at h21 h22
  have HA := Lib.hid h21; have HB := Lib.hid h22; have HS := Lib.hid hb
  clear h21 h22 hb ht hc
  go_enter Try.func4, Try.ntmps4
  go_wp2_with fail
  refine (sane_true _).mono ?_
  rintro e w1 ⟨rfl, hb⟩
  have HW := Lib.hid hb; have HS1 := Lib.hid (HS.out.up hb); clear hb HS
  go_wp2_with fail
  refine (HA.out _ HS1.out).mono ?_
  rintro e w2 ⟨a2, c2, a3, c3, rfl, hb, hr⟩
  have HW2 := Lib.hid (nextB HW.out hb); have HS2 := Lib.hid (HS1.out.up hb); have HX := Lib.hid (heldBox hr)
  clear hb hr HW HS1 HA
  have hbx := ball (Below.refl w2.heap.size w2) (.cells #[.int .i64 t.kind, .int .i64 t.num, .slice a2 t.bs.length c2, .slice a3 t.els.length c3] 25)
  have HBX := Lib.hid hbx; clear hbx
  go_wp2_with fail
  refine (HB.out _ (HS2.out.up HBX.out)).mono ?_
  rintro e w3 ⟨u2, d2, u3, d3, rfl, hb, hr⟩
  have HW3 := Lib.hid (nextB (ball HW2.out _) hb); have HX3 := Lib.hid (HX.out.below hb); have HY := Lib.hid (heldBox hr)
  clear hb hr HW2 HS2 HX HB HBX
  have hbx := HX3.out.below (ball (Below.refl w3.heap.size w3) (.cells #[.int .i64 t.kind, .int .i64 t.num, .slice u2 t.bs.length d2, .slice u3 t.els.length d3] 25))
  have HX4 := Lib.hid hbx; clear hbx HX3
  have hw4 := ball HW3.out (.cells #[.int .i64 t.kind, .int .i64 t.num, .slice u2 t.bs.length d2, .slice u3 t.els.length d3] 25)
  have HW4 := Lib.hid hw4; clear hw4 HW3
  obtain ⟨b0, b1, b2, b3⟩ := HX4.out.2.1
  generalize w2.heap.size = D at *
  go_wp2_with fail
  clear b0 b1 b2 b3
  refine (sameX (fun k => k < _) (fun k => k < _) t t true _ _ _ (fun k hk => hk) (fun k hk => hk) HX4.out.2.2 HY.out.2.2 ((sameT_iff t t).2 rfl)).mono ?_
  rintro e w5 ⟨rfl, hb⟩
  have HW5 := Lib.hid (nextB HW4.out hb)
  clear hb
  go_wp2_with fail
  go_ret
  exact ⟨rfl, HW5.out⟩

set_option maxRecDepth 100000 in
theorem lifted (os : Os) (started : os.Started) (H : Type) (enc : TypeId × Value → H) :
    ReturnsInHanded {} Try.checked os 4 .any (Rows.codecDecodeMatchesReferenceSpec.pre6 enc Try.prog Try.f4 Rows.codecDecodeMatchesReferenceRow.domain false) (Rows.codecDecodeMatchesReferenceSpec.post enc Try.prog Try.f4 false true false false) := by
  refine returnsInHanded_of_change_sized (C := Try.checked) own started (by kernel_rfl) Try.func4
    (ChangeSpec.witness6 (enc := enc) (C := Try.checked) false ⟨#[], #[.slice none 0 0], []⟩ 8 (by kernel_rfl) (by kernel_rfl) (by kernel_rfl) (by kernel_rfl)) ?_
  intro W base args ds gs before hval0 hW _ hsz0 _
  have hsz : (DataW.weightsEach Try.prog (Try.f4.params.toList ++ Rows.codecDecodeMatchesReferenceSpec.plain.varTypes Try.prog) (ds ++ gs)).all (· ≤ reachBytes) = true := hsz0
  have hval : ∀ (j : Nat) t v, Try.f4.params[j]? = some t → args[j]? = some v → Value.okWide Try.prog W .any base t v := hval0
  clear hsz0 hval0
  have hW' := hW
  obtain ⟨p, q, hA0, hV, rfl, _, _⟩ := hW
  have hA : DataW.TrodAll enc Try.prog W 0 (fun _ => true) true Try.f4.params.toList args.toList ds p := hA0
  rw [Try.params4] at hA hval hsz
  obtain ⟨v0, vs0, d0, ds0, p0, q0, hargs, rfl, rfl, h0, r0⟩ := trodAll_cons hA
  obtain ⟨rfl, rfl, rfl⟩ := trodAll_nil r0
  obtain rfl : args = #[v0] := by cases args; simp_all
  obtain ⟨rfl, rfl⟩ := trodVars_none hV
  have hw : ∀ n ∈ d0.weights Try.prog 22, n ≤ reachBytes := by
    intro n hn
    have := List.all_eq_true.1 hsz n (DataW.weights_mem_each (t := 22) (d := d0) (j := 0) rfl rfl n hn)
    simpa using this
  obtain ⟨oa, ol, oc, rfl⟩ := okWide_slice Try.underlying22 (hval 0 22 v0 rfl rfl)
  obtain ⟨fuel, hf⟩ := h0
  obtain ⟨b, hb⟩ := openB (v := .slice oa ol oc) hf hw
  clear hA0
  refine (walk b _ W hb).mono fun e W' ⟨he, hb⟩ => ?_
  subst he
  refine ⟨_, rfl, post_law laidOut ?_ rfl rfl hW' rfl rfl rfl hb⟩
  intro t ht
  rw [Try.params4] at ht
  simp at ht
  subst ht
  exact ⟨by kernel_rfl, of_decide_eq_true (by kernel_rfl)⟩

theorem over : Rows.codecDecodeMatchesReferenceRow.holds Try.pinned (OpenSpec.ofChange Rows.codecDecodeMatchesReferenceSpec) :=
  OpenClaim.holds_of_wide 4 Try.f4 rfl rfl rfl rfl rfl rfl rfl ⟨rfl, rfl, rfl, rfl, rfl⟩ rfl rfl rfl rfl rfl (by kernel_rfl) Try.func4 (by kernel_rfl)
    (of_decide_eq_true (by kernel_rfl)) (by unfold Func.isWrapper; first | (rw [if_pos (by decide +kernel)]; kernel_rfl) | (rw [if_neg (by decide +kernel)]; exact ⟨rfl, rfl⟩))
    (fun os started H enc _ => lifted os started H enc)

/-- THE STATEMENT. -/
theorem proved : Rows.CodecDecodeMatchesReferenceSaid :=
  over
#print axioms proved
end Go.Proofs.Ytjhjcigappkebaa.codecDecodeMatchesReference
