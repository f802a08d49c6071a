/-
  The statement 'Rows.CodecIntegersSaid': for all two integers the law of the encodings of integers returns true; the arguments read as they did.
-/
import Derived.Test.YtjhjcigappkebaaLa
namespace Go.Proofs.Ytjhjcigappkebaa.codecIntegers
open Go.ChangeShapes Go.WideShapes Go.ChangeAt Go.RowKit
set_option linter.unusedVariables false

theorem own : ownKnob Try.prog.godebug = none := by kernel_rfl
theorem laidOut : laidOutB Try.prog = true := by kernel_rfl

theorem encI (n : Int) : enc (tI n) = encInt n := by unfold tI enc; rw [if_pos rfl]
theorem chkI (n : Int) : chk (tI n) = 0 := by
  have h : ((enc (tI n)).length : Int) = 1 + wid (mag n) := by rw [encI]; exact encInt_length n
  have h8 := wid_le (mag n)
  have hs : shape (tI n) = true := by unfold tI shape; rw [if_pos rfl]; rfl
  have hn : nest (tI n) = 0 := by unfold tI nest; rw [if_neg (by decide)]
  unfold chk
  rw [hs, hn]
  simp
  omega

set_option maxHeartbeats 1000000 in
theorem walk (a0 : Int) (a1 : Int) (i0 : I64 a0) (i1 : I64 a1) (w : World) :
    Calls Try.prog 12 #[.int .i64 a0, .int .i64 a1] w fun e w' => e = .returned (.bool true) ∧ Below w.heap.size w w' := by
  have hl : ∀ n, (enc (tI n)).length ≤ 140737488355328 := fun n => by
    have h : ((enc (tI n)).length : Int) = 1 + wid (mag n) := by rw [encI]; exact encInt_length n
    have h8 := wid_le (mag n)
    omega
  have Hl := Lib.hid hl; clear hl
  have I0 := Lib.hid i0; have I1 := Lib.hid i1; clear i0 i1
  go_enter Try.func12, Try.ntmps12
  go_wp2_with fail
  refine (sane_true _).mono ?_
  rintro e w1 ⟨rfl, hb⟩
  have HB := Lib.hid hb; clear hb
  go_wp2_with fail
  refine (mkIntX a0 _).mono ?_
  rintro e _ ⟨rfl, rfl⟩
  go_wp2_with fail
  refine (encode_any (fun _ => False) (tI a0) _ _ (fun _ h => h.elim) (Rd.int _ I0.out) (Hl.out a0)).mono ?_
  rintro e w2 ⟨va, rfl, hb, hA, _⟩
  have HB2 := Lib.hid (nextB (by repeat (first | exact HB.out | apply ball)) hb); have HA := Lib.hid (hA (chkI a0)); clear HB hb hA
  rw [chkI]
  go_wp2_with fail
  refine (mkIntX a1 _).mono ?_
  rintro e _ ⟨rfl, rfl⟩
  go_wp2_with fail
  refine (encode_any (fun _ => False) (tI a1) _ _ (fun _ h => h.elim) (Rd.int _ I1.out) (Hl.out a1)).mono ?_
  rintro e w3 ⟨vb, rfl, hb, hB, _⟩
  have HB3 := Lib.hid (nextB (by repeat (first | exact HB2.out | apply ball)) hb); have HBs := Lib.hid (hB (chkI a1)); 
  have HA3 := Lib.hid (Bs.kept HA.out (fun k hk => (nextB (ball (Below.refl _ _) _) hb).block k hk.2) (fun k hk => Nat.lt_of_lt_of_le hk.2 (nextB (ball (Below.refl _ _) _) hb).size))
  clear HA HB2 hb hB
  rw [chkI]
  obtain ⟨ob, cb, rfl⟩ : ∃ a c, vb = .slice a (enc (tI a1)).length c := by
    obtain ⟨_, _, a, c, h, _⟩ := HBs.out
    exact ⟨a, c, h⟩
  have hm0 : 0 ≤ mag a1 := by unfold mag; split <;> omega
  have hm1 : mag a1 ≤ 9223372036854775807 := by have := I1.out; unfold I64 at this; unfold mag; split <;> omega
  have Hm0 := Lib.hid hm0; have Hm1 := Lib.hid hm1
  have hs := fun k hk => wid_stop (mag a1) hm0 k hk
  have h8 := wid_le (mag a1)
  have hz : ∀ k : Nat, 0 ≤ mag a1 / 256 ^ k ∧ mag a1 / 256 ^ k ≤ 9223372036854775807 ∧ mag a1 / 256 ^ k / 256 = mag a1 / 256 ^ (k + 1) ∧ (k < 8 → ((mag a1 / 256 ^ k = 0) ↔ wid (mag a1) ≤ k)) ∧ (8 ≤ k → k ≤ wid (mag a1) → mag a1 / 256 ^ k = 0) := by
    intro k
    have hp : (0 : Int) < 256 ^ k := Int.pow_pos (by decide)
    refine ⟨Int.ediv_nonneg hm0 (by omega), ?_, ?_, hs k, fun h1 h2 => ?_⟩
    · have := Int.ediv_le_self (256 ^ k) hm0
      omega
    · rw [Int.pow_succ, Int.ediv_ediv_of_nonneg (by omega)]
    · have : k = 8 := by omega
      subst this
      exact Int.ediv_eq_zero_of_lt hm0 (by omega)
  have Hz := Lib.hid hz; have H8 := Lib.hid h8
  clear hs h8 hz hm0 hm1
  go_wp2_with fail
  all_goals go_loop [9, 10] (fun s r => ∃ k : Nat, k ≤ wid (mag a1) ∧ s = .int .i64 (1 + (k : Int)) ∧ r = .int .i64 (mag a1 / 256 ^ k)) (fun s _ => 9 - (intOf s).toNat)
  all_goals try (case atStart => exact ⟨0, by omega, rfl, by
    have := I1.out
    unfold I64 at this
    rw [Int.pow_zero, Int.ediv_one]
    unfold mag
    split <;> (first | omega | (congr 1 <;> unfold wrap64 <;> omega))⟩)
  all_goals
    obtain ⟨k, hk, rfl, rfl⟩ := hrel
    obtain ⟨z0, z1, z2, z3, z4⟩ := Hz.out k
    have h8 := H8.out
    by_cases hlt : k < wid (mag a1)
    · have hq : 0 < mag a1 / 256 ^ k := by have := z3 (by omega); omega
      have Hz2 := Lib.hid z2
      clear z2 z3 z4
      generalize mag a1 / 256 ^ k = q at *
      go_wp2
      go_round
      case rel =>
        exact ⟨k + 1, by omega, by go_num, by rw [← Hz2.out]⟩
      case measure => simp [intOf]; omega
    · have hq : mag a1 / 256 ^ k = 0 := by
        by_cases h9 : k < 8
        · exact (z3 h9).2 (by omega)
        · exact z4 (by omega) hk
      have hk' : (k : Int) = wid (mag a1) := by omega
      have Hk := Lib.hid hk'
      clear z0 z1 z2 z3 z4 hk' hk hlt
      rw [hq]
      clear hq
      go_wp2_with fail
      refine (orderBytes_any _ _ (enc (tI a0)) (enc (tI a1)) _ _ w3 (fun k hk => hk) (fun k hk => hk.2) HA3.out HBs.out).mono ?_
      rintro e w4 ⟨rfl, hb⟩
      have HB4 := Lib.hid (nextB HB3.out hb); clear hb HB3 HBs HA3
      rw [encI, encI, cmpB_encInt _ _ I0.out I1.out]
      go_wp2_with fail
      refine (order_any a0 a1 _).mono ?_
      rintro e w5 ⟨rfl, rfl⟩
      have hlen : (((encInt a1).length : Int) == 1 + (k : Int)) = true := by
        rw [Hk.out, encInt_length]; simp
      generalize ordI a0 a1 = c at *
      go_wp2_with fail
      go_ret
      exact ⟨rfl, HB4.out⟩

/-! ### THE ROW's STEP: WRITTEN OUT: LEAVE IT -/
set_option maxRecDepth 100000 in
theorem lifted (os : Os) (started : os.Started) (H : Type) (enc : TypeId × Value → H) :
    ReturnsInHanded {} Try.checked os 12 .any (Rows.codecIntegersSpec.pre6 enc Try.prog Try.f12 Rows.codecIntegersRow.domain false) (Rows.codecIntegersSpec.post enc Try.prog Try.f12 false true false false) := by
  refine returnsInHanded_of_change (C := Try.checked) own started (by kernel_rfl) Try.func12
    (ChangeSpec.witness6 (enc := enc) (C := Try.checked) false ⟨#[], #[.int .i64 0, .int .i64 0], []⟩ 8 (by kernel_rfl) (by kernel_rfl) (by kernel_rfl) (by kernel_rfl)) ?_
  intro W base args ds gs before hval0 hW hcnd _
  have hval : ∀ (j : Nat) t v, Try.f12.params[j]? = some t → args[j]? = some v → Value.okWide Try.prog W .any base t v := hval0
  have hW' := hW
  obtain ⟨p, q, hA0, hV, rfl, hfz, hnd⟩ := hW
  have hA : DataW.TrodAll enc Try.prog W 0 (fun _ => true) true Try.f12.params.toList args.toList ds p := hA0
  rw [Try.params12] at hA hval
  obtain ⟨v0, vs0, d0, ds0, p0, q0, hargs, rfl, rfl, h0, r0⟩ := trodAll_cons hA
  obtain ⟨v1, vs1, d1, ds1, p1, q1, rfl, rfl, rfl, h1, r1⟩ := trodAll_cons r0
  obtain ⟨rfl, rfl, rfl⟩ := trodAll_nil r1
  obtain rfl : args = #[v0, v1] := by cases args; simp_all
  obtain ⟨rfl, rfl⟩ := trodVars_none hV
  obtain ⟨a0, rfl, rfl, rfl, w0⟩ := open_int Try.underlying3 (hval 0 3 v0 rfl rfl) h0
  obtain ⟨a1, rfl, rfl, rfl, w1⟩ := open_int Try.underlying3 (hval 1 3 v1 rfl rfl) h1
  clear hA0 hval0
  simp only [List.append_nil] at hW'
  have r0 : I64 a0 := by
    have h1 : IntKind.i64.min = -9223372036854775808 := rfl
    have h2 : IntKind.i64.max = 9223372036854775807 := rfl
    simp only [Lit.wf, Bool.and_eq_true, decide_eq_true_eq] at w0
    unfold I64; omega
  have r1 : I64 a1 := by
    have h1 : IntKind.i64.min = -9223372036854775808 := rfl
    have h2 : IntKind.i64.max = 9223372036854775807 := rfl
    simp only [Lit.wf, Bool.and_eq_true, decide_eq_true_eq] at w1
    unfold I64; omega
  refine (walk a0 a1 r0 r1 W).mono fun e W' ⟨he, hb⟩ => ?_
  subst he
  refine ⟨_, rfl, post_law laidOut ?_ rfl rfl hW' rfl rfl rfl hb⟩
  intro t ht
  rw [Try.params12] at ht
  simp at ht
  subst ht
  exact ⟨by kernel_rfl, of_decide_eq_true (by kernel_rfl)⟩

theorem over : Rows.codecIntegersRow.holds Try.pinned (OpenSpec.ofChange Rows.codecIntegersSpec) :=
  OpenClaim.holds_of_wide 12 Try.f12 rfl rfl rfl rfl rfl rfl rfl ⟨rfl, rfl, rfl, rfl, rfl⟩ rfl rfl rfl rfl rfl (by kernel_rfl) Try.func12 (by kernel_rfl)
    (of_decide_eq_true (by kernel_rfl)) (by unfold Func.isWrapper; first | (rw [if_pos (by decide +kernel)]; kernel_rfl) | (rw [if_neg (by decide +kernel)]; exact ⟨rfl, rfl⟩))
    (fun os started H enc _ => lifted os started H enc)

/-- ████ THE STATEMENT ████ -/
theorem proved : Rows.CodecIntegersSaid :=
  over
#print axioms proved
end Go.Proofs.Ytjhjcigappkebaa.codecIntegers
