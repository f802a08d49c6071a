/-
  The statement 'Rows.CodecOrderUptoSaid': for all two values of bounded bulk the law of the order of encodings returns true; the arguments read as they did.
-/
import Derived.Test.YtjhjcigappkebaaUb
import Derived.Test.YtjhjcigappkebaaMo
namespace Go.Proofs.Ytjhjcigappkebaa.codecOrder
open Go.ChangeShapes Go.WideShapes Go.ChangeAt Go.RowKit
set_option linter.unusedVariables false

theorem own : ownKnob Try.prog.godebug = none := by kernel_rfl
theorem laidOut : laidOutB Try.prog = true := by kernel_rfl

theorem rdBox {W : World} {t : T} {v : Value} (h : Rd (fun k => k < W.heap.size) W t v) (o : Obj) : Rd (fun k => k < (W.alloc o).heap.size) (W.alloc o) t v :=
  Rd.kept (fun k hk => Below.heap_alloc _ _ _ hk) (fun k hk => by simp; omega) _ _ h

theorem orderBytesX (a b : List Int) (c : Int) (v u : Value) (w : World) (ha : Bs (fun k => k < w.heap.size) w v a) (hb : Bs (fun k => k < w.heap.size) w u b) (hc : cmpB a b = c) :
    Calls Try.prog 24 #[v, u] w fun e w' => e = .returned (.int .i64 c) ∧ Below w.heap.size w w' := by
  subst hc
  exact orderBytes_any _ _ a b v u w (fun _ h => h) (fun _ h => h) ha hb

set_option maxHeartbeats 2000000 in
theorem walk (t u : T) (va vb : Value) (w : World) (ha : Rd (fun k => k < w.heap.size) w t va) (hb : Rd (fun k => k < w.heap.size) w u vb) (hsa : (enc t).length ≤ 9437184) (hsb : (enc u).length ≤ 9437184) :
    Calls Try.prog 7 #[va, vb] w fun e w' => e = .returned (.bool true) ∧ Below w.heap.size w w' := by
  have hfa := Rd.fit t va ha
  have hfb := Rd.fit u vb hb
  obtain ⟨x2, y2, x3, y3, rfl⟩ := rdForm4 ha
  obtain ⟨u2, z2, u3, z3, rfl⟩ := rdForm4 hb
  have hA := heldBox ha
  have hB := heldBox (rdBox hb (.cells #[.int .i64 t.kind, .int .i64 t.num, .slice x2 t.bs.length y2, .slice x3 t.els.length y3] 25))
  have hA' := hA.below (ball (Below.refl _ _) (.cells #[.int .i64 u.kind, .int .i64 u.num, .slice u2 u.bs.length z2, .slice u3 u.els.length z3] 25))
  have HA := Lib.hid hA'; have HB := Lib.hid hB
  have HFa := Lib.hid hfa; have HFb := Lib.hid hfb; have Hsa := Lib.hid hsa; have Hsb := Lib.hid hsb
  clear ha hb hA hA' hB hfa hfb hsa hsb
  have caseB : ∀ c : Int, c = 2 ∨ c = 10 → chk t = c → Calls Try.prog 7 #[.agg #[.int .i64 t.kind, .int .i64 t.num, .slice x2 t.bs.length y2, .slice x3 t.els.length y3], .agg #[.int .i64 u.kind, .int .i64 u.num, .slice u2 u.bs.length z2, .slice u3 u.els.length z3]] w fun e w' => e = .returned (.bool true) ∧ Below w.heap.size w w' := by
    intro c hc hk
    have Hk := Lib.hid hk; clear hk
    rcases hc with rfl | rfl
    all_goals
      go_enter Try.func7, Try.ntmps7
      go_wp2_with fail
      refine (sane_true _).mono ?_
      rintro e w1 ⟨rfl, hb⟩
      have HA1 := Lib.hid (HA.out.below hb); have HB1 := Lib.hid (HB.out.below hb)
      have HW := Lib.hid (nextB (by repeat (first | exact Below.refl _ _ | apply ball)) hb : Below w.heap.size w w1)
      clear HA HB hb
      simp only [World.size_alloc] at HA1 HB1 ⊢
      generalize w.heap.size + 1 = B at *
      generalize hSz : w.heap.size = A at *
      have HX := Lib.hid (Below.refl w1.heap.size w1)
      have hx := HA1.out.below HX.out; obtain ⟨a0, a1, a2, a3⟩ := hx.2.1; clear hx
      go_wp2_with fail
      clear a0 a1 a2 a3
      refine (encodeE t _ _ A _ _ _ _ (HA1.out.below HX.out) (by have := Hsa.out; omega) Hk.out (by decide)).mono ?_
      rintro e w2 ⟨rfl, hb⟩
      have HX' := Lib.hid (nextB HX.out hb); clear HX hb; have HX := HX'; clear HX'
      have hx := HB1.out.below HX.out; obtain ⟨b0, b1, b2, b3⟩ := hx.2.1; clear hx
      go_wp2_with fail
      clear b0 b1 b2 b3
      refine (encode_any _ u _ _ (fun _ h => h) (HB1.out.below HX.out).2.2 (by have := Hsb.out; omega)).mono ?_
      rintro e w3 ⟨vu, rfl, hb, _, _⟩
      generalize chk u = z at *
      have HX' := Lib.hid (nextB HX.out hb); clear HX hb; have HX := HX'; clear HX'
      have hx := HA1.out.below HX.out; obtain ⟨a0, a1, a2, a3⟩ := hx.2.1; clear hx
      go_wp2_with fail
      clear a0 a1 a2 a3
      refine (checkX t _ _ A _ _ _ _ (HA1.out.below HX.out) (by have := Hsa.out; omega) Hk.out).mono ?_
      rintro e w4 ⟨rfl, hb⟩
      have HX' := Lib.hid (nextB HX.out hb); clear HX hb; have HX := HX'; clear HX'
      go_wp2_with fail
      go_ret
      exact ⟨rfl, by have hs := HW.out.size; rw [hSz] at hs ⊢; exact HW.out.trans (HX.out.mono hs)⟩
  have caseC : ∀ c : Int, c = 2 ∨ c = 10 → chk t = 0 → chk u = c → Calls Try.prog 7 #[.agg #[.int .i64 t.kind, .int .i64 t.num, .slice x2 t.bs.length y2, .slice x3 t.els.length y3], .agg #[.int .i64 u.kind, .int .i64 u.num, .slice u2 u.bs.length z2, .slice u3 u.els.length z3]] w fun e w' => e = .returned (.bool true) ∧ Below w.heap.size w w' := by
    intro c hc h0 hk
    have Hk := Lib.hid hk; have H0 := Lib.hid h0; clear hk h0
    rcases hc with rfl | rfl
    all_goals
      go_enter Try.func7, Try.ntmps7
      go_wp2_with fail
      refine (sane_true _).mono ?_
      rintro e w1 ⟨rfl, hb⟩
      have HA1 := Lib.hid (HA.out.below hb); have HB1 := Lib.hid (HB.out.below hb)
      have HW := Lib.hid (nextB (by repeat (first | exact Below.refl _ _ | apply ball)) hb : Below w.heap.size w w1)
      clear HA HB hb
      simp only [World.size_alloc] at HA1 HB1 ⊢
      generalize w.heap.size + 1 = B at *
      generalize hSz : w.heap.size = A at *
      have HX := Lib.hid (Below.refl w1.heap.size w1)
      have hx := HA1.out.below HX.out; obtain ⟨a0, a1, a2, a3⟩ := hx.2.1; clear hx
      go_wp2_with fail
      clear a0 a1 a2 a3
      refine (encodeX t _ A _ _ _ _ (HA1.out.below HX.out) (by have := Hsa.out; omega) H0.out).mono ?_
      rintro e w5 ⟨oa, oc, rfl, hb, _⟩
      have HX' := Lib.hid (nextB HX.out hb); clear HX hb; have HX := HX'; clear HX'
      have hx := HB1.out.below HX.out; obtain ⟨b0, b1, b2, b3⟩ := hx.2.1; clear hx
      go_wp2_with fail
      clear b0 b1 b2 b3
      refine (encodeE u _ _ B _ _ _ _ (HB1.out.below HX.out) (by have := Hsb.out; omega) Hk.out (by decide)).mono ?_
      rintro e w6 ⟨rfl, hb⟩
      have HX' := Lib.hid (nextB HX.out hb); clear HX hb; have HX := HX'; clear HX'
      have hx := HA1.out.below HX.out; obtain ⟨a0, a1, a2, a3⟩ := hx.2.1; clear hx
      go_wp2_with fail
      clear a0 a1 a2 a3
      refine (checkX t _ _ A _ _ _ _ (HA1.out.below HX.out) (by have := Hsa.out; omega) H0.out).mono ?_
      rintro e w7 ⟨rfl, hb⟩
      have HX' := Lib.hid (nextB HX.out hb); clear HX hb; have HX := HX'; clear HX'
      have hx := HB1.out.below HX.out; obtain ⟨b0, b1, b2, b3⟩ := hx.2.1; clear hx
      go_wp2_with fail
      clear b0 b1 b2 b3
      refine (checkX u _ _ B _ _ _ _ (HB1.out.below HX.out) (by have := Hsb.out; omega) Hk.out).mono ?_
      rintro e w8 ⟨rfl, hb⟩
      have HX' := Lib.hid (nextB HX.out hb); clear HX hb; have HX := HX'; clear HX'
      go_wp2_with fail
      go_ret
      exact ⟨rfl, by have hs := HW.out.size; rw [hSz] at hs ⊢; exact HW.out.trans (HX.out.mono hs)⟩
  have caseA : chk t = 0 → chk u = 0 → Calls Try.prog 7 #[.agg #[.int .i64 t.kind, .int .i64 t.num, .slice x2 t.bs.length y2, .slice x3 t.els.length y3], .agg #[.int .i64 u.kind, .int .i64 u.num, .slice u2 u.bs.length z2, .slice u3 u.els.length z3]] w fun e w' => e = .returned (.bool true) ∧ Below w.heap.size w w' := by
    clear caseB caseC
    intro h0 hk
    have hce := cmp_enc t u (chk_shape t h0) (chk_shape u hk) HFa.out HFb.out
    have hsame : sameT t u = true ↔ cmpT t u = 0 := by
      rw [sameT_iff]
      constructor
      · intro h; subst h; exact cmpT_refl t
      · intro h
        rw [h] at hce
        exact enc_inj t u (chk_shape t h0) (chk_shape u hk) HFa.out HFb.out ((cmpB_eq _ _).1 hce)
    have Hk := Lib.hid hk; have H0 := Lib.hid h0; have Hce := Lib.hid hce; clear hk h0 hce
    have hcase : ∃ (c : Int) (s : Bool), cmpT t u = c ∧ sameT t u = s ∧ ((c == 0) == s) = true := by
      refine ⟨_, _, rfl, rfl, ?_⟩
      by_cases h : cmpT t u = 0
      · rw [hsame.2 h, h]; rfl
      · have hf : sameT t u = false := by
          cases hs : sameT t u with
          | false => rfl
          | true => exact absurd (hsame.1 hs) h
        rw [hf, beq_eq_false_iff_ne.2 h]; rfl
    obtain ⟨c, s, hc, hs, hcs⟩ := hcase
    have Hc := Lib.hid hc; have Hs := Lib.hid hs; have Hcs := Lib.hid hcs
    clear hc hs hsame hcs
    have hcs2 : (c == 0) = s := by simpa using Hcs.out
    go_enter Try.func7, Try.ntmps7
    go_wp2_with fail
    refine (sane_true _).mono ?_
    rintro e w1 ⟨rfl, hb⟩
    have HA1 := Lib.hid (HA.out.below hb); have HB1 := Lib.hid (HB.out.below hb)
    have HW := Lib.hid (nextB (by repeat (first | exact Below.refl _ _ | apply ball)) hb : Below w.heap.size w w1)
    clear HA HB hb
    simp only [World.size_alloc] at HA1 HB1 ⊢
    generalize w.heap.size + 1 = B at *
    generalize hSz : w.heap.size = A at *
    have HX := Lib.hid (Below.refl w1.heap.size w1)
    have hx := HA1.out.below HX.out; obtain ⟨a0, a1, a2, a3⟩ := hx.2.1; clear hx
    go_wp2_with fail
    clear a0 a1 a2 a3
    refine (encodeX t _ A _ _ _ _ (HA1.out.below HX.out) (by have := Hsa.out; omega) H0.out).mono ?_
    rintro e w9 ⟨oa, oc, rfl, hb, hBa⟩
    have HBa := Lib.hid hBa; clear hBa
    have HX' := Lib.hid (nextB HX.out hb); clear HX hb; have HX := HX'; clear HX'
    have hx := HB1.out.below HX.out; obtain ⟨b0, b1, b2, b3⟩ := hx.2.1; clear hx
    go_wp2_with fail
    clear b0 b1 b2 b3
    refine (encodeX u _ B _ _ _ _ (HB1.out.below HX.out) (by have := Hsb.out; omega) Hk.out).mono ?_
    rintro e w10 ⟨ob, od, rfl, hb, hBb⟩
    have HBa' := Lib.hid (HBa.out.up hb); have HBb := Lib.hid hBb; clear hBb HBa
    have HX' := Lib.hid (nextB HX.out hb); clear HX hb; have HX := HX'; clear HX'
    have hx := HA1.out.below HX.out; obtain ⟨a0, a1, a2, a3⟩ := hx.2.1; clear hx
    have hx := HB1.out.below HX.out; obtain ⟨b0, b1, b2, b3⟩ := hx.2.1; clear hx
    go_wp2_with fail
    clear a0 a1 a2 a3
    clear b0 b1 b2 b3
    refine (compareX _ _ t u c _ _ _ (fun k hk => hk) (fun k hk => hk) (HA1.out.below HX.out).2.2 (HB1.out.below HX.out).2.2 Hc.out).mono ?_
    rintro e w11 ⟨rfl, hb⟩
    have HBa := Lib.hid (HBa'.out.up hb); have HBb' := Lib.hid (HBb.out.up hb); clear HBa' HBb
    have HX' := Lib.hid (nextB HX.out hb); clear HX hb; have HX := HX'; clear HX'
    go_wp2_with fail
    refine (orderBytesX (enc t) (enc u) c _ _ _ HBa.out HBb'.out (by rw [Hce.out, Hc.out])).mono ?_
    rintro e w12 ⟨rfl, hb⟩
    clear HBa HBb'
    have HX' := Lib.hid (nextB HX.out hb); clear HX hb; have HX := HX'; clear HX'
    have hx := HA1.out.below HX.out; obtain ⟨a0, a1, a2, a3⟩ := hx.2.1; clear hx
    have hx := HB1.out.below HX.out; obtain ⟨b0, b1, b2, b3⟩ := hx.2.1; clear hx
    go_wp2_with fail
    clear a0 a1 a2 a3
    clear b0 b1 b2 b3
    refine (sameX _ _ t u s _ _ _ (fun k hk => hk) (fun k hk => hk) (HA1.out.below HX.out).2.2 (HB1.out.below HX.out).2.2 Hs.out).mono ?_
    rintro e w13 ⟨rfl, hb⟩
    have HX' := Lib.hid (nextB HX.out hb); clear HX hb; have HX := HX'; clear HX'
    go_wp2_with fail
    go_ret
    exact ⟨rfl, by have hs := HW.out.size; rw [hSz] at hs ⊢; exact HW.out.trans (HX.out.mono hs)⟩
  rcases chk_cases t with h | h | h
  · rcases chk_cases u with h' | h' | h'
    · exact caseA h h'
    · exact caseC 2 (Or.inl rfl) h h'
    · exact caseC 10 (Or.inr rfl) h h'
  · exact caseB 2 (Or.inl rfl) h
  · exact caseB 10 (Or.inr rfl) h

theorem contract (H : Type) (enc0 : TypeId × Value → H) (W : World) (base : Nat) (args : Array Value) (ds gs : List (DataW H)) (before : List MemPlace)
    (hval : ∀ (j : Nat) t v, Try.f7.params[j]? = some t → args[j]? = some v → Value.okWide Try.prog W .any base t v)
    (hW : DataW.Whole enc0 Try.prog Try.f7.params.toList Rows.codecOrderSpec.vars false W args.toList ds gs before) (hk : Rows.uptoSmall H (ds ++ gs) = true) :
    Calls Try.prog 7 args W fun e W' => ∃ v, e = .returned v ∧ Rows.codecOrderSpec.post enc0 Try.prog Try.f7 false true false false W args v W' := by
  have hW' := hW
  obtain ⟨p, q, hA0, hV, rfl, _, _⟩ := hW
  have hA : DataW.TrodAll enc0 Try.prog W 0 (fun _ => true) true Try.f7.params.toList args.toList ds p := hA0
  rw [Try.params7] at hA hval
  obtain ⟨v0, vs0, d0, ds0, p0, q0, hargs, rfl, rfl, h0, r0⟩ := trodAll_cons hA
  obtain ⟨v1, vs1, d1, ds1, p1, q1, rfl, rfl, rfl, h1, r1⟩ := trodAll_cons r0
  obtain ⟨rfl, rfl, rfl⟩ := trodAll_nil r1
  obtain rfl : args = #[v0, v1] := by cases args; simp_all
  obtain ⟨rfl, rfl⟩ := trodVars_none hV
  have hb := of_decide_eq_true hk
  simp only [List.append_nil, Rows.uptoBulkAll] at hb
  obtain ⟨t, ht, hl⟩ := openUV (hval 0 25 v0 rfl rfl) h0 (by omega)
  obtain ⟨u, hu, hm⟩ := openUV (hval 1 25 v1 rfl rfl) h1 (by omega)
  clear hA0
  refine (walk t u v0 v1 W ht hu hl hm).mono fun e W' ⟨he, hb⟩ => ?_
  subst he
  refine ⟨_, rfl, post_law laidOut ?_ rfl rfl hW' rfl rfl rfl hb⟩
  intro t ht
  rw [Try.params7] at ht
  simp at ht
  subst ht
  exact ⟨by kernel_rfl, of_decide_eq_true (by kernel_rfl)⟩

set_option maxRecDepth 100000 in
theorem lifted (os : Os) (started : os.Started) (H : Type) (enc0 : TypeId × Value → H) (F : Stop.Interp) :
    ReturnsInHanded {} Try.checked os 7 .any ((Rows.OpenSpec.upto Rows.codecOrderSpec).pre6 enc0 Try.prog Try.f7 Rows.codecOrderUptoRow.domain false) (((Rows.OpenSpec.upto Rows.codecOrderSpec).at F).post enc0 Try.prog Try.f7 false true false false) := by
  refine returnsInHanded_of_cond (C := Try.checked) (s := Rows.OpenSpec.upto Rows.codecOrderSpec) (k := Rows.uptoSmall) rfl own started (by kernel_rfl) Try.func7
    (OpenSpec.witness (enc := enc0) (C := Try.checked) (s := Rows.OpenSpec.upto Rows.codecOrderSpec) (k := Rows.uptoSmall) rfl false ⟨#[], #[.agg #[.int .i64 0, .int .i64 0, .slice none 0 0, .slice none 0 0], .agg #[.int .i64 0, .int .i64 0, .slice none 0 0, .slice none 0 0]], []⟩ 8 (by kernel_rfl) (by kernel_rfl) (by kernel_rfl)
      (x := ([.agg [.lit (.int .i64 0), .lit (.int .i64 0), .nil, .nil], .agg [.lit (.int .i64 0), .lit (.int .i64 0), .nil, .nil]], [], [])) (by kernel_rfl) rfl (by kernel_rfl)) ?_
  intro W base args ds gs before hval hW _ hk _
  exact contract H enc0 W base args ds gs before hval hW hk

theorem over : Rows.codecOrderUptoRow.holds Try.pinned (Rows.OpenSpec.upto Rows.codecOrderSpec) :=
  OpenClaim.holds_of_cond 7 Try.f7 rfl rfl rfl rfl rfl rfl rfl ⟨rfl, rfl, rfl, rfl, rfl⟩ rfl rfl rfl rfl rfl (by kernel_rfl) Try.func7 (by kernel_rfl)
    (of_decide_eq_true (by kernel_rfl)) (by unfold Func.isWrapper; first | (rw [if_pos (by decide +kernel)]; kernel_rfl) | (rw [if_neg (by decide +kernel)]; exact ⟨rfl, rfl⟩))
    (fun os started H enc0 _ F => lifted os started H enc0 F)

/-- THE STATEMENT. -/
theorem proved : Rows.CodecOrderUptoSaid :=
  over
#print axioms proved
end Go.Proofs.Ytjhjcigappkebaa.codecOrder
