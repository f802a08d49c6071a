/-
  The statement 'Rows.CodecTotalOrderSaid': for all three values the law of Compare's order returns true; the arguments read as they did.
-/
import Derived.Test.YtjhjcigappkebaaOa
import Derived.Test.YtjhjcigappkebaaOb
namespace Go.Proofs.Ytjhjcigappkebaa.codecTotalOrder
open Go.ChangeShapes Go.WideShapes Go.ChangeAt Go.RowKit
set_option linter.unusedVariables false

theorem own : ownKnob Try.prog.godebug = none := by kernel_rfl
theorem laidOut : laidOutB Try.prog = true := by kernel_rfl

theorem heldBox {W : World} {t : T} {a2 : Option Addr} {c2 : Nat} {a3 : Option Addr} {c3 : Nat} (h : Rd (fun k => k < W.heap.size) W t (.agg #[.int .i64 t.kind, .int .i64 t.num, .slice a2 t.bs.length c2, .slice a3 t.els.length c3])) :
    Held (W.alloc (.cells #[.int .i64 t.kind, .int .i64 t.num, .slice a2 t.bs.length c2, .slice a3 t.els.length c3] 25)) W.heap.size t a2 c2 a3 c3 :=
  ⟨by simp, Box.new W _ _ _ _, Rd.kept (fun k hk => Below.heap_alloc _ _ _ hk) (fun k hk => by simp; omega) _ _ h⟩

theorem rdBox {W : World} {t : T} {v : Value} (h : Rd (fun k => k < W.heap.size) W t v) (o : Obj) : Rd (fun k => k < (W.alloc o).heap.size) (W.alloc o) t v :=
  Rd.kept (fun k hk => Below.heap_alloc _ _ _ hk) (fun k hk => by simp; omega) _ _ h

set_option maxHeartbeats 2000000 in
theorem walk (t u v : T) (va vb vc : Value) (w : World) (ha : Rd (fun k => k < w.heap.size) w t va) (hb : Rd (fun k => k < w.heap.size) w u vb) (hc : Rd (fun k => k < w.heap.size) w v vc) :
    Calls Try.prog 9 #[va, vb, vc] w fun e w' => e = .returned (.bool true) ∧ Below w.heap.size w w' := by
  have key : (cmpT t u = -1 ∧ cmpT u t = 1 ∧ cmpT u v = -1 ∧ cmpT t v = -1) ∨ (cmpT t u = -1 ∧ cmpT u t = 1 ∧ cmpT u v = 0 ∧ cmpT t v = -1) ∨ (cmpT t u = 0 ∧ cmpT u t = 0 ∧ cmpT u v = -1 ∧ cmpT t v = -1) ∨ (cmpT t u = 0 ∧ cmpT u t = 0 ∧ cmpT u v = 0 ∧ cmpT t v = 0) ∨
      (cmpT t u = 0 ∧ cmpT u t = 0 ∧ cmpT u v = 1 ∧ cmpT t v = 1) ∨ (cmpT t u = 1 ∧ cmpT u t = -1 ∧ cmpT u v = 0 ∧ cmpT t v = 1) ∨ (cmpT t u = 1 ∧ cmpT u t = -1 ∧ cmpT u v = 1 ∧ cmpT t v = 1) ∨
      (cmpT t u = -1 ∧ cmpT u t = 1 ∧ cmpT u v = 1 ∧ cmpT t v = -1) ∨ (cmpT t u = -1 ∧ cmpT u t = 1 ∧ cmpT u v = 1 ∧ cmpT t v = 0) ∨ (cmpT t u = -1 ∧ cmpT u t = 1 ∧ cmpT u v = 1 ∧ cmpT t v = 1) ∨
      (cmpT t u = 1 ∧ cmpT u t = -1 ∧ cmpT u v = -1 ∧ cmpT t v = -1) ∨ (cmpT t u = 1 ∧ cmpT u t = -1 ∧ cmpT u v = -1 ∧ cmpT t v = 0) ∨ (cmpT t u = 1 ∧ cmpT u t = -1 ∧ cmpT u v = -1 ∧ cmpT t v = 1) := by
    have r1 := cmpT_range t u; have r2 := cmpT_range u v; have r3 := cmpT_range t v
    have n1 := cmpT_anti t u; have n2 := cmpT_anti u v; have n3 := cmpT_anti t v
    have t1 := cmpT_tr t u v; have t2 := cmpT_tr v u t
    rw [n1, n2, n3] at t2
    rw [n1]
    clear n1 n2 n3
    generalize cmpT t u = a at *
    generalize cmpT u v = b at *
    generalize cmpT t v = c at *
    have ca : a = -1 ∨ a = 0 ∨ a = 1 := by omega
    have cb : b = -1 ∨ b = 0 ∨ b = 1 := by omega
    rcases ca with rfl | rfl | rfl <;> rcases cb with rfl | rfl | rfl <;> simp at t1 t2 ⊢ <;> omega
  have hrefl := cmpT_refl t
  have Key := Lib.hid key; have Hrefl := Lib.hid hrefl
  clear key hrefl
  obtain ⟨x2, y2, x3, y3, rfl⟩ := rdForm4 ha
  obtain ⟨u2, z2, u3, z3, rfl⟩ := rdForm4 hb
  obtain ⟨p2, q2, p3, q3, rfl⟩ := rdForm4 hc
  have hA := heldBox ha
  have hB := heldBox (rdBox hb (.cells #[.int .i64 t.kind, .int .i64 t.num, .slice x2 t.bs.length y2, .slice x3 t.els.length y3] 25))
  have hC := heldBox (rdBox (rdBox hc (.cells #[.int .i64 t.kind, .int .i64 t.num, .slice x2 t.bs.length y2, .slice x3 t.els.length y3] 25)) (.cells #[.int .i64 u.kind, .int .i64 u.num, .slice u2 u.bs.length z2, .slice u3 u.els.length z3] 25))
  have hB' := hB.below (ball (Below.refl _ _) (.cells #[.int .i64 v.kind, .int .i64 v.num, .slice p2 v.bs.length q2, .slice p3 v.els.length q3] 25))
  have hA' := (hA.below (ball (Below.refl _ _) (.cells #[.int .i64 u.kind, .int .i64 u.num, .slice u2 u.bs.length z2, .slice u3 u.els.length z3] 25))).below (ball (Below.refl _ _) (.cells #[.int .i64 v.kind, .int .i64 v.num, .slice p2 v.bs.length q2, .slice p3 v.els.length q3] 25))
  have HA := Lib.hid hA'; have HB := Lib.hid hB'; have HC := Lib.hid hC
  clear ha hb hc hA hB hC hA' hB'
  go_enter Try.func9, Try.ntmps9
  go_wp2_with fail
  refine (sane_true _).mono ?_
  rintro e w1 ⟨rfl, hb⟩
  have HA1 := Lib.hid (HA.out.below hb); have HB1 := Lib.hid (HB.out.below hb); have HC1 := Lib.hid (HC.out.below hb)
  have HW := Lib.hid (nextB (by repeat (first | exact Below.refl _ _ | apply ball)) hb : Below w.heap.size w w1)
  clear HA HB HC hb
  simp only [World.size_alloc] at HA1 HB1 HC1 ⊢
  generalize w.heap.size + 1 + 1 = C at *
  generalize w.heap.size + 1 = B at *
  generalize hSz : w.heap.size = A at *
  have HX := Lib.hid (Below.refl w1.heap.size w1)
  rcases Key.out with ⟨k1, k2, k3, k4⟩ | ⟨k1, k2, k3, k4⟩ | ⟨k1, k2, k3, k4⟩ | ⟨k1, k2, k3, k4⟩ | ⟨k1, k2, k3, k4⟩ | ⟨k1, k2, k3, k4⟩ | ⟨k1, k2, k3, k4⟩ | ⟨k1, k2, k3, k4⟩ | ⟨k1, k2, k3, k4⟩ | ⟨k1, k2, k3, k4⟩ | ⟨k1, k2, k3, k4⟩ | ⟨k1, k2, k3, k4⟩ | ⟨k1, k2, k3, k4⟩
  all_goals
    have K1 := Lib.hid k1; have K2 := Lib.hid k2; have K3 := Lib.hid k3; have K4 := Lib.hid k4; clear k1 k2 k3 k4
    have hx := HA1.out.below HX.out; obtain ⟨a0, a1, a2, a3⟩ := hx.2.1; clear hx
    have hx := HB1.out.below HX.out; obtain ⟨b0, b1, b2, b3⟩ := hx.2.1; clear hx
    go_wp2_with fail
    clear a0 a1 a2 a3
    clear b0 b1 b2 b3
    refine (compareX _ _ t u _ _ _ _ (fun k hk => hk) (fun k hk => hk) (HA1.out.below HX.out).2.2 (HB1.out.below HX.out).2.2 K1.out).mono ?_
    rintro e w2 ⟨rfl, hb⟩
    have HX' := Lib.hid (nextB HX.out hb); clear HX hb; have HX := HX'; clear HX'
    have hx := HB1.out.below HX.out; obtain ⟨b0, b1, b2, b3⟩ := hx.2.1; clear hx
    have hx := HC1.out.below HX.out; obtain ⟨c0, c1, c2, c3⟩ := hx.2.1; clear hx
    go_wp2_with fail
    clear b0 b1 b2 b3
    clear c0 c1 c2 c3
    refine (compareX _ _ u v _ _ _ _ (fun k hk => hk) (fun k hk => hk) (HB1.out.below HX.out).2.2 (HC1.out.below HX.out).2.2 K3.out).mono ?_
    rintro e w3 ⟨rfl, hb⟩
    have HX' := Lib.hid (nextB HX.out hb); clear HX hb; have HX := HX'; clear HX'
    have hx := HA1.out.below HX.out; obtain ⟨a0, a1, a2, a3⟩ := hx.2.1; clear hx
    have hx := HC1.out.below HX.out; obtain ⟨c0, c1, c2, c3⟩ := hx.2.1; clear hx
    go_wp2_with fail
    clear a0 a1 a2 a3
    clear c0 c1 c2 c3
    refine (compareX _ _ t v _ _ _ _ (fun k hk => hk) (fun k hk => hk) (HA1.out.below HX.out).2.2 (HC1.out.below HX.out).2.2 K4.out).mono ?_
    rintro e w4 ⟨rfl, hb⟩
    have HX' := Lib.hid (nextB HX.out hb); clear HX hb; have HX := HX'; clear HX'
    have hx := HB1.out.below HX.out; obtain ⟨b0, b1, b2, b3⟩ := hx.2.1; clear hx
    have hx := HA1.out.below HX.out; obtain ⟨a0, a1, a2, a3⟩ := hx.2.1; clear hx
    go_wp2_with fail
    clear b0 b1 b2 b3
    clear a0 a1 a2 a3
    refine (compareX _ _ u t _ _ _ _ (fun k hk => hk) (fun k hk => hk) (HB1.out.below HX.out).2.2 (HA1.out.below HX.out).2.2 K2.out).mono ?_
    rintro e w5 ⟨rfl, hb⟩
    have HX' := Lib.hid (nextB HX.out hb); clear HX hb; have HX := HX'; clear HX'
    have hx := HA1.out.below HX.out; obtain ⟨a0, a1, a2, a3⟩ := hx.2.1; clear hx
    go_wp2_with fail
    clear a0 a1 a2 a3
    refine (compareX _ _ t t _ _ _ _ (fun k hk => hk) (fun k hk => hk) (HA1.out.below HX.out).2.2 (HA1.out.below HX.out).2.2 Hrefl.out).mono ?_
    rintro e w6 ⟨rfl, hb⟩
    have HX' := Lib.hid (nextB HX.out hb); clear HX hb; have HX := HX'; clear HX'
    go_wp2_with fail
    go_ret
    exact ⟨rfl, by have hs := HW.out.size; rw [hSz] at hs ⊢; exact HW.out.trans (HX.out.mono hs)⟩

set_option maxRecDepth 100000 in
theorem lifted (os : Os) (started : os.Started) (H : Type) (enc : TypeId × Value → H) :
    ReturnsInHanded {} Try.checked os 9 .any (Rows.codecTotalOrderSpec.pre6 enc Try.prog Try.f9 Rows.codecTotalOrderRow.domain false) (Rows.codecTotalOrderSpec.post enc Try.prog Try.f9 false true false false) := by
  refine returnsInHanded_of_change_sized (C := Try.checked) own started (by kernel_rfl) Try.func9
    (ChangeSpec.witness6 (enc := enc) (C := Try.checked) false ⟨#[], #[.agg #[.int .i64 0, .int .i64 0, .slice none 0 0, .slice none 0 0], .agg #[.int .i64 0, .int .i64 0, .slice none 0 0, .slice none 0 0], .agg #[.int .i64 0, .int .i64 0, .slice none 0 0, .slice none 0 0]], []⟩ 8 (by kernel_rfl) (by kernel_rfl) (by kernel_rfl) (by kernel_rfl)) ?_
  intro W base args ds gs before hval0 hW _ hsz0 _
  have hsz : (DataW.weightsEach Try.prog (Try.f9.params.toList ++ Rows.codecTotalOrderSpec.plain.varTypes Try.prog) (ds ++ gs)).all (· ≤ reachBytes) = true := hsz0
  have hval : ∀ (j : Nat) t v, Try.f9.params[j]? = some t → args[j]? = some v → Value.okWide Try.prog W .any base t v := hval0
  clear hsz0 hval0
  have hW' := hW
  obtain ⟨p, q, hA0, hV, rfl, _, _⟩ := hW
  have hA : DataW.TrodAll enc Try.prog W 0 (fun _ => true) true Try.f9.params.toList args.toList ds p := hA0
  rw [Try.params9] at hA hval hsz
  obtain ⟨v0, vs0, d0, ds0, p0, q0, hargs, rfl, rfl, h0, r0⟩ := trodAll_cons hA
  obtain ⟨v1, vs1, d1, ds1, p1, q1, rfl, rfl, rfl, h1, r1⟩ := trodAll_cons r0
  obtain ⟨v2, vs2, d2, ds2, p2, q2, rfl, rfl, rfl, h2, r2⟩ := trodAll_cons r1
  obtain ⟨rfl, rfl, rfl⟩ := trodAll_nil r2
  obtain rfl : args = #[v0, v1, v2] := by cases args; simp_all
  obtain ⟨rfl, rfl⟩ := trodVars_none hV
  have hw : ∀ (j : Nat) (d : DataW H), [d0, d1, d2][j]? = some d → ∀ n ∈ d.weights Try.prog 25, n ≤ reachBytes := by
    intro j d hj n hn
    have hj3 : j < 3 := (List.getElem?_eq_some_iff.1 hj).1
    have ht : ([25, 25, 25] : List TypeId)[j]? = some 25 := by
      match j, hj3 with
      | 0, _ => rfl
      | 1, _ => rfl
      | 2, _ => rfl
    have := List.all_eq_true.1 hsz n (DataW.weights_mem_each (t := 25) (d := d) (j := j) ht hj n hn)
    simpa using this
  obtain ⟨t0, ht0⟩ := openVal (hval 0 25 v0 rfl rfl) h0 (hw 0 d0 rfl)
  obtain ⟨t1, ht1⟩ := openVal (hval 1 25 v1 rfl rfl) h1 (hw 1 d1 rfl)
  obtain ⟨t2, ht2⟩ := openVal (hval 2 25 v2 rfl rfl) h2 (hw 2 d2 rfl)
  clear hA0
  refine (walk t0 t1 t2 v0 v1 v2 W ht0 ht1 ht2).mono fun e W' ⟨he, hb⟩ => ?_
  subst he
  refine ⟨_, rfl, post_law laidOut ?_ rfl rfl hW' rfl rfl rfl hb⟩
  intro t ht
  rw [Try.params9] at ht
  simp at ht
  subst ht
  exact ⟨by kernel_rfl, of_decide_eq_true (by kernel_rfl)⟩

theorem over : Rows.codecTotalOrderRow.holds Try.pinned (OpenSpec.ofChange Rows.codecTotalOrderSpec) :=
  OpenClaim.holds_of_wide 9 Try.f9 rfl rfl rfl rfl rfl rfl rfl ⟨rfl, rfl, rfl, rfl, rfl⟩ rfl rfl rfl rfl rfl (by kernel_rfl) Try.func9 (by kernel_rfl)
    (of_decide_eq_true (by kernel_rfl)) (by unfold Func.isWrapper; first | (rw [if_pos (by decide +kernel)]; kernel_rfl) | (rw [if_neg (by decide +kernel)]; exact ⟨rfl, rfl⟩))
    (fun os started H enc _ => lifted os started H enc)

/-- THE STATEMENT. -/
theorem proved : Rows.CodecTotalOrderSaid :=
  over
#print axioms proved
end Go.Proofs.Ytjhjcigappkebaa.codecTotalOrder
