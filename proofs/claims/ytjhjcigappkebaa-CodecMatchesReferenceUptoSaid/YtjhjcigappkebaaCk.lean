/-
  Walks of the reference: Check, Encode.
-/
import Derived.Test.YtjhjcigappkebaaSh
import Derived.Test.YtjhjcigappkebaaBy
namespace Go.Proofs.Ytjhjcigappkebaa
set_option linter.unusedSimpArgs false
set_option linter.unusedVariables false
open Go.RowKit

theorem shapeH (t : T) (b : Bool) (hb : shape t = b) (w : World) (g : Nat) (a2 : Option Addr) (c2 : Nat) (a3 : Option Addr) (c3 : Nat) (h : Held w g t a2 c2 a3 c3) :
    Calls Try.prog 37 #[.agg #[.int .i64 t.kind, .int .i64 t.num, .slice a2 t.bs.length c2, .slice a3 t.els.length c3]] w fun e w' => e = .returned (.bool b) ∧ Below w.heap.size w w' := by
  subst hb
  exact shape_any (dep t + 1) t (by omega) w a2 c2 a3 c3 h.2.2
theorem nestingH (t : T) (hs : shape t = true) (hsz : (enc t).length ≤ 100000000) (n : Nat) (hn : nest t = n) (w : World) (g : Nat) (a2 : Option Addr) (c2 : Nat) (a3 : Option Addr) (c3 : Nat) (h : Held w g t a2 c2 a3 c3) :
    Calls Try.prog 28 #[.agg #[.int .i64 t.kind, .int .i64 t.num, .slice a2 t.bs.length c2, .slice a3 t.els.length c3]] w fun e w' => e = .returned (.int .i64 (n : Int)) ∧ Below w.heap.size w w' := by
  subst hn
  exact nesting_any (dep t + 1) t (by omega) hs hsz w a2 c2 a3 c3 h.2.2
theorem bytesH (t : T) (hsz : (enc t).length ≤ 100000000) (n : Nat) (hn : (enc t).length = n) (w : World) (g : Nat) (a2 : Option Addr) (c2 : Nat) (a3 : Option Addr) (c3 : Nat) (h : Held w g t a2 c2 a3 c3) :
    Calls Try.prog 36 #[.agg #[.int .i64 t.kind, .int .i64 t.num, .slice a2 t.bs.length c2, .slice a3 t.els.length c3]] w fun e w' => ∃ a c, e = .returned (.slice a n c) ∧ Below w.heap.size w w' ∧ PdS w (.slice a n c) (enc t) w' := by
  subst hn
  refine (rbytes_any (dep t + 1) t (by omega) hsz w a2 c2 a3 c3 h.2.2).mono ?_
  rintro e w' ⟨u, rfl, hp⟩
  obtain ⟨a, c, rfl⟩ := hp.len
  exact ⟨a, c, rfl, hp.2, hp⟩

set_option maxRecDepth 100000 in
set_option maxHeartbeats 1000000 in
theorem rcheck_any (t : T) (hsz : (enc t).length ≤ 100000000) (c : Int) (hc : chk t = c) (w : World) (g : Nat) (a2 : Option Addr) (c2 : Nat) (a3 : Option Addr) (c3 : Nat) (h : Held w g t a2 c2 a3 c3) :
    Calls Try.prog 17 #[.agg #[.int .i64 t.kind, .int .i64 t.num, .slice a2 t.bs.length c2, .slice a3 t.els.length c3]] w fun e w' => e = .returned (.int .i64 c) ∧ Below w.heap.size w w' := by
  have hA := heldBox h.2.2
  have HB := Lib.hid (ball (Below.refl _ _) (Obj.cells #[.int .i64 t.kind, .int .i64 t.num, .slice a2 t.bs.length c2, .slice a3 t.els.length c3] 25) : Below w.heap.size w _)
  have HA := Lib.hid hA
  have HZ := Lib.hid hsz; have HC := Lib.hid hc
  clear hA hsz h hc
  cases hs : shape t with
  | false =>
    have e0 : c = 10 := by rw [← HC.out, chk, hs]; rfl
    subst e0
    have Hs := Lib.hid hs; clear hs
    go_enter Try.func17, Try.ntmps17
    obtain ⟨b0, b1, b2, b3⟩ := HA.out.2.1
    go_wp2_with fail
    refine (shapeH t false Hs.out _ _ _ _ _ _ HA.out).mono ?_
    rintro e w1 ⟨rfl, hb⟩
    have HB1 := Lib.hid (nextB HB.out hb)
    clear hb b0 b1 b2 b3
    go_wp2_with fail
    go_ret
    exact ⟨rfl, HB1.out⟩
  | true =>
    obtain ⟨N, hN⟩ : ∃ N, nest t = N := ⟨_, rfl⟩
    obtain ⟨M, hM⟩ : ∃ M, (enc t).length = M := ⟨_, rfl⟩
    have e0 : c = if 16 < N ∨ 65536 < M then 2 else 0 := by rw [← HC.out, chk, hs, hN, hM]; rfl
    have hNM : N ≤ M := by rw [← hN, ← hM]; exact nest_le t
    have hM1 : M ≤ 100000000 := by rw [← hM]; exact HZ.out
    have Hs := Lib.hid hs; have HN := Lib.hid hN; have HM := Lib.hid hM; have HE := Lib.hid e0
    clear hs hN hM e0
    by_cases hn : 16 < N
    · have e1 : c = 2 := by rw [HE.out, if_pos (Or.inl hn)]
      subst e1
      go_enter Try.func17, Try.ntmps17
      obtain ⟨b0, b1, b2, b3⟩ := HA.out.2.1
      go_wp2_with fail
      refine (shapeH t true Hs.out _ _ _ _ _ _ HA.out).mono ?_
      rintro e w1 ⟨rfl, hb⟩
      have HB1 := Lib.hid (nextB HB.out hb)
      have HA1 := Lib.hid (HA.out.below hb)
      clear hb b0 b1 b2 b3
      obtain ⟨b0, b1, b2, b3⟩ := HA1.out.2.1
      go_wp2_with fail
      refine (nestingH t Hs.out HZ.out N HN.out _ _ _ _ _ _ HA1.out).mono ?_
      rintro e w2 ⟨rfl, hb⟩
      have HB2 := Lib.hid (nextB HB1.out hb)
      clear hb b0 b1 b2 b3
      go_wp2_with fail
      go_ret
      exact ⟨rfl, HB2.out⟩
    · by_cases hm : 65536 < M
      · have e1 : c = 2 := by rw [HE.out, if_pos (Or.inr hm)]
        subst e1
        go_enter Try.func17, Try.ntmps17
        obtain ⟨b0, b1, b2, b3⟩ := HA.out.2.1
        go_wp2_with fail
        refine (shapeH t true Hs.out _ _ _ _ _ _ HA.out).mono ?_
        rintro e w1 ⟨rfl, hb⟩
        have HB1 := Lib.hid (nextB HB.out hb)
        have HA1 := Lib.hid (HA.out.below hb)
        clear hb b0 b1 b2 b3
        obtain ⟨b0, b1, b2, b3⟩ := HA1.out.2.1
        go_wp2_with fail
        refine (nestingH t Hs.out HZ.out N HN.out _ _ _ _ _ _ HA1.out).mono ?_
        rintro e w2 ⟨rfl, hb⟩
        have HB2 := Lib.hid (nextB HB1.out hb)
        have HA2 := Lib.hid (HA1.out.below hb)
        clear hb b0 b1 b2 b3
        obtain ⟨b0, b1, b2, b3⟩ := HA2.out.2.1
        go_wp2_with fail
        refine (bytesH t HZ.out M HM.out _ _ _ _ _ _ HA2.out).mono ?_
        rintro e w3 ⟨oa, oc, rfl, hb, _⟩
        have HB3 := Lib.hid (nextB HB2.out hb)
        clear hb b0 b1 b2 b3
        go_wp2_with fail
        go_ret
        exact ⟨rfl, HB3.out⟩
      · have e1 : c = 0 := by rw [HE.out, if_neg (by omega)]
        subst e1
        go_enter Try.func17, Try.ntmps17
        obtain ⟨b0, b1, b2, b3⟩ := HA.out.2.1
        go_wp2_with fail
        refine (shapeH t true Hs.out _ _ _ _ _ _ HA.out).mono ?_
        rintro e w1 ⟨rfl, hb⟩
        have HB1 := Lib.hid (nextB HB.out hb)
        have HA1 := Lib.hid (HA.out.below hb)
        clear hb b0 b1 b2 b3
        obtain ⟨b0, b1, b2, b3⟩ := HA1.out.2.1
        go_wp2_with fail
        refine (nestingH t Hs.out HZ.out N HN.out _ _ _ _ _ _ HA1.out).mono ?_
        rintro e w2 ⟨rfl, hb⟩
        have HB2 := Lib.hid (nextB HB1.out hb)
        have HA2 := Lib.hid (HA1.out.below hb)
        clear hb b0 b1 b2 b3
        obtain ⟨b0, b1, b2, b3⟩ := HA2.out.2.1
        go_wp2_with fail
        refine (bytesH t HZ.out M HM.out _ _ _ _ _ _ HA2.out).mono ?_
        rintro e w3 ⟨oa, oc, rfl, hb, _⟩
        have HB3 := Lib.hid (nextB HB2.out hb)
        clear hb b0 b1 b2 b3
        go_wp2_with fail
        go_ret
        exact ⟨rfl, HB3.out⟩

set_option maxRecDepth 100000 in
set_option maxHeartbeats 1000000 in
theorem rencodeE (t : T) (hsz : (enc t).length ≤ 100000000) (c : Int) (hc : chk t = c) (h0 : c ≠ 0) (w : World) (g : Nat) (a2 : Option Addr) (c2 : Nat) (a3 : Option Addr) (c3 : Nat) (h : Held w g t a2 c2 a3 c3) :
    Calls Try.prog 15 #[.agg #[.int .i64 t.kind, .int .i64 t.num, .slice a2 t.bs.length c2, .slice a3 t.els.length c3]] w fun e w' => e = .returned (.tuple #[.slice none 0 0, .int .i64 c]) ∧ Below w.heap.size w w' := by
  have hA := heldBox h.2.2
  have HB := Lib.hid (ball (Below.refl _ _) (Obj.cells #[.int .i64 t.kind, .int .i64 t.num, .slice a2 t.bs.length c2, .slice a3 t.els.length c3] 25) : Below w.heap.size w _)
  have HA := Lib.hid hA
  have HZ := Lib.hid hsz; have HC := Lib.hid hc
  clear hA hsz h hc
  have g0 : (c != 0) = true := by simpa using h0
  clear h0
  go_enter Try.func15, Try.ntmps15
  obtain ⟨b0, b1, b2, b3⟩ := HA.out.2.1
  go_wp2_with fail
  refine (rcheck_any t HZ.out c HC.out _ _ _ _ _ _ HA.out).mono ?_
  rintro e w1 ⟨rfl, hb⟩
  have HB1 := Lib.hid (nextB HB.out hb)
  clear hb b0 b1 b2 b3
  go_wp2_with fail
  go_ret2
  exact ⟨rfl, HB1.out⟩

set_option maxRecDepth 100000 in
set_option maxHeartbeats 1000000 in
theorem rencodeX (t : T) (hsz : (enc t).length ≤ 100000000) (hc : chk t = 0) (w : World) (g : Nat) (a2 : Option Addr) (c2 : Nat) (a3 : Option Addr) (c3 : Nat) (h : Held w g t a2 c2 a3 c3) :
    Calls Try.prog 15 #[.agg #[.int .i64 t.kind, .int .i64 t.num, .slice a2 t.bs.length c2, .slice a3 t.els.length c3]] w fun e w' => ∃ a c, e = .returned (.tuple #[.slice a (enc t).length c, .int .i64 0]) ∧ Below w.heap.size w w' ∧ Bs (fun k => k < w'.heap.size) w' (.slice a (enc t).length c) (enc t) := by
  have hA := heldBox h.2.2
  have HB := Lib.hid (ball (Below.refl _ _) (Obj.cells #[.int .i64 t.kind, .int .i64 t.num, .slice a2 t.bs.length c2, .slice a3 t.els.length c3] 25) : Below w.heap.size w _)
  have hrg := enc_range t _ h.2.2
  have HA := Lib.hid hA
  have HZ := Lib.hid hsz; have HC := Lib.hid hc
  obtain ⟨M, hM⟩ : ∃ M, (enc t).length = M := ⟨_, rfl⟩
  rw [hM]
  have HM := Lib.hid hM
  have HF := Lib.hid hrg
  clear hA hsz h hc hM hrg
  go_enter Try.func15, Try.ntmps15
  obtain ⟨b0, b1, b2, b3⟩ := HA.out.2.1
  go_wp2_with fail
  refine (rcheck_any t HZ.out 0 HC.out _ _ _ _ _ _ HA.out).mono ?_
  rintro e w1 ⟨rfl, hb⟩
  have HB1 := Lib.hid (nextB HB.out hb)
  have HA1 := Lib.hid (HA.out.below hb)
  clear hb b0 b1 b2 b3
  obtain ⟨b0, b1, b2, b3⟩ := HA1.out.2.1
  go_wp2_with fail
  refine (bytesH t HZ.out M HM.out _ _ _ _ _ _ HA1.out).mono ?_
  rintro e w2 ⟨oa, oc, rfl, hb, hp⟩
  have HB2 := Lib.hid (nextB HB1.out hb)
  have HP := Lib.hid hp
  clear hb hp b0 b1 b2 b3
  go_wp2_with fail
  go_ret2
  exact ⟨oa, oc, rfl, HB2.out, HP.out.bs (by have := HZ.out; omega) HF.out⟩
end Go.Proofs.Ytjhjcigappkebaa
