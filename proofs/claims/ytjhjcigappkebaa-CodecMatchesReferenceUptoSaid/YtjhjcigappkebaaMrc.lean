/-
  The statement 'Rows.CodecMatchesReferenceUptoSaid': for all two values of bounded bulk Check, Encode and Compare return what the reference returns; the arguments read as they did.
-/
import Derived.Test.YtjhjcigappkebaaCk
import Derived.Test.YtjhjcigappkebaaRcm
import Derived.Test.YtjhjcigappkebaaMo
import Derived.Deep.RegionHeld
import Derived.Deep.CutRange
namespace Go.Proofs.Ytjhjcigappkebaa.codecMatchesReference
open Go.ChangeShapes Go.WideShapes Go.ChangeAt Go.RowKit
set_option linter.unusedVariables false
set_option linter.unusedSimpArgs false

theorem own : ownKnob Try.prog.godebug = none := by kernel_rfl
theorem laidOut : laidOutB Try.prog = true := by kernel_rfl

theorem rdBox {W : World} {t : T} {v : Value} (h : Rd (fun k => k < W.heap.size) W t v) (o : Obj) : Rd (fun k => k < (W.alloc o).heap.size) (W.alloc o) t v :=
  Rd.kept (fun k hk => Below.heap_alloc _ _ _ hk) (fun k hk => by simp; omega) _ _ h

theorem bsNil (w : World) : Bs (fun k => k < w.heap.size) w (.slice none 0 0) [] :=
  ⟨by simp, (by intro u hu; cases hu), none, 0, rfl, Nat.le_refl _, fun h => absurd h (by simp)⟩

/-- What lies still through the law's last line: both boxes and both encodings. -/
def SC (w0 : World) (t u : T) (A : Nat) (x2 : Option Addr) (y2 : Nat) (x3 : Option Addr) (y3 : Nat) (u2 : Option Addr) (z2 : Nat) (u3 : Option Addr) (z3 : Nat) (oa : Option Addr) (oc : Nat) (ob : Option Addr) (od : Nat) (n : Nat) (L : List Int) (wx : World) : Prop :=
  Held wx A t x2 y2 x3 y3 ∧ Held wx (A + 1) u u2 z2 u3 z3 ∧ Bs (fun k => k < wx.heap.size) wx (.slice oa n oc) L ∧ Bs (fun k => k < wx.heap.size) wx (.slice ob n od) L ∧ Below w0.heap.size w0 wx
theorem SC.call {w0 : World} {t u : T} {A : Nat} {x2 : Option Addr} {y2 : Nat} {x3 : Option Addr} {y3 : Nat} {u2 : Option Addr} {z2 : Nat} {u3 : Option Addr} {z3 : Nat} {oa : Option Addr} {oc : Nat} {ob : Option Addr} {od n : Nat} {L : List Int} {wx wy : World}
    (h : SC w0 t u A x2 y2 x3 y3 u2 z2 u3 z3 oa oc ob od n L wx) (hb : Below wx.heap.size wx wy) : SC w0 t u A x2 y2 x3 y3 u2 z2 u3 z3 oa oc ob od n L wy :=
  ⟨h.1.below hb, h.2.1.below hb, h.2.2.1.up hb, h.2.2.2.1.up hb, nextB h.2.2.2.2 hb⟩
theorem SC.drew {w0 : World} {t u : T} {A : Nat} {x2 : Option Addr} {y2 : Nat} {x3 : Option Addr} {y3 : Nat} {u2 : Option Addr} {z2 : Nat} {u3 : Option Addr} {z3 : Nat} {oa : Option Addr} {oc : Nat} {ob : Option Addr} {od n : Nat} {L : List Int} {wx : World}
    (h : SC w0 t u A x2 y2 x3 y3 u2 z2 u3 z3 oa oc ob od n L wx) : SC w0 t u A x2 y2 x3 y3 u2 z2 u3 z3 oa oc ob od n L wx.drew :=
  h.call (Below.drew (Below.refl wx.heap.size wx))

theorem encodeU (t : T) (w : World) (g : Nat) (a2 : Option Addr) (c2 : Nat) (a3 : Option Addr) (c3 : Nat) (h : Held w g t a2 c2 a3 c3) (hsz : (enc t).length ≤ 100000000) (c : Int) (hc : chk t = c) (L : List Int) (hL : L = if c = 0 then enc t else []) (n : Nat) (hn : n = L.length) :
    Calls Try.prog 14 #[.agg #[.int .i64 t.kind, .int .i64 t.num, .slice a2 t.bs.length c2, .slice a3 t.els.length c3]] w fun e w' => ∃ a k, e = .returned (.tuple #[.slice a n k, .int .i64 c]) ∧ Below w.heap.size w w' ∧ Bs (fun k => k < w'.heap.size) w' (.slice a n k) L := by
  subst hn hL
  by_cases h0 : c = 0
  · subst h0
    rw [if_pos rfl]
    refine (encodeX t w g a2 c2 a3 c3 h (by omega) hc).mono ?_
    rintro e w' ⟨a, k, rfl, hb, hB⟩
    exact ⟨a, k, rfl, hb, hB⟩
  · rw [if_neg h0]
    refine (encodeE t c w g a2 c2 a3 c3 h (by omega) hc h0).mono ?_
    rintro e w' ⟨rfl, hb⟩
    exact ⟨none, 0, rfl, hb, bsNil w'⟩
theorem rencodeU (t : T) (w : World) (g : Nat) (a2 : Option Addr) (c2 : Nat) (a3 : Option Addr) (c3 : Nat) (h : Held w g t a2 c2 a3 c3) (hsz : (enc t).length ≤ 100000000) (c : Int) (hc : chk t = c) (L : List Int) (hL : L = if c = 0 then enc t else []) (n : Nat) (hn : n = L.length) :
    Calls Try.prog 15 #[.agg #[.int .i64 t.kind, .int .i64 t.num, .slice a2 t.bs.length c2, .slice a3 t.els.length c3]] w fun e w' => ∃ a k, e = .returned (.tuple #[.slice a n k, .int .i64 c]) ∧ Below w.heap.size w w' ∧ Bs (fun k => k < w'.heap.size) w' (.slice a n k) L := by
  subst hn hL
  by_cases h0 : c = 0
  · subst h0
    rw [if_pos rfl]
    refine (rencodeX t hsz hc w g a2 c2 a3 c3 h).mono ?_
    rintro e w' ⟨a, k, rfl, hb, hB⟩
    exact ⟨a, k, rfl, hb, hB⟩
  · rw [if_neg h0]
    refine (rencodeE t hsz c hc h0 w g a2 c2 a3 c3 h).mono ?_
    rintro e w' ⟨rfl, hb⟩
    exact ⟨none, 0, rfl, hb, bsNil w'⟩

set_option maxRecDepth 100000 in
set_option maxHeartbeats 4000000 in
theorem walk (t u : T) (va vb : Value) (w : World) (ha : Rd (fun k => k < w.heap.size) w t va) (hb : Rd (fun k => k < w.heap.size) w u vb) (hsa : (enc t).length ≤ 9437184) :
    Calls Try.prog 3 #[va, vb] w fun e w' => e = .returned (.bool true) ∧ Below w.heap.size w w' := by
  obtain ⟨x2, y2, x3, y3, rfl⟩ := rdForm4 ha
  obtain ⟨u2, z2, u3, z3, rfl⟩ := rdForm4 hb
  have hA := heldBox ha
  have hB := heldBox (rdBox hb (.cells #[.int .i64 t.kind, .int .i64 t.num, .slice x2 t.bs.length y2, .slice x3 t.els.length y3] 25))
  have hA' := hA.below (ball (Below.refl _ _) (.cells #[.int .i64 u.kind, .int .i64 u.num, .slice u2 u.bs.length z2, .slice u3 u.els.length z3] 25))
  have HA := Lib.hid hA'; have HB := Lib.hid hB
  have hs : (enc t).length ≤ 100000000 := by omega
  obtain ⟨c, hc⟩ : ∃ c, chk t = c := ⟨_, rfl⟩
  obtain ⟨d, hd⟩ : ∃ d, cmpT t u = d := ⟨_, rfl⟩
  obtain ⟨L, hL⟩ : ∃ L, L = if c = 0 then enc t else [] := ⟨_, rfl⟩
  obtain ⟨n, hn⟩ : ∃ n, n = L.length := ⟨_, rfl⟩
  have HCa := Lib.hid (fun w' h => checkX t c w' (w.heap.size) x2 y2 x3 y3 h (by omega) hc)
  have HCb := Lib.hid (fun w' h => rcheck_any t hs c hc w' (w.heap.size) x2 y2 x3 y3 h)
  have HCc := Lib.hid (fun (w' : World) (v v' : Value) (h : Bs (fun k => k < w'.heap.size) w' v L) (h' : Bs (fun k => k < w'.heap.size) w' v' L) => sameBytesX _ _ L L true v v' w' (fun _ h => h) (fun _ h => h) h h' (decide_eq_true rfl))
  have HCd := Lib.hid (fun (w' : World) (h : Held w' w.heap.size t x2 y2 x3 y3) (h' : Held w' (w.heap.size + 1) u u2 z2 u3 z3) => compareX _ _ t u d w' _ _ (fun k hk => hk) (fun k hk => hk) h.2.2 h'.2.2 hd)
  have HCe := Lib.hid (fun (w' : World) (h : Held w' w.heap.size t x2 y2 x3 y3) (h' : Held w' (w.heap.size + 1) u u2 z2 u3 z3) => (rcompare_any (dep t + 1) t (by omega) u w' x2 y2 x3 y3 u2 z2 u3 z3 h.2.2 h'.2.2).mono (fun e w'' hh => (by rw [hd] at hh; exact hh : e = .returned (.int .i64 d) ∧ Below w'.heap.size w' w'')))
  have HEa := Lib.hid (fun w' h => encodeU t w' w.heap.size x2 y2 x3 y3 h hs c hc L hL n hn)
  have HEb := Lib.hid (fun w' h => rencodeU t w' w.heap.size x2 y2 x3 y3 h hs c hc L hL n hn)
  clear ha hb hA hA' hB hsa hs hc hd hL hn
  go_enter Try.func3, Try.ntmps3
  go_wp2_with fail
  refine (sane_true _).mono ?_
  rintro e w1 ⟨rfl, hb⟩
  have HA1 := Lib.hid (HA.out.below hb); have HB1 := Lib.hid (HB.out.below hb)
  have HW := Lib.hid (nextB (by repeat (first | exact Below.refl _ _ | apply ball)) hb : Below w.heap.size w w1)
  clear HA HB hb
  simp only [World.size_alloc] at HA1 HB1 ⊢
  generalize hSz : w.heap.size = A at *
  obtain ⟨a0, a1, a2, a3⟩ := HA1.out.2.1
  go_wp2_with fail
  clear a0 a1 a2 a3
  refine (HEa.out _ HA1.out).mono ?_
  rintro e w2 ⟨oa, oc, rfl, hb, hBa⟩
  have HA2 := Lib.hid (HA1.out.below hb); have HB2 := Lib.hid (HB1.out.below hb); have HW2 := Lib.hid (HW.out.trans (hb.mono (by rw [← hSz]; exact HW.out.size)))
  have HBa := Lib.hid hBa
  clear hb hBa HA1 HB1 HW
  obtain ⟨a0, a1, a2, a3⟩ := HA2.out.2.1
  go_wp2_with fail
  clear a0 a1 a2 a3
  refine (HEb.out _ HA2.out).mono ?_
  rintro e w3 ⟨ob, od, rfl, hb, hBb⟩
  have hSC : SC w3 t u A x2 y2 x3 y3 u2 z2 u3 z3 oa oc ob od n L w3 := ⟨HA2.out.below hb, HB2.out.below hb, HBa.out.up hb, hBb, Below.refl _ _⟩
  have HW3 := Lib.hid (HW2.out.trans (hb.mono (by rw [← hSz]; exact HW2.out.size)))
  clear hb hBb HA2 HB2 HW2 HBa
  go_wp2_with fail
  refine wp_region_held_drew (S := fun wx => SC w3 t u A x2 y2 x3 y3 u2 z2 u3 z3 oa oc ob od n L wx) (by kernel_rfl) hSC.drew (fun hHeld => ?_)
  change wpAnyH _ _ _ _ _ 25 #[false, false, false, false, false, false, false, false, false, false, false, false, false, false, false, false, false, false, false, false, false, false, false, false, false] _ _
  refine wpAnyH_take (i := 0) (oi := _) (v := .agg #[.int .i64 t.kind, .int .i64 t.num, .slice x2 t.bs.length y2, .slice x3 t.els.length y3]) rfl (by kernel_rfl) (by kernel_rfl) (by kernel_rfl) (fun _ _ _ h => h) (Or.inl ⟨by rfl, fun wx hSw => ?_⟩) (by assumption) ?_
  · skip
    obtain ⟨b0, b1, b2, b3⟩ := hSw.1.2.1
    go_simp
  (try simp only [Act.put, List.setIfInBounds_toArray, List.set_cons_zero, List.set_cons_succ, List.getElem_toArray, List.getElem_cons_zero, List.getElem_cons_succ])
  refine wpAnyH_take (i := 2) (oi := _) (v := .agg #[.int .i64 t.kind, .int .i64 t.num, .slice x2 t.bs.length y2, .slice x3 t.els.length y3]) rfl (by kernel_rfl) (by kernel_rfl) (by kernel_rfl) (fun _ _ _ h => h) (Or.inl ⟨by rfl, fun wx hSw => ?_⟩) (by assumption) ?_
  · skip
    obtain ⟨b0, b1, b2, b3⟩ := hSw.1.2.1
    go_simp
  (try simp only [Act.put, List.setIfInBounds_toArray, List.set_cons_zero, List.set_cons_succ, List.getElem_toArray, List.getElem_cons_zero, List.getElem_cons_succ])
  refine wpAnyH_ready (rs := [1]) (by kernel_rfl) (by simp) ?_
  refine AllReadyH.cons (o := _) rfl (fun K hK => ?_) AllReadyH.nil
  go_simp
  refine (HCa.out _ hHeld.1).mono ?_
  rintro e V1 ⟨rfl, hb⟩
  have h5 := SC.call hHeld hb
  clear hb hHeld
  go_wp2_with fail
  refine hK.out _ _ h5 (fun hHeld => ?_)
  clear hK K h5
  (try simp only [Act.put, List.setIfInBounds_toArray, List.set_cons_zero, List.set_cons_succ, List.getElem_toArray, List.getElem_cons_zero, List.getElem_cons_succ])
  refine wpAnyH_ready (rs := [3]) (by kernel_rfl) (by simp) ?_
  refine AllReadyH.cons (o := _) rfl (fun K hK => ?_) AllReadyH.nil
  go_simp
  refine (HCb.out _ hHeld.1).mono ?_
  rintro e V3 ⟨rfl, hb⟩
  have h5 := SC.call hHeld hb
  clear hb hHeld
  go_wp2_with fail
  refine hK.out _ _ h5 (fun hHeld => ?_)
  clear hK K h5
  (try simp only [Act.put, List.setIfInBounds_toArray, List.set_cons_zero, List.set_cons_succ, List.getElem_toArray, List.getElem_cons_zero, List.getElem_cons_succ])
  refine wpAnyH_take (i := 4) (oi := _) (v := .bool true) rfl (by kernel_rfl) (by kernel_rfl) (by kernel_rfl) (fun _ _ _ h => h) (Or.inl ⟨by rfl, fun wx hSw => ?_⟩) (by assumption) ?_
  · skip
    go_simp
  (try simp only [Act.put, List.setIfInBounds_toArray, List.set_cons_zero, List.set_cons_succ, List.getElem_toArray, List.getElem_cons_zero, List.getElem_cons_succ])
  refine wpAnyH_take (i := 5) (oi := _) (v := .bool true) rfl (by kernel_rfl) (by kernel_rfl) (by kernel_rfl) (fun _ _ _ h => h) (Or.inl ⟨by rfl, fun wx hSw => ?_⟩) (by assumption) ?_
  · skip
    go_simp
  (try simp only [Act.put, List.setIfInBounds_toArray, List.set_cons_zero, List.set_cons_succ, List.getElem_toArray, List.getElem_cons_zero, List.getElem_cons_succ])
  refine wpAnyH_take (i := 6) (oi := _) (v := .int .i64 c) rfl (by kernel_rfl) (by kernel_rfl) (by kernel_rfl) (fun _ _ _ h => h) (Or.inl ⟨by rfl, fun wx hSw => ?_⟩) (by assumption) ?_
  · skip
    go_simp
  (try simp only [Act.put, List.setIfInBounds_toArray, List.set_cons_zero, List.set_cons_succ, List.getElem_toArray, List.getElem_cons_zero, List.getElem_cons_succ])
  refine wpAnyH_take (i := 7) (oi := _) (v := .int .i64 c) rfl (by kernel_rfl) (by kernel_rfl) (by kernel_rfl) (fun _ _ _ h => h) (Or.inl ⟨by rfl, fun wx hSw => ?_⟩) (by assumption) ?_
  · skip
    go_simp
  (try simp only [Act.put, List.setIfInBounds_toArray, List.set_cons_zero, List.set_cons_succ, List.getElem_toArray, List.getElem_cons_zero, List.getElem_cons_succ])
  refine wpAnyH_take (i := 8) (oi := _) (v := .bool true) rfl (by kernel_rfl) (by kernel_rfl) (by kernel_rfl) (fun _ _ _ h => h) (Or.inl ⟨by rfl, fun wx hSw => ?_⟩) (by assumption) ?_
  · skip
    go_simp
  (try simp only [Act.put, List.setIfInBounds_toArray, List.set_cons_zero, List.set_cons_succ, List.getElem_toArray, List.getElem_cons_zero, List.getElem_cons_succ])
  refine wpAnyH_take (i := 9) (oi := _) (v := .bool true) rfl (by kernel_rfl) (by kernel_rfl) (by kernel_rfl) (fun _ _ _ h => h) (Or.inl ⟨by rfl, fun wx hSw => ?_⟩) (by assumption) ?_
  · skip
    go_simp
  (try simp only [Act.put, List.setIfInBounds_toArray, List.set_cons_zero, List.set_cons_succ, List.getElem_toArray, List.getElem_cons_zero, List.getElem_cons_succ])
  refine wpAnyH_take (i := 10) (oi := _) (v := .bool true) rfl (by kernel_rfl) (by kernel_rfl) (by kernel_rfl) (fun _ _ _ h => h) (Or.inl ⟨by rfl, fun wx hSw => ?_⟩) (by assumption) ?_
  · skip
    go_simp
  (try simp only [Act.put, List.setIfInBounds_toArray, List.set_cons_zero, List.set_cons_succ, List.getElem_toArray, List.getElem_cons_zero, List.getElem_cons_succ])
  refine wpAnyH_take (i := 11) (oi := _) (v := .slice oa n oc) rfl (by kernel_rfl) (by kernel_rfl) (by kernel_rfl) (fun _ _ _ h => h) (Or.inl ⟨by rfl, fun wx hSw => ?_⟩) (by assumption) ?_
  · skip
    go_simp
  (try simp only [Act.put, List.setIfInBounds_toArray, List.set_cons_zero, List.set_cons_succ, List.getElem_toArray, List.getElem_cons_zero, List.getElem_cons_succ])
  refine wpAnyH_take (i := 12) (oi := _) (v := .slice ob n od) rfl (by kernel_rfl) (by kernel_rfl) (by kernel_rfl) (fun _ _ _ h => h) (Or.inl ⟨by rfl, fun wx hSw => ?_⟩) (by assumption) ?_
  · skip
    go_simp
  (try simp only [Act.put, List.setIfInBounds_toArray, List.set_cons_zero, List.set_cons_succ, List.getElem_toArray, List.getElem_cons_zero, List.getElem_cons_succ])
  refine wpAnyH_ready (rs := [13]) (by kernel_rfl) (by simp) ?_
  refine AllReadyH.cons (o := _) rfl (fun K hK => ?_) AllReadyH.nil
  go_simp
  refine (HCc.out _ _ _ hHeld.2.2.1 hHeld.2.2.2.1).mono ?_
  rintro e V13 ⟨rfl, hb⟩
  have h5 := SC.call hHeld hb
  clear hb hHeld
  go_wp2_with fail
  refine hK.out _ _ h5 (fun hHeld => ?_)
  clear hK K h5
  (try simp only [Act.put, List.setIfInBounds_toArray, List.set_cons_zero, List.set_cons_succ, List.getElem_toArray, List.getElem_cons_zero, List.getElem_cons_succ])
  refine wpAnyH_take (i := 14) (oi := _) (v := .bool true) rfl (by kernel_rfl) (by kernel_rfl) (by kernel_rfl) (fun _ _ _ h => h) (Or.inl ⟨by rfl, fun wx hSw => ?_⟩) (by assumption) ?_
  · skip
    go_simp
  (try simp only [Act.put, List.setIfInBounds_toArray, List.set_cons_zero, List.set_cons_succ, List.getElem_toArray, List.getElem_cons_zero, List.getElem_cons_succ])
  refine wpAnyH_take (i := 15) (oi := _) (v := .bool true) rfl (by kernel_rfl) (by kernel_rfl) (by kernel_rfl) (fun _ _ _ h => h) (Or.inl ⟨by rfl, fun wx hSw => ?_⟩) (by assumption) ?_
  · skip
    go_simp
  (try simp only [Act.put, List.setIfInBounds_toArray, List.set_cons_zero, List.set_cons_succ, List.getElem_toArray, List.getElem_cons_zero, List.getElem_cons_succ])
  refine wpAnyH_take (i := 16) (oi := _) (v := .agg #[.int .i64 t.kind, .int .i64 t.num, .slice x2 t.bs.length y2, .slice x3 t.els.length y3]) rfl (by kernel_rfl) (by kernel_rfl) (by kernel_rfl) (fun _ _ _ h => h) (Or.inl ⟨by rfl, fun wx hSw => ?_⟩) (by assumption) ?_
  · skip
    obtain ⟨b0, b1, b2, b3⟩ := hSw.1.2.1
    go_simp
  (try simp only [Act.put, List.setIfInBounds_toArray, List.set_cons_zero, List.set_cons_succ, List.getElem_toArray, List.getElem_cons_zero, List.getElem_cons_succ])
  refine wpAnyH_take (i := 17) (oi := _) (v := .agg #[.int .i64 u.kind, .int .i64 u.num, .slice u2 u.bs.length z2, .slice u3 u.els.length z3]) rfl (by kernel_rfl) (by kernel_rfl) (by kernel_rfl) (fun _ _ _ h => h) (Or.inl ⟨by rfl, fun wx hSw => ?_⟩) (by assumption) ?_
  · skip
    obtain ⟨b0, b1, b2, b3⟩ := hSw.2.1.2.1
    go_simp
  (try simp only [Act.put, List.setIfInBounds_toArray, List.set_cons_zero, List.set_cons_succ, List.getElem_toArray, List.getElem_cons_zero, List.getElem_cons_succ])
  refine wpAnyH_take (i := 19) (oi := _) (v := .agg #[.int .i64 t.kind, .int .i64 t.num, .slice x2 t.bs.length y2, .slice x3 t.els.length y3]) rfl (by kernel_rfl) (by kernel_rfl) (by kernel_rfl) (fun _ _ _ h => h) (Or.inl ⟨by rfl, fun wx hSw => ?_⟩) (by assumption) ?_
  · skip
    obtain ⟨b0, b1, b2, b3⟩ := hSw.1.2.1
    go_simp
  (try simp only [Act.put, List.setIfInBounds_toArray, List.set_cons_zero, List.set_cons_succ, List.getElem_toArray, List.getElem_cons_zero, List.getElem_cons_succ])
  refine wpAnyH_take (i := 20) (oi := _) (v := .agg #[.int .i64 u.kind, .int .i64 u.num, .slice u2 u.bs.length z2, .slice u3 u.els.length z3]) rfl (by kernel_rfl) (by kernel_rfl) (by kernel_rfl) (fun _ _ _ h => h) (Or.inl ⟨by rfl, fun wx hSw => ?_⟩) (by assumption) ?_
  · skip
    obtain ⟨b0, b1, b2, b3⟩ := hSw.2.1.2.1
    go_simp
  (try simp only [Act.put, List.setIfInBounds_toArray, List.set_cons_zero, List.set_cons_succ, List.getElem_toArray, List.getElem_cons_zero, List.getElem_cons_succ])
  refine wpAnyH_ready (rs := [18]) (by kernel_rfl) (by simp) ?_
  refine AllReadyH.cons (o := _) rfl (fun K hK => ?_) AllReadyH.nil
  go_simp
  refine (HCd.out _ hHeld.1 hHeld.2.1).mono ?_
  rintro e V18 ⟨rfl, hb⟩
  have h5 := SC.call hHeld hb
  clear hb hHeld
  go_wp2_with fail
  refine hK.out _ _ h5 (fun hHeld => ?_)
  clear hK K h5
  (try simp only [Act.put, List.setIfInBounds_toArray, List.set_cons_zero, List.set_cons_succ, List.getElem_toArray, List.getElem_cons_zero, List.getElem_cons_succ])
  refine wpAnyH_ready (rs := [21]) (by kernel_rfl) (by simp) ?_
  refine AllReadyH.cons (o := _) rfl (fun K hK => ?_) AllReadyH.nil
  go_simp
  refine (HCe.out _ hHeld.1 hHeld.2.1).mono ?_
  rintro e V21 ⟨rfl, hb⟩
  have h5 := SC.call hHeld hb
  clear hb hHeld
  go_wp2_with fail
  refine hK.out _ _ h5 (fun hHeld => ?_)
  clear hK K h5
  (try simp only [Act.put, List.setIfInBounds_toArray, List.set_cons_zero, List.set_cons_succ, List.getElem_toArray, List.getElem_cons_zero, List.getElem_cons_succ])
  refine wpAnyH_take (i := 22) (oi := _) (v := .bool true) rfl (by kernel_rfl) (by kernel_rfl) (by kernel_rfl) (fun _ _ _ h => h) (Or.inl ⟨by rfl, fun wx hSw => ?_⟩) (by assumption) ?_
  · skip
    go_simp
  (try simp only [Act.put, List.setIfInBounds_toArray, List.set_cons_zero, List.set_cons_succ, List.getElem_toArray, List.getElem_cons_zero, List.getElem_cons_succ])
  refine wpAnyH_take (i := 23) (oi := _) (v := .bool true) rfl (by kernel_rfl) (by kernel_rfl) (by kernel_rfl) (fun _ _ _ h => h) (Or.inl ⟨by rfl, fun wx hSw => ?_⟩) (by assumption) ?_
  · skip
    go_simp
  (try simp only [Act.put, List.setIfInBounds_toArray, List.set_cons_zero, List.set_cons_succ, List.getElem_toArray, List.getElem_cons_zero, List.getElem_cons_succ])
  refine wpAnyH_take (i := 24) (oi := _) (v := .bool true) rfl (by kernel_rfl) (by kernel_rfl) (by kernel_rfl) (fun _ _ _ h => h) (Or.inl ⟨by rfl, fun wx hSw => ?_⟩) (by assumption) ?_
  · skip
    go_simp
  (try simp only [Act.put, List.setIfInBounds_toArray, List.set_cons_zero, List.set_cons_succ, List.getElem_toArray, List.getElem_cons_zero, List.getElem_cons_succ])
  refine wpAnyH_done (by kernel_rfl) ?_ _
  go_wp2_with fail
  go_ret
  exact ⟨rfl, by have hs := HW3.out.size; rw [hSz] at hs ⊢; exact HW3.out.trans (hHeld.2.2.2.2.mono hs)⟩

set_option maxHeartbeats 1000000 in
theorem contract (H : Type) (enc0 : TypeId × Value → H) (W : World) (base : Nat) (args : Array Value) (ds gs : List (DataW H)) (before : List MemPlace)
    (hval : ∀ (j : Nat) t v, Try.f3.params[j]? = some t → args[j]? = some v → Value.okWide Try.prog W .any base t v)
    (hW : DataW.Whole enc0 Try.prog Try.f3.params.toList Rows.codecMatchesReferenceSpec.vars false W args.toList ds gs before) (hk : Rows.uptoSmall H (ds ++ gs) = true) :
    Calls Try.prog 3 args W fun e W' => ∃ v, e = .returned v ∧ Rows.codecMatchesReferenceSpec.post enc0 Try.prog Try.f3 false true false false W args v W' := by
  have hW' := hW
  obtain ⟨p, q, hA0, hV, rfl, _, _⟩ := hW
  have hA : DataW.TrodAll enc0 Try.prog W 0 (fun _ => true) true Try.f3.params.toList args.toList ds p := hA0
  rw [Try.params3] at hA hval
  obtain ⟨v0, vs0, d0, ds0, p0, q0, hargs, rfl, rfl, h0, r0⟩ := trodAll_cons hA
  obtain ⟨v1, vs1, d1, ds1, p1, q1, rfl, rfl, rfl, h1, r1⟩ := trodAll_cons r0
  obtain ⟨rfl, rfl, rfl⟩ := trodAll_nil r1
  obtain rfl : args = #[v0, v1] := by cases args; simp_all
  obtain ⟨rfl, rfl⟩ := trodVars_none hV
  have hb := of_decide_eq_true hk
  simp only [List.append_nil, Rows.uptoBulkAll] at hb
  obtain ⟨t, ht, hl⟩ := openUV (hval 0 25 v0 rfl rfl) h0 (by omega)
  obtain ⟨u, hu, hm⟩ := openUV (hval 1 25 v1 rfl rfl) h1 (by omega)
  clear hA0
  refine (walk t u v0 v1 W ht hu hl).mono fun e W' ⟨he, hb⟩ => ?_
  subst he
  refine ⟨_, rfl, post_law laidOut ?_ rfl rfl hW' rfl rfl rfl hb⟩
  intro t ht
  rw [Try.params3] at ht
  simp at ht
  subst ht
  exact ⟨by kernel_rfl, of_decide_eq_true (by kernel_rfl)⟩

set_option maxRecDepth 100000 in
theorem lifted (os : Os) (started : os.Started) (H : Type) (enc0 : TypeId × Value → H) (F : Stop.Interp) :
    ReturnsInHanded {} Try.checked os 3 .any ((Rows.OpenSpec.upto Rows.codecMatchesReferenceSpec).pre6 enc0 Try.prog Try.f3 Rows.codecMatchesReferenceUptoRow.domain false) (((Rows.OpenSpec.upto Rows.codecMatchesReferenceSpec).at F).post enc0 Try.prog Try.f3 false true false false) := by
  refine returnsInHanded_of_cond (C := Try.checked) (s := Rows.OpenSpec.upto Rows.codecMatchesReferenceSpec) (k := Rows.uptoSmall) rfl own started (by kernel_rfl) Try.func3
    (OpenSpec.witness (enc := enc0) (C := Try.checked) (s := Rows.OpenSpec.upto Rows.codecMatchesReferenceSpec) (k := Rows.uptoSmall) rfl false ⟨#[], #[.agg #[.int .i64 0, .int .i64 0, .slice none 0 0, .slice none 0 0], .agg #[.int .i64 0, .int .i64 0, .slice none 0 0, .slice none 0 0]], []⟩ 8 (by kernel_rfl) (by kernel_rfl) (by kernel_rfl)
      (x := ([.agg [.lit (.int .i64 0), .lit (.int .i64 0), .nil, .nil], .agg [.lit (.int .i64 0), .lit (.int .i64 0), .nil, .nil]], [], [])) (by kernel_rfl) rfl (by kernel_rfl)) ?_
  intro W base args ds gs before hval hW _ hk _
  exact contract H enc0 W base args ds gs before hval hW hk

theorem over : Rows.codecMatchesReferenceUptoRow.holds Try.pinned (Rows.OpenSpec.upto Rows.codecMatchesReferenceSpec) :=
  OpenClaim.holds_of_cond 3 Try.f3 rfl rfl rfl rfl rfl rfl rfl ⟨rfl, rfl, rfl, rfl, rfl⟩ rfl rfl rfl rfl rfl (by kernel_rfl) Try.func3 (by kernel_rfl)
    (of_decide_eq_true (by kernel_rfl)) (by unfold Func.isWrapper; first | (rw [if_pos (by decide +kernel)]; kernel_rfl) | (rw [if_neg (by decide +kernel)]; exact ⟨rfl, rfl⟩))
    (fun os started H enc0 _ F => lifted os started H enc0 F)

/-- THE STATEMENT. -/
theorem proved : Rows.CodecMatchesReferenceUptoSaid :=
  over
#print axioms proved
end Go.Proofs.Ytjhjcigappkebaa.codecMatchesReference
