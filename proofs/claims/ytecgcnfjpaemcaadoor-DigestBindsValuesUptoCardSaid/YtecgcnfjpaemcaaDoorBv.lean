/-
  The statement 'Rows.DigestBindsValuesUptoCardSaid': for every tag and all two values of bounded bulk the law that digests bind values returns true; the arguments read as they did.
-/
import Derived.Test.YtecgcnfjpaemcaaDoorVa
import Derived.Test.YtecgcnfjpaemcaaDoorMo
import Derived.Test.YtecgcnfjpaemcaaDoorCc
namespace Go.Proofs.YtecgcnfjpaemcaaDoor.digestBindsValues
open Go.ChangeShapes Go.WideShapes Go.ChangeAt Go.RowKit
set_option linter.unusedVariables false

theorem rdBox {W : World} {t : T} {v : Value} (h : Rd (fun k => k < W.heap.size) W t v) (o : Obj) : Rd (fun k => k < (W.alloc o).heap.size) (W.alloc o) t v :=
  Rd.kept (fun k hk => Below.heap_alloc _ _ _ hk) (fun k hk => by simp; omega) _ _ h

theorem compareX (t u : T) (c : Int) (w : World) (v v' : Value) (h : Rd (fun k => k < w.heap.size) w t v) (h' : Rd (fun k => k < w.heap.size) w u v') (hc : cmpT t u = c) :
    Calls Tryd.prog 24 #[v, v'] w fun e w' => e = .returned (.int .i64 c) ∧ Below w.heap.size w w' := by
  subst hc
  exact compare_any _ _ (dep t + 1) t (Nat.lt_succ_self _) u w v v' (fun _ h => h) (fun _ h => h) h h'

set_option maxRecDepth 100000 in
set_option maxHeartbeats 4000000 in
theorem walk_badT (s : ByteArray) (t u : T) (va vb : Value) (w : World) (hk : KOk w) (hs : s.size ≤ maxLen) (ha : Rd (fun k => k < w.heap.size) w t va) (hb : Rd (fun k => k < w.heap.size) w u vb) (hsa : (enc t).length ≤ 9437184) (hsb : (enc u).length ≤ 9437184) (c : Int) (h2 : c = 2 ∨ c = 10) (hct : chk t = c) : Calls Tryd.prog 8 #[.string s, va, vb] w fun e w' => e = .returned (.bool true) ∧ Below w.heap.size w w' := by
  have hsl : s.size ≤ 9223372036854775807 := by unfold maxLen at hs; omega
  have hfa := Rd.fit t va ha
  have hfb := Rd.fit u vb hb
  obtain ⟨x2, y2, x3, y3, rfl⟩ := rdForm4 ha
  obtain ⟨u2, z2, u3, z3, rfl⟩ := rdForm4 hb
  have hA := heldBox ha
  have hB := heldBox (rdBox hb (.cells #[.int .i64 t.kind, .int .i64 t.num, .slice x2 t.bs.length y2, .slice x3 t.els.length y3] 38))
  have hA' := hA.below (ball (Below.refl _ _) (.cells #[.int .i64 u.kind, .int .i64 u.num, .slice u2 u.bs.length z2, .slice u3 u.els.length z3] 38))
  have hkB : KOk ((w.alloc (.cells #[.int .i64 t.kind, .int .i64 t.num, .slice x2 t.bs.length y2, .slice x3 t.els.length y3] 38)).alloc (.cells #[.int .i64 u.kind, .int .i64 u.num, .slice u2 u.bs.length z2, .slice u3 u.els.length z3] 38)) := (hk.alloc _).alloc _
  have HA := Lib.hid hA'; have HB := Lib.hid hB; have HK := Lib.hid hkB
  have HFa := Lib.hid hfa; have HFb := Lib.hid hfb; have Hsa := Lib.hid hsa; have Hsb := Lib.hid hsb
  clear ha hb hA hA' hB hfa hfb hsa hsb hk hkB hs
  have Hct := Lib.hid hct; clear hct
  rcases h2 with rfl | rfl
  all_goals
    go_enter Tryd.func8, Tryd.ntmps8
    go_wp2_with fail
    refine (sane_true _ HK.out).mono ?_
    rintro e w1 ⟨rfl, hb⟩
    have HA1 := Lib.hid (HA.out.below hb); have HB1 := Lib.hid (HB.out.below hb); have HK1 := Lib.hid (HK.out.below hb)
    have HW := Lib.hid (nextB (by repeat (first | exact Below.refl _ _ | apply ball)) hb : Below w.heap.size w w1)
    clear HA HB HK hb
    simp only [World.size_alloc] at HA1 HB1 ⊢
    generalize w.heap.size + 1 = B at *
    generalize hSz : w.heap.size = A at *
    have HX := Lib.hid (Below.refl w1.heap.size w1)
    have hx := HA1.out.below HX.out; obtain ⟨a0, a1, a2, a3⟩ := hx.2.1; clear hx
    go_wp2_with fail
    clear a0 a1 a2 a3
    refine (encodeE t _ _ A _ _ _ _ (HA1.out.below HX.out) (by have := Hsa.out; omega) Hct.out (by decide)).mono ?_
    rintro e w2 ⟨rfl, hb⟩
    have HX' := Lib.hid (nextB HX.out hb); clear HX; have HX := HX'; clear HX'; clear hb
    have hx := HB1.out.below HX.out; obtain ⟨b0, b1, b2, b3⟩ := hx.2.1; clear hx
    go_wp2_with fail
    clear b0 b1 b2 b3
    refine (encode_any _ u _ _ (fun _ h => h) (HB1.out.below HX.out).2.2 (by have := Hsb.out; omega)).mono ?_
    rintro e w3 ⟨vu, rfl, hb, _, _⟩
    have HX' := Lib.hid (nextB HX.out hb); clear HX; have HX := HX'; clear HX'; clear hb
    go_wp2_with fail
    go_ret
    exact ⟨rfl, by have hs := HW.out.size; rw [hSz] at hs ⊢; exact HW.out.trans (HX.out.mono hs)⟩

set_option maxRecDepth 100000 in
set_option maxHeartbeats 4000000 in
theorem walk_badU (s : ByteArray) (t u : T) (va vb : Value) (w : World) (hk : KOk w) (hs : s.size ≤ maxLen) (ha : Rd (fun k => k < w.heap.size) w t va) (hb : Rd (fun k => k < w.heap.size) w u vb) (hsa : (enc t).length ≤ 9437184) (hsb : (enc u).length ≤ 9437184) (c : Int) (h2 : c = 2 ∨ c = 10) (hct : chk t = 0) (hcu : chk u = c) : Calls Tryd.prog 8 #[.string s, va, vb] w fun e w' => e = .returned (.bool true) ∧ Below w.heap.size w w' := by
  have hsl : s.size ≤ 9223372036854775807 := by unfold maxLen at hs; omega
  have hfa := Rd.fit t va ha
  have hfb := Rd.fit u vb hb
  obtain ⟨x2, y2, x3, y3, rfl⟩ := rdForm4 ha
  obtain ⟨u2, z2, u3, z3, rfl⟩ := rdForm4 hb
  have hA := heldBox ha
  have hB := heldBox (rdBox hb (.cells #[.int .i64 t.kind, .int .i64 t.num, .slice x2 t.bs.length y2, .slice x3 t.els.length y3] 38))
  have hA' := hA.below (ball (Below.refl _ _) (.cells #[.int .i64 u.kind, .int .i64 u.num, .slice u2 u.bs.length z2, .slice u3 u.els.length z3] 38))
  have hkB : KOk ((w.alloc (.cells #[.int .i64 t.kind, .int .i64 t.num, .slice x2 t.bs.length y2, .slice x3 t.els.length y3] 38)).alloc (.cells #[.int .i64 u.kind, .int .i64 u.num, .slice u2 u.bs.length z2, .slice u3 u.els.length z3] 38)) := (hk.alloc _).alloc _
  have HA := Lib.hid hA'; have HB := Lib.hid hB; have HK := Lib.hid hkB
  have HFa := Lib.hid hfa; have HFb := Lib.hid hfb; have Hsa := Lib.hid hsa; have Hsb := Lib.hid hsb
  clear ha hb hA hA' hB hfa hfb hsa hsb hk hkB hs
  have Hct := Lib.hid hct; clear hct
  have Hcu := Lib.hid hcu; clear hcu
  rcases h2 with rfl | rfl
  all_goals
    go_enter Tryd.func8, Tryd.ntmps8
    go_wp2_with fail
    refine (sane_true _ HK.out).mono ?_
    rintro e w1 ⟨rfl, hb⟩
    have HA1 := Lib.hid (HA.out.below hb); have HB1 := Lib.hid (HB.out.below hb); have HK1 := Lib.hid (HK.out.below hb)
    have HW := Lib.hid (nextB (by repeat (first | exact Below.refl _ _ | apply ball)) hb : Below w.heap.size w w1)
    clear HA HB HK hb
    simp only [World.size_alloc] at HA1 HB1 ⊢
    generalize w.heap.size + 1 = B at *
    generalize hSz : w.heap.size = A at *
    have HX := Lib.hid (Below.refl w1.heap.size w1)
    have hx := HA1.out.below HX.out; obtain ⟨a0, a1, a2, a3⟩ := hx.2.1; clear hx
    go_wp2_with fail
    clear a0 a1 a2 a3
    refine (encodeX t _ A _ _ _ _ (HA1.out.below HX.out) (by have := Hsa.out; omega) Hct.out).mono ?_
    rintro e w2 ⟨oa, oc, rfl, hb, hE⟩
    have HX' := Lib.hid (nextB HX.out hb); clear HX; have HX := HX'; clear HX'; clear hb hE
    have hx := HB1.out.below HX.out; obtain ⟨b0, b1, b2, b3⟩ := hx.2.1; clear hx
    go_wp2_with fail
    clear b0 b1 b2 b3
    refine (encodeE u _ _ B _ _ _ _ (HB1.out.below HX.out) (by have := Hsb.out; omega) Hcu.out (by decide)).mono ?_
    rintro e w3 ⟨rfl, hb⟩
    have HX' := Lib.hid (nextB HX.out hb); clear HX; have HX := HX'; clear HX'; clear hb
    go_wp2_with fail
    go_ret
    exact ⟨rfl, by have hs := HW.out.size; rw [hSz] at hs ⊢; exact HW.out.trans (HX.out.mono hs)⟩

set_option maxRecDepth 100000 in
set_option maxHeartbeats 4000000 in
theorem walk_ok (s : ByteArray) (t u : T) (va vb : Value) (w : World) (hk : KOk w) (hs : s.size ≤ maxLen) (ha : Rd (fun k => k < w.heap.size) w t va) (hb : Rd (fun k => k < w.heap.size) w u vb) (hsa : (enc t).length ≤ 9437184) (hsb : (enc u).length ≤ 9437184) (hct : chk t = 0) (hcu : chk u = 0) : Calls Tryd.prog 8 #[.string s, va, vb] w fun e w' => e = .returned (.bool true) ∧ Below w.heap.size w w' := by
  have hsl : s.size ≤ 9223372036854775807 := by unfold maxLen at hs; omega
  have hfa := Rd.fit t va ha
  have hfb := Rd.fit u vb hb
  have hkey := cmpT_enc t u hct hcu hfa hfb
  obtain ⟨x2, y2, x3, y3, rfl⟩ := rdForm4 ha
  obtain ⟨u2, z2, u3, z3, rfl⟩ := rdForm4 hb
  have hA := heldBox ha
  have hB := heldBox (rdBox hb (.cells #[.int .i64 t.kind, .int .i64 t.num, .slice x2 t.bs.length y2, .slice x3 t.els.length y3] 38))
  have hA' := hA.below (ball (Below.refl _ _) (.cells #[.int .i64 u.kind, .int .i64 u.num, .slice u2 u.bs.length z2, .slice u3 u.els.length z3] 38))
  have hkB : KOk ((w.alloc (.cells #[.int .i64 t.kind, .int .i64 t.num, .slice x2 t.bs.length y2, .slice x3 t.els.length y3] 38)).alloc (.cells #[.int .i64 u.kind, .int .i64 u.num, .slice u2 u.bs.length z2, .slice u3 u.els.length z3] 38)) := (hk.alloc _).alloc _
  have HA := Lib.hid hA'; have HB := Lib.hid hB; have HK := Lib.hid hkB
  have HFa := Lib.hid hfa; have HFb := Lib.hid hfb; have Hsa := Lib.hid hsa; have Hsb := Lib.hid hsb
  clear ha hb hA hA' hB hfa hfb hsa hsb hk hkB hs
  have Hct := Lib.hid hct; have Hcu := Lib.hid hcu; have Hkey := Lib.hid hkey
  clear hct hcu hkey
  obtain ⟨D1, hD1⟩ : ∃ D1, D1 = sha (hmsg (strB s) (enc t)) := ⟨_, rfl⟩
  obtain ⟨D2, hD2⟩ : ∃ D2, D2 = sha (hmsg (strB s) (enc u)) := ⟨_, rfl⟩
  have hl1 : D1.length = 32 := by rw [hD1]; exact sha_length _
  have hl2 : D2.length = 32 := by rw [hD2]; exact sha_length _
  have HD1 := Lib.hid hD1; have HD2 := Lib.hid hD2
  clear hD1 hD2
  go_enter Tryd.func8, Tryd.ntmps8
  go_wp2_with fail
  refine (sane_true _ HK.out).mono ?_
  rintro e w1 ⟨rfl, hb⟩
  have HA1 := Lib.hid (HA.out.below hb); have HB1 := Lib.hid (HB.out.below hb); have HK1 := Lib.hid (HK.out.below hb)
  have HW := Lib.hid (nextB (by repeat (first | exact Below.refl _ _ | apply ball)) hb : Below w.heap.size w w1)
  clear HA HB HK hb
  simp only [World.size_alloc] at HA1 HB1 ⊢
  generalize w.heap.size + 1 = B at *
  generalize hSz : w.heap.size = A at *
  have HX := Lib.hid (Below.refl w1.heap.size w1)
  have hx := HA1.out.below HX.out; obtain ⟨a0, a1, a2, a3⟩ := hx.2.1; clear hx
  go_wp2_with fail
  clear a0 a1 a2 a3
  refine (encodeX t _ A _ _ _ _ (HA1.out.below HX.out) (by have := Hsa.out; omega) Hct.out).mono ?_
  rintro e w2 ⟨oa, oc, rfl, hb, hE⟩
  have HEt := Lib.hid hE; clear hE
  have HX' := Lib.hid (nextB HX.out hb); clear HX; have HX := HX'; clear HX'; clear hb
  have hx := HB1.out.below HX.out; obtain ⟨b0, b1, b2, b3⟩ := hx.2.1; clear hx
  go_wp2_with fail
  clear b0 b1 b2 b3
  refine (encodeX u _ B _ _ _ _ (HB1.out.below HX.out) (by have := Hsb.out; omega) Hcu.out).mono ?_
  rintro e w3 ⟨pa, pc, rfl, hb, hE⟩
  have HEu := Lib.hid hE; clear hE
  have HEt3 := Lib.hid (HEt.out.up2 (fun k hk => hb.block k hk) hb.size); clear HEt
  have HX' := Lib.hid (nextB HX.out hb); clear HX; have HX := HX'; clear HX'; clear hb
  obtain ⟨n, hn⟩ : ∃ n, n = (enc t).length := ⟨_, rfl⟩
  obtain ⟨m, hm⟩ : ∃ m, m = (enc u).length := ⟨_, rfl⟩
  have Hn := Lib.hid hn; have Hm := Lib.hid hm
  rw [← hn, ← hm]
  clear hn hm
  by_cases g1 : s.size ≤ 400
  case neg =>
    have g7 : (400 : Int) < (s.size : Int) := by omega
    go_wp2
    go_ret
    exact ⟨rfl, by have hs := HW.out.size; rw [hSz] at hs ⊢; exact HW.out.trans (HX.out.mono hs)⟩
  by_cases g2 : n ≤ 600
  case neg =>
    have g7 : (600 : Int) < (n : Int) := by omega
    go_wp2
    go_ret
    exact ⟨rfl, by have hs := HW.out.size; rw [hSz] at hs ⊢; exact HW.out.trans (HX.out.mono hs)⟩
  by_cases g3 : m ≤ 600
  case neg =>
    have g7 : (600 : Int) < (m : Int) := by omega
    go_wp2
    go_ret
    exact ⟨rfl, by have hs := HW.out.size; rw [hSz] at hs ⊢; exact HW.out.trans (HX.out.mono hs)⟩
  have hx := HA1.out.below HX.out; obtain ⟨a0, a1, a2, a3⟩ := hx.2.1; clear hx
  go_wp2_with fail
  clear a0 a1 a2 a3
  have hv := value_ok (fun k => k < w3.heap.size) s t _ w3 (HK1.out.below HX.out) (fun _ h => h) (HA1.out.below HX.out).2.2 (by have := Hsa.out; omega) (by omega) Hct.out
  unfold valD at hv
  rw [← HD1.out] at hv
  refine hv.mono ?_
  rintro e w4 ⟨rfl, hb⟩
  clear hv
  have HEt4 := Lib.hid (HEt3.out.up2 (fun k hk => hb.block k hk) hb.size)
  have HEu4 := Lib.hid (HEu.out.up2 (fun k hk => hb.block k hk) hb.size); clear HEt3 HEu
  have HX' := Lib.hid (nextB HX.out hb); clear HX; have HX := HX'; clear HX'; clear hb
  go_wp2_with (refine st25 rfl (.tmp 11) (.tmp 53) rfl w4.heap.size D1 zer rfl rfl (RowB.new' _ rfl rfl) rfl hl1 ?_; intro wC rC oC sC bC; have hb : Below w4.heap.size w4 wC := bC _ _ (Nat.le_refl _) (ball (Below.refl _ _) _); have RC := Lib.hid rC; have LC := Lib.hid (show w4.heap.size < wC.heap.size by rw [sC]; simp); have HEtC := Lib.hid (HEt4.out.up2 (fun k hk => hb.block k hk) hb.size); have HEuC := Lib.hid (HEu4.out.up2 (fun k hk => hb.block k hk) hb.size); have HXC := Lib.hid (nextB HX.out hb); obtain ⟨b0, b1, b2, b3⟩ := (HB1.out.below HXC.out).2.1; clear rC oC sC bC hb HX HEt4 HEu4)
  clear b0 b1 b2 b3
  obtain ⟨p1, hp1⟩ : ∃ p1, p1 = w4.heap.size := ⟨_, rfl⟩
  rw [← hp1] at RC LC ⊢
  clear hp1
  have hv := value_ok (fun k => k < wC.heap.size) s u _ wC (HK1.out.below HXC.out) (fun _ h => h) (HB1.out.below HXC.out).2.2 (by have := Hsb.out; omega) (by omega) Hcu.out
  unfold valD at hv
  rw [← HD2.out] at hv
  refine hv.mono ?_
  rintro e w5 ⟨rfl, hb⟩
  clear hv
  have R5 := Lib.hid (RC.out.kept (hb.block _ LC.out))
  have L5 := Lib.hid (Nat.lt_of_lt_of_le LC.out hb.size)
  have HEt5 := Lib.hid (HEtC.out.up2 (fun k hk => hb.block k hk) hb.size)
  have HEu5 := Lib.hid (HEuC.out.up2 (fun k hk => hb.block k hk) hb.size)
  have HX := Lib.hid (nextB HXC.out hb)
  clear hb RC LC HEtC HEuC HXC
  go_wp2_with (refine st25 rfl (.tmp 13) (.tmp 59) rfl w5.heap.size D2 zer rfl rfl (RowB.new' _ rfl rfl) rfl hl2 ?_; intro wD rD oD sD bD; have hb : Below w5.heap.size w5 wD := bD _ _ (Nat.le_refl _) (ball (Below.refl _ _) _); have RD2 := Lib.hid rD; have LD2 := Lib.hid (show w5.heap.size < wD.heap.size by rw [sD]; simp); have RD1 := Lib.hid (R5.out.kept (hb.block _ L5.out)); have LD1 := Lib.hid (Nat.lt_of_lt_of_le L5.out hb.size); have HEtD := Lib.hid (HEt5.out.up2 (fun k hk => hb.block k hk) hb.size); have HEuD := Lib.hid (HEu5.out.up2 (fun k hk => hb.block k hk) hb.size); have HXD := Lib.hid (nextB HX.out hb); obtain ⟨a0, a1, a2, a3⟩ := (HA1.out.below HXD.out).2.1; obtain ⟨b0, b1, b2, b3⟩ := (HB1.out.below HXD.out).2.1; clear rD oD sD bD hb HX HEt5 HEu5 R5 L5)
  clear a0 a1 a2 a3
  clear b0 b1 b2 b3
  obtain ⟨p2, hp2⟩ : ∃ p2, p2 = w5.heap.size := ⟨_, rfl⟩
  rw [← hp2] at RD2 LD2 ⊢
  clear hp2
  obtain ⟨c, hc⟩ : ∃ c, cmpT t u = c := ⟨_, rfl⟩
  refine (compareX t u c wD _ _ (HA1.out.below HXD.out).2.2 (HB1.out.below HXD.out).2.2 hc).mono ?_
  rintro e w6 ⟨rfl, hb⟩
  have R1 := Lib.hid (RD1.out.kept (hb.block _ LD1.out))
  have R2 := Lib.hid (RD2.out.kept (hb.block _ LD2.out))
  have HEt := Lib.hid (HEtD.out.up2 (fun k hk => hb.block k hk) hb.size)
  have HEu := Lib.hid (HEuD.out.up2 (fun k hk => hb.block k hk) hb.size)
  have HX := Lib.hid (nextB HXD.out hb)
  have HK6 := Lib.hid (HK1.out.below HX.out)
  clear hb RD1 LD1 RD2 LD2 HEtD HEuD HXD HA1 HB1
  by_cases hz : c = 0
  · have he : enc t = enc u := Hkey.out.1 (by rw [hc, hz])
    have hD : D1 = D2 := by rw [HD1.out, HD2.out, he]
    subst hD hz
    have q1 := eqSame D1 hl1
    clear he hc
    go_wp2_with (first | (refine wpList_load_dig (by rfl) (.tmp 11) rfl p1 rfl D1 R1.out hl1 ?_) | (refine wpList_load_dig (by rfl) (.tmp 13) rfl p2 rfl D1 R2.out hl1 ?_))
    go_ret
    exact ⟨rfl, by have hs := HW.out.size; rw [hSz] at hs ⊢; exact HW.out.trans (HX.out.mono hs)⟩
  · have tz : (c == 0) = false := by rw [beq_eq_false_iff_ne]; exact hz
    have hne : enc t ≠ enc u := fun h => hz (by rw [← hc]; exact Hkey.out.2 h)
    have Hne := Lib.hid hne
    clear hne hc hz
    by_cases hD : D1 = D2
    · subst hD
      have q1 := eqSame D1 hl1
      go_wp2_with (first | (refine wpList_load_dig (by rfl) (.tmp 11) rfl p1 rfl D1 R1.out hl1 ?_) | (refine wpList_load_dig (by rfl) (.tmp 13) rfl p2 rfl D1 R2.out hl1 ?_))
      have hEt := HEt.out
      rw [← Hn.out] at hEt
      have hEu := HEu.out
      rw [← Hm.out] at hEu
      refine (hashed_any s (enc t) _ w6 hEt (by omega) (by rw [← Hn.out]; omega)).mono ?_
      rintro e w7 ⟨y1, rfl, hb, hy⟩
      have HY := Lib.hid hy
      have HEt7 := Lib.hid (hEt.up2 (fun k hk => hb.block k hk) hb.size)
      have HEu7 := Lib.hid (hEu.up2 (fun k hk => hb.block k hk) hb.size)
      have HX' := Lib.hid (nextB HX.out hb); clear HX; have HX := HX'; clear HX'; clear hb hy hEt hEu HEt HEu
      go_wp2_with fail
      refine (sum_any _ _ w7 (HK1.out.below HX.out) HY.out).mono ?_
      rintro e w8 ⟨rfl, hb⟩
      rw [← HD1.out]
      have HEt8 := Lib.hid (HEt7.out.up2 (fun k hk => hb.block k hk) hb.size)
      have HEu8 := Lib.hid (HEu7.out.up2 (fun k hk => hb.block k hk) hb.size)
      have HX' := Lib.hid (nextB HX.out hb); clear HX; have HX := HX'; clear HX'; clear hb HEt7 HEu7 HY
      go_wp2_with fail
      refine (hashed_any s (enc u) _ w8 HEu8.out (by omega) (by rw [← Hm.out]; omega)).mono ?_
      rintro e w9 ⟨y2', rfl, hb, hy⟩
      have HY := Lib.hid hy
      have HEt9 := Lib.hid (HEt8.out.up2 (fun k hk => hb.block k hk) hb.size)
      have HEu9 := Lib.hid (HEu8.out.up2 (fun k hk => hb.block k hk) hb.size)
      have HX' := Lib.hid (nextB HX.out hb); clear HX; have HX := HX'; clear HX'; clear hb hy HEt8 HEu8
      go_wp2_with fail
      refine (sum_any _ _ w9 (HK1.out.below HX.out) HY.out).mono ?_
      rintro e w10 ⟨rfl, hb⟩
      rw [← HD2.out]
      have HEt10 := Lib.hid (HEt9.out.up2 (fun k hk => hb.block k hk) hb.size)
      have HEu10 := Lib.hid (HEu9.out.up2 (fun k hk => hb.block k hk) hb.size)
      have HX' := Lib.hid (nextB HX.out hb); clear HX; have HX := HX'; clear HX'; clear hb HEt9 HEu9 HY
      go_wp2_with fail
      have hs9 := Go.Proofs.YtecgcnfjpaemcaaDoor.same_any _ _ (enc t) (enc u) _ _ w10 HEt10.out HEu10.out
      rw [decide_eq_false Hne.out] at hs9
      refine hs9.mono ?_
      rintro e _ ⟨rfl, rfl⟩
      clear hs9
      go_wp2_with fail
      go_ret
      exact ⟨rfl, by have hs := HW.out.size; rw [hSz] at hs ⊢; exact HW.out.trans (HX.out.mono hs)⟩
    · have q0 : ∀ w, (Op.equalIn 10000 25 (.agg (byteVals D1).toArray) (.agg (byteVals D2).toArray)).run Tryd.prog w = .ok false w := by
        intro w; rw [eqDig D1 D2 hl1 hl2 w, decide_eq_false hD]
      clear hD
      go_wp2_with (first | (refine wpList_load_dig (by rfl) (.tmp 11) rfl p1 rfl D1 R1.out hl1 ?_) | (refine wpList_load_dig (by rfl) (.tmp 13) rfl p2 rfl D2 R2.out hl2 ?_))
      go_ret
      exact ⟨rfl, by have hs := HW.out.size; rw [hSz] at hs ⊢; exact HW.out.trans (HX.out.mono hs)⟩
theorem walk (s : ByteArray) (t u : T) (va vb : Value) (w : World) (hk : KOk w) (hs : s.size ≤ maxLen) (ha : Rd (fun k => k < w.heap.size) w t va) (hb : Rd (fun k => k < w.heap.size) w u vb) (hsa : (enc t).length ≤ 9437184) (hsb : (enc u).length ≤ 9437184) : Calls Tryd.prog 8 #[.string s, va, vb] w fun e w' => e = .returned (.bool true) ∧ Below w.heap.size w w' := by
  rcases chk_cases t with h | h | h
  · rcases chk_cases u with h' | h' | h'
    · exact walk_ok s t u va vb w hk hs ha hb hsa hsb h h'
    · exact walk_badU s t u va vb w hk hs ha hb hsa hsb 2 (Or.inl rfl) h h'
    · exact walk_badU s t u va vb w hk hs ha hb hsa hsb 10 (Or.inr rfl) h h'
  · exact walk_badT s t u va vb w hk hs ha hb hsa hsb 2 (Or.inl rfl) h
  · exact walk_badT s t u va vb w hk hs ha hb hsa hsb 10 (Or.inr rfl) h

/-- The door's own heap meets the condition. -/
theorem door_met (os : Os) (args : Array Value) : laidMetH Tryd.prog Rows.digestBindsValuesUptoRow.laid ((World.doorLaid Tryd.prog 400 os).forCall (fun _ _ => 0) ⟨#[], args, []⟩).memory :=
  laidMetH_of_parts3 (fuel := 8) (laidMet_of_run' 8 (by kernel_rfl) (by kernel_rfl)) (by kernel_rfl) (by kernel_rfl)

set_option maxRecDepth 100000 in
theorem lifted (os : Os) (started : os.Started) (H : Type) (enc : TypeId × Value → H) (F : Stop.Interp) :
    ReturnsInHanded {} Tryd.checked os 8 .any (fun w args => ((Rows.OpenSpec.upto Rows.digestBindsValuesSpec).pre enc Tryd.prog Tryd.f8 [] false w args ∧ laidMetH Tryd.prog Rows.digestBindsValuesUptoRow.laid w) ∧ sizedMet enc Tryd.prog Tryd.f8 (Rows.OpenSpec.upto Rows.digestBindsValuesSpec) false w args)
      (((Rows.OpenSpec.upto Rows.digestBindsValuesSpec).at F).post enc Tryd.prog Tryd.f8 false true false false) := by
  refine returnsUpto (C := Tryd.checked) (s := Rows.OpenSpec.upto Rows.digestBindsValuesSpec) (k := Rows.uptoSmall) rfl own started (by kernel_rfl) Tryd.func8
    (World.doorLaid Tryd.prog 400 os) #[.string ⟨#[]⟩, .agg #[.int .i64 0, .int .i64 0, .slice none 0 0, .slice none 0 0], .agg #[.int .i64 0, .int .i64 0, .slice none 0 0, .slice none 0 0]] 8 rfl (World.shaped_of_RefB (by kernel_rfl) (by kernel_rfl)) (by kernel_rfl)
    (x := ([.lit (.string []), .agg [.lit (.int .i64 0), .lit (.int .i64 0), .nil, .nil], .agg [.lit (.int .i64 0), .lit (.int .i64 0), .nil, .nil]], [], [])) (by kernel_rfl) rfl (by kernel_rfl) (door_met os _) ?_
  intro W base args ds gs before hval0 hW hk hL
  have hval : ∀ (j : Nat) t v, Tryd.f8.params[j]? = some t → args[j]? = some v → Value.okWide Tryd.prog W .any base t v := hval0
  clear hval0
  have hW' := hW
  obtain ⟨p, q, hA0, hV, rfl, hfz, hnd⟩ := hW
  have hA : DataW.TrodAll enc Tryd.prog W 0 (fun _ => true) true Tryd.f8.params.toList args.toList ds p := hA0
  rw [Tryd.params8] at hA hval
  obtain ⟨v0, vs0, d0, ds0, p0, q0, hargs, rfl, rfl, h0, r0⟩ := trodAll_cons hA
  obtain ⟨v1, vs1, d1, ds1, p1, q1, rfl, rfl, rfl, h1, r1⟩ := trodAll_cons r0
  obtain ⟨v2, vs2, d2, ds2, p2, q2, rfl, rfl, rfl, h2, r2⟩ := trodAll_cons r1
  obtain ⟨rfl, rfl, rfl⟩ := trodAll_nil r2
  obtain rfl : args = #[v0, v1, v2] := by cases args; simp_all
  obtain ⟨rfl, rfl⟩ := trodVars_none hV
  have hb := of_decide_eq_true hk
  simp only [List.append_nil, Rows.uptoBulkAll] at hb
  obtain ⟨s0, rfl, _, _, hs0⟩ := Go.ChangeMaps.open_string Tryd.underlying9 (hval 0 9 v0 rfl rfl) h0
  obtain ⟨t, ht, hl⟩ := openUV (hval 1 38 v1 rfl rfl) h1 (by omega)
  obtain ⟨u, hu, hlu⟩ := openUV (hval 2 38 v2 rfl rfl) h2 (by omega)
  clear hA0
  refine (walk s0 t u v1 v2 W (kok_of_laid hL) hs0 ht hu hl hlu).mono fun e W' ⟨he, hbw⟩ => ?_
  subst he
  refine ⟨_, rfl, post_law laidOut ?_ rfl rfl hW' rfl rfl rfl hbw⟩
  intro t ht
  rw [Tryd.params8] at ht
  have hm : t ∈ [9, 38] := by
    simp only [Array.mem_def, List.mem_cons, List.not_mem_nil, or_false] at ht ⊢
    rcases ht with h | h | h <;> first | exact Or.inl h | exact Or.inr h
  have hall : ([9, 38].all fun u => Tryd.prog.readableRec u && decide (u < Tryd.prog.types.size)) = true := by kernel_rfl
  have := List.all_eq_true.1 hall t hm
  simpa using this

theorem over : Rows.digestBindsValuesUptoRow.holds Tryd.pinned (Rows.OpenSpec.upto Rows.digestBindsValuesSpec) :=
  OpenClaim.holds_of_cond 8 Tryd.f8 rfl rfl rfl rfl rfl rfl rfl ⟨rfl, rfl, rfl, rfl, rfl⟩ rfl rfl rfl rfl rfl (by kernel_rfl) Tryd.func8 (by kernel_rfl)
    (of_decide_eq_true (by kernel_rfl)) (by unfold Func.isWrapper; first | (rw [if_pos (by decide +kernel)]; kernel_rfl) | (rw [if_neg (by decide +kernel)]; exact ⟨rfl, rfl⟩))
    (fun os started H enc _ F => lifted os started H enc F)

/-- THE STATEMENT. -/
theorem proved : Rows.DigestBindsValuesUptoCardSaid :=
  Claim7.holds_tied_plain_at .later [] [.data] true (true, "5b71b292ae13d560f78d921198e2d2567ee92d257eb85392c5009a583e81aed0") false
    over (fun _ h => by cases h) (by kernel_rfl) (fun _ h => by cases h) digestBindsValuesUpto_row_tie rfl ⟨rfl, rfl⟩ (by kernel_rfl) rfl
    (fun f fn hf hfn => by
      obtain rfl : f = 8 := Option.some.inj ((show Tryd.prog.funcNamed "wagonpool/wagonpoollaw02.DigestBindsValues" = some 8 by kernel_rfl).symm.trans hf) |>.symm
      obtain rfl : fn = Tryd.f8 := (Option.some.inj (Tryd.func8.symm.trans hfn)).symm
      exact ⟨by kernel_rfl, fun j t ht => by
        rw [Tryd.params8] at ht
        have hm : t ∈ [9, 38] := by
          have := Array.mem_of_getElem? ht
          simp only [Array.mem_def, List.mem_cons, List.not_mem_nil, or_false] at this ⊢
          rcases this with h | h | h <;> first | exact Or.inl h | exact Or.inr h
        have hall : ([9, 38].all fun u => !Tryd.prog.wantsStandIn u) = true := by kernel_rfl
        exact (show Tryd.prog.wantsStandIn t = false by simpa using List.all_eq_true.1 hall t hm)⟩)
    (by kernel_rfl)
#print axioms proved
end Go.Proofs.YtecgcnfjpaemcaaDoor.digestBindsValues
