/-
  The statement 'Rows.CodecPrefixFreeUptoSaid': for all values, numbers and byte sequences of bounded bulk the law of prefixes returns true; the arguments read as they did.
-/
import Derived.Test.YtjhjcigappkebaaJb
import Derived.Test.YtjhjcigappkebaaMp
namespace Go.Proofs.Ytjhjcigappkebaa.codecPrefixFree
open Go.ChangeShapes Go.WideShapes Go.ChangeAt Go.RowKit
set_option linter.unusedVariables false

theorem own : ownKnob Try.prog.godebug = none := by kernel_rfl
theorem laidOut : laidOutB Try.prog = true := by kernel_rfl

/-- The first k bytes. -/
theorem Bs.cut {F : Nat → Prop} {w : World} {a : Option Addr} {n c : Nat} {b : List Int} (k : Nat) (hk : k ≤ b.length) (h : Bs F w (.slice a n c) b) : Bs F w (.slice a k c) (b.take k) := by
  obtain ⟨h1, h2, a', c', h3, h4, h5⟩ := h
  simp only [Value.slice.injEq] at h3
  obtain ⟨rfl, rfl, rfl⟩ := h3
  have hl : (b.take k).length = k := by rw [List.length_take]; omega
  refine ⟨by omega, fun u hu => h2 u (List.mem_of_mem_take hu), a, c, by rw [hl], by omega, fun hp => ?_⟩
  obtain ⟨g, off, e, hf, hc⟩ := h5 (by omega)
  refine ⟨g, off, e, hf, fun j u hj => hc j u ?_⟩
  rw [List.getElem?_take] at hj
  split at hj
  · exact hj
  · cases hj

set_option maxHeartbeats 2000000 in
theorem walk (t : T) (at0 : Int) (m : List Int) (v vm : Value) (w : World) (hr : Rd (fun k => k < w.heap.size) w t v) (hat : I64 at0) (hm : Bs (fun k => k < w.heap.size) w vm m) (hsz : (enc t).length ≤ 9437184) (hml : m.length ≤ 1048576) :
    Calls Try.prog 8 #[v, .int .i64 at0, vm] w fun e w' => e = .returned (.bool true) ∧ Below w.heap.size w w' := by
  have hfit := Rd.fit t v hr
  obtain ⟨x2, y2, x3, y3, rfl⟩ := rdForm4 hr
  obtain ⟨ma, mc, rfl⟩ : ∃ a c, vm = .slice a m.length c := by
    obtain ⟨_, _, a, c, h, _⟩ := hm
    exact ⟨a, c, h⟩
  have hA := heldBox hr
  have hmA := hm.up (ball (Below.refl _ _) (.cells #[.int .i64 t.kind, .int .i64 t.num, .slice x2 t.bs.length y2, .slice x3 t.els.length y3] 25))
  have HA := Lib.hid hA; have Hs := Lib.hid hsz; have Hf := Lib.hid hfit; have HM := Lib.hid hmA; have Hat := Lib.hid hat; have Hml := Lib.hid hml
  clear hA hr hsz hfit hm hmA hat hml
  have err : ∀ c : Int, c = 2 ∨ c = 10 → chk t = c → Calls Try.prog 8 #[.agg #[.int .i64 t.kind, .int .i64 t.num, .slice x2 t.bs.length y2, .slice x3 t.els.length y3], .int .i64 at0, .slice ma m.length mc] w fun e w' => e = .returned (.bool true) ∧ Below w.heap.size w w' := by
    intro c hc hk
    have Hk := Lib.hid hk; clear hk
    rcases hc with rfl | rfl
    all_goals
      go_enter Try.func8, Try.ntmps8
      go_wp2_with fail
      refine (sane_true _).mono ?_
      rintro e w1 ⟨rfl, hb⟩
      have HA1 := Lib.hid (HA.out.below hb)
      have HM1 := Lib.hid (HM.out.up hb)
      have HB := Lib.hid (nextB (ball (Below.refl _ _) _) hb); clear hb HA HM
      obtain ⟨a0, a1, a2, a3⟩ := HA1.out.2.1
      go_wp2_with fail
      clear a0 a1 a2 a3
      refine (encodeE t _ _ w.heap.size _ _ _ _ HA1.out (by have := Hs.out; omega) Hk.out (by decide)).mono ?_
      rintro e w2 ⟨rfl, hb⟩
      have HA2 := Lib.hid (HA1.out.below hb)
      have HB2 := Lib.hid (nextB HB.out hb); clear hb HA1 HB HM1
      obtain ⟨a0, a1, a2, a3⟩ := HA2.out.2.1
      go_wp2_with fail
      clear a0 a1 a2 a3
      refine (checkX t _ _ w.heap.size _ _ _ _ HA2.out (by have := Hs.out; omega) Hk.out).mono ?_
      rintro e w3 ⟨rfl, hb⟩
      have HB3 := Lib.hid (nextB HB2.out hb); clear hb HA2 HB2
      go_wp2_with fail
      go_ret
      exact ⟨rfl, HB3.out⟩
  have gNil : chk t = 0 → m = [] → Calls Try.prog 8 #[.agg #[.int .i64 t.kind, .int .i64 t.num, .slice x2 t.bs.length y2, .slice x3 t.els.length y3], .int .i64 at0, .slice ma m.length mc] w fun e w' => e = .returned (.bool true) ∧ Below w.heap.size w w' := by
    intro hk hyp
    have hpos : 1 ≤ (enc t).length := by obtain ⟨m', rest, h, _⟩ := enc_head t (by unfold chk at hk; split at hk <;> first | assumption | omega); rw [h]; simp
    have hle := chk_len t hk
    have hd2 := (show dec (enc t ++ m) = .ok t by rw [hyp, List.append_nil]; exact dec_complete t Hf.out hk)
    have hpre := fun (k : Nat) (h : k < (enc t).length) => dec_prefix t Hf.out hk ((enc t).take k) ((enc t).drop k) (List.take_append_drop k _).symm (by intro e; have := congrArg List.length e; simp at this; omega)
    have hm0 : (m.length : Int) = 0 := by rw [hyp]; rfl
    have Hk := Lib.hid hk; have Hd2 := Lib.hid hd2; have Hpre := Lib.hid hpre; have Hpos := Lib.hid hpos; have Hle := Lib.hid hle; clear hk hd2 hpre hpos hle hyp err
    generalize hn : (enc t).length = n at *
    have Hn := Lib.hid hn; clear hn
    have hn0 : ((n : Int) == 0) = false := by rw [beq_eq_false_iff_ne]; have := Hpos.out; omega
    have hwr : wrap64 (65536 - (n : Int)) = 65536 - (n : Int) := by unfold wrap64; have := Hle.out; omega
    go_enter Try.func8, Try.ntmps8
    go_wp2_with fail
    refine (sane_true _).mono ?_
    rintro e w1 ⟨rfl, hb⟩
    have HA1 := Lib.hid (HA.out.below hb)
    have HM1 := Lib.hid (HM.out.up hb)
    have HB := Lib.hid (nextB (ball (Below.refl _ _) _) hb); clear hb HA HM
    obtain ⟨a0, a1, a2, a3⟩ := HA1.out.2.1
    go_wp2_with fail
    clear a0 a1 a2 a3
    refine (encodeX t _ w.heap.size _ _ _ _ HA1.out (by have := Hs.out; have := Hn.out; omega) Hk.out).mono ?_
    rintro e w2 ⟨oa, oc, rfl, hb, hBs⟩
    have hoc : n ≤ oc := by
      obtain ⟨_, _, a', c', h3, h4, _⟩ := hBs
      simp only [Value.slice.injEq] at h3
      have := Hn.out
      omega
    obtain ⟨g, off, rfl⟩ : ∃ g off, oa = some ⟨g, off, none⟩ := by
      obtain ⟨g, off, cap, e, _⟩ := hBs.at (by have := Hn.out; have := Hpos.out; omega)
      simp only [Value.slice.injEq] at e
      exact ⟨g, off, e.1⟩
    rw [Hn.out] at hBs ⊢
    have HBs := Lib.hid hBs
    have HM2 := Lib.hid (HM1.out.up hb)
    have HB2 := Lib.hid (nextB HB.out hb); clear hb HA1 HB hBs HM1
    go_wp2_with fail
    refine (around_any at0 n Hat.out (by have := Hpos.out; omega) (by have := Hle.out; omega) _).mono ?_
    rintro e w3 ⟨k, hkn, rfl, rfl⟩
    have hk0 : (0 : Int) ≤ k := by omega
    have hkc : (k : Int) ≤ oc := by omega
    have Hkn := Lib.hid hkn; clear hkn
    go_wp2_with fail
    refine (decodeE _ 5 _ _ (Bs.cut k (by have := Hkn.out; have := Hn.out; omega) HBs.out) (Hpre.out k (by have := Hkn.out; have := Hn.out; omega))).mono ?_
    rintro e w4 ⟨rfl, hb⟩
    have HBs4 := Lib.hid ((HBs.out.up hb).up (ball (Below.refl _ _) (.cells #[.int .i64 0, .int .i64 0, .slice none 0 0, .slice none 0 0] 25)))
    have HM4 := Lib.hid ((HM2.out.up hb).up (ball (Below.refl _ _) (.cells #[.int .i64 0, .int .i64 0, .slice none 0 0, .slice none 0 0] 25)))
    have HB4 := Lib.hid (ball (nextB HB2.out hb) (.cells #[.int .i64 0, .int .i64 0, .slice none 0 0, .slice none 0 0] 25)); clear hb HB2 HBs HM2
    go_wp2_with fail
    refine (joined_any (enc t) m _ _ _ HBs4.out HM4.out (by have := Hs.out; have := Hn.out; have := Hml.out; omega)).mono ?_
    rintro e w5 ⟨vj, rfl, hb, hown⟩
    have hBj := Bs.kept (F' := fun k => k < w5.heap.size) (Bs.ofOwn hown (by have := Hs.out; have := Hn.out; have := Hml.out; rw [List.length_append]; omega) (mem_range_append HBs4.out.2.1 HM4.out.2.1)) (fun _ _ => rfl) (fun k hk => hk.2.1)
    have HBj := Lib.hid hBj
    have HB5 := Lib.hid (nextB HB4.out hb); clear hb HB4 hown hBj HBs4 HM4
    go_wp2_with fail
    refine (decodeX _ t _ _ HBj.out Hd2.out).mono ?_
    rintro e w6 ⟨_, _, _, _, rfl, hb, _⟩
    have HB6 := Lib.hid (nextB HB5.out hb); clear hb HB5
    go_wp2_with fail
    go_ret
    exact ⟨rfl, ball HB6.out _⟩
  have gLong : chk t = 0 → (m ≠ [] ∧ 65536 < (enc t).length + m.length) → Calls Try.prog 8 #[.agg #[.int .i64 t.kind, .int .i64 t.num, .slice x2 t.bs.length y2, .slice x3 t.els.length y3], .int .i64 at0, .slice ma m.length mc] w fun e w' => e = .returned (.bool true) ∧ Below w.heap.size w w' := by
    intro hk hyp
    have hpos : 1 ≤ (enc t).length := by obtain ⟨m', rest, h, _⟩ := enc_head t (by unfold chk at hk; split at hk <;> first | assumption | omega); rw [h]; simp
    have hle := chk_len t hk
    have hd2 := (show dec (enc t ++ m) = .error 2 by rw [dec_more t Hf.out hk m hyp.1, if_pos hyp.2])
    have hpre := fun (k : Nat) (h : k < (enc t).length) => dec_prefix t Hf.out hk ((enc t).take k) ((enc t).drop k) (List.take_append_drop k _).symm (by intro e; have := congrArg List.length e; simp at this; omega)
    have hm0 : ((m.length : Int) == 0) = false := by rw [beq_eq_false_iff_ne]; intro h; exact hyp.1 (List.length_eq_zero_iff.1 (by omega))
    have hlt : (65536 - ((enc t).length : Int)) < (m.length : Int) := by omega
    have Hk := Lib.hid hk; have Hd2 := Lib.hid hd2; have Hpre := Lib.hid hpre; have Hpos := Lib.hid hpos; have Hle := Lib.hid hle; clear hk hd2 hpre hpos hle hyp err
    generalize hn : (enc t).length = n at *
    have Hn := Lib.hid hn; clear hn
    have hn0 : ((n : Int) == 0) = false := by rw [beq_eq_false_iff_ne]; have := Hpos.out; omega
    have hwr : wrap64 (65536 - (n : Int)) = 65536 - (n : Int) := by unfold wrap64; have := Hle.out; omega
    go_enter Try.func8, Try.ntmps8
    go_wp2_with fail
    refine (sane_true _).mono ?_
    rintro e w1 ⟨rfl, hb⟩
    have HA1 := Lib.hid (HA.out.below hb)
    have HM1 := Lib.hid (HM.out.up hb)
    have HB := Lib.hid (nextB (ball (Below.refl _ _) _) hb); clear hb HA HM
    obtain ⟨a0, a1, a2, a3⟩ := HA1.out.2.1
    go_wp2_with fail
    clear a0 a1 a2 a3
    refine (encodeX t _ w.heap.size _ _ _ _ HA1.out (by have := Hs.out; have := Hn.out; omega) Hk.out).mono ?_
    rintro e w2 ⟨oa, oc, rfl, hb, hBs⟩
    have hoc : n ≤ oc := by
      obtain ⟨_, _, a', c', h3, h4, _⟩ := hBs
      simp only [Value.slice.injEq] at h3
      have := Hn.out
      omega
    obtain ⟨g, off, rfl⟩ : ∃ g off, oa = some ⟨g, off, none⟩ := by
      obtain ⟨g, off, cap, e, _⟩ := hBs.at (by have := Hn.out; have := Hpos.out; omega)
      simp only [Value.slice.injEq] at e
      exact ⟨g, off, e.1⟩
    rw [Hn.out] at hBs ⊢
    have HBs := Lib.hid hBs
    have HM2 := Lib.hid (HM1.out.up hb)
    have HB2 := Lib.hid (nextB HB.out hb); clear hb HA1 HB hBs HM1
    go_wp2_with fail
    refine (around_any at0 n Hat.out (by have := Hpos.out; omega) (by have := Hle.out; omega) _).mono ?_
    rintro e w3 ⟨k, hkn, rfl, rfl⟩
    have hk0 : (0 : Int) ≤ k := by omega
    have hkc : (k : Int) ≤ oc := by omega
    have Hkn := Lib.hid hkn; clear hkn
    go_wp2_with fail
    refine (decodeE _ 5 _ _ (Bs.cut k (by have := Hkn.out; have := Hn.out; omega) HBs.out) (Hpre.out k (by have := Hkn.out; have := Hn.out; omega))).mono ?_
    rintro e w4 ⟨rfl, hb⟩
    have HBs4 := Lib.hid ((HBs.out.up hb).up (ball (Below.refl _ _) (.cells #[.int .i64 0, .int .i64 0, .slice none 0 0, .slice none 0 0] 25)))
    have HM4 := Lib.hid ((HM2.out.up hb).up (ball (Below.refl _ _) (.cells #[.int .i64 0, .int .i64 0, .slice none 0 0, .slice none 0 0] 25)))
    have HB4 := Lib.hid (ball (nextB HB2.out hb) (.cells #[.int .i64 0, .int .i64 0, .slice none 0 0, .slice none 0 0] 25)); clear hb HB2 HBs HM2
    go_wp2_with fail
    refine (joined_any (enc t) m _ _ _ HBs4.out HM4.out (by have := Hs.out; have := Hn.out; have := Hml.out; omega)).mono ?_
    rintro e w5 ⟨vj, rfl, hb, hown⟩
    have hBj := Bs.kept (F' := fun k => k < w5.heap.size) (Bs.ofOwn hown (by have := Hs.out; have := Hn.out; have := Hml.out; rw [List.length_append]; omega) (mem_range_append HBs4.out.2.1 HM4.out.2.1)) (fun _ _ => rfl) (fun k hk => hk.2.1)
    have HBj := Lib.hid hBj
    have HB5 := Lib.hid (nextB HB4.out hb); clear hb HB4 hown hBj HBs4 HM4
    go_wp2_with fail
    refine (decodeE _ _ _ _ HBj.out Hd2.out).mono ?_
    rintro e w6 ⟨rfl, hb⟩
    have HB6 := Lib.hid (nextB HB5.out hb); clear hb HB5
    go_wp2_with fail
    go_ret
    exact ⟨rfl, ball HB6.out _⟩
  have gForm : chk t = 0 → (m ≠ [] ∧ ¬ 65536 < (enc t).length + m.length) → Calls Try.prog 8 #[.agg #[.int .i64 t.kind, .int .i64 t.num, .slice x2 t.bs.length y2, .slice x3 t.els.length y3], .int .i64 at0, .slice ma m.length mc] w fun e w' => e = .returned (.bool true) ∧ Below w.heap.size w w' := by
    intro hk hyp
    have hpos : 1 ≤ (enc t).length := by obtain ⟨m', rest, h, _⟩ := enc_head t (by unfold chk at hk; split at hk <;> first | assumption | omega); rw [h]; simp
    have hle := chk_len t hk
    have hd2 := (show dec (enc t ++ m) = .error 4 by rw [dec_more t Hf.out hk m hyp.1, if_neg hyp.2])
    have hpre := fun (k : Nat) (h : k < (enc t).length) => dec_prefix t Hf.out hk ((enc t).take k) ((enc t).drop k) (List.take_append_drop k _).symm (by intro e; have := congrArg List.length e; simp at this; omega)
    have hm0 : ((m.length : Int) == 0) = false := by rw [beq_eq_false_iff_ne]; intro h; exact hyp.1 (List.length_eq_zero_iff.1 (by omega))
    have hlt : (m.length : Int) ≤ 65536 - ((enc t).length : Int) := by omega
    have Hk := Lib.hid hk; have Hd2 := Lib.hid hd2; have Hpre := Lib.hid hpre; have Hpos := Lib.hid hpos; have Hle := Lib.hid hle; clear hk hd2 hpre hpos hle hyp err
    generalize hn : (enc t).length = n at *
    have Hn := Lib.hid hn; clear hn
    have hn0 : ((n : Int) == 0) = false := by rw [beq_eq_false_iff_ne]; have := Hpos.out; omega
    have hwr : wrap64 (65536 - (n : Int)) = 65536 - (n : Int) := by unfold wrap64; have := Hle.out; omega
    go_enter Try.func8, Try.ntmps8
    go_wp2_with fail
    refine (sane_true _).mono ?_
    rintro e w1 ⟨rfl, hb⟩
    have HA1 := Lib.hid (HA.out.below hb)
    have HM1 := Lib.hid (HM.out.up hb)
    have HB := Lib.hid (nextB (ball (Below.refl _ _) _) hb); clear hb HA HM
    obtain ⟨a0, a1, a2, a3⟩ := HA1.out.2.1
    go_wp2_with fail
    clear a0 a1 a2 a3
    refine (encodeX t _ w.heap.size _ _ _ _ HA1.out (by have := Hs.out; have := Hn.out; omega) Hk.out).mono ?_
    rintro e w2 ⟨oa, oc, rfl, hb, hBs⟩
    have hoc : n ≤ oc := by
      obtain ⟨_, _, a', c', h3, h4, _⟩ := hBs
      simp only [Value.slice.injEq] at h3
      have := Hn.out
      omega
    obtain ⟨g, off, rfl⟩ : ∃ g off, oa = some ⟨g, off, none⟩ := by
      obtain ⟨g, off, cap, e, _⟩ := hBs.at (by have := Hn.out; have := Hpos.out; omega)
      simp only [Value.slice.injEq] at e
      exact ⟨g, off, e.1⟩
    rw [Hn.out] at hBs ⊢
    have HBs := Lib.hid hBs
    have HM2 := Lib.hid (HM1.out.up hb)
    have HB2 := Lib.hid (nextB HB.out hb); clear hb HA1 HB hBs HM1
    go_wp2_with fail
    refine (around_any at0 n Hat.out (by have := Hpos.out; omega) (by have := Hle.out; omega) _).mono ?_
    rintro e w3 ⟨k, hkn, rfl, rfl⟩
    have hk0 : (0 : Int) ≤ k := by omega
    have hkc : (k : Int) ≤ oc := by omega
    have Hkn := Lib.hid hkn; clear hkn
    go_wp2_with fail
    refine (decodeE _ 5 _ _ (Bs.cut k (by have := Hkn.out; have := Hn.out; omega) HBs.out) (Hpre.out k (by have := Hkn.out; have := Hn.out; omega))).mono ?_
    rintro e w4 ⟨rfl, hb⟩
    have HBs4 := Lib.hid ((HBs.out.up hb).up (ball (Below.refl _ _) (.cells #[.int .i64 0, .int .i64 0, .slice none 0 0, .slice none 0 0] 25)))
    have HM4 := Lib.hid ((HM2.out.up hb).up (ball (Below.refl _ _) (.cells #[.int .i64 0, .int .i64 0, .slice none 0 0, .slice none 0 0] 25)))
    have HB4 := Lib.hid (ball (nextB HB2.out hb) (.cells #[.int .i64 0, .int .i64 0, .slice none 0 0, .slice none 0 0] 25)); clear hb HB2 HBs HM2
    go_wp2_with fail
    refine (joined_any (enc t) m _ _ _ HBs4.out HM4.out (by have := Hs.out; have := Hn.out; have := Hml.out; omega)).mono ?_
    rintro e w5 ⟨vj, rfl, hb, hown⟩
    have hBj := Bs.kept (F' := fun k => k < w5.heap.size) (Bs.ofOwn hown (by have := Hs.out; have := Hn.out; have := Hml.out; rw [List.length_append]; omega) (mem_range_append HBs4.out.2.1 HM4.out.2.1)) (fun _ _ => rfl) (fun k hk => hk.2.1)
    have HBj := Lib.hid hBj
    have HB5 := Lib.hid (nextB HB4.out hb); clear hb HB4 hown hBj HBs4 HM4
    go_wp2_with fail
    refine (decodeE _ _ _ _ HBj.out Hd2.out).mono ?_
    rintro e w6 ⟨rfl, hb⟩
    have HB6 := Lib.hid (nextB HB5.out hb); clear hb HB5
    go_wp2_with fail
    go_ret
    exact ⟨rfl, ball HB6.out _⟩
  rcases chk_cases t with h | h | h
  · by_cases hm : m = []
    · exact gNil h hm
    · by_cases h6 : 65536 < (enc t).length + m.length
      · exact gLong h ⟨hm, h6⟩
      · exact gForm h ⟨hm, h6⟩
  · exact err 2 (Or.inl rfl) h
  · exact err 10 (Or.inr rfl) h

theorem contract (H : Type) (enc0 : TypeId × Value → H) (W : World) (base : Nat) (args : Array Value) (ds gs : List (DataW H)) (before : List MemPlace)
    (hval : ∀ (j : Nat) t v, Try.f8.params[j]? = some t → args[j]? = some v → Value.okWide Try.prog W .any base t v)
    (hW : DataW.Whole enc0 Try.prog Try.f8.params.toList Rows.codecPrefixFreeSpec.vars false W args.toList ds gs before) (hk : Rows.uptoSmall H (ds ++ gs) = true) :
    Calls Try.prog 8 args W fun e W' => ∃ v, e = .returned v ∧ Rows.codecPrefixFreeSpec.post enc0 Try.prog Try.f8 false true false false W args v W' := by
  have hW' := hW
  obtain ⟨p, q, hA0, hV, rfl, _, _⟩ := hW
  have hA : DataW.TrodAll enc0 Try.prog W 0 (fun _ => true) true Try.f8.params.toList args.toList ds p := hA0
  rw [Try.params8] at hA hval
  obtain ⟨v0, vs0, d0, ds0, p0, q0, hargs, rfl, rfl, h0, r0⟩ := trodAll_cons hA
  obtain ⟨v1, vs1, d1, ds1, p1, q1, rfl, rfl, rfl, h1, r1⟩ := trodAll_cons r0
  obtain ⟨v2, vs2, d2, ds2, p2, q2, rfl, rfl, rfl, h2, r2⟩ := trodAll_cons r1
  obtain ⟨rfl, rfl, rfl⟩ := trodAll_nil r2
  obtain rfl : args = #[v0, v1, v2] := by cases args; simp_all
  obtain ⟨rfl, rfl⟩ := trodVars_none hV
  have hb := of_decide_eq_true hk
  simp only [List.append_nil, Rows.uptoBulkAll] at hb
  obtain ⟨t, ht, hl⟩ := openUV (hval 0 25 v0 rfl rfl) h0 (by omega)
  obtain ⟨a1, e1, e2, e3, wa⟩ := open_int Try.underlying3 (hval 1 3 v1 rfl rfl) h1
  subst e1
  have i1 : I64 a1 := by
    have h1 : IntKind.i64.min = -9223372036854775808 := rfl
    have h2 : IntKind.i64.max = 9223372036854775807 := rfl
    simp only [Lit.wf, Bool.and_eq_true, decide_eq_true_eq] at wa
    unfold I64; omega
  obtain ⟨oa, ol, oc, rfl⟩ := okWide_slice Try.underlying22 (hval 2 22 v2 rfl rfl)
  obtain ⟨fuel, hf⟩ := h2
  obtain ⟨m, hm, hml⟩ := openUB (v := .slice oa ol oc) hf (by simp only; omega)
  clear hA0
  refine (walk t a1 m v0 _ W ht i1 hm hl (by simp only at hml; omega)).mono fun e W' ⟨he, hb⟩ => ?_
  subst he
  refine ⟨_, rfl, post_law laidOut ?_ rfl rfl hW' rfl rfl rfl hb⟩
  intro t ht
  rw [Try.params8] at ht
  simp at ht
  rcases ht with rfl | rfl | rfl
  · exact ⟨by kernel_rfl, of_decide_eq_true (by kernel_rfl)⟩
  · exact ⟨by kernel_rfl, of_decide_eq_true (by kernel_rfl)⟩
  · exact ⟨by kernel_rfl, of_decide_eq_true (by kernel_rfl)⟩

set_option maxRecDepth 100000 in
theorem lifted (os : Os) (started : os.Started) (H : Type) (enc0 : TypeId × Value → H) (F : Stop.Interp) :
    ReturnsInHanded {} Try.checked os 8 .any ((Rows.OpenSpec.upto Rows.codecPrefixFreeSpec).pre6 enc0 Try.prog Try.f8 Rows.codecPrefixFreeUptoRow.domain false) (((Rows.OpenSpec.upto Rows.codecPrefixFreeSpec).at F).post enc0 Try.prog Try.f8 false true false false) := by
  refine returnsInHanded_of_cond (C := Try.checked) (s := Rows.OpenSpec.upto Rows.codecPrefixFreeSpec) (k := Rows.uptoSmall) rfl own started (by kernel_rfl) Try.func8
    (OpenSpec.witness (enc := enc0) (C := Try.checked) (s := Rows.OpenSpec.upto Rows.codecPrefixFreeSpec) (k := Rows.uptoSmall) rfl false ⟨#[], #[.agg #[.int .i64 0, .int .i64 0, .slice none 0 0, .slice none 0 0], .int .i64 0, .slice none 0 0], []⟩ 8 (by kernel_rfl) (by kernel_rfl) (by kernel_rfl)
      (x := ([.agg [.lit (.int .i64 0), .lit (.int .i64 0), .nil, .nil], .lit (.int .i64 0), .nil], [], [])) (by kernel_rfl) rfl (by kernel_rfl)) ?_
  intro W base args ds gs before hval hW _ hk _
  exact contract H enc0 W base args ds gs before hval hW hk

theorem over : Rows.codecPrefixFreeUptoRow.holds Try.pinned (Rows.OpenSpec.upto Rows.codecPrefixFreeSpec) :=
  OpenClaim.holds_of_cond 8 Try.f8 rfl rfl rfl rfl rfl rfl rfl ⟨rfl, rfl, rfl, rfl, rfl⟩ rfl rfl rfl rfl rfl (by kernel_rfl) Try.func8 (by kernel_rfl)
    (of_decide_eq_true (by kernel_rfl)) (by unfold Func.isWrapper; first | (rw [if_pos (by decide +kernel)]; kernel_rfl) | (rw [if_neg (by decide +kernel)]; exact ⟨rfl, rfl⟩))
    (fun os started H enc0 _ F => lifted os started H enc0 F)

/-- THE STATEMENT. -/
theorem proved : Rows.CodecPrefixFreeUptoSaid :=
  over
#print axioms proved
end Go.Proofs.Ytjhjcigappkebaa.codecPrefixFree
