/-
  Walks: the examples: sane.
-/
import Derived.Test.YtempnbchiofghaaGreatDoorSn
namespace Go.Proofs.YtempnbchiofghaaGreatDoor
open Go.RowKit Go.Lib
set_option linter.unusedVariables false
set_option linter.unusedSimpArgs false

theorem sherr_a : ShErr 100 [1, 1, 1] 0 := ⟨0, ⟨fun h => by simp at h, fun _ => ⟨fun _ => rfl, fun h => absurd ⟨by decide, 1, by simp, by decide⟩ h⟩⟩, fun h => absurd rfl h, fun _ => ⟨fun _ => rfl, fun h => absurd ⟨by decide, by decide⟩ h⟩⟩
theorem sherr_b : ShErr (-5) [1, 0, 3] 0 := ⟨0, ⟨fun h => by simp at h, fun _ => ⟨fun _ => rfl, fun h => absurd ⟨by decide, 1, by simp, by decide⟩ h⟩⟩, fun h => absurd rfl h, fun _ => ⟨fun _ => rfl, fun h => absurd ⟨by decide, by decide⟩ h⟩⟩
theorem sherr_c : ShErr 1 [] 1 := ⟨1, ⟨fun h => by simp at h, fun _ => ⟨fun h => by obtain ⟨_, x, hx, _⟩ := h; simp at hx, fun _ => rfl⟩⟩, fun _ => rfl, fun h => by omega⟩
theorem ord_a : IsOrd (rf (absT 100) ([1, 1, 1] : List Int).sum [1, 1, 1]) 3 [0, 1, 2] := by
  refine ⟨List.Perm.refl _, ?_⟩
  have r0 : rf (absT 100) ([1, 1, 1] : List Int).sum [1, 1, 1] 0 = 1 := by decide +kernel
  have r1 : rf (absT 100) ([1, 1, 1] : List Int).sum [1, 1, 1] 1 = 1 := by decide +kernel
  have r2 : rf (absT 100) ([1, 1, 1] : List Int).sum [1, 1, 1] 2 = 1 := by decide +kernel
  simp only [List.pairwise_cons, List.mem_cons, List.not_mem_nil, or_false, forall_eq_or_imp, forall_eq, bef, r0, r1, r2]
  refine ⟨⟨by first | omega | simp | decide, by first | omega | simp | decide⟩, by first | omega | simp | decide, by simp, List.Pairwise.nil⟩
theorem ord_b : IsOrd (rf (absT (-5)) ([1, 0, 3] : List Int).sum [1, 0, 3]) 3 [2, 0, 1] := by
  refine ⟨by decide, ?_⟩
  have r0 : rf (absT (-5)) ([1, 0, 3] : List Int).sum [1, 0, 3] 0 = 1 := by decide +kernel
  have r1 : rf (absT (-5)) ([1, 0, 3] : List Int).sum [1, 0, 3] 1 = 0 := by decide +kernel
  have r2 : rf (absT (-5)) ([1, 0, 3] : List Int).sum [1, 0, 3] 2 = 3 := by decide +kernel
  simp only [List.pairwise_cons, List.mem_cons, List.not_mem_nil, or_false, forall_eq_or_imp, forall_eq, bef, r0, r1, r2]
  refine ⟨⟨by omega, by omega⟩, by omega, by simp, List.Pairwise.nil⟩
theorem shl_a {o : List Nat} (h : IsOrd (rf (absT 100) ([1, 1, 1] : List Int).sum [1, 1, 1]) 3 o) : shl 100 [1, 1, 1] o = [34, 33, 33] := by
  rw [h.unique ord_a]
  decide +kernel
theorem shl_b {o : List Nat} (h : IsOrd (rf (absT (-5)) ([1, 0, 3] : List Int).sum [1, 0, 3]) 3 o) : shl (-5) [1, 0, 3] o = [-1, 0, -4] := by
  rw [h.unique ord_b]
  decide +kernel
theorem share_a (w : World) : Calls Tryz.prog 23 #[.int .i64 100, .slice (some ⟨w.heap.size, 0, none⟩) 3 3] (w.alloc (.cells #[.int .i64 1, .int .i64 1, .int .i64 1] 3)) fun e w' => ∃ sv, e = .returned (.tuple #[sv, .int .i64 0]) ∧ Below w.heap.size w w' ∧ Hl (fun k => k < w'.heap.size) w' sv [34, 33, 33] := by
  have h := share_any 100 [1, 1, 1] (.slice (some ⟨w.heap.size, 0, none⟩) 3 3) _ 0 sherr_a (hl_new w [1, 1, 1] (by decide) (by intro x hx; simp only [List.mem_cons, List.not_mem_nil, or_false] at hx; unfold I64; omega))
  refine h.mono ?_
  rintro e w' ⟨sv, rfl, hb, _, hv⟩
  obtain ⟨ord, ho, hl⟩ := hv rfl
  rw [shl_a ho] at hl
  exact ⟨sv, rfl, btrans (ball (Below.refl _ _) _) hb, hl⟩
theorem share_b (w : World) : Calls Tryz.prog 23 #[.int .i64 (-5), .slice (some ⟨w.heap.size, 0, none⟩) 3 3] (w.alloc (.cells #[.int .i64 1, .int .i64 0, .int .i64 3] 3)) fun e w' => ∃ sv, e = .returned (.tuple #[sv, .int .i64 0]) ∧ Below w.heap.size w w' ∧ Hl (fun k => k < w'.heap.size) w' sv [-1, 0, -4] := by
  have h := share_any (-5) [1, 0, 3] (.slice (some ⟨w.heap.size, 0, none⟩) 3 3) _ 0 sherr_b (hl_new w [1, 0, 3] (by decide) (by intro x hx; simp only [List.mem_cons, List.not_mem_nil, or_false] at hx; unfold I64; omega))
  refine h.mono ?_
  rintro e w' ⟨sv, rfl, hb, _, hv⟩
  obtain ⟨ord, ho, hl⟩ := hv rfl
  rw [shl_b ho] at hl
  exact ⟨sv, rfl, btrans (ball (Below.refl _ _) _) hb, hl⟩
theorem share_c (w : World) : Calls Tryz.prog 23 #[.int .i64 1, .slice none 0 0] w fun e w' => ∃ sv, e = .returned (.tuple #[sv, .int .i64 1]) ∧ Below w.heap.size w w' := by
  have h := share_any 1 [] (.slice none 0 0) w 1 sherr_c (hl_nil _ _ _ _)
  refine h.mono ?_
  rintro e w' ⟨sv, rfl, hb, _⟩
  exact ⟨sv, rfl, hb⟩
theorem same_yes (l : List Int) (v : Value) (w : World) (hv : Hl (fun k => k < w.heap.size) w v l) (a b c : Int) (hl : l = [a, b, c]) (hI : ∀ x ∈ l, I64 x) : Calls Tryz.prog 29 #[v, .slice (some ⟨w.heap.size, 0, none⟩) 3 3] (w.alloc (.cells #[.int .i64 a, .int .i64 b, .int .i64 c] 3)) fun e w' => e = .returned (.bool true) ∧ Below w.heap.size w w' := by
  subst hl
  have h := same_any [a, b, c] [a, b, c] v (.slice (some ⟨w.heap.size, 0, none⟩) 3 3) _ (hv.on (ball (Below.refl _ _) (.cells (rowI [a, b, c]) 3))) (hl_new w [a, b, c] (by simp) hI)
  rw [decide_eq_true rfl] at h
  refine h.mono ?_
  rintro e w' ⟨rfl, hb⟩
  exact ⟨rfl, btrans (ball (Below.refl _ _) _) hb⟩
theorem fm_a : Fm false [57, 48, 48, 55, 49, 57, 57, 50, 53, 52, 55, 52, 48, 57, 46, 57, 50] [57, 48, 48, 55, 49, 57, 57, 50, 53, 52, 55, 52, 48, 57] 57 50 := ⟨by decide, by decide, by decide, by decide, by decide, by decide, by decide⟩
theorem fm_b : Fm false [57, 48, 48, 55, 49, 57, 57, 50, 53, 52, 55, 52, 48, 57, 46, 57, 51] [57, 48, 48, 55, 49, 57, 57, 50, 53, 52, 55, 52, 48, 57] 57 51 := ⟨by decide, by decide, by decide, by decide, by decide, by decide, by decide⟩
theorem pv_a : PV [57, 48, 48, 55, 49, 57, 57, 50, 53, 52, 55, 52, 48, 57, 46, 57, 50] 9007199254740992 0 := Or.inl ⟨_, _, _, _, fm_a, by decide +kernel⟩
theorem pv_b : PV [57, 48, 48, 55, 49, 57, 57, 50, 53, 52, 55, 52, 48, 57, 46, 57, 51] 0 3 := Or.inl ⟨_, _, _, _, fm_b, by decide +kernel⟩
theorem pv_c : PV [49, 50, 46, 53] 0 4 := Or.inr ⟨fun h => by
  obtain ⟨neg, u, c1, c0, hf⟩ := h
  have := (fm_places hf).2.2.1
  exact absurd this (by decide), rfl, rfl⟩
theorem pv_d : PV [45, 48, 46, 48, 48] 0 4 := Or.inr ⟨fun h => by
  obtain ⟨neg, u, c1, c0, hf⟩ := h
  have hs : neg = true := hf.sign
  have he := hf.eq
  rw [hs, if_pos rfl, List.append_assoc] at he
  have he2 : [48] ++ 46 :: [48, 48] = u ++ 46 :: [c1, c0] := by
    simpa using he
  obtain ⟨e1, e2⟩ := split_unique he2 (by decide) (dot_no hf.dig)
  have hz := hf.zero hs
  simp only [List.cons.injEq, and_true] at e2
  rw [← e1, ← e2.1, ← e2.2] at hz
  exact hz (by decide), rfl, rfl⟩

set_option maxRecDepth 100000 in
set_option maxHeartbeats 8000000 in
theorem sane_true (w : World) (hk : LK w) : Calls Tryz.prog 12 #[] w fun e w' => e = .returned (.bool true) ∧ Below w.heap.size w w' := by
  have HK := Lib.hid hk
  have HA := Lib.hid arith_true
  have W1 : Hid (∀ w, Calls Tryz.prog 27 #[.int .i64 1000, .int .i64 100, .int .i64 350, .int .i64 1000, .int .i64 10] w fun e w' => e = .returned (.tuple #[.int .i64 750, .int .i64 0]) ∧ Below w.heap.size w w') := Lib.hid (fun w => by
    have h := worth_any 1000 100 350 1000 10 w
    rw [show worthV 1000 100 350 1000 10 = (750, 0) by decide +kernel] at h
    exact h)
  have W2 : Hid (∀ w, Calls Tryz.prog 27 #[.int .i64 1000, .int .i64 100, .int .i64 50, .int .i64 1000, .int .i64 10] w fun e w' => e = .returned (.tuple #[.int .i64 1000, .int .i64 0]) ∧ Below w.heap.size w w') := Lib.hid (fun w => by
    have h := worth_any 1000 100 50 1000 10 w
    rw [show worthV 1000 100 50 1000 10 = (1000, 0) by decide +kernel] at h
    exact h)
  have W3 : Hid (∀ w, Calls Tryz.prog 27 #[.int .i64 1000, .int .i64 100, .int .i64 1050, .int .i64 1000, .int .i64 10] w fun e w' => e = .returned (.tuple #[.int .i64 100, .int .i64 0]) ∧ Below w.heap.size w w') := Lib.hid (fun w => by
    have h := worth_any 1000 100 1050 1000 10 w
    rw [show worthV 1000 100 1050 1000 10 = (100, 0) by decide +kernel] at h
    exact h)
  have W4 : Hid (∀ w, Calls Tryz.prog 27 #[.int .i64 1000, .int .i64 100, .int .i64 2000, .int .i64 1000, .int .i64 10] w fun e w' => e = .returned (.tuple #[.int .i64 100, .int .i64 0]) ∧ Below w.heap.size w w') := Lib.hid (fun w => by
    have h := worth_any 1000 100 2000 1000 10 w
    rw [show worthV 1000 100 2000 1000 10 = (100, 0) by decide +kernel] at h
    exact h)
  have T1 : Hid (∀ w, LK w → Calls Tryz.prog 30 #[.int .i64 (-1205)] w fun e w' => e = .returned (.string ⟨#[45, 49, 50, 46, 48, 53]⟩) ∧ Below w.heap.size w w') := Lib.hid (fun w hk => by
    have h := text_any (-1205) ⟨by decide, by decide⟩ w hk.tab
    rw [show txt (-1205) = [45, 49, 50, 46, 48, 53] by decide +kernel] at h
    exact h)
  have T2 : Hid (∀ w, LK w → Calls Tryz.prog 30 #[.int .i64 5] w fun e w' => e = .returned (.string ⟨#[48, 46, 48, 53]⟩) ∧ Below w.heap.size w w') := Lib.hid (fun w hk => by
    have h := text_any 5 ⟨by decide, by decide⟩ w hk.tab
    rw [show txt 5 = [48, 46, 48, 53] by decide +kernel] at h
    exact h)
  have T3 : Hid (∀ w, LK w → Calls Tryz.prog 30 #[.int .i64 0] w fun e w' => e = .returned (.string ⟨#[48, 46, 48, 48]⟩) ∧ Below w.heap.size w w') := Lib.hid (fun w hk => by
    have h := text_any 0 ⟨by decide, by decide⟩ w hk.tab
    rw [show txt 0 = [48, 46, 48, 48] by decide +kernel] at h
    exact h)
  have P1 : Hid (∀ w, LK w → Calls Tryz.prog 25 #[.string ⟨#[57, 48, 48, 55, 49, 57, 57, 50, 53, 52, 55, 52, 48, 57, 46, 57, 50]⟩] w fun e w' => e = .returned (.tuple #[.int .i64 9007199254740992, .int .i64 0]) ∧ Below w.heap.size w w') := Lib.hid (fun w hk => parse_any ⟨#[57, 48, 48, 55, 49, 57, 57, 50, 53, 52, 55, 52, 48, 57, 46, 57, 50]⟩ (by decide) 9007199254740992 0 pv_a w hk)
  have P2 : Hid (∀ w, LK w → Calls Tryz.prog 25 #[.string ⟨#[57, 48, 48, 55, 49, 57, 57, 50, 53, 52, 55, 52, 48, 57, 46, 57, 51]⟩] w fun e w' => e = .returned (.tuple #[.int .i64 0, .int .i64 3]) ∧ Below w.heap.size w w') := Lib.hid (fun w hk => parse_any ⟨#[57, 48, 48, 55, 49, 57, 57, 50, 53, 52, 55, 52, 48, 57, 46, 57, 51]⟩ (by decide) 0 3 pv_b w hk)
  have P3 : Hid (∀ w, LK w → Calls Tryz.prog 25 #[.string ⟨#[49, 50, 46, 53]⟩] w fun e w' => e = .returned (.tuple #[.int .i64 0, .int .i64 4]) ∧ Below w.heap.size w w') := Lib.hid (fun w hk => parse_any ⟨#[49, 50, 46, 53]⟩ (by decide) 0 4 pv_c w hk)
  have P4 : Hid (∀ w, LK w → Calls Tryz.prog 25 #[.string ⟨#[45, 48, 46, 48, 48]⟩] w fun e w' => e = .returned (.tuple #[.int .i64 0, .int .i64 4]) ∧ Below w.heap.size w w') := Lib.hid (fun w hk => parse_any ⟨#[45, 48, 46, 48, 48]⟩ (by decide) 0 4 pv_d w hk)
  have n1 : ((⟨#[45, 49, 50, 46, 48, 53]⟩ : ByteArray).toList != [45, 49, 50, 46, 48, 53]) = false := by decide +kernel
  have n2 : ((⟨#[48, 46, 48, 53]⟩ : ByteArray).toList != [48, 46, 48, 53]) = false := by decide +kernel
  have n3 : ((⟨#[48, 46, 48, 48]⟩ : ByteArray).toList != [48, 46, 48, 48]) = false := by decide +kernel
  clear hk
  go_enter Tryz.func12, Tryz.ntmps12
  go_wp2_with fail
  refine (HA.out _).mono ?_
  rintro e w1 ⟨rfl, hb⟩
  have HB1 := Lib.hid hb
  clear hb
  go_wp2_with fail
  refine (share_a _).mono ?_
  rintro e w2 ⟨s1, rfl, hb, hl1⟩
  have HB2 := Lib.hid (btrans HB1.out hb)
  have HL1 := Lib.hid hl1
  clear hb hl1 HB1
  go_wp2_with fail
  refine (share_b _).mono ?_
  rintro e w3 ⟨s2, rfl, hb, hl2⟩
  have HB3 := Lib.hid (btrans HB2.out hb)
  have HL1' := Lib.hid (HL1.out.on hb)
  have HL2 := Lib.hid hl2
  clear hb hl2 HB2 HL1
  go_wp2_with fail
  refine (share_c _).mono ?_
  rintro e w4 ⟨s3, rfl, hb⟩
  have HB4 := Lib.hid (btrans HB3.out hb)
  have HL3 := Lib.hid (HL1'.out.on hb)
  have HL4 := Lib.hid (HL2.out.on hb)
  clear hb HB3 HL1' HL2
  go_wp2_with fail
  refine (same_yes _ _ _ HL3.out 34 33 33 rfl (by intro x hx; simp only [List.mem_cons, List.not_mem_nil, or_false] at hx; unfold I64; omega)).mono ?_
  rintro e w5 ⟨rfl, hb⟩
  have HB5 := Lib.hid (btrans HB4.out hb)
  have HL5 := Lib.hid (HL4.out.on hb)
  clear hb HB4 HL3 HL4
  go_wp2_with fail
  refine (same_yes _ _ _ HL5.out (-1) 0 (-4) rfl (by intro x hx; simp only [List.mem_cons, List.not_mem_nil, or_false] at hx; unfold I64; omega)).mono ?_
  rintro e w6 ⟨rfl, hb⟩
  have HB6 := Lib.hid (btrans HB5.out hb)
  clear hb HB5 HL5
  go_wp2_with fail
  refine (T1.out _ (HK.out.on HB6.out)).mono ?_
  rintro e w7 ⟨rfl, hb⟩
  have HB7 := Lib.hid (btrans HB6.out hb)
  clear hb HB6
  go_wp2_with fail
  refine (T2.out _ (HK.out.on HB7.out)).mono ?_
  rintro e w8 ⟨rfl, hb⟩
  have HB8 := Lib.hid (btrans HB7.out hb)
  clear hb HB7
  go_wp2_with fail
  refine (T3.out _ (HK.out.on HB8.out)).mono ?_
  rintro e w9 ⟨rfl, hb⟩
  have HB9 := Lib.hid (btrans HB8.out hb)
  clear hb HB8
  go_wp2_with fail
  refine (P1.out _ (HK.out.on HB9.out)).mono ?_
  rintro e w10 ⟨rfl, hb⟩
  have HB10 := Lib.hid (btrans HB9.out hb)
  clear hb HB9
  go_wp2_with fail
  refine (P2.out _ (HK.out.on HB10.out)).mono ?_
  rintro e w11 ⟨rfl, hb⟩
  have HB11 := Lib.hid (btrans HB10.out hb)
  clear hb HB10
  go_wp2_with fail
  refine (P3.out _ (HK.out.on HB11.out)).mono ?_
  rintro e w12 ⟨rfl, hb⟩
  have HB12 := Lib.hid (btrans HB11.out hb)
  clear hb HB11
  go_wp2_with fail
  refine (P4.out _ (HK.out.on HB12.out)).mono ?_
  rintro e w13 ⟨rfl, hb⟩
  have HB13 := Lib.hid (btrans HB12.out hb)
  clear hb HB12
  go_wp2_with fail
  refine (gives_yes _ _).mono ?_
  rintro e w' ⟨rfl, rfl⟩
  go_wp2_with fail
  refine (fails_yes _ _).mono ?_
  rintro e w' ⟨rfl, rfl⟩
  go_wp2_with fail
  refine (fails_yes _ _).mono ?_
  rintro e w' ⟨rfl, rfl⟩
  go_wp2_with fail
  refine (fails_yes _ _).mono ?_
  rintro e w' ⟨rfl, rfl⟩
  go_wp2_with fail
  refine (W1.out _).mono ?_
  rintro e w14 ⟨rfl, hb⟩
  have HB14 := Lib.hid (btrans HB13.out hb)
  clear hb HB13
  go_wp2_with fail
  refine (W2.out _).mono ?_
  rintro e w15 ⟨rfl, hb⟩
  have HB15 := Lib.hid (btrans HB14.out hb)
  clear hb HB14
  go_wp2_with fail
  refine (W3.out _).mono ?_
  rintro e w16 ⟨rfl, hb⟩
  have HB16 := Lib.hid (btrans HB15.out hb)
  clear hb HB15
  go_wp2_with fail
  refine (W4.out _).mono ?_
  rintro e w17 ⟨rfl, hb⟩
  have HB17 := Lib.hid (btrans HB16.out hb)
  clear hb HB16
  go_wp2_with fail
  refine (gives_yes _ _).mono ?_
  rintro e w' ⟨rfl, rfl⟩
  go_wp2_with fail
  refine (gives_yes _ _).mono ?_
  rintro e w' ⟨rfl, rfl⟩
  go_wp2_with fail
  refine (gives_yes _ _).mono ?_
  rintro e w' ⟨rfl, rfl⟩
  go_wp2_with fail
  refine (gives_yes _ _).mono ?_
  rintro e w' ⟨rfl, rfl⟩
  go_wp2
  go_ret
  exact ⟨rfl, HB17.out⟩
end Go.Proofs.YtempnbchiofghaaGreatDoor
