/-
  Walks: the text's form and Parse of the program.
-/
import Derived.Test.YtempnbchiofghaaGreatDoorSd
import Derived.PlainAid
namespace Go.Proofs.YtempnbchiofghaaGreatDoor
open Go.RowKit Go.Lib Go.PlainAid
set_option linter.unusedVariables false
set_option linter.unusedSimpArgs false

/-- What the form's reading returns: the number without its point, and whether it has the form. -/
def HundV (l : List UInt8) (N : ByteArray) (ok : Bool) : Prop :=
  (ok = true ∧ ∃ neg u c1 c0, Fm neg l u c1 c0 ∧ N.data.toList = (if neg then [45] else []) ++ (u ++ [c1, c0])) ∨ (ok = false ∧ ¬ ∃ neg u c1 c0, Fm neg l u c1 c0)
/-- The form, from the pieces. -/
theorem hund_form {l b u c : List UInt8} (hb : DashV l b) (hs : b = u ++ 46 :: c) (hu : (46 : UInt8) ∉ u) :
    (∃ neg u c1 c0, Fm neg l u c1 c0) ↔ ((u ≠ [] ∧ ∀ x ∈ u, isD x) ∧ (c ≠ [] ∧ ∀ x ∈ c, isD x) ∧ c.length = 2 ∧ ¬ (u.head? = some 48 ∧ 1 < u.length) ∧ ¬ (l.head? = some 45 ∧ b = [48, 46, 48, 48])) := by
  constructor
  · rintro ⟨neg, u', c1, c0, hf⟩
    have hsg := hf.sign
    have hbb : b = u' ++ [46, c1, c0] := by
      have h1 : l = (if l.head? = some 45 then [45] else []) ++ b := hb
      have h2 := hf.eq
      rw [hsg, List.append_assoc] at h2
      have e : (if decide (l.head? = some 45) = true then [(45 : UInt8)] else []) = (if l.head? = some 45 then [45] else []) := by simp
      rw [e] at h2
      exact List.append_cancel_left (h1.symm.trans h2)
    obtain ⟨e1, e2⟩ := split_unique (hs.symm.trans hbb) hu (dot_no hf.dig)
    subst e1 e2
    refine ⟨⟨hf.ne, hf.dig⟩, ⟨by simp, ?_⟩, rfl, ?_, ?_⟩
    · intro x hx
      simp only [List.mem_cons, List.not_mem_nil, or_false] at hx
      rcases hx with rfl | rfl
      · exact hf.d1
      · exact hf.d0
    · rintro ⟨h1, h2⟩
      have := hf.lead h1
      omega
    · rintro ⟨h1, h2⟩
      have hneg : neg = true := by rw [hsg]; exact decide_eq_true h1
      have hz := hf.zero hneg
      rw [h2] at hbb
      have : u = [48] ∧ [c1, c0] = [48, 48] := split_unique (u := u) (u' := [48]) (c := [c1, c0]) (c' := [48, 48]) hbb.symm hu (by decide)
      rw [this.1, this.2] at hz
      exact hz (by decide)
  · rintro ⟨⟨h1, h2⟩, ⟨h3, h4⟩, h5, h6, h7⟩
    match c, h5 with
    | [c1, c0], _ =>
      refine ⟨decide (l.head? = some 45), u, c1, c0, ?_, h1, h2, h4 c1 (by simp), h4 c0 (by simp), ?_, ?_⟩
      · have h8 : l = (if l.head? = some 45 then [45] else []) ++ b := hb
        rw [hs] at h8
        have e : (if decide (l.head? = some 45) = true then [(45 : UInt8)] else []) = (if l.head? = some 45 then [45] else []) := by simp
        rw [e, List.append_assoc]
        exact h8
      · intro h8
        have : u.length ≠ 0 := fun h9 => h1 (List.eq_nil_of_length_eq_zero h9)
        have : ¬ 1 < u.length := fun h9 => h6 ⟨h8, h9⟩
        omega
      · intro h8 h9
        have hneg := of_decide_eq_true h8
        have hall : ∀ x ∈ u ++ [c1, c0], isD x := by
          intro x hx
          rcases List.mem_append.1 hx with hx | hx
          · exact h2 x hx
          · exact h4 x hx
        have h48 := (numA_zero _ _ hall h9).2
        have hc1 := h48 c1 (by simp)
        have hc0 := h48 c0 (by simp)
        have hu48 : u = [48] := by
          cases hu' : u with
          | nil => exact absurd hu' h1
          | cons x t =>
            have hx := h48 x (by rw [hu']; simp)
            subst hx
            have : ¬ 1 < u.length := fun h10 => h6 ⟨by rw [hu']; rfl, h10⟩
            rw [hu'] at this
            simp only [List.length_cons] at this
            have ht : t = [] := List.eq_nil_of_length_eq_zero (by omega)
            rw [ht]
        exact h7 ⟨hneg, by rw [hs, hu48, hc1, hc0]; rfl⟩
theorem hund_none {l b : List UInt8} (hb : DashV l b) (hn : (46 : UInt8) ∉ b) : ¬ ∃ neg u c1 c0, Fm neg l u c1 c0 := by
  rintro ⟨neg, u', c1, c0, hf⟩
  have hsg := hf.sign
  have h1 : l = (if l.head? = some 45 then [45] else []) ++ b := hb
  have h2 := hf.eq
  rw [hsg, List.append_assoc] at h2
  have e : (if decide (l.head? = some 45) = true then [(45 : UInt8)] else []) = (if l.head? = some 45 then [45] else []) := by simp
  rw [e] at h2
  have := List.append_cancel_left (h1.symm.trans h2)
  rw [this] at hn
  exact hn (by simp)
theorem hund_num {l b u c : List UInt8} (hb : DashV l b) (hs : b = u ++ 46 :: c) (hu : (46 : UInt8) ∉ u) {N : ByteArray} (hf : ∃ neg u c1 c0, Fm neg l u c1 c0) (hN : N.data.toList = (if l.head? = some 45 then [45] else []) ++ (u ++ c)) : HundV l N true := by
  refine Or.inl ⟨rfl, ?_⟩
  obtain ⟨neg, u', c1, c0, hf⟩ := hf
  have hsg := hf.sign
  have h1 : l = (if l.head? = some 45 then [45] else []) ++ b := hb
  have h2 := hf.eq
  rw [hsg, List.append_assoc] at h2
  have e : (if decide (l.head? = some 45) = true then [(45 : UInt8)] else []) = (if l.head? = some 45 then [45] else []) := by simp
  rw [e] at h2
  have hbb := List.append_cancel_left (h1.symm.trans h2)
  obtain ⟨e1, e2⟩ := split_unique (hs.symm.trans hbb) hu (dot_no hf.dig)
  subst e1 e2
  refine ⟨neg, u, c1, c0, hf, ?_⟩
  rw [hN, hsg, e]

set_option maxRecDepth 100000 in
set_option maxHeartbeats 8000000 in
theorem hund_any (S : ByteArray) (hS : S.size ≤ 1000000000000000) (w : World) : Calls Tryz.prog 48 #[.string S] w fun e w' => ∃ (N : ByteArray) (ok : Bool), e = .returned (.tuple #[.string N, .bool ok]) ∧ Below w.heap.size w w' ∧ HundV S.data.toList N ok := by
  have H1 := Lib.hid (cutp_any S)
  obtain ⟨G, hG⟩ : ∃ G, decide (S.data.toList.head? = some 45) = G := ⟨_, rfl⟩
  rw [hG] at H1
  have HG := Lib.hid hG
  have HS := Lib.hid hS
  clear hG hS
  go_enter Tryz.func48, Tryz.ntmps48
  go_wp2_with fail
  refine (H1.out _).mono ?_
  rintro e w' ⟨B, rfl, rfl, hb⟩
  have HB := Lib.hid hb
  have hBs : B.size ≤ S.size := by
    have h1 : S.data.toList = (if S.data.toList.head? = some 45 then [45] else []) ++ B.data.toList := hb
    have := congrArg List.length h1
    rw [List.length_append] at this
    rw [ba_size, ba_size]
    omega
  have H2 := Lib.hid (cut_any B (by have := HS.out; omega))
  have HBS := Lib.hid hBs
  clear hb hBs
  go_wp2_with fail
  refine (H2.out _).mono ?_
  rintro e w2 ⟨U, C, f, rfl, hw2, hcv⟩
  have HW2 := Lib.hid hw2
  have hUs : U.size ≤ B.size ∧ C.size ≤ B.size ∧ U.size + C.size ≤ B.size := by
    rcases hcv with ⟨_, h1, _⟩ | ⟨_, _, h1, h2⟩
    · have := congrArg List.length h1
      rw [List.length_append, List.length_cons] at this
      rw [ba_size, ba_size, ba_size]
      omega
    · rw [h2]
      rw [ba_size U, h1, ← ba_size]
      exact ⟨Nat.le_refl _, Nat.zero_le _, Nat.le_refl _⟩
  have HCV := Lib.hid hcv
  have HUS := Lib.hid hUs
  have HDU := digits_any U (by have := HS.out; have := HBS.out; omega)
  have HDC := digits_any C (by have := HS.out; have := HBS.out; omega)
  clear hcv hUs hw2
  by_cases hP1 : U.data.toList ≠ [] ∧ ∀ c ∈ U.data.toList, isD c
  rotate_left
  · rw [decide_eq_false hP1] at HDU
    have HN : Hid (HundV S.data.toList ⟨#[]⟩ false) := Lib.hid (Or.inr ⟨rfl, fun hf => by
      rcases HCV.out with ⟨_, h1, h2⟩ | ⟨_, h1, _⟩
      · exact hP1 ((hund_form HB.out h1 h2).1 hf).1
      · exact hund_none HB.out h1 hf⟩)
    replace HDU := Lib.hid HDU
    clear hP1 HDC
    go_wp2_with fail
    refine (HDU.out _).mono ?_
    rintro e w3 ⟨rfl, hb3⟩
    have HW3 := Lib.hid (btrans HW2.out hb3)
    clear hb3
    go_wp2
    go_ret2
    exact ⟨_, _, rfl, HW3.out, HN.out⟩
  rw [decide_eq_true hP1] at HDU
  by_cases hP2 : C.data.toList ≠ [] ∧ ∀ c ∈ C.data.toList, isD c
  rotate_left
  · rw [decide_eq_false hP2] at HDC
    have HN : Hid (HundV S.data.toList ⟨#[]⟩ false) := Lib.hid (Or.inr ⟨rfl, fun hf => by
      rcases HCV.out with ⟨_, h1, h2⟩ | ⟨_, h1, _⟩
      · exact hP2 ((hund_form HB.out h1 h2).1 hf).2.1
      · exact hund_none HB.out h1 hf⟩)
    replace HDU := Lib.hid HDU; replace HDC := Lib.hid HDC
    clear hP1 hP2
    go_wp2_with fail
    refine (HDU.out _).mono ?_
    rintro e w3 ⟨rfl, hb3⟩
    have HW3 := Lib.hid (btrans HW2.out hb3)
    clear hb3
    go_wp2_with fail
    refine (HDC.out _).mono ?_
    rintro e w4 ⟨rfl, hb4⟩
    have HW4 := Lib.hid (btrans HW3.out hb4)
    clear hb4
    go_wp2
    go_ret2
    exact ⟨_, _, rfl, HW4.out, HN.out⟩
  rw [decide_eq_true hP2] at HDC
  have hcut : B.data.toList = U.data.toList ++ 46 :: C.data.toList ∧ (46 : UInt8) ∉ U.data.toList := by
    rcases HCV.out with ⟨_, h1, h2⟩ | ⟨_, _, _, h3⟩
    · exact ⟨h1, h2⟩
    · rw [h3] at hP2
      exact absurd rfl hP2.1
  have hform := hund_form HB.out hcut.1 hcut.2
  have hU1 : 1 ≤ U.size := by
    rw [ba_size]
    have : U.data.toList.length ≠ 0 := fun h => hP1.1 (List.eq_nil_of_length_eq_zero h)
    omega
  obtain ⟨n2, hn2⟩ : ∃ n2, C.size = n2 := ⟨_, rfl⟩
  obtain ⟨n1, hn1⟩ : ∃ n1, U.size = n1 := ⟨_, rfl⟩
  have hlC : C.data.toList.length = n2 := by rw [← ba_size]; exact hn2
  have hlU : U.data.toList.length = n1 := by rw [← ba_size]; exact hn1
  by_cases hC2 : n2 = 2
  rotate_left
  · have HN : Hid (HundV S.data.toList ⟨#[]⟩ false) := Lib.hid (Or.inr ⟨rfl, fun hf => hC2 (by rw [← hlC]; exact (hform.1 hf).2.2.1)⟩)
    have t1 : ((n2 : Int) != 2) = true := by simp only [bne_iff_ne, ne_eq]; omega
    replace HDU := Lib.hid HDU; replace HDC := Lib.hid HDC
    clear hP1 hP2 hcut hform hU1 hlC hlU hC2 hn1
    go_wp2_with fail
    refine (HDU.out _).mono ?_
    rintro e w3 ⟨rfl, hb3⟩
    have HW3 := Lib.hid (btrans HW2.out hb3)
    clear hb3
    go_wp2_with fail
    refine (HDC.out _).mono ?_
    rintro e w4 ⟨rfl, hb4⟩
    have HW4 := Lib.hid (btrans HW3.out hb4)
    clear hb4
    go_wp2
    go_ret2
    exact ⟨_, _, rfl, HW4.out, HN.out⟩
  subst hC2
  have t1 : (((2 : Nat) : Int) != 2) = false := by decide
  have gb := get_bt U
  have hU0 : (0 : Int) < (n1 : Int) := by omega
  have hh : (U.data.toList.head? = some 48) ↔ bt U 0 = 48 := by
    have h0 : 0 < U.data.toList.length := by omega
    have e1 : bt U 0 = ((U.data.toList[0]).toNat : Int) := by
      rw [← get_bt U 0 (by omega)]
      rfl
    rw [e1, List.head?_eq_getElem?, List.getElem?_eq_getElem h0, Option.some.injEq]
    constructor
    · intro h; rw [h]; rfl
    · intro h
      apply UInt8.toNat_inj.1
      have : (48 : UInt8).toNat = 48 := rfl
      omega
  by_cases hZ : bt U 0 = 48 ∧ 1 < n1
  · obtain ⟨z1, z2⟩ := hZ
    have HN : Hid (HundV S.data.toList ⟨#[]⟩ false) := Lib.hid (Or.inr ⟨rfl, fun hf => (hform.1 hf).2.2.2.1 ⟨hh.2 z1, by omega⟩⟩)
    have t2 : (1 : Int) < (n1 : Int) := by omega
    replace HDU := Lib.hid HDU; replace HDC := Lib.hid HDC
    clear hP1 hP2 hcut hform hU1 hlC hlU hh z2
    go_wp2_with fail
    refine (HDU.out _).mono ?_
    rintro e w3 ⟨rfl, hb3⟩
    have HW3 := Lib.hid (btrans HW2.out hb3)
    clear hb3
    go_wp2_with fail
    refine (HDC.out _).mono ?_
    rintro e w4 ⟨rfl, hb4⟩
    have HW4 := Lib.hid (btrans HW3.out hb4)
    clear hb4
    go_wp2
    go_ret2
    exact ⟨_, _, rfl, HW4.out, HN.out⟩
  have hZ2 : ¬ (U.data.toList.head? = some 48 ∧ 1 < U.data.toList.length) := fun h => hZ ⟨hh.1 h.1, by omega⟩
  have hz : (bt U 0 == 48) = false ∨ (bt U 0 = 48 ∧ n1 = 1) := by
    by_cases h : bt U 0 = 48
    · exact Or.inr ⟨h, by
        have : ¬ 1 < n1 := fun h2 => hZ ⟨h, h2⟩
        omega⟩
    · exact Or.inl (by simpa using h)
  have hBL := Lib.toList_data B
  have hGd := HG.out
  have s1 : ¬ 9223372036854775807 < 1 + n1 := by have := HUS.out; have := HBS.out; have := HS.out; omega
  have s2 : ¬ 9223372036854775807 < 1 + n1 + 2 := by have := HUS.out; have := HBS.out; have := HS.out; omega
  have s3 : ¬ 9223372036854775807 < n1 + 2 := by have := HUS.out; have := HBS.out; have := HS.out; omega
  obtain ⟨Q, hQ⟩ : ∃ Q, (B.toList == [48, 46, 48, 48]) = Q := ⟨_, rfl⟩
  have hQi : (B.data.toList = [48, 46, 48, 48]) ↔ Q = true := by rw [← hQ, hBL]; simp
  have hff : (G = true ∧ Q = true → ¬ ∃ neg u c1 c0, Fm neg S.data.toList u c1 c0) ∧ (¬ (G = true ∧ Q = true) → ∃ neg u c1 c0, Fm neg S.data.toList u c1 c0) := by
    constructor
    · rintro ⟨g1, q1⟩ hf
      refine (hform.1 hf).2.2.2.2 ⟨?_, hQi.2 q1⟩
      rw [← hGd] at g1
      exact of_decide_eq_true g1
    · intro h
      refine hform.2 ⟨hP1, hP2, hlC, hZ2, fun h2 => h ⟨?_, hQi.1 h2.2⟩⟩
      rw [← hGd]
      exact decide_eq_true h2.1
  replace HDU := Lib.hid HDU; replace HDC := Lib.hid HDC
  have HFF := Lib.hid hff; have HCU := Lib.hid hcut
  clear hP1 hP2 hcut hform hU1 hlC hlU hh hZ hZ2 hQi hff hBL hGd
  cases G with
  | true =>
    cases Q with
    | true =>
      have HN : Hid (HundV S.data.toList ⟨#[]⟩ false) := Lib.hid (Or.inr ⟨rfl, HFF.out.1 ⟨rfl, rfl⟩⟩)
      clear HFF
      rcases hz with z | ⟨z, rfl⟩
      all_goals
        go_wp2_with fail
        refine (HDU.out _).mono ?_
        rintro e w3 ⟨rfl, hb3⟩
        have HW3 := Lib.hid (btrans HW2.out hb3)
        clear hb3
        go_wp2_with fail
        refine (HDC.out _).mono ?_
        rintro e w4 ⟨rfl, hb4⟩
        have HW4 := Lib.hid (btrans HW3.out hb4)
        clear hb4
        go_wp2
        go_ret2
        exact ⟨_, _, rfl, HW4.out, HN.out⟩
    | false =>
      have HN : Hid (HundV S.data.toList ((⟨#[45]⟩ : ByteArray) ++ U ++ C) true) := Lib.hid (hund_num HB.out HCU.out.1 HCU.out.2 (HFF.out.2 (by simp)) (by
        rw [ba_app, ba_app, if_pos (of_decide_eq_true HG.out), List.append_assoc]))
      clear HFF
      rcases hz with z | ⟨z, rfl⟩
      all_goals
        go_wp2_with fail
        refine (HDU.out _).mono ?_
        rintro e w3 ⟨rfl, hb3⟩
        have HW3 := Lib.hid (btrans HW2.out hb3)
        clear hb3
        go_wp2_with fail
        refine (HDC.out _).mono ?_
        rintro e w4 ⟨rfl, hb4⟩
        have HW4 := Lib.hid (btrans HW3.out hb4)
        clear hb4
        go_wp2
        go_ret2
        exact ⟨_, _, rfl, HW4.out, HN.out⟩
  | false =>
    have HN : Hid (HundV S.data.toList (U ++ C) true) := Lib.hid (hund_num HB.out HCU.out.1 HCU.out.2 (HFF.out.2 (by simp)) (by
      rw [ba_app, if_neg (of_decide_eq_false HG.out)]
      rfl))
    clear HFF
    rcases hz with z | ⟨z, rfl⟩
    all_goals
      go_wp2_with fail
      refine (HDU.out _).mono ?_
      rintro e w3 ⟨rfl, hb3⟩
      have HW3 := Lib.hid (btrans HW2.out hb3)
      clear hb3
      go_wp2_with fail
      refine (HDC.out _).mono ?_
      rintro e w4 ⟨rfl, hb4⟩
      have HW4 := Lib.hid (btrans HW3.out hb4)
      clear hb4
      go_wp2
      go_ret2
      exact ⟨_, _, rfl, HW4.out, HN.out⟩
end Go.Proofs.YtempnbchiofghaaGreatDoor
