/-
  Walks: Parse of the reference.
-/
import Derived.Test.YtempnbchiofghaaGreatDoorSe
import Derived.Test.YtempnbchiofghaaGreatDoorPd
namespace Go.Proofs.YtempnbchiofghaaGreatDoor
open Go.RowKit Go.Lib Go.PlainAid
set_option linter.unusedVariables false
set_option linter.unusedSimpArgs false

theorem bt_get (S : ByteArray) (i : Nat) (x : UInt8) : S.data.toList[i]? = some x ↔ (i < S.size ∧ bt S i = (x.toNat : Int)) := by
  have hsz := ba_size S
  constructor
  · intro h
    have hi : i < S.data.toList.length := (List.getElem?_eq_some_iff.1 h).1
    refine ⟨by omega, ?_⟩
    rw [← get_bt S i (by omega)]
    rw [List.getElem?_eq_getElem hi] at h
    rw [← Option.some.inj h]
    rfl
  · rintro ⟨hi, h⟩
    rw [List.getElem?_eq_getElem (by omega)]
    rw [← get_bt S i hi] at h
    congr 1
    apply UInt8.toNat_inj.1
    have : ((S.data.toList[i]).toNat : Int) = ((S[i]'hi).toNat : Int) := rfl
    omega
theorem sat_step (a d : Nat) : min (10 * min a 9007199254740993 + d) 9007199254740993 = min (10 * a + d) 9007199254740993 := by omega

set_option maxRecDepth 100000 in
set_option maxHeartbeats 8000000 in
theorem rparse_any (S : ByteArray) (hS : S.size ≤ 1000000000000000) (C E : Int) (hP : PV S.data.toList C E) (w : World) :
    Calls Tryz.prog 26 #[.string S] w fun e w' => e = .returned (.tuple #[.int .i64 C, .int .i64 E]) ∧ w = w' := by
  have hsz := ba_size S
  obtain ⟨l, hl⟩ : ∃ l, S.data.toList = l := ⟨_, rfl⟩
  obtain ⟨m, hm⟩ : ∃ m, S.size = m := ⟨_, rfl⟩
  have hbt := bt_get S
  have gb := get_bt S
  have b0 := bt_nonneg S
  have b9 := bt_le S
  rw [hl] at hP
  simp only [hl, hm] at hbt
  rw [hl, hm] at hsz
  have HP := Lib.hid hP
  have hml : l.length = m := hsz.symm
  have hm47 : m ≤ 1000000000000000 := by omega
  obtain ⟨k, hk⟩ : ∃ k, frm l = k := ⟨_, rfl⟩
  -- the sign
  have hk01 : (k = 1 ∧ 0 < m ∧ bt S 0 = 45) ∨ (k = 0 ∧ (m = 0 ∨ (0 < m ∧ bt S 0 ≠ 45))) := by
    rw [← hk]
    unfold frm
    have e45 : ((45 : UInt8).toNat : Int) = 45 := rfl
    have h0 := hbt 0 45
    rw [e45, ← List.head?_eq_getElem?] at h0
    by_cases h : l.head? = some 45
    · rw [if_pos h]
      exact Or.inl ⟨rfl, h0.1 h⟩
    · rw [if_neg h]
      refine Or.inr ⟨rfl, ?_⟩
      rcases Nat.eq_zero_or_pos m with h2 | h2
      · exact Or.inl h2
      · exact Or.inr ⟨h2, fun h3 => h (h0.2 ⟨h2, h3⟩)⟩
  have bad : ∀ (h : ¬ ∃ neg u c1 c0, Fm neg l u c1 c0), (C, E) = ((0 : Int), (4 : Int)) := fun h => by
    obtain ⟨h1, h2⟩ := HP.out.bad h
    rw [h1, h2]
  have HK := Lib.hid hk; have HML := Lib.hid hml; have HBT := Lib.hid hbt; have HBAD := Lib.hid bad
  have w3 : IntKind.i64.wrap ((m : Int) - 3) = (m : Int) - 3 := wrap_in (by omega) (by omega)
  clear hP hsz hl hk hml hbt bad hS
  have HB0 := Lib.hid b0; have HB9 := Lib.hid b9
  clear b0 b9
  have main : ∀ (w : World) (K : Act → World → Prop), True := fun _ _ => trivial
  rcases hk01 with ⟨rfl, h0, h45⟩ | ⟨rfl, h0⟩
  · have h0' : (0 : Int) < (m : Int) := by omega
    go_enter Tryz.func26, Tryz.ntmps26
    go_upto_region 5 with (fail)
    by_cases hc1 : 1 + 4 ≤ m
    rotate_left
    · have HE : Hid ((C, E) = ((0 : Int), (4 : Int))) := Lib.hid (HBAD.out (fun hf => by
        obtain ⟨neg, u, c1, c0, hf⟩ := hf
        have h1 := fm_places hf
        rw [HML.out, HK.out] at h1
        omega))
      have t1 : (m : Int) - 3 ≤ 1 := by omega
      clear hc1
      go_wp2
      go_ret2
      have h4 := HE.out
      simp only [Prod.mk.injEq] at h4
      exact ⟨retP ⟨h4.1.symm, h4.2.symm⟩, rfl⟩
    obtain ⟨d, hd⟩ : ∃ d, m - 3 = d := ⟨_, rfl⟩
    have hmd : (m : Int) - 3 = (d : Int) := by omega
    have hdk : ¬ (d : Int) ≤ 1 := by omega
    have hd0 : (0 : Int) ≤ (d : Int) := by omega
    have hdm : (d : Int) < (m : Int) := by omega
    have hdmn : d < m := by omega
    have e46 : ((46 : UInt8).toNat : Int) = 46 := rfl
    have e48 : ((48 : UInt8).toNat : Int) = 48 := rfl
    have h46 := HBT.out d 46
    have h48 := HBT.out 1 48
    rw [e46] at h46
    rw [e48] at h48
    by_cases hc2 : bt S d = 46
    rotate_left
    · have HE : Hid ((C, E) = ((0 : Int), (4 : Int))) := Lib.hid (HBAD.out (fun hf => by
        obtain ⟨neg, u, c1, c0, hf⟩ := hf
        have h1 := (fm_places hf).2.2.1
        rw [HML.out, hd] at h1
        exact hc2 (h46.1 h1).2))
      have t2 : (bt S d != 46) = true := by simpa using hc2
      clear hc1 hc2 hd h46 h48 e46 e48
      go_wp2
      go_ret2
      have h4 := HE.out
      simp only [Prod.mk.injEq] at h4
      exact ⟨retP ⟨h4.1.symm, h4.2.symm⟩, rfl⟩
    have HD : Hid (l[d]? = some 46) := Lib.hid (h46.2 ⟨hdmn, hc2⟩)
    have t2 : ((46 : Int) != 46) = false := by decide
    by_cases hc3 : bt S 1 = 48 ∧ 1 + 1 < d
    · obtain ⟨z1, z2⟩ := hc3
      have HE : Hid ((C, E) = ((0 : Int), (4 : Int))) := Lib.hid (HBAD.out (fun hf => by
        obtain ⟨neg, u, c1, c0, hf⟩ := hf
        have h1 := (fm_places hf).2.2.2.2
        rw [HML.out, hd, HK.out] at h1
        exact h1 ⟨h48.2 ⟨by omega, z1⟩, z2⟩))
      have t3 : (1 : Int) + 1 < (d : Int) := by omega
      have t4 : (2 : Int) < (d : Int) := by omega
      clear hc1 hd h46 h48 e46 e48
      go_wp2
      go_ret2
      have h4 := HE.out
      simp only [Prod.mk.injEq] at h4
      exact ⟨retP ⟨h4.1.symm, h4.2.symm⟩, rfl⟩
    have HL : Hid (¬ (l[1]? = some 48 ∧ 1 + 1 < d)) := Lib.hid (fun h => hc3 ⟨(h48.1 h.1).2, h.2⟩)
    have hz : (bt S 1 == 48) = false ∨ (bt S 1 = 48 ∧ ¬ (1 : Int) + 1 < (d : Int)) := by
      by_cases h : bt S 1 = 48
      · exact Or.inr ⟨h, fun h2 => hc3 ⟨h, by omega⟩⟩
      · exact Or.inl (by simpa using h)
    have HDM := Lib.hid hd
    clear hc3 h46 h48 e46 e48 hd
    rcases hz with z1 | ⟨z1, z2⟩
    · skip
      go_wp2
      go_loopw [6, 7] (fun p q wr => ∃ (i : Nat) (x : Nat), 1 ≤ i ∧ i ≤ m ∧ p = .int .i64 (x : Int) ∧ q = .int .i64 (i : Int) ∧ Hid (x = min (numA 0 (dgs l i)) 9007199254740993 ∧ ∀ j y, 1 ≤ j → j < i → j ≠ d → l[j]? = some y → isD y) ∧ w = wr) (fun _ q _ => m - (intOf q).toNat)
      case atStart => exact ⟨1, 0, by omega, by omega, rfl, rfl, Lib.hid ⟨by
        have := dgs_zero l (by rw [HML.out, HK.out]; omega)
        rw [HK.out] at this
        rw [this]; rfl, fun j y h1 h2 => by omega⟩, rfl⟩
      case round =>
        obtain ⟨i, x, hik, him, rfl, rfl, HI, rfl⟩ := hrel
        by_cases hlt : i < m
        · have hlt2 : (i : Int) < (m : Int) := by omega
          by_cases hid : i = d
          · subst hid
            have t1 : ((i : Int) == (i : Int)) = true := by simp
            have HI2 : Hid (x = min (numA 0 (dgs l (i + 1))) 9007199254740993 ∧ ∀ j y, 1 ≤ j → j < i + 1 → j ≠ i → l[j]? = some y → isD y) := Lib.hid ⟨by
              have h5 := dgs_dot l (by rw [HML.out, HK.out]; omega)
              rw [HML.out, show m - 3 = i by omega] at h5
              rw [h5]
              exact HI.out.1, fun j y h1 h2 h3 h4 => HI.out.2 j y h1 (by omega) h3 h4⟩
            clear HI
            go_wp2
            go_roundw
            case rel => exact ⟨i + 1, x, by omega, by omega, rfl, by go_num, HI2, trivial⟩
            case measure => simp [intOf]; omega
          · have t1 : ((i : Int) == (d : Int)) = false := by simp only [beq_eq_false_iff_ne, ne_eq]; omega
            obtain ⟨y, hy⟩ : ∃ y, l[i]? = some y := ⟨_, List.getElem?_eq_getElem (by have := HML.out; omega)⟩
            have hby := ((HBT.out i y).1 hy).2
            obtain ⟨Y, hY⟩ : ∃ Y, y.toNat = Y := ⟨_, rfl⟩
            rw [hY] at hby
            have hY255 : Y ≤ 255 := by rw [← hY]; have := y.toNat_lt; omega
            by_cases hdg : 48 ≤ Y ∧ Y ≤ 57
            · obtain ⟨g1, g2⟩ := hdg
              have u1 : ¬ (Y : Int) < 48 := by omega
              have u2 : ¬ (57 : Int) < (Y : Int) := by omega
              have hx53 : x ≤ 9007199254740993 := by rw [HI.out.1]; omega
              have w4 : IntKind.i64.wrap (10 * (x : Int)) = 10 * (x : Int) := wrap_in (by omega) (by omega)
              obtain ⟨Z, hZ⟩ : ∃ Z, Y - 48 = Z := ⟨_, rfl⟩
              have w5 : IntKind.u8.wrap ((Y : Int) - 48) = (Z : Int) := by rw [IntKind.wrap_u8]; omega
              have w6 : IntKind.i64.wrap (Z : Int) = (Z : Int) := wrap_in (by omega) (by omega)
              have w7 : IntKind.i64.wrap (10 * (x : Int) + (Z : Int)) = 10 * (x : Int) + (Z : Int) := wrap_in (by omega) (by omega)
              obtain ⟨x2, hx2⟩ : ∃ x2, min (10 * x + Z) 9007199254740993 = x2 := ⟨_, rfl⟩
              have w8 : min (10 * (x : Int) + (Z : Int)) 9007199254740993 = (x2 : Int) := by omega
              have w9 : (if (9007199254740993 : Int) < 10 * (x : Int) + (Z : Int) then (9007199254740993 : Int) else 10 * (x : Int) + (Z : Int)) = (x2 : Int) := by split <;> omega
              have HI2 : Hid (x2 = min (numA 0 (dgs l (i + 1))) 9007199254740993 ∧ ∀ j y, 1 ≤ j → j < i + 1 → j ≠ d → l[j]? = some y → isD y) := Lib.hid ⟨by
                rw [dgs_step (by rw [HML.out, HK.out]; omega) (by rw [HK.out]; omega) (by rw [HML.out]; omega) hy, numA_app]
                show x2 = min (10 * numA 0 (dgs l i) + (y.toNat - 48)) 9007199254740993
                rw [hY, hZ, ← sat_step, ← HI.out.1, hx2], fun j z h1 h2 h3 h4 => by
                  rcases Nat.lt_or_ge j i with h5 | h5
                  · exact HI.out.2 j z h1 h5 h3 h4
                  · obtain rfl : j = i := by omega
                    rw [hy] at h4
                    cases h4
                    exact ⟨by omega, by omega⟩⟩
              have HW8 := Lib.hid w8; have HW9 := Lib.hid w9
              clear HI hy hY hZ hx2 hid w8 w9
              go_wp2
              go_roundw
              case rel => exact ⟨i + 1, x2, by omega, by omega, congrArg (Value.int IntKind.i64) (by have h8 := HW8.out; have h9 := HW9.out; first | exact h8 | exact h9 | omega), by go_num, HI2, trivial⟩
              case measure => simp [intOf]; omega
            · have HE : Hid ((C, E) = ((0 : Int), (4 : Int))) := Lib.hid (HBAD.out (fun hf => by
                obtain ⟨neg, u, c1, c0, hf⟩ := hf
                have := (fm_places hf).2.2.2.1 i y (by rw [HK.out]; omega) (by rw [HML.out]; omega) hy
                unfold isD at this
                omega))
              clear HI hy hY hid
              rcases (show (Y : Int) < 48 ∨ (¬ (Y : Int) < 48 ∧ (57 : Int) < (Y : Int)) by omega) with u1 | ⟨u1, u2⟩
              · skip
                go_wp2
                go_ret2
                have h4 := HE.out
                simp only [Prod.mk.injEq] at h4
                exact ⟨retP ⟨h4.1.symm, h4.2.symm⟩, rfl⟩
              · skip
                go_wp2
                go_ret2
                have h4 := HE.out
                simp only [Prod.mk.injEq] at h4
                exact ⟨retP ⟨h4.1.symm, h4.2.symm⟩, rfl⟩
        · obtain rfl : i = m := by omega
          have hlt2 : ¬ ((i : Int) < (i : Int)) := by omega
          obtain ⟨u, c1, c0, hdd, hfm⟩ := fm_of_places (l := l) (by rw [HML.out, HK.out]; omega) (by rw [HML.out, show i - 3 = d by omega]; exact HD.out) (fun j y h1 h2 h3 => HI.out.2 j y (by rw [HK.out] at h1; exact h1) (by have := (List.getElem?_eq_some_iff.1 h3).1; rw [HML.out] at this; exact this) (by rw [HML.out] at h2; omega) h3) (by rw [HML.out, HK.out, show i - 3 = d by omega]; exact HL.out)
          have hx := HI.out.1
          have hdd2 : dgs l i = u ++ [c1, c0] := by rw [← HML.out]; exact hdd
          rw [hdd2] at hx
          obtain ⟨M, hM⟩ : ∃ M, numA 0 (u ++ [c1, c0]) = M := ⟨_, rfl⟩
          rw [hM] at hx hfm
          have hpv : ∀ neg, Fm neg l u c1 c0 → (C, E) = resP neg M := fun neg hf => by rw [← hM]; exact HP.out.good hf
          have hh45 : l.head? = some 45 := by
            have := HK.out
            unfold frm at this
            by_cases h : l.head? = some 45
            · exact h
            · rw [if_neg h] at this; omega
          by_cases hM0 : M = 0
          · subst hM0
            have hx0 : x = 0 := by omega
            subst hx0
            have HE : Hid ((C, E) = ((0 : Int), (4 : Int))) := Lib.hid (HBAD.out (fun hf => by
              obtain ⟨neg', u', c1', c0', hf'⟩ := hf
              have hz := hf'.zero (by rw [hf'.sign]; exact decide_eq_true hh45)
              have he := hf'.eq
              have hpl := fm_places hf'
              have hg : dgs l l.length = u' ++ [c1', c0'] := by
                obtain ⟨u2, d1, d0, hdd', hfm'⟩ := fm_of_places (l := l) (by rw [HK.out]; rw [HK.out] at hpl; omega) hpl.2.2.1 hpl.2.2.2.1 hpl.2.2.2.2
                by_cases hz2 : l.head? = some 45 ∧ numA 0 (u2 ++ [d1, d0]) = 0
                · exfalso
                  have hsame : Fm true l u' c1' c0' := by
                    have := hf'
                    rw [show neg' = true by rw [hf'.sign]; exact decide_eq_true hh45] at this
                    exact this
                  have hb : l = [45] ++ u' ++ [46, c1', c0'] := hsame.eq
                  have hul : u'.length + 4 = l.length := by rw [hb]; simp
                  have hdg2 : dgs l l.length = u' ++ [c1', c0'] := by
                    unfold dgs
                    rw [if_neg (by omega), HK.out, hb]
                    simp
                  rw [hdg2] at hdd'
                  rw [← hdd'] at hz2
                  exact hz hz2.2
                · have hf2 := hfm' hz2
                  obtain ⟨_, e1, e2, e3⟩ := hf'.unique hf2
                  rw [e1, e2, e3]
                  exact hdd'
              rw [HML.out, hdd2] at hg
              rw [← hg, hM] at hz
              exact hz rfl))
            clear HI hdd hfm hx hdd2 hM hpv hh45
            go_wp2
            go_ret2
            have h4 := HE.out
            simp only [Prod.mk.injEq] at h4
            exact ⟨retP ⟨h4.1.symm, h4.2.symm⟩, rfl⟩
          · have hce := hpv true (by
              have := hfm (fun h => hM0 h.2)
              rw [decide_eq_true hh45] at this
              exact this)
            have t0 : ((x : Int) == 0) = false := by simp only [beq_eq_false_iff_ne, ne_eq]; omega
            by_cases hov : M ≤ 9007199254740992
            · have hxM : x = M := by omega
              have HE : Hid ((C, E) = (-(x : Int), (0 : Int))) := Lib.hid (by rw [hce, hxM]; unfold resP; rw [if_pos hov]; rfl)
              have u3 : ¬ (9007199254740992 : Int) < (x : Int) := by omega
              have w4 : IntKind.i64.wrap (-(x : Int)) = -(x : Int) := wrap_in (by omega) (by omega)
              clear HI hdd hfm hx hdd2 hM hpv hh45 hce hov hxM hM0
              go_wp2
              go_ret2
              have h4 := HE.out
              simp only [Prod.mk.injEq] at h4
              exact ⟨retP ⟨h4.1.symm, h4.2.symm⟩, rfl⟩
            · have u3 : (9007199254740992 : Int) < (x : Int) := by omega
              have HE : Hid ((C, E) = ((0 : Int), (3 : Int))) := Lib.hid (by rw [hce]; unfold resP; rw [if_neg hov])
              clear HI hdd hfm hx hdd2 hM hpv hh45 hce hov hM0
              go_wp2
              go_ret2
              have h4 := HE.out
              simp only [Prod.mk.injEq] at h4
              exact ⟨retP ⟨h4.1.symm, h4.2.symm⟩, rfl⟩

    · have z3 : ¬ (2 : Int) < (d : Int) := by omega
      go_wp2
      go_loopw [6, 7] (fun p q wr => ∃ (i : Nat) (x : Nat), 1 ≤ i ∧ i ≤ m ∧ p = .int .i64 (x : Int) ∧ q = .int .i64 (i : Int) ∧ Hid (x = min (numA 0 (dgs l i)) 9007199254740993 ∧ ∀ j y, 1 ≤ j → j < i → j ≠ d → l[j]? = some y → isD y) ∧ w = wr) (fun _ q _ => m - (intOf q).toNat)
      case atStart => exact ⟨1, 0, by omega, by omega, rfl, rfl, Lib.hid ⟨by
        have := dgs_zero l (by rw [HML.out, HK.out]; omega)
        rw [HK.out] at this
        rw [this]; rfl, fun j y h1 h2 => by omega⟩, rfl⟩
      case round =>
        obtain ⟨i, x, hik, him, rfl, rfl, HI, rfl⟩ := hrel
        by_cases hlt : i < m
        · have hlt2 : (i : Int) < (m : Int) := by omega
          by_cases hid : i = d
          · subst hid
            have t1 : ((i : Int) == (i : Int)) = true := by simp
            have HI2 : Hid (x = min (numA 0 (dgs l (i + 1))) 9007199254740993 ∧ ∀ j y, 1 ≤ j → j < i + 1 → j ≠ i → l[j]? = some y → isD y) := Lib.hid ⟨by
              have h5 := dgs_dot l (by rw [HML.out, HK.out]; omega)
              rw [HML.out, show m - 3 = i by omega] at h5
              rw [h5]
              exact HI.out.1, fun j y h1 h2 h3 h4 => HI.out.2 j y h1 (by omega) h3 h4⟩
            clear HI
            go_wp2
            go_roundw
            case rel => exact ⟨i + 1, x, by omega, by omega, rfl, by go_num, HI2, trivial⟩
            case measure => simp [intOf]; omega
          · have t1 : ((i : Int) == (d : Int)) = false := by simp only [beq_eq_false_iff_ne, ne_eq]; omega
            obtain ⟨y, hy⟩ : ∃ y, l[i]? = some y := ⟨_, List.getElem?_eq_getElem (by have := HML.out; omega)⟩
            have hby := ((HBT.out i y).1 hy).2
            obtain ⟨Y, hY⟩ : ∃ Y, y.toNat = Y := ⟨_, rfl⟩
            rw [hY] at hby
            have hY255 : Y ≤ 255 := by rw [← hY]; have := y.toNat_lt; omega
            by_cases hdg : 48 ≤ Y ∧ Y ≤ 57
            · obtain ⟨g1, g2⟩ := hdg
              have u1 : ¬ (Y : Int) < 48 := by omega
              have u2 : ¬ (57 : Int) < (Y : Int) := by omega
              have hx53 : x ≤ 9007199254740993 := by rw [HI.out.1]; omega
              have w4 : IntKind.i64.wrap (10 * (x : Int)) = 10 * (x : Int) := wrap_in (by omega) (by omega)
              obtain ⟨Z, hZ⟩ : ∃ Z, Y - 48 = Z := ⟨_, rfl⟩
              have w5 : IntKind.u8.wrap ((Y : Int) - 48) = (Z : Int) := by rw [IntKind.wrap_u8]; omega
              have w6 : IntKind.i64.wrap (Z : Int) = (Z : Int) := wrap_in (by omega) (by omega)
              have w7 : IntKind.i64.wrap (10 * (x : Int) + (Z : Int)) = 10 * (x : Int) + (Z : Int) := wrap_in (by omega) (by omega)
              obtain ⟨x2, hx2⟩ : ∃ x2, min (10 * x + Z) 9007199254740993 = x2 := ⟨_, rfl⟩
              have w8 : min (10 * (x : Int) + (Z : Int)) 9007199254740993 = (x2 : Int) := by omega
              have w9 : (if (9007199254740993 : Int) < 10 * (x : Int) + (Z : Int) then (9007199254740993 : Int) else 10 * (x : Int) + (Z : Int)) = (x2 : Int) := by split <;> omega
              have HI2 : Hid (x2 = min (numA 0 (dgs l (i + 1))) 9007199254740993 ∧ ∀ j y, 1 ≤ j → j < i + 1 → j ≠ d → l[j]? = some y → isD y) := Lib.hid ⟨by
                rw [dgs_step (by rw [HML.out, HK.out]; omega) (by rw [HK.out]; omega) (by rw [HML.out]; omega) hy, numA_app]
                show x2 = min (10 * numA 0 (dgs l i) + (y.toNat - 48)) 9007199254740993
                rw [hY, hZ, ← sat_step, ← HI.out.1, hx2], fun j z h1 h2 h3 h4 => by
                  rcases Nat.lt_or_ge j i with h5 | h5
                  · exact HI.out.2 j z h1 h5 h3 h4
                  · obtain rfl : j = i := by omega
                    rw [hy] at h4
                    cases h4
                    exact ⟨by omega, by omega⟩⟩
              have HW8 := Lib.hid w8; have HW9 := Lib.hid w9
              clear HI hy hY hZ hx2 hid w8 w9
              go_wp2
              go_roundw
              case rel => exact ⟨i + 1, x2, by omega, by omega, congrArg (Value.int IntKind.i64) (by have h8 := HW8.out; have h9 := HW9.out; first | exact h8 | exact h9 | omega), by go_num, HI2, trivial⟩
              case measure => simp [intOf]; omega
            · have HE : Hid ((C, E) = ((0 : Int), (4 : Int))) := Lib.hid (HBAD.out (fun hf => by
                obtain ⟨neg, u, c1, c0, hf⟩ := hf
                have := (fm_places hf).2.2.2.1 i y (by rw [HK.out]; omega) (by rw [HML.out]; omega) hy
                unfold isD at this
                omega))
              clear HI hy hY hid
              rcases (show (Y : Int) < 48 ∨ (¬ (Y : Int) < 48 ∧ (57 : Int) < (Y : Int)) by omega) with u1 | ⟨u1, u2⟩
              · skip
                go_wp2
                go_ret2
                have h4 := HE.out
                simp only [Prod.mk.injEq] at h4
                exact ⟨retP ⟨h4.1.symm, h4.2.symm⟩, rfl⟩
              · skip
                go_wp2
                go_ret2
                have h4 := HE.out
                simp only [Prod.mk.injEq] at h4
                exact ⟨retP ⟨h4.1.symm, h4.2.symm⟩, rfl⟩
        · obtain rfl : i = m := by omega
          have hlt2 : ¬ ((i : Int) < (i : Int)) := by omega
          obtain ⟨u, c1, c0, hdd, hfm⟩ := fm_of_places (l := l) (by rw [HML.out, HK.out]; omega) (by rw [HML.out, show i - 3 = d by omega]; exact HD.out) (fun j y h1 h2 h3 => HI.out.2 j y (by rw [HK.out] at h1; exact h1) (by have := (List.getElem?_eq_some_iff.1 h3).1; rw [HML.out] at this; exact this) (by rw [HML.out] at h2; omega) h3) (by rw [HML.out, HK.out, show i - 3 = d by omega]; exact HL.out)
          have hx := HI.out.1
          have hdd2 : dgs l i = u ++ [c1, c0] := by rw [← HML.out]; exact hdd
          rw [hdd2] at hx
          obtain ⟨M, hM⟩ : ∃ M, numA 0 (u ++ [c1, c0]) = M := ⟨_, rfl⟩
          rw [hM] at hx hfm
          have hpv : ∀ neg, Fm neg l u c1 c0 → (C, E) = resP neg M := fun neg hf => by rw [← hM]; exact HP.out.good hf
          have hh45 : l.head? = some 45 := by
            have := HK.out
            unfold frm at this
            by_cases h : l.head? = some 45
            · exact h
            · rw [if_neg h] at this; omega
          by_cases hM0 : M = 0
          · subst hM0
            have hx0 : x = 0 := by omega
            subst hx0
            have HE : Hid ((C, E) = ((0 : Int), (4 : Int))) := Lib.hid (HBAD.out (fun hf => by
              obtain ⟨neg', u', c1', c0', hf'⟩ := hf
              have hz := hf'.zero (by rw [hf'.sign]; exact decide_eq_true hh45)
              have he := hf'.eq
              have hpl := fm_places hf'
              have hg : dgs l l.length = u' ++ [c1', c0'] := by
                obtain ⟨u2, d1, d0, hdd', hfm'⟩ := fm_of_places (l := l) (by rw [HK.out]; rw [HK.out] at hpl; omega) hpl.2.2.1 hpl.2.2.2.1 hpl.2.2.2.2
                by_cases hz2 : l.head? = some 45 ∧ numA 0 (u2 ++ [d1, d0]) = 0
                · exfalso
                  have hsame : Fm true l u' c1' c0' := by
                    have := hf'
                    rw [show neg' = true by rw [hf'.sign]; exact decide_eq_true hh45] at this
                    exact this
                  have hb : l = [45] ++ u' ++ [46, c1', c0'] := hsame.eq
                  have hul : u'.length + 4 = l.length := by rw [hb]; simp
                  have hdg2 : dgs l l.length = u' ++ [c1', c0'] := by
                    unfold dgs
                    rw [if_neg (by omega), HK.out, hb]
                    simp
                  rw [hdg2] at hdd'
                  rw [← hdd'] at hz2
                  exact hz hz2.2
                · have hf2 := hfm' hz2
                  obtain ⟨_, e1, e2, e3⟩ := hf'.unique hf2
                  rw [e1, e2, e3]
                  exact hdd'
              rw [HML.out, hdd2] at hg
              rw [← hg, hM] at hz
              exact hz rfl))
            clear HI hdd hfm hx hdd2 hM hpv hh45
            go_wp2
            go_ret2
            have h4 := HE.out
            simp only [Prod.mk.injEq] at h4
            exact ⟨retP ⟨h4.1.symm, h4.2.symm⟩, rfl⟩
          · have hce := hpv true (by
              have := hfm (fun h => hM0 h.2)
              rw [decide_eq_true hh45] at this
              exact this)
            have t0 : ((x : Int) == 0) = false := by simp only [beq_eq_false_iff_ne, ne_eq]; omega
            by_cases hov : M ≤ 9007199254740992
            · have hxM : x = M := by omega
              have HE : Hid ((C, E) = (-(x : Int), (0 : Int))) := Lib.hid (by rw [hce, hxM]; unfold resP; rw [if_pos hov]; rfl)
              have u3 : ¬ (9007199254740992 : Int) < (x : Int) := by omega
              have w4 : IntKind.i64.wrap (-(x : Int)) = -(x : Int) := wrap_in (by omega) (by omega)
              clear HI hdd hfm hx hdd2 hM hpv hh45 hce hov hxM hM0
              go_wp2
              go_ret2
              have h4 := HE.out
              simp only [Prod.mk.injEq] at h4
              exact ⟨retP ⟨h4.1.symm, h4.2.symm⟩, rfl⟩
            · have u3 : (9007199254740992 : Int) < (x : Int) := by omega
              have HE : Hid ((C, E) = ((0 : Int), (3 : Int))) := Lib.hid (by rw [hce]; unfold resP; rw [if_neg hov])
              clear HI hdd hfm hx hdd2 hM hpv hh45 hce hov hM0
              go_wp2
              go_ret2
              have h4 := HE.out
              simp only [Prod.mk.injEq] at h4
              exact ⟨retP ⟨h4.1.symm, h4.2.symm⟩, rfl⟩

  · rcases h0 with rfl | ⟨h0, h45⟩
    · have HE : Hid ((C, E) = ((0 : Int), (4 : Int))) := Lib.hid (HBAD.out (fun hf => by
        obtain ⟨neg, u, c1, c0, hf⟩ := hf
        have h1 := fm_places hf
        rw [HML.out] at h1
        omega))
      go_enter Tryz.func26, Tryz.ntmps26
      go_wp2
      go_ret2
      have h4 := HE.out
      simp only [Prod.mk.injEq] at h4
      exact ⟨retP ⟨h4.1.symm, h4.2.symm⟩, rfl⟩
    · have h0' : (0 : Int) < (m : Int) := by omega
      have h45' : (bt S 0 == 45) = false := by simpa using h45
      clear h45
      go_enter Tryz.func26, Tryz.ntmps26
      go_upto_region 5 with (fail)
      by_cases hc1 : 0 + 4 ≤ m
      rotate_left
      · have HE : Hid ((C, E) = ((0 : Int), (4 : Int))) := Lib.hid (HBAD.out (fun hf => by
          obtain ⟨neg, u, c1, c0, hf⟩ := hf
          have h1 := fm_places hf
          rw [HML.out, HK.out] at h1
          omega))
        have t1 : (m : Int) - 3 ≤ 0 := by omega
        clear hc1
        go_wp2
        go_ret2
        have h4 := HE.out
        simp only [Prod.mk.injEq] at h4
        exact ⟨retP ⟨h4.1.symm, h4.2.symm⟩, rfl⟩
      obtain ⟨d, hd⟩ : ∃ d, m - 3 = d := ⟨_, rfl⟩
      have hmd : (m : Int) - 3 = (d : Int) := by omega
      have hdk : ¬ (d : Int) ≤ 0 := by omega
      have hd0 : (0 : Int) ≤ (d : Int) := by omega
      have hdm : (d : Int) < (m : Int) := by omega
      have hdmn : d < m := by omega
      have e46 : ((46 : UInt8).toNat : Int) = 46 := rfl
      have e48 : ((48 : UInt8).toNat : Int) = 48 := rfl
      have h46 := HBT.out d 46
      have h48 := HBT.out 0 48
      rw [e46] at h46
      rw [e48] at h48
      by_cases hc2 : bt S d = 46
      rotate_left
      · have HE : Hid ((C, E) = ((0 : Int), (4 : Int))) := Lib.hid (HBAD.out (fun hf => by
          obtain ⟨neg, u, c1, c0, hf⟩ := hf
          have h1 := (fm_places hf).2.2.1
          rw [HML.out, hd] at h1
          exact hc2 (h46.1 h1).2))
        have t2 : (bt S d != 46) = true := by simpa using hc2
        clear hc1 hc2 hd h46 h48 e46 e48
        go_wp2
        go_ret2
        have h4 := HE.out
        simp only [Prod.mk.injEq] at h4
        exact ⟨retP ⟨h4.1.symm, h4.2.symm⟩, rfl⟩
      have HD : Hid (l[d]? = some 46) := Lib.hid (h46.2 ⟨hdmn, hc2⟩)
      have t2 : ((46 : Int) != 46) = false := by decide
      by_cases hc3 : bt S 0 = 48 ∧ 0 + 1 < d
      · obtain ⟨z1, z2⟩ := hc3
        have HE : Hid ((C, E) = ((0 : Int), (4 : Int))) := Lib.hid (HBAD.out (fun hf => by
          obtain ⟨neg, u, c1, c0, hf⟩ := hf
          have h1 := (fm_places hf).2.2.2.2
          rw [HML.out, hd, HK.out] at h1
          exact h1 ⟨h48.2 ⟨by omega, z1⟩, z2⟩))
        have t3 : (0 : Int) + 1 < (d : Int) := by omega
        have t4 : (1 : Int) < (d : Int) := by omega
        clear hc1 hd h46 h48 e46 e48
        go_wp2
        go_ret2
        have h4 := HE.out
        simp only [Prod.mk.injEq] at h4
        exact ⟨retP ⟨h4.1.symm, h4.2.symm⟩, rfl⟩
      have HL : Hid (¬ (l[0]? = some 48 ∧ 0 + 1 < d)) := Lib.hid (fun h => hc3 ⟨(h48.1 h.1).2, h.2⟩)
      have hz : (bt S 0 == 48) = false ∨ (bt S 0 = 48 ∧ ¬ (0 : Int) + 1 < (d : Int)) := by
        by_cases h : bt S 0 = 48
        · exact Or.inr ⟨h, fun h2 => hc3 ⟨h, by omega⟩⟩
        · exact Or.inl (by simpa using h)
      have HDM := Lib.hid hd
      clear hc3 h46 h48 e46 e48 hd
      rcases hz with z1 | ⟨z1, z2⟩
      · skip
        go_wp2
        go_loopw [6, 7] (fun p q wr => ∃ (i : Nat) (x : Nat), 0 ≤ i ∧ i ≤ m ∧ p = .int .i64 (x : Int) ∧ q = .int .i64 (i : Int) ∧ Hid (x = min (numA 0 (dgs l i)) 9007199254740993 ∧ ∀ j y, 0 ≤ j → j < i → j ≠ d → l[j]? = some y → isD y) ∧ w = wr) (fun _ q _ => m - (intOf q).toNat)
        case atStart => exact ⟨0, 0, by omega, by omega, rfl, rfl, Lib.hid ⟨by
          have := dgs_zero l (by rw [HML.out, HK.out]; omega)
          rw [HK.out] at this
          rw [this]; rfl, fun j y h1 h2 => by omega⟩, rfl⟩
        case round =>
          obtain ⟨i, x, hik, him, rfl, rfl, HI, rfl⟩ := hrel
          by_cases hlt : i < m
          · have hlt2 : (i : Int) < (m : Int) := by omega
            by_cases hid : i = d
            · subst hid
              have t1 : ((i : Int) == (i : Int)) = true := by simp
              have HI2 : Hid (x = min (numA 0 (dgs l (i + 1))) 9007199254740993 ∧ ∀ j y, 0 ≤ j → j < i + 1 → j ≠ i → l[j]? = some y → isD y) := Lib.hid ⟨by
                have h5 := dgs_dot l (by rw [HML.out, HK.out]; omega)
                rw [HML.out, show m - 3 = i by omega] at h5
                rw [h5]
                exact HI.out.1, fun j y h1 h2 h3 h4 => HI.out.2 j y h1 (by omega) h3 h4⟩
              clear HI
              go_wp2
              go_roundw
              case rel => exact ⟨i + 1, x, by omega, by omega, rfl, by go_num, HI2, trivial⟩
              case measure => simp [intOf]; omega
            · have t1 : ((i : Int) == (d : Int)) = false := by simp only [beq_eq_false_iff_ne, ne_eq]; omega
              obtain ⟨y, hy⟩ : ∃ y, l[i]? = some y := ⟨_, List.getElem?_eq_getElem (by have := HML.out; omega)⟩
              have hby := ((HBT.out i y).1 hy).2
              obtain ⟨Y, hY⟩ : ∃ Y, y.toNat = Y := ⟨_, rfl⟩
              rw [hY] at hby
              have hY255 : Y ≤ 255 := by rw [← hY]; have := y.toNat_lt; omega
              by_cases hdg : 48 ≤ Y ∧ Y ≤ 57
              · obtain ⟨g1, g2⟩ := hdg
                have u1 : ¬ (Y : Int) < 48 := by omega
                have u2 : ¬ (57 : Int) < (Y : Int) := by omega
                have hx53 : x ≤ 9007199254740993 := by rw [HI.out.1]; omega
                have w4 : IntKind.i64.wrap (10 * (x : Int)) = 10 * (x : Int) := wrap_in (by omega) (by omega)
                obtain ⟨Z, hZ⟩ : ∃ Z, Y - 48 = Z := ⟨_, rfl⟩
                have w5 : IntKind.u8.wrap ((Y : Int) - 48) = (Z : Int) := by rw [IntKind.wrap_u8]; omega
                have w6 : IntKind.i64.wrap (Z : Int) = (Z : Int) := wrap_in (by omega) (by omega)
                have w7 : IntKind.i64.wrap (10 * (x : Int) + (Z : Int)) = 10 * (x : Int) + (Z : Int) := wrap_in (by omega) (by omega)
                obtain ⟨x2, hx2⟩ : ∃ x2, min (10 * x + Z) 9007199254740993 = x2 := ⟨_, rfl⟩
                have w8 : min (10 * (x : Int) + (Z : Int)) 9007199254740993 = (x2 : Int) := by omega
                have w9 : (if (9007199254740993 : Int) < 10 * (x : Int) + (Z : Int) then (9007199254740993 : Int) else 10 * (x : Int) + (Z : Int)) = (x2 : Int) := by split <;> omega
                have HI2 : Hid (x2 = min (numA 0 (dgs l (i + 1))) 9007199254740993 ∧ ∀ j y, 0 ≤ j → j < i + 1 → j ≠ d → l[j]? = some y → isD y) := Lib.hid ⟨by
                  rw [dgs_step (by rw [HML.out, HK.out]; omega) (by rw [HK.out]; omega) (by rw [HML.out]; omega) hy, numA_app]
                  show x2 = min (10 * numA 0 (dgs l i) + (y.toNat - 48)) 9007199254740993
                  rw [hY, hZ, ← sat_step, ← HI.out.1, hx2], fun j z h1 h2 h3 h4 => by
                    rcases Nat.lt_or_ge j i with h5 | h5
                    · exact HI.out.2 j z h1 h5 h3 h4
                    · obtain rfl : j = i := by omega
                      rw [hy] at h4
                      cases h4
                      exact ⟨by omega, by omega⟩⟩
                have HW8 := Lib.hid w8; have HW9 := Lib.hid w9
                clear HI hy hY hZ hx2 hid w8 w9
                go_wp2
                go_roundw
                case rel => exact ⟨i + 1, x2, by omega, by omega, congrArg (Value.int IntKind.i64) (by have h8 := HW8.out; have h9 := HW9.out; first | exact h8 | exact h9 | omega), by go_num, HI2, trivial⟩
                case measure => simp [intOf]; omega
              · have HE : Hid ((C, E) = ((0 : Int), (4 : Int))) := Lib.hid (HBAD.out (fun hf => by
                  obtain ⟨neg, u, c1, c0, hf⟩ := hf
                  have := (fm_places hf).2.2.2.1 i y (by rw [HK.out]; omega) (by rw [HML.out]; omega) hy
                  unfold isD at this
                  omega))
                clear HI hy hY hid
                rcases (show (Y : Int) < 48 ∨ (¬ (Y : Int) < 48 ∧ (57 : Int) < (Y : Int)) by omega) with u1 | ⟨u1, u2⟩
                · skip
                  go_wp2
                  go_ret2
                  have h4 := HE.out
                  simp only [Prod.mk.injEq] at h4
                  exact ⟨retP ⟨h4.1.symm, h4.2.symm⟩, rfl⟩
                · skip
                  go_wp2
                  go_ret2
                  have h4 := HE.out
                  simp only [Prod.mk.injEq] at h4
                  exact ⟨retP ⟨h4.1.symm, h4.2.symm⟩, rfl⟩
          · obtain rfl : i = m := by omega
            have hlt2 : ¬ ((i : Int) < (i : Int)) := by omega
            obtain ⟨u, c1, c0, hdd, hfm⟩ := fm_of_places (l := l) (by rw [HML.out, HK.out]; omega) (by rw [HML.out, show i - 3 = d by omega]; exact HD.out) (fun j y h1 h2 h3 => HI.out.2 j y (by rw [HK.out] at h1; exact h1) (by have := (List.getElem?_eq_some_iff.1 h3).1; rw [HML.out] at this; exact this) (by rw [HML.out] at h2; omega) h3) (by rw [HML.out, HK.out, show i - 3 = d by omega]; exact HL.out)
            have hx := HI.out.1
            have hdd2 : dgs l i = u ++ [c1, c0] := by rw [← HML.out]; exact hdd
            rw [hdd2] at hx
            obtain ⟨M, hM⟩ : ∃ M, numA 0 (u ++ [c1, c0]) = M := ⟨_, rfl⟩
            rw [hM] at hx hfm
            have hpv : ∀ neg, Fm neg l u c1 c0 → (C, E) = resP neg M := fun neg hf => by rw [← hM]; exact HP.out.good hf
            have hh45 : ¬ l.head? = some 45 := by
              intro h
              have := HK.out
              unfold frm at this
              rw [if_pos h] at this
              omega
            have hce := hpv false (by
              have := hfm (fun h => hh45 h.1)
              rw [decide_eq_false hh45] at this
              exact this)
            by_cases hov : M ≤ 9007199254740992
            · have hxM : x = M := by omega
              have HE : Hid ((C, E) = ((x : Int), (0 : Int))) := Lib.hid (by rw [hce, hxM]; unfold resP; rw [if_pos hov]; rfl)
              have u3 : ¬ (9007199254740992 : Int) < (x : Int) := by omega
              clear HI hdd hfm hx hdd2 hM hpv hh45 hce hov hxM
              go_wp2
              go_ret2
              have h4 := HE.out
              simp only [Prod.mk.injEq] at h4
              exact ⟨retP ⟨h4.1.symm, h4.2.symm⟩, rfl⟩
            · have u3 : (9007199254740992 : Int) < (x : Int) := by omega
              have HE : Hid ((C, E) = ((0 : Int), (3 : Int))) := Lib.hid (by rw [hce]; unfold resP; rw [if_neg hov])
              clear HI hdd hfm hx hdd2 hM hpv hh45 hce hov
              go_wp2
              go_ret2
              have h4 := HE.out
              simp only [Prod.mk.injEq] at h4
              exact ⟨retP ⟨h4.1.symm, h4.2.symm⟩, rfl⟩

      · have z3 : ¬ (1 : Int) < (d : Int) := by omega
        go_wp2
        go_loopw [6, 7] (fun p q wr => ∃ (i : Nat) (x : Nat), 0 ≤ i ∧ i ≤ m ∧ p = .int .i64 (x : Int) ∧ q = .int .i64 (i : Int) ∧ Hid (x = min (numA 0 (dgs l i)) 9007199254740993 ∧ ∀ j y, 0 ≤ j → j < i → j ≠ d → l[j]? = some y → isD y) ∧ w = wr) (fun _ q _ => m - (intOf q).toNat)
        case atStart => exact ⟨0, 0, by omega, by omega, rfl, rfl, Lib.hid ⟨by
          have := dgs_zero l (by rw [HML.out, HK.out]; omega)
          rw [HK.out] at this
          rw [this]; rfl, fun j y h1 h2 => by omega⟩, rfl⟩
        case round =>
          obtain ⟨i, x, hik, him, rfl, rfl, HI, rfl⟩ := hrel
          by_cases hlt : i < m
          · have hlt2 : (i : Int) < (m : Int) := by omega
            by_cases hid : i = d
            · subst hid
              have t1 : ((i : Int) == (i : Int)) = true := by simp
              have HI2 : Hid (x = min (numA 0 (dgs l (i + 1))) 9007199254740993 ∧ ∀ j y, 0 ≤ j → j < i + 1 → j ≠ i → l[j]? = some y → isD y) := Lib.hid ⟨by
                have h5 := dgs_dot l (by rw [HML.out, HK.out]; omega)
                rw [HML.out, show m - 3 = i by omega] at h5
                rw [h5]
                exact HI.out.1, fun j y h1 h2 h3 h4 => HI.out.2 j y h1 (by omega) h3 h4⟩
              clear HI
              go_wp2
              go_roundw
              case rel => exact ⟨i + 1, x, by omega, by omega, rfl, by go_num, HI2, trivial⟩
              case measure => simp [intOf]; omega
            · have t1 : ((i : Int) == (d : Int)) = false := by simp only [beq_eq_false_iff_ne, ne_eq]; omega
              obtain ⟨y, hy⟩ : ∃ y, l[i]? = some y := ⟨_, List.getElem?_eq_getElem (by have := HML.out; omega)⟩
              have hby := ((HBT.out i y).1 hy).2
              obtain ⟨Y, hY⟩ : ∃ Y, y.toNat = Y := ⟨_, rfl⟩
              rw [hY] at hby
              have hY255 : Y ≤ 255 := by rw [← hY]; have := y.toNat_lt; omega
              by_cases hdg : 48 ≤ Y ∧ Y ≤ 57
              · obtain ⟨g1, g2⟩ := hdg
                have u1 : ¬ (Y : Int) < 48 := by omega
                have u2 : ¬ (57 : Int) < (Y : Int) := by omega
                have hx53 : x ≤ 9007199254740993 := by rw [HI.out.1]; omega
                have w4 : IntKind.i64.wrap (10 * (x : Int)) = 10 * (x : Int) := wrap_in (by omega) (by omega)
                obtain ⟨Z, hZ⟩ : ∃ Z, Y - 48 = Z := ⟨_, rfl⟩
                have w5 : IntKind.u8.wrap ((Y : Int) - 48) = (Z : Int) := by rw [IntKind.wrap_u8]; omega
                have w6 : IntKind.i64.wrap (Z : Int) = (Z : Int) := wrap_in (by omega) (by omega)
                have w7 : IntKind.i64.wrap (10 * (x : Int) + (Z : Int)) = 10 * (x : Int) + (Z : Int) := wrap_in (by omega) (by omega)
                obtain ⟨x2, hx2⟩ : ∃ x2, min (10 * x + Z) 9007199254740993 = x2 := ⟨_, rfl⟩
                have w8 : min (10 * (x : Int) + (Z : Int)) 9007199254740993 = (x2 : Int) := by omega
                have w9 : (if (9007199254740993 : Int) < 10 * (x : Int) + (Z : Int) then (9007199254740993 : Int) else 10 * (x : Int) + (Z : Int)) = (x2 : Int) := by split <;> omega
                have HI2 : Hid (x2 = min (numA 0 (dgs l (i + 1))) 9007199254740993 ∧ ∀ j y, 0 ≤ j → j < i + 1 → j ≠ d → l[j]? = some y → isD y) := Lib.hid ⟨by
                  rw [dgs_step (by rw [HML.out, HK.out]; omega) (by rw [HK.out]; omega) (by rw [HML.out]; omega) hy, numA_app]
                  show x2 = min (10 * numA 0 (dgs l i) + (y.toNat - 48)) 9007199254740993
                  rw [hY, hZ, ← sat_step, ← HI.out.1, hx2], fun j z h1 h2 h3 h4 => by
                    rcases Nat.lt_or_ge j i with h5 | h5
                    · exact HI.out.2 j z h1 h5 h3 h4
                    · obtain rfl : j = i := by omega
                      rw [hy] at h4
                      cases h4
                      exact ⟨by omega, by omega⟩⟩
                have HW8 := Lib.hid w8; have HW9 := Lib.hid w9
                clear HI hy hY hZ hx2 hid w8 w9
                go_wp2
                go_roundw
                case rel => exact ⟨i + 1, x2, by omega, by omega, congrArg (Value.int IntKind.i64) (by have h8 := HW8.out; have h9 := HW9.out; first | exact h8 | exact h9 | omega), by go_num, HI2, trivial⟩
                case measure => simp [intOf]; omega
              · have HE : Hid ((C, E) = ((0 : Int), (4 : Int))) := Lib.hid (HBAD.out (fun hf => by
                  obtain ⟨neg, u, c1, c0, hf⟩ := hf
                  have := (fm_places hf).2.2.2.1 i y (by rw [HK.out]; omega) (by rw [HML.out]; omega) hy
                  unfold isD at this
                  omega))
                clear HI hy hY hid
                rcases (show (Y : Int) < 48 ∨ (¬ (Y : Int) < 48 ∧ (57 : Int) < (Y : Int)) by omega) with u1 | ⟨u1, u2⟩
                · skip
                  go_wp2
                  go_ret2
                  have h4 := HE.out
                  simp only [Prod.mk.injEq] at h4
                  exact ⟨retP ⟨h4.1.symm, h4.2.symm⟩, rfl⟩
                · skip
                  go_wp2
                  go_ret2
                  have h4 := HE.out
                  simp only [Prod.mk.injEq] at h4
                  exact ⟨retP ⟨h4.1.symm, h4.2.symm⟩, rfl⟩
          · obtain rfl : i = m := by omega
            have hlt2 : ¬ ((i : Int) < (i : Int)) := by omega
            obtain ⟨u, c1, c0, hdd, hfm⟩ := fm_of_places (l := l) (by rw [HML.out, HK.out]; omega) (by rw [HML.out, show i - 3 = d by omega]; exact HD.out) (fun j y h1 h2 h3 => HI.out.2 j y (by rw [HK.out] at h1; exact h1) (by have := (List.getElem?_eq_some_iff.1 h3).1; rw [HML.out] at this; exact this) (by rw [HML.out] at h2; omega) h3) (by rw [HML.out, HK.out, show i - 3 = d by omega]; exact HL.out)
            have hx := HI.out.1
            have hdd2 : dgs l i = u ++ [c1, c0] := by rw [← HML.out]; exact hdd
            rw [hdd2] at hx
            obtain ⟨M, hM⟩ : ∃ M, numA 0 (u ++ [c1, c0]) = M := ⟨_, rfl⟩
            rw [hM] at hx hfm
            have hpv : ∀ neg, Fm neg l u c1 c0 → (C, E) = resP neg M := fun neg hf => by rw [← hM]; exact HP.out.good hf
            have hh45 : ¬ l.head? = some 45 := by
              intro h
              have := HK.out
              unfold frm at this
              rw [if_pos h] at this
              omega
            have hce := hpv false (by
              have := hfm (fun h => hh45 h.1)
              rw [decide_eq_false hh45] at this
              exact this)
            by_cases hov : M ≤ 9007199254740992
            · have hxM : x = M := by omega
              have HE : Hid ((C, E) = ((x : Int), (0 : Int))) := Lib.hid (by rw [hce, hxM]; unfold resP; rw [if_pos hov]; rfl)
              have u3 : ¬ (9007199254740992 : Int) < (x : Int) := by omega
              clear HI hdd hfm hx hdd2 hM hpv hh45 hce hov hxM
              go_wp2
              go_ret2
              have h4 := HE.out
              simp only [Prod.mk.injEq] at h4
              exact ⟨retP ⟨h4.1.symm, h4.2.symm⟩, rfl⟩
            · have u3 : (9007199254740992 : Int) < (x : Int) := by omega
              have HE : Hid ((C, E) = ((0 : Int), (3 : Int))) := Lib.hid (by rw [hce]; unfold resP; rw [if_neg hov])
              clear HI hdd hfm hx hdd2 hM hpv hh45 hce hov
              go_wp2
              go_ret2
              have h4 := HE.out
              simp only [Prod.mk.injEq] at h4
              exact ⟨retP ⟨h4.1.symm, h4.2.symm⟩, rfl⟩

end Go.Proofs.YtempnbchiofghaaGreatDoor
