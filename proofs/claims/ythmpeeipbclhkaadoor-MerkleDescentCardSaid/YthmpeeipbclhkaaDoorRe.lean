/-
  The statement of MerkleDescent: walk and row.
-/
import Derived.Test.YthmpeeipbclhkaaDoorSn
import Derived.Test.YthmpeeipbclhkaaDoorCo
import Derived.Test.YthmpeeipbclhkaaDoorSe
import Derived.Test.YthmpeeipbclhkaaDoorSm
import Derived.Test.YthmpeeipbclhkaaDoorLw
import Derived.Test.YthmpeeipbclhkaaDoorOs
import Derived.Test.YthmpeeipbclhkaaDoorEq
import Derived.Test.YthmpeeipbclhkaaDoorFi
import Derived.ChangeMaps5
namespace Go.Proofs.YthmpeeipbclhkaaDoor.merkleDescent
open Go.ChangeShapes Go.WideShapes Go.ChangeAt Go.RowKit
set_option linter.unusedVariables false
set_option linter.unusedSimpArgs false

theorem ffrom_back (a b : List (List Int)) (m n : Nat) : ffrom a b m (n + 1) = if a.getD m pdd = b.getD m pdd then ffrom a b (m + 1) n else (m : Int) := rfl

theorem ffrom_spec (a b : List (List Int)) : ∀ n i, ffrom a b i n = -1 ∨ ∃ v : Nat, ffrom a b i n = (v : Int) ∧ i ≤ v ∧ v < i + n ∧ a.getD v pdd ≠ b.getD v pdd ∧ ∀ u, i ≤ u → u < v → a.getD u pdd = b.getD u pdd := by
  intro n
  induction n with
  | zero => intro i; exact Or.inl rfl
  | succ n ih =>
    intro i
    rw [ffrom_back]
    by_cases h : a.getD i pdd = b.getD i pdd
    · rw [if_pos h]
      rcases ih (i + 1) with h1 | ⟨v, h1, h2, h3, h4, h5⟩
      · exact Or.inl h1
      · refine Or.inr ⟨v, h1, by omega, by omega, h4, fun u hu huv => ?_⟩
        rcases Nat.lt_or_ge i u with h6 | h6
        · exact h5 u (by omega) huv
        · have : u = i := by omega
          rw [this]; exact h
    · rw [if_neg h]
      exact Or.inr ⟨i, rfl, by omega, by omega, h, fun u hu huv => by omega⟩

theorem elementI (l : List (List Int)) (v : Value) (x : Int) (k : Nat) (w : World) (hk0 : KOk w) (hv : Dl (fun k => k < w.heap.size) w v l) (hx : x = (k : Int)) (hk : k < 4611686018427387904) (D : List Int) (hD : D = l.getD k pdd) :
    Calls Tryd.prog 31 #[v, .int .i64 x] w fun e w' => e = .returned (.agg (byteVals D).toArray) ∧ Below w.heap.size w w' := by
  subst hx hD
  exact element_any l v k w hk0 hv hk

/-- What holds at the head of the way down. -/
def Dn (a b : List (List Int)) (j k : Nat) : Prop := k < 2 ^ (6 - j) ∧ dsc prt pdd a b j k = dsc prt pdd a b 6 0 ∧ ((j = 6 ∧ k = 0) ∨ (nd prt pdd a j k ≠ nd prt pdd b j k ∧ nd prt pdd a 6 0 ≠ nd prt pdd b 6 0))

theorem Dn.start (a b : List (List Int)) : Dn a b 6 0 := ⟨by decide, rfl, Or.inl ⟨rfl, rfl⟩⟩
theorem Dn.next {a b : List (List Int)} {j k : Nat} (h : Dn a b (j + 1) k) (hj : j + 1 ≤ 6) (hne : nd prt pdd a (j + 1) k ≠ nd prt pdd b (j + 1) k) :
    Dn a b j (if nd prt pdd a j (2 * k) = nd prt pdd b j (2 * k) then 2 * k + 1 else 2 * k) := by
  obtain ⟨h1, h2, h3⟩ := h
  refine ⟨?_, ?_, Or.inr ⟨dsc_ne prt pdd a b j k hne, ?_⟩⟩
  · have : 2 ^ (6 - j) = 2 * 2 ^ (6 - (j + 1)) := by rw [Nat.mul_comm, ← Nat.pow_succ]; congr 1; omega
    split <;> omega
  · rw [← h2]
    show _ = (if nd prt pdd a j (2 * k) = nd prt pdd b j (2 * k) then dsc prt pdd a b j (2 * k + 1) else dsc prt pdd a b j (2 * k))
    split <;> rfl
  · rcases h3 with ⟨h4, h5⟩ | ⟨_, h5⟩
    · rw [h4, h5] at hne; exact hne
    · exact h5
theorem Dn.same {a b : List (List Int)} {j k v : Nat} (h : Dn a b j k) (he : nd prt pdd a j k = nd prt pdd b j k) (hv : v < 64) (hd : a.getD v pdd ≠ b.getD v pdd) : j = 6 ∧ k = 0 ∧ col prt pdd a b 6 0 = true := by
  obtain ⟨_, _, h3⟩ := h
  rcases h3 with ⟨rfl, rfl⟩ | ⟨h4, _⟩
  · exact ⟨rfl, rfl, col_eq prt pdd a b 6 0 v he (Nat.div_eq_of_lt (by simpa using hv)) hd⟩
  · exact absurd he h4
theorem Dn.done {a b : List (List Int)} {k v : Nat} (h : Dn a b 0 k) (hv : v < 64) (hd : a.getD v pdd ≠ b.getD v pdd) (hf : ∀ u, u < v → a.getD u pdd = b.getD u pdd) : k = v ∨ col prt pdd a b 6 0 = true := by
  obtain ⟨_, h2, h3⟩ := h
  rcases h3 with ⟨h4, _⟩ | ⟨_, h5⟩
  · omega
  · rcases dsc_first prt pdd a b v hd hf 6 0 h5 (Nat.div_eq_of_lt (by simpa using hv)) with h6 | h6
    · left; rw [← h6, ← h2]; rfl
    · exact Or.inr h6

set_option maxRecDepth 100000 in
set_option maxHeartbeats 8000000 in
theorem walk (a b : List (List Int)) (oa ob : Option Addr) (ca cb : Nat) (w : World) (hk : KOk w) (hv : Dl (fun k => k < w.heap.size) w (.slice oa a.length ca) a) (hv2 : Dl (fun k => k < w.heap.size) w (.slice ob b.length cb) b) :
    Calls Tryd.prog 10 #[.slice oa a.length ca, .slice ob b.length cb] w fun e w' => e = .returned (.bool true) ∧ Below w.heap.size w w' := by
  have HK := Lib.hid hk
  have HV := Lib.hid hv
  have HV2 := Lib.hid hv2
  have HS := Lib.hid (St4.nil w)
  have hfa : ∀ w', Calls Tryd.prog 12 #[.slice oa a.length ca] w' fun e w'' => e = .returned (.bool (decide (a.length ≤ 64))) ∧ w' = w'' := fun w' => (few_any a oa ca w').mono (fun e w2 h => ⟨h.1, h.2.symm⟩)
  have hfb : ∀ w', Calls Tryd.prog 12 #[.slice ob b.length cb] w' fun e w'' => e = .returned (.bool (decide (b.length ≤ 64))) ∧ w' = w'' := fun w' => (few_any b ob cb w').mono (fun e w2 h => ⟨h.1, h.2.symm⟩)
  clear hk hv hv2
  by_cases h64 : a.length ≤ 64
  · rw [decide_eq_true h64] at hfa
    by_cases h65 : b.length ≤ 64
    · rw [decide_eq_true h65] at hfb
      have hla : a.length ≤ 65536 := by omega
      have hlb : b.length ≤ 65536 := by omega
      have hda := fun jj kk => nd_dg a jj kk HV.out.2.1
      have hdb := fun jj kk => nd_dg b jj kk HV2.out.2.1
      have hga := fun k => getD_dg HV.out.2.1 pdd_dg k
      have hgb := fun k => getD_dg HV2.out.2.1 pdd_dg k
      have hia : ∀ w', KOk w' → Dl (fun k => k < w'.heap.size) w' (.slice oa a.length ca) a → Dl (fun k => k < w'.heap.size) w' (.slice ob b.length cb) b → Calls Tryd.prog 26 #[.slice oa a.length ca, .slice ob b.length cb] w' fun e w'' => e = .returned (.int .i64 (ffrom a b 0 64)) ∧ Below w'.heap.size w' w'' := by
        intro w' h1 h2 h3
        rw [← fdiff_of a b 64 (by omega)]
        exact first_any a b oa ob ca cb w' h1 h2 h3
      have hsp := ffrom_spec a b 64 0
      have HFA := Lib.hid hfa; have HFB := Lib.hid hfb; have HIA := Lib.hid hia; have HDA := Lib.hid hda; have HDB := Lib.hid hdb; have HGA := Lib.hid hga; have HGB := Lib.hid hgb; have HSP := Lib.hid hsp
      clear hfa hfb hia hda hdb hga hgb hsp
      go_enter Tryd.func10, Tryd.ntmps10
      go_wp2_with fail
      refine (sane_true _ (HK.out.below HS.out.below)).mono ?_
      rintro e w1 ⟨rfl, hb⟩
      replace HS := Lib.hid (HS.out.call hb)
      clear hb
      go_wp2_with fail
      refine (HFA.out _).mono ?_
      rintro e w2 ⟨rfl, rfl⟩
      go_wp2_with fail
      refine (HFB.out _).mono ?_
      rintro e w2 ⟨rfl, rfl⟩
      go_wp2_with fail
      go_loopw [5, 6] (fun t i wr => ∃ (m : Nat) (z : Int), m ≤ 64 ∧ Hid (z = (m : Int) - 1) ∧ -1 ≤ z ∧ z ≤ 63 ∧ i = .int .i64 z ∧ ∃ F : Int, Hid (F = ffrom a b m (64 - m)) ∧ t = .int .i64 F ∧ Hid (St4 w [] [] wr)) (fun _ i _ => (intOf i + 1).toNat)
      case atStart => exact ⟨64, 63, by omega, Lib.hid (by omega), by omega, by omega, rfl, -1, Lib.hid rfl, rfl, HS⟩
      case round =>
        clear HS
        obtain ⟨m, z, hm, HZ, hz0, hz1, rfl, F, HF, rfl, HS⟩ := hrel
        by_cases hlt : 0 ≤ z
        · obtain ⟨k, hk⟩ : ∃ k, m = k + 1 := ⟨m - 1, by have := HZ.out; omega⟩
          have hzk : z = (k : Int) := by have := HZ.out; omega
          have hst := ffrom_back a b k (64 - m)
          rw [show 64 - m + 1 = 64 - k from by omega, show k + 1 = m from by omega, ← HF.out] at hst
          have hXd := (HGA.out k).1; have hYd := (HGB.out k).1
          obtain ⟨X, hX⟩ : ∃ X, X = a.getD k pdd := ⟨_, rfl⟩
          obtain ⟨Y, hY⟩ : ∃ Y, Y = b.getD k pdd := ⟨_, rfl⟩
          rw [← hX, ← hY] at hst
          rw [← hX] at hXd
          rw [← hY] at hYd
          have e1 := eqDig X Y hXd hYd
          have HX := Lib.hid hX; have HY := Lib.hid hY; have HZK := Lib.hid hzk; have HST := Lib.hid hst
          have hk64 : k < 64 := by omega
          have g1 : decide (0 ≤ z) = true := decide_eq_true hlt
          clear hX hY hzk hst hk HZ hXd hYd
          by_cases hxy : X = Y
          · rw [decide_eq_true hxy] at e1
            have HN : Hid (F = ffrom a b k (64 - k)) := Lib.hid (by rw [HST.out, if_pos hxy])
            clear hxy HST
            go_wp2_with fail
            refine (elementI a _ _ k _ (HK.out.below HS.out.below) (HV.out.on HS.out.below) HZK.out (by omega) X HX.out).mono ?_
            rintro e w3 ⟨rfl, hb⟩
            replace HS := Lib.hid (HS.out.call hb)
            clear hb
            go_wp2_with fail
            refine (elementI b _ _ k _ (HK.out.below HS.out.below) (HV2.out.on HS.out.below) HZK.out (by omega) Y HY.out).mono ?_
            rintro e w4 ⟨rfl, hb⟩
            replace HS := Lib.hid (HS.out.call hb)
            clear hb
            go_wp2
            go_roundw
            case rel => exact ⟨k, z - 1, by omega, Lib.hid (by have := HZK.out; omega), by omega, by omega, rfl, F, HN, rfl, HS⟩
            case measure => simp [intOf]; omega
          · rw [decide_eq_false hxy] at e1
            have HN : Hid (z = ffrom a b k (64 - k)) := Lib.hid (by rw [HST.out, if_neg hxy]; exact HZK.out)
            clear hxy HST
            go_wp2_with fail
            refine (elementI a _ _ k _ (HK.out.below HS.out.below) (HV.out.on HS.out.below) HZK.out (by omega) X HX.out).mono ?_
            rintro e w3 ⟨rfl, hb⟩
            replace HS := Lib.hid (HS.out.call hb)
            clear hb
            go_wp2_with fail
            refine (elementI b _ _ k _ (HK.out.below HS.out.below) (HV2.out.on HS.out.below) HZK.out (by omega) Y HY.out).mono ?_
            rintro e w4 ⟨rfl, hb⟩
            replace HS := Lib.hid (HS.out.call hb)
            clear hb
            go_wp2
            go_roundw
            case rel => exact ⟨k, z - 1, by omega, Lib.hid (by have := HZK.out; omega), by omega, by omega, rfl, z, HN, rfl, HS⟩
            case measure => simp [intOf]; omega
        · have hm0 : m = 0 := by have := HZ.out; omega
          subst hm0
          have g1 : decide (0 ≤ z) = false := decide_eq_false hlt
          have hF := HF.out
          rw [Nat.sub_zero] at hF
          rw [← hF] at HIA HSP
          clear hF HF HZ hz0 hz1
          rcases HSP.out with hs | ⟨v, hs, _, hv64, hvd, hvf⟩
          · subst hs
            go_wp2_with fail
            refine (HIA.out _ (HK.out.below HS.out.below) (HV.out.on HS.out.below) (HV2.out.on HS.out.below)).mono ?_
            rintro e w3 ⟨rfl, hb⟩
            replace HS := Lib.hid (HS.out.call hb)
            clear hb
            go_wp2
            go_ret
            exact ⟨rfl, HS.out.below⟩
          · have g2 : decide (F < 0) = false := decide_eq_false (by omega)
            have HVD := Lib.hid (And.intro (show v < 64 by omega) (And.intro hvd (fun u hu => hvf u (Nat.zero_le _) hu)))
            have HFV := Lib.hid hs
            have hFb : 0 ≤ F ∧ F < 64 := by omega
            clear hs hvd hvf hv64 HSP hlt
            go_wp2_with fail
            refine (HIA.out _ (HK.out.below HS.out.below) (HV.out.on HS.out.below) (HV2.out.on HS.out.below)).mono ?_
            rintro e w3 ⟨rfl, hb⟩
            replace HS := Lib.hid (HS.out.call hb)
            clear hb HIA
            go_wp2_with fail
            go_loopw [7, 8, 9, 10, 11, 12, 13, 14, 15, 16] (fun t7 t8 _ _ _ _ _ _ _ _ wr => ∃ (j k : Nat) (y x : Int), j ≤ 6 ∧ Hid (y = (k : Int)) ∧ Hid (x = (j : Int)) ∧ 0 ≤ x ∧ x ≤ 6 ∧ 0 ≤ y ∧ y < 64 ∧ t7 = .int .i64 y ∧ t8 = .int .i64 x ∧ Hid (Dn a b j k) ∧ Hid (St4 w [] [] wr)) (fun _ t8 _ _ _ _ _ _ _ _ _ => (intOf t8).toNat)
            case atStart => exact ⟨6, 0, 0, 6, by omega, Lib.hid rfl, Lib.hid rfl, by omega, by omega, by omega, by omega, rfl, rfl, Lib.hid (Dn.start a b), HS⟩
            case round =>
              clear HS
              obtain ⟨j, k, y, x, hj6, HY, HX, hx0, hx6, hy0, hy64, rfl, rfl, HD, HS⟩ := hrel
              by_cases hlt : 0 < x
              · obtain ⟨i, hi⟩ : ∃ i, j = i + 1 := ⟨j - 1, by have := HX.out; omega⟩
                subst hi
                have hkj := HD.out.1
                have hp : 2 ^ (16 - i) = 2 * 2 ^ (16 - (i + 1)) := by rw [Nat.mul_comm, ← Nat.pow_succ]; congr 1; omega
                have hp2 : 2 ^ (6 - (i + 1)) ≤ 2 ^ (16 - (i + 1)) := Nat.pow_le_pow_right (by decide) (by omega)
                have hb0 : k < 2 ^ (16 - (i + 1)) := by omega
                have hb1 : 2 * k < 2 ^ (16 - i) := by omega
                have hq6 : 2 ^ (6 - (i + 1)) ≤ 2 ^ 5 := Nat.pow_le_pow_right (by decide) (by omega)
                have hk32 : k < 32 := by omega
                have hxl0 := (HDA.out (i + 1) k).1; have hyl0 := (HDB.out (i + 1) k).1; have hpl0 := (HDA.out i (2 * k)).1; have hql0 := (HDB.out i (2 * k)).1
                have hnx := fun hne => Dn.next HD.out hj6 hne
                have hsm := fun he => Dn.same HD.out he HVD.out.1 HVD.out.2.1
                obtain ⟨X, hX⟩ : ∃ D, D = nd prt pdd a (i + 1) k := ⟨_, rfl⟩
                obtain ⟨Y, hY⟩ : ∃ D, D = nd prt pdd b (i + 1) k := ⟨_, rfl⟩
                obtain ⟨P, hP⟩ : ∃ D, D = nd prt pdd a i (2 * k) := ⟨_, rfl⟩
                obtain ⟨Q, hQ⟩ : ∃ D, D = nd prt pdd b i (2 * k) := ⟨_, rfl⟩
                rw [← hX] at hxl0
                rw [← hY] at hyl0
                rw [← hP] at hpl0
                rw [← hQ] at hql0
                rw [← hX, ← hY, ← hP, ← hQ] at hnx
                rw [← hX, ← hY] at hsm
                have e1 := eqDig X Y hxl0 hyl0
                have e2 := eqDig P Q hpl0 hql0
                have HNX := Lib.hid hnx; have HSM := Lib.hid hsm
                have HXX := Lib.hid hX; have HYY := Lib.hid hY; have HPP := Lib.hid hP; have HQQ := Lib.hid hQ
                have HB0 := Lib.hid hb0; have HB1 := Lib.hid hb1
                have g3 : decide (0 < x) = true := decide_eq_true hlt
                have hk2 : 2 * k < 64 := by omega
                clear hnx hsm hX hY hP hQ hkj hp hp2 hb0 hb1 hq6 HD
                go_wp2_with fail
                refine (nodeI a oa ca _ _ (i + 1) k _ (HK.out.below HS.out.below) (HV.out.on HS.out.below) hla (by have := HX.out; omega) (by have := HY.out; omega) (by omega) HB0.out X HXX.out).mono ?_
                rintro e wx ⟨rfl, hb⟩
                replace HS := Lib.hid (HS.out.call hb)
                clear hb
                go_wp2_with (refine wpList_newD HS.out rfl (.tmp 9) (.tmp 55) rfl rfl X rfl hxl0 rfl ?_; intro wS hS; replace HS := Lib.hid hS; clear hS; (try simp only [Act.put, List.setIfInBounds_toArray, List.set_cons_zero, List.set_cons_succ, List.getElem_toArray, List.getElem_cons_zero, List.getElem_cons_succ]))
                refine (nodeI b ob cb _ _ (i + 1) k _ (HK.out.below HS.out.below) (HV2.out.on HS.out.below) hlb (by have := HX.out; omega) (by have := HY.out; omega) (by omega) HB0.out Y HYY.out).mono ?_
                rintro e wy ⟨rfl, hb⟩
                replace HS := Lib.hid (HS.out.call hb)
                clear hb
                go_wp2_with (refine wpList_newD HS.out rfl (.tmp 11) (.tmp 62) rfl rfl Y rfl hyl0 rfl ?_; intro wS hS; replace HS := Lib.hid hS; clear hS; (try simp only [Act.put, List.setIfInBounds_toArray, List.set_cons_zero, List.set_cons_succ, List.getElem_toArray, List.getElem_cons_zero, List.getElem_cons_succ]))
                refine (nodeI a oa ca _ _ i (2 * k) _ (HK.out.below HS.out.below) (HV.out.on HS.out.below) hla (by have := HX.out; omega) (by have := HY.out; omega) (by omega) HB1.out P HPP.out).mono ?_
                rintro e wp ⟨rfl, hb⟩
                replace HS := Lib.hid (HS.out.call hb)
                clear hb
                go_wp2_with (refine wpList_newD HS.out rfl (.tmp 13) (.tmp 71) rfl rfl P rfl hpl0 rfl ?_; intro wS hS; replace HS := Lib.hid hS; clear hS; (try simp only [Act.put, List.setIfInBounds_toArray, List.set_cons_zero, List.set_cons_succ, List.getElem_toArray, List.getElem_cons_zero, List.getElem_cons_succ]))
                refine (nodeI b ob cb _ _ i (2 * k) _ (HK.out.below HS.out.below) (HV2.out.on HS.out.below) hlb (by have := HX.out; omega) (by have := HY.out; omega) (by omega) HB1.out Q HQQ.out).mono ?_
                rintro e wq ⟨rfl, hb⟩
                replace HS := Lib.hid (HS.out.call hb)
                clear hb
                go_upto_region 23 with (refine wpList_newD HS.out rfl (.tmp 15) (.tmp 80) rfl rfl Q rfl hql0 rfl ?_; intro wS hS; replace HS := Lib.hid hS; clear hS; (try simp only [Act.put, List.setIfInBounds_toArray, List.set_cons_zero, List.set_cons_succ, List.getElem_toArray, List.getElem_cons_zero, List.getElem_cons_succ]))
                generalize wx.heap.size = gx at *
                generalize wy.heap.size = gy at *
                generalize wp.heap.size = gp at *
                generalize wq.heap.size = gq at *
                by_cases h1 : X = Y
                · rw [decide_eq_true h1] at e1
                  obtain ⟨hi5, hk0, hcol⟩ := HSM.out h1
                  subst hk0
                  have hi5' : i = 5 := by omega
                  subst hi5'
                  clear h1 HSM HNX
                  go_wp2_with (first | (refine wpList_loadG (by rfl) (.tmp 9) rfl gx rfl X (HS.out.range (by (with_reducible (repeat (first | exact List.mem_cons_self | refine List.mem_cons_of_mem _ ?_))))) hxl0 ?_; (try simp only [Act.put, List.setIfInBounds_toArray, List.set_cons_zero, List.set_cons_succ, List.getElem_toArray, List.getElem_cons_zero, List.getElem_cons_succ])) | (refine wpList_loadG (by rfl) (.tmp 11) rfl gy rfl Y (HS.out.range (by (with_reducible (repeat (first | exact List.mem_cons_self | refine List.mem_cons_of_mem _ ?_))))) hyl0 ?_; (try simp only [Act.put, List.setIfInBounds_toArray, List.set_cons_zero, List.set_cons_succ, List.getElem_toArray, List.getElem_cons_zero, List.getElem_cons_succ])))
                  refine (collides_any a b oa ob ca cb hla hlb 6 0 _ _ _ HX.out HY.out (HK.out.below HS.out.below) (HV.out.on HS.out.below) (HV2.out.on HS.out.below) (by omega) (by decide)).mono ?_
                  rw [hcol]
                  rintro e w8 ⟨rfl, hb⟩
                  replace HS := Lib.hid (HS.out.call hb)
                  clear hb
                  go_wp2
                  go_ret
                  exact ⟨rfl, HS.out.below⟩
                · rw [decide_eq_false h1] at e1
                  have HN := Lib.hid (HNX.out h1)
                  clear h1 HSM HNX
                  by_cases h2 : P = Q
                  · rw [decide_eq_true h2] at e2
                    have HN2 := HN.out
                    rw [if_pos h2] at HN2
                    replace HN2 := Lib.hid HN2
                    clear h2 HN
                    go_wp2_with (first | (refine wpList_loadG (by rfl) (.tmp 9) rfl gx rfl X (HS.out.range (by (with_reducible (repeat (first | exact List.mem_cons_self | refine List.mem_cons_of_mem _ ?_))))) hxl0 ?_; (try simp only [Act.put, List.setIfInBounds_toArray, List.set_cons_zero, List.set_cons_succ, List.getElem_toArray, List.getElem_cons_zero, List.getElem_cons_succ])) | (refine wpList_loadG (by rfl) (.tmp 11) rfl gy rfl Y (HS.out.range (by (with_reducible (repeat (first | exact List.mem_cons_self | refine List.mem_cons_of_mem _ ?_))))) hyl0 ?_; (try simp only [Act.put, List.setIfInBounds_toArray, List.set_cons_zero, List.set_cons_succ, List.getElem_toArray, List.getElem_cons_zero, List.getElem_cons_succ])) | (refine wpList_loadG (by rfl) (.tmp 13) rfl gp rfl P (HS.out.range (by (with_reducible (repeat (first | exact List.mem_cons_self | refine List.mem_cons_of_mem _ ?_))))) hpl0 ?_; (try simp only [Act.put, List.setIfInBounds_toArray, List.set_cons_zero, List.set_cons_succ, List.getElem_toArray, List.getElem_cons_zero, List.getElem_cons_succ])) | (refine wpList_loadG (by rfl) (.tmp 15) rfl gq rfl Q (HS.out.range (by (with_reducible (repeat (first | exact List.mem_cons_self | refine List.mem_cons_of_mem _ ?_))))) hql0 ?_; (try simp only [Act.put, List.setIfInBounds_toArray, List.set_cons_zero, List.set_cons_succ, List.getElem_toArray, List.getElem_cons_zero, List.getElem_cons_succ])))
                    go_roundw
                    case rel => exact ⟨i, 2 * k + 1, 2 * y + 1, x - 1, by omega, Lib.hid (by have := HY.out; omega), Lib.hid (by have := HX.out; omega), by omega, by omega, by omega, by have := HY.out; omega, rfl, rfl, HN2, Lib.hid (HS.out.sub [] [] (by simp) (by simp))⟩
                    case measure => simp [intOf]; omega
                  · rw [decide_eq_false h2] at e2
                    have HN2 := HN.out
                    rw [if_neg h2] at HN2
                    replace HN2 := Lib.hid HN2
                    clear h2 HN
                    go_wp2_with (first | (refine wpList_loadG (by rfl) (.tmp 9) rfl gx rfl X (HS.out.range (by (with_reducible (repeat (first | exact List.mem_cons_self | refine List.mem_cons_of_mem _ ?_))))) hxl0 ?_; (try simp only [Act.put, List.setIfInBounds_toArray, List.set_cons_zero, List.set_cons_succ, List.getElem_toArray, List.getElem_cons_zero, List.getElem_cons_succ])) | (refine wpList_loadG (by rfl) (.tmp 11) rfl gy rfl Y (HS.out.range (by (with_reducible (repeat (first | exact List.mem_cons_self | refine List.mem_cons_of_mem _ ?_))))) hyl0 ?_; (try simp only [Act.put, List.setIfInBounds_toArray, List.set_cons_zero, List.set_cons_succ, List.getElem_toArray, List.getElem_cons_zero, List.getElem_cons_succ])) | (refine wpList_loadG (by rfl) (.tmp 13) rfl gp rfl P (HS.out.range (by (with_reducible (repeat (first | exact List.mem_cons_self | refine List.mem_cons_of_mem _ ?_))))) hpl0 ?_; (try simp only [Act.put, List.setIfInBounds_toArray, List.set_cons_zero, List.set_cons_succ, List.getElem_toArray, List.getElem_cons_zero, List.getElem_cons_succ])) | (refine wpList_loadG (by rfl) (.tmp 15) rfl gq rfl Q (HS.out.range (by (with_reducible (repeat (first | exact List.mem_cons_self | refine List.mem_cons_of_mem _ ?_))))) hql0 ?_; (try simp only [Act.put, List.setIfInBounds_toArray, List.set_cons_zero, List.set_cons_succ, List.getElem_toArray, List.getElem_cons_zero, List.getElem_cons_succ])))
                    go_roundw
                    case rel => exact ⟨i, 2 * k, 2 * y, x - 1, by omega, Lib.hid (by have := HY.out; omega), Lib.hid (by have := HX.out; omega), by omega, by omega, by omega, by have := HY.out; omega, rfl, rfl, HN2, Lib.hid (HS.out.sub [] [] (by simp) (by simp))⟩
                    case measure => simp [intOf]; omega
              · have hj0 : j = 0 := by have := HX.out; omega
                subst hj0
                have g3 : decide (0 < x) = false := decide_eq_false hlt
                rcases Dn.done HD.out HVD.out.1 HVD.out.2.1 HVD.out.2.2 with hkv | hcol
                · have g4 : (y == F) = true := by rw [beq_iff_eq, HY.out, HFV.out, hkv]
                  clear hkv
                  go_wp2
                  go_ret
                  exact ⟨rfl, HS.out.below⟩
                · by_cases hyF : y = F
                  · have g4 : (y == F) = true := by rw [beq_iff_eq]; exact hyF
                    clear hyF hcol
                    go_wp2
                    go_ret
                    exact ⟨rfl, HS.out.below⟩
                  · have g4 : (y == F) = false := by rw [beq_eq_false_iff_ne]; exact hyF
                    clear hyF
                    go_wp2_with fail
                    refine (collides_any a b oa ob ca cb hla hlb 6 0 6 0 _ rfl rfl (HK.out.below HS.out.below) (HV.out.on HS.out.below) (HV2.out.on HS.out.below) (by omega) (by decide)).mono ?_
                    rw [hcol]
                    rintro e w8 ⟨rfl, hb⟩
                    replace HS := Lib.hid (HS.out.call hb)
                    clear hb
                    go_wp2
                    go_ret
                    exact ⟨rfl, HS.out.below⟩
    · rw [decide_eq_false h65] at hfb
      have HFA := Lib.hid hfa; have HFB := Lib.hid hfb
      clear hfa hfb
      go_enter Tryd.func10, Tryd.ntmps10
      go_wp2_with fail
      refine (sane_true _ (HK.out.below HS.out.below)).mono ?_
      rintro e w1 ⟨rfl, hb⟩
      replace HS := Lib.hid (HS.out.call hb)
      clear hb
      go_wp2_with fail
      refine (HFA.out _).mono ?_
      rintro e w2 ⟨rfl, rfl⟩
      go_wp2_with fail
      refine (HFB.out _).mono ?_
      rintro e w2 ⟨rfl, rfl⟩
      go_wp2
      go_ret
      exact ⟨rfl, HS.out.below⟩
  · rw [decide_eq_false h64] at hfa
    have HFA := Lib.hid hfa
    clear hfa hfb
    go_enter Tryd.func10, Tryd.ntmps10
    go_wp2_with fail
    refine (sane_true _ (HK.out.below HS.out.below)).mono ?_
    rintro e w1 ⟨rfl, hb⟩
    replace HS := Lib.hid (HS.out.call hb)
    clear hb
    go_wp2_with fail
    refine (HFA.out _).mono ?_
    rintro e w2 ⟨rfl, rfl⟩
    go_wp2
    go_ret
    exact ⟨rfl, HS.out.below⟩

/-- The door's own heap meets the condition. -/
theorem door_met (os : Os) (args : Array Value) : laidMetH Tryd.prog Rows.merkleDescentRow.laid ((World.doorLaid Tryd.prog 400 os).forCall (fun _ _ => 0) ⟨#[], args, []⟩).memory :=
  laidMetH_of_parts3 (fuel := 8) (laidMet_of_run' 8 (by kernel_rfl) (by kernel_rfl)) (by kernel_rfl) (by kernel_rfl)

set_option maxRecDepth 100000 in
theorem lifted (os : Os) (started : os.Started) (H : Type) (enc : TypeId × Value → H) :
    ReturnsInHanded {} Tryd.checked os 10 .any (fun w args => (Rows.merkleDescentSpec.pre enc Tryd.prog Tryd.f10 [] false w args ∧ laidMetH Tryd.prog Rows.merkleDescentRow.laid w) ∧ sizedMet enc Tryd.prog Tryd.f10 (OpenSpec.ofChange Rows.merkleDescentSpec) false w args)
      (Rows.merkleDescentSpec.post enc Tryd.prog Tryd.f10 false true false false) := by
  refine returnsInHanded_of_change_and (C := Tryd.checked) (X := fun w _ => laidMetH Tryd.prog Rows.merkleDescentRow.laid w) (fun _ _ _ hh h => h.of_heap hh) own started (by kernel_rfl) Tryd.func10
    (ChangeSpec.witness_shaped (enc := enc) (C := Tryd.checked) (os := os) (X := fun w _ => laidMetH Tryd.prog Rows.merkleDescentRow.laid w) false (World.doorLaid Tryd.prog 400 os) #[.slice none 0 0, .slice none 0 0] 8 rfl (World.shaped_of_RefB (by kernel_rfl) (by kernel_rfl)) (by kernel_rfl) (by kernel_rfl) (by kernel_rfl) (door_met os _)) ?_
  intro W base args ds gs before hval0 hW _ hsz0 hL _
  have hsz : (DataW.weightsEach Tryd.prog (Tryd.f10.params.toList ++ Rows.merkleDescentSpec.plain.varTypes Tryd.prog) (ds ++ gs)).all (· ≤ reachBytes) = true := hsz0
  have hval : ∀ (j : Nat) t v, Tryd.f10.params[j]? = some t → args[j]? = some v → Value.okWide Tryd.prog W .any base t v := hval0
  clear hsz0 hval0
  have hW' := hW
  obtain ⟨p, q, hA0, hV, rfl, hfz, hnd⟩ := hW
  have hA : DataW.TrodAll enc Tryd.prog W 0 (fun _ => true) true Tryd.f10.params.toList args.toList ds p := hA0
  rw [Tryd.params10] at hA hval hsz
  obtain ⟨v0, vs0, d0, ds0, p0, q0, hargs, rfl, rfl, h0, r0⟩ := trodAll_cons hA
  obtain ⟨v1, vs1, d1, ds1, p1, q1, rfl, rfl, rfl, h1, r1⟩ := trodAll_cons r0
  obtain ⟨rfl, rfl, rfl⟩ := trodAll_nil r1
  obtain rfl : args = #[v0, v1] := by cases args; simp_all
  obtain ⟨rfl, rfl⟩ := trodVars_none hV
  have hw0 : ∀ n ∈ d0.weights Tryd.prog 22, n ≤ reachBytes := by
    intro n hn
    have := List.all_eq_true.1 hsz n (DataW.weights_mem_each (t := 22) (d := d0) (j := 0) rfl rfl n hn)
    simpa using this
  obtain ⟨oa0, ol0, oc0, rfl⟩ := okWide_slice Tryd.underlying22 (hval 0 22 v0 rfl rfl)
  obtain ⟨fu0, hf0⟩ := h0
  obtain ⟨b0, hb0⟩ := openDs (v := .slice oa0 ol0 oc0) hf0 hw0
  obtain rfl : ol0 = b0.length := by
    obtain ⟨_, _, _, _, e, _⟩ := hb0
    simp only [Value.slice.injEq] at e
    exact e.2.1
  have hw1 : ∀ n ∈ d1.weights Tryd.prog 22, n ≤ reachBytes := by
    intro n hn
    have := List.all_eq_true.1 hsz n (DataW.weights_mem_each (t := 22) (d := d1) (j := 1) rfl rfl n hn)
    simpa using this
  obtain ⟨oa1, ol1, oc1, rfl⟩ := okWide_slice Tryd.underlying22 (hval 1 22 v1 rfl rfl)
  obtain ⟨fu1, hf1⟩ := h1
  obtain ⟨b1, hb1⟩ := openDs (v := .slice oa1 ol1 oc1) hf1 hw1
  obtain rfl : ol1 = b1.length := by
    obtain ⟨_, _, _, _, e, _⟩ := hb1
    simp only [Value.slice.injEq] at e
    exact e.2.1
  clear hA0
  refine (walk b0 b1 oa0 oa1 oc0 oc1 W (kok_of_laid hL) hb0 hb1).mono fun e W' ⟨he, hbw⟩ => ?_
  subst he
  refine ⟨_, rfl, post_law laidOut ?_ rfl rfl hW' rfl rfl rfl hbw⟩
  intro t ht
  rw [Tryd.params10] at ht
  have hm : t ∈ [22] := by
    simp at ht
    rcases ht with rfl|rfl <;> simp
  have hall : ([22].all fun u => Tryd.prog.readableRec u && decide (u < Tryd.prog.types.size)) = true := by kernel_rfl
  have := List.all_eq_true.1 hall t hm
  simpa using this

theorem over : Rows.merkleDescentRow.holds Tryd.pinned (OpenSpec.ofChange Rows.merkleDescentSpec) :=
  OpenClaim.holds_of_wide 10 Tryd.f10 rfl rfl rfl rfl rfl rfl rfl ⟨rfl, rfl, rfl, rfl, rfl⟩ rfl rfl rfl rfl rfl (by kernel_rfl) Tryd.func10 (by kernel_rfl)
    (of_decide_eq_true (by kernel_rfl)) (by unfold Func.isWrapper; first | (rw [if_pos (by decide +kernel)]; kernel_rfl) | (rw [if_neg (by decide +kernel)]; exact ⟨rfl, rfl⟩))
    (fun os started H enc _ => lifted os started H enc)

/-- THE STATEMENT. -/
theorem proved : Rows.MerkleDescentCardSaid :=
  Claim7.holds_tied_plain_at .later [] [.data] true (true, "ea83294f5b67d008c3aa80d7c08f5dc94fc0d0607cdbc7283e27c890a7edc858") false
    over (fun _ h => by cases h) (by kernel_rfl) (fun _ h => by cases h) merkleDescent_row_tie rfl ⟨rfl, rfl⟩ (by kernel_rfl) rfl
    (fun f fn hf hfn => by
      obtain rfl : f = 10 := Option.some.inj ((show Tryd.prog.funcNamed "wagonpool/wagonpoollaw04.MerkleDescent" = some 10 by kernel_rfl).symm.trans hf) |>.symm
      obtain rfl : fn = Tryd.f10 := (Option.some.inj (Tryd.func10.symm.trans hfn)).symm
      exact ⟨by kernel_rfl, fun j t ht => by
        rw [Tryd.params10] at ht
        have hm : t ∈ [22] := by
          have := Array.mem_of_getElem? ht
          simp at this
          rcases this with rfl|rfl <;> simp
        have hall : ([22].all fun u => !Tryd.prog.wantsStandIn u) = true := by kernel_rfl
        exact (show Tryd.prog.wantsStandIn t = false by simpa using List.all_eq_true.1 hall t hm)⟩)
    (by kernel_rfl)
#print axioms proved
end Go.Proofs.YthmpeeipbclhkaaDoor.merkleDescent
