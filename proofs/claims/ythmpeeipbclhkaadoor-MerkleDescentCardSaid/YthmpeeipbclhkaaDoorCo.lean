/-
  Walk: collides.
-/
import Derived.Test.YthmpeeipbclhkaaDoorSp
import Derived.Deep.CutRange
namespace Go.Proofs.YthmpeeipbclhkaaDoor
set_option linter.unusedSimpArgs false
set_option linter.unusedVariables false
open Go.RowKit

theorem nodeI (l : List (List Int)) (a : Option Addr) (cap : Nat) (x y : Int) (j k : Nat) (w : World) (hk : KOk w) (hv : Dl (fun k => k < w.heap.size) w (.slice a l.length cap) l) (hl : l.length ≤ 65536) (hx : x = (j : Int)) (hy : y = (k : Int)) (hj : j ≤ 16) (hkj : k < 2 ^ (16 - j)) (D : List Int) (hD : D = nd prt pdd l j k) :
    Calls Tryd.prog 13 #[.slice a l.length cap, .int .i64 x, .int .i64 y] w fun e w' => e = .returned (.tuple #[.agg (byteVals D).toArray, .bool true]) ∧ Below w.heap.size w w' := by
  subst hx hy hD
  exact nodeOk_any l a cap j k w hk hv hl hj hkj

set_option maxRecDepth 100000 in
set_option maxHeartbeats 8000000 in
theorem collides_any (a b : List (List Int)) (oa ob : Option Addr) (ca cb : Nat) (hla : a.length ≤ 65536) (hlb : b.length ≤ 65536) : ∀ (j k : Nat) (x y : Int) (w : World), x = (j : Int) → y = (k : Int) → KOk w → Dl (fun k => k < w.heap.size) w (.slice oa a.length ca) a → Dl (fun k => k < w.heap.size) w (.slice ob b.length cb) b → j ≤ 16 → k < 2 ^ (16 - j) →
    Calls Tryd.prog 35 #[.slice oa a.length ca, .slice ob b.length cb, .int .i64 x, .int .i64 y] w fun e w' => e = .returned (.bool (col prt pdd a b j k)) ∧ Below w.heap.size w w' := by
  intro j
  induction j with
  | zero =>
    intro k x y w hx hy hk hv hv2 hj hkj
    subst hx hy
    have e0 : col prt pdd a b 0 k = false := rfl
    rw [e0]
    clear e0 hv hv2 hk
    go_enter Tryd.func35, Tryd.ntmps35
    go_wp2
    go_ret
    exact ⟨rfl, Below.refl _ _⟩
  | succ j ih =>
    intro k x y w hx hy hk hv hv2 hj hkj
    have hx1 : 1 ≤ x ∧ x ≤ 16 := by omega
    have hp : 2 ^ (16 - j) = 2 * 2 ^ (16 - (j + 1)) := by rw [Nat.mul_comm, ← Nat.pow_succ]; congr 1; omega
    have hb1 : 2 * k < 2 ^ (16 - j) := by omega
    have hb2 : 2 * k + 1 < 2 ^ (16 - j) := by omega
    have hq : 2 ^ (16 - (j + 1)) ≤ 2 ^ 16 := Nat.pow_le_pow_right (by decide) (by omega)
    have hy1 : 0 ≤ y ∧ y < 65536 := by omega
    have hj2 : j ≤ 16 := by omega
    have hda := fun jj kk => nd_dg a jj kk hv.2.1
    have hdb := fun jj kk => nd_dg b jj kk hv2.2.1
    obtain ⟨X, hX⟩ : ∃ D, D = nd prt pdd a (j + 1) k := ⟨_, rfl⟩
    obtain ⟨Y, hY⟩ : ∃ D, D = nd prt pdd b (j + 1) k := ⟨_, rfl⟩
    obtain ⟨P, hP⟩ : ∃ D, D = nd prt pdd a j (2 * k) := ⟨_, rfl⟩
    obtain ⟨Q, hQ⟩ : ∃ D, D = nd prt pdd b j (2 * k) := ⟨_, rfl⟩
    obtain ⟨R, hR⟩ : ∃ D, D = nd prt pdd a j (2 * k + 1) := ⟨_, rfl⟩
    obtain ⟨S, hS⟩ : ∃ D, D = nd prt pdd b j (2 * k + 1) := ⟨_, rfl⟩
    have hxl : X.length = 32 := by rw [hX]; exact (hda _ _).1
    have hyl : Y.length = 32 := by rw [hY]; exact (hdb _ _).1
    have hpl : P.length = 32 := by rw [hP]; exact (hda _ _).1
    have hql : Q.length = 32 := by rw [hQ]; exact (hdb _ _).1
    have hrl : R.length = 32 := by rw [hR]; exact (hda _ _).1
    have hsl : S.length = 32 := by rw [hS]; exact (hdb _ _).1
    have hcol : col prt pdd a b (j + 1) k = ((decide (X = Y) && !(decide (P = Q) && decide (R = S))) || (col prt pdd a b j (2 * k) || col prt pdd a b j (2 * k + 1))) := by rw [hX, hY, hP, hQ, hR, hS]; rfl
    have hc1 : ∀ (x' y' : Int) w', x' = (j : Int) → y' = ((2 * k : Nat) : Int) → KOk w' → Dl (fun k => k < w'.heap.size) w' (.slice oa a.length ca) a → Dl (fun k => k < w'.heap.size) w' (.slice ob b.length cb) b → Calls Tryd.prog 35 #[.slice oa a.length ca, .slice ob b.length cb, .int .i64 x', .int .i64 y'] w' fun e w'' => e = .returned (.bool (col prt pdd a b j (2 * k))) ∧ Below w'.heap.size w' w'' :=
      fun x' y' w' h1 h2 h3 h4 h5 => ih _ x' y' w' h1 h2 h3 h4 h5 hj2 hb1
    have hc2 : ∀ (x' y' : Int) w', x' = (j : Int) → y' = ((2 * k + 1 : Nat) : Int) → KOk w' → Dl (fun k => k < w'.heap.size) w' (.slice oa a.length ca) a → Dl (fun k => k < w'.heap.size) w' (.slice ob b.length cb) b → Calls Tryd.prog 35 #[.slice oa a.length ca, .slice ob b.length cb, .int .i64 x', .int .i64 y'] w' fun e w'' => e = .returned (.bool (col prt pdd a b j (2 * k + 1))) ∧ Below w'.heap.size w' w'' :=
      fun x' y' w' h1 h2 h3 h4 h5 => ih _ x' y' w' h1 h2 h3 h4 h5 hj2 hb2
    rw [hcol]
    obtain ⟨C1, hC1⟩ : ∃ C, C = col prt pdd a b j (2 * k) := ⟨_, rfl⟩
    obtain ⟨C2, hC2⟩ : ∃ C, C = col prt pdd a b j (2 * k + 1) := ⟨_, rfl⟩
    rw [← hC1] at hc1 ⊢
    rw [← hC2] at hc2 ⊢
    obtain ⟨FF, hFF⟩ : ∃ FF, FF = ((decide (X = Y) && !(decide (P = Q) && decide (R = S))) || (C1 || C2)) := ⟨_, rfl⟩
    rw [← hFF]
    have HF := Lib.hid hFF
    clear hFF
    have HK := Lib.hid hk; have HV := Lib.hid hv; have HV2 := Lib.hid hv2; have HC1 := Lib.hid hc1; have HC2 := Lib.hid hc2
    have HX := Lib.hid hX; have HY := Lib.hid hY; have HP := Lib.hid hP; have HQ := Lib.hid hQ; have HR := Lib.hid hR; have HSS := Lib.hid hS
    have HS := Lib.hid (St4.nil w)
    have HJ := Lib.hid hkj; have HB1 := Lib.hid hb1; have HB2 := Lib.hid hb2
    have HXE := Lib.hid hx; have HYE := Lib.hid hy
    clear hk hv hv2 hc1 hc2 hX hY hP hQ hR hS hda hdb hcol hC1 hC2 ih hp hb1 hb2 hq hkj hx hy
    · go_enter Tryd.func35, Tryd.ntmps35
      go_wp2_with fail
      refine (nodeI a oa ca _ _ (j + 1) k _ (HK.out.below HS.out.below) (HV.out.on HS.out.below) hla (by have := HXE.out; omega) (by have := HYE.out; omega) hj HJ.out X HX.out).mono ?_
      rintro e wx ⟨rfl, hb⟩
      replace HS := Lib.hid (HS.out.call hb)
      clear hb
      go_wp2_with (refine wpList_newD HS.out rfl (.tmp 9) (.tmp 28) rfl rfl X rfl hxl rfl ?_; intro wS hS; replace HS := Lib.hid hS; clear hS; (try simp only [Act.put, List.setIfInBounds_toArray, List.set_cons_zero, List.set_cons_succ, List.getElem_toArray, List.getElem_cons_zero, List.getElem_cons_succ]))
      refine (nodeI b ob cb _ _ (j + 1) k _ (HK.out.below HS.out.below) (HV2.out.on HS.out.below) hlb (by have := HXE.out; omega) (by have := HYE.out; omega) hj HJ.out Y HY.out).mono ?_
      rintro e wy ⟨rfl, hb⟩
      replace HS := Lib.hid (HS.out.call hb)
      clear hb
      go_wp2_with (refine wpList_newD HS.out rfl (.tmp 11) (.tmp 35) rfl rfl Y rfl hyl rfl ?_; intro wS hS; replace HS := Lib.hid hS; clear hS; (try simp only [Act.put, List.setIfInBounds_toArray, List.set_cons_zero, List.set_cons_succ, List.getElem_toArray, List.getElem_cons_zero, List.getElem_cons_succ]))
      refine (nodeI a oa ca _ _ j (2 * k) _ (HK.out.below HS.out.below) (HV.out.on HS.out.below) hla (by have := HXE.out; omega) (by have := HYE.out; omega) hj2 HB1.out P HP.out).mono ?_
      rintro e wp ⟨rfl, hb⟩
      replace HS := Lib.hid (HS.out.call hb)
      clear hb
      go_wp2_with (refine wpList_newD HS.out rfl (.tmp 13) (.tmp 44) rfl rfl P rfl hpl rfl ?_; intro wS hS; replace HS := Lib.hid hS; clear hS; (try simp only [Act.put, List.setIfInBounds_toArray, List.set_cons_zero, List.set_cons_succ, List.getElem_toArray, List.getElem_cons_zero, List.getElem_cons_succ]))
      refine (nodeI b ob cb _ _ j (2 * k) _ (HK.out.below HS.out.below) (HV2.out.on HS.out.below) hlb (by have := HXE.out; omega) (by have := HYE.out; omega) hj2 HB1.out Q HQ.out).mono ?_
      rintro e wq ⟨rfl, hb⟩
      replace HS := Lib.hid (HS.out.call hb)
      clear hb
      go_wp2_with (refine wpList_newD HS.out rfl (.tmp 15) (.tmp 53) rfl rfl Q rfl hql rfl ?_; intro wS hS; replace HS := Lib.hid hS; clear hS; (try simp only [Act.put, List.setIfInBounds_toArray, List.set_cons_zero, List.set_cons_succ, List.getElem_toArray, List.getElem_cons_zero, List.getElem_cons_succ]))
      refine (nodeI a oa ca _ _ j (2 * k + 1) _ (HK.out.below HS.out.below) (HV.out.on HS.out.below) hla (by have := HXE.out; omega) (by have := HYE.out; omega) hj2 HB2.out R HR.out).mono ?_
      rintro e wr ⟨rfl, hb⟩
      replace HS := Lib.hid (HS.out.call hb)
      clear hb
      go_wp2_with (refine wpList_newD HS.out rfl (.tmp 17) (.tmp 63) rfl rfl R rfl hrl rfl ?_; intro wS hS; replace HS := Lib.hid hS; clear hS; (try simp only [Act.put, List.setIfInBounds_toArray, List.set_cons_zero, List.set_cons_succ, List.getElem_toArray, List.getElem_cons_zero, List.getElem_cons_succ]))
      refine (nodeI b ob cb _ _ j (2 * k + 1) _ (HK.out.below HS.out.below) (HV2.out.on HS.out.below) hlb (by have := HXE.out; omega) (by have := HYE.out; omega) hj2 HB2.out S HSS.out).mono ?_
      rintro e ws ⟨rfl, hb⟩
      replace HS := Lib.hid (HS.out.call hb)
      clear hb
      go_upto_region 9 with (refine wpList_newD HS.out rfl (.tmp 19) (.tmp 73) rfl rfl S rfl hsl rfl ?_; intro wS hS; replace HS := Lib.hid hS; clear hS; (try simp only [Act.put, List.setIfInBounds_toArray, List.set_cons_zero, List.set_cons_succ, List.getElem_toArray, List.getElem_cons_zero, List.getElem_cons_succ]))
      generalize wx.heap.size = gx at *
      generalize wy.heap.size = gy at *
      generalize wp.heap.size = gp at *
      generalize wq.heap.size = gq at *
      generalize wr.heap.size = gr at *
      generalize ws.heap.size = gs at *
      have e1 := eqDig X Y hxl hyl
      have e2 := eqDig P Q hpl hql
      have e3 := eqDig R S hrl hsl
      by_cases h1 : X = Y
      · rw [decide_eq_true h1] at e1
        have H1 := Lib.hid h1
        clear h1
        by_cases h2 : P = Q
        · rw [decide_eq_true h2] at e2
          have H2 := Lib.hid h2
          clear h2
          by_cases h3 : R = S
          · rw [decide_eq_true h3] at e3
            have H3 := Lib.hid h3
            clear h3
            cases C1
            · go_wp2_with (first | (refine wpList_loadG (by rfl) (.tmp 9) rfl gx rfl X (HS.out.range (by (with_reducible (repeat (first | exact List.mem_cons_self | refine List.mem_cons_of_mem _ ?_))))) hxl ?_; (try simp only [Act.put, List.setIfInBounds_toArray, List.set_cons_zero, List.set_cons_succ, List.getElem_toArray, List.getElem_cons_zero, List.getElem_cons_succ])) | (refine wpList_loadG (by rfl) (.tmp 11) rfl gy rfl Y (HS.out.range (by (with_reducible (repeat (first | exact List.mem_cons_self | refine List.mem_cons_of_mem _ ?_))))) hyl ?_; (try simp only [Act.put, List.setIfInBounds_toArray, List.set_cons_zero, List.set_cons_succ, List.getElem_toArray, List.getElem_cons_zero, List.getElem_cons_succ])) | (refine wpList_loadG (by rfl) (.tmp 13) rfl gp rfl P (HS.out.range (by (with_reducible (repeat (first | exact List.mem_cons_self | refine List.mem_cons_of_mem _ ?_))))) hpl ?_; (try simp only [Act.put, List.setIfInBounds_toArray, List.set_cons_zero, List.set_cons_succ, List.getElem_toArray, List.getElem_cons_zero, List.getElem_cons_succ])) | (refine wpList_loadG (by rfl) (.tmp 15) rfl gq rfl Q (HS.out.range (by (with_reducible (repeat (first | exact List.mem_cons_self | refine List.mem_cons_of_mem _ ?_))))) hql ?_; (try simp only [Act.put, List.setIfInBounds_toArray, List.set_cons_zero, List.set_cons_succ, List.getElem_toArray, List.getElem_cons_zero, List.getElem_cons_succ])) | (refine wpList_loadG (by rfl) (.tmp 17) rfl gr rfl R (HS.out.range (by (with_reducible (repeat (first | exact List.mem_cons_self | refine List.mem_cons_of_mem _ ?_))))) hrl ?_; (try simp only [Act.put, List.setIfInBounds_toArray, List.set_cons_zero, List.set_cons_succ, List.getElem_toArray, List.getElem_cons_zero, List.getElem_cons_succ])) | (refine wpList_loadG (by rfl) (.tmp 19) rfl gs rfl S (HS.out.range (by (with_reducible (repeat (first | exact List.mem_cons_self | refine List.mem_cons_of_mem _ ?_))))) hsl ?_; (try simp only [Act.put, List.setIfInBounds_toArray, List.set_cons_zero, List.set_cons_succ, List.getElem_toArray, List.getElem_cons_zero, List.getElem_cons_succ])))
              refine (HC1.out _ _ _ (by have := HXE.out; omega) (by have := HYE.out; omega) (HK.out.below HS.out.below) (HV.out.on HS.out.below) (HV2.out.on HS.out.below)).mono ?_
              rintro e wc1 ⟨rfl, hb⟩
              replace HS := Lib.hid (HS.out.call hb)
              clear hb
              go_wp2_with fail
              refine (HC2.out _ _ _ (by have := HXE.out; omega) (by have := HYE.out; omega) (HK.out.below HS.out.below) (HV.out.on HS.out.below) (HV2.out.on HS.out.below)).mono ?_
              rintro e wc2 ⟨rfl, hb⟩
              replace HS := Lib.hid (HS.out.call hb)
              clear hb
              go_wp2
              go_ret
              exact ⟨by rw [HF.out, decide_eq_true H1.out, decide_eq_true H2.out, decide_eq_true H3.out]; simp, HS.out.below⟩
            · go_wp2_with (first | (refine wpList_loadG (by rfl) (.tmp 9) rfl gx rfl X (HS.out.range (by (with_reducible (repeat (first | exact List.mem_cons_self | refine List.mem_cons_of_mem _ ?_))))) hxl ?_; (try simp only [Act.put, List.setIfInBounds_toArray, List.set_cons_zero, List.set_cons_succ, List.getElem_toArray, List.getElem_cons_zero, List.getElem_cons_succ])) | (refine wpList_loadG (by rfl) (.tmp 11) rfl gy rfl Y (HS.out.range (by (with_reducible (repeat (first | exact List.mem_cons_self | refine List.mem_cons_of_mem _ ?_))))) hyl ?_; (try simp only [Act.put, List.setIfInBounds_toArray, List.set_cons_zero, List.set_cons_succ, List.getElem_toArray, List.getElem_cons_zero, List.getElem_cons_succ])) | (refine wpList_loadG (by rfl) (.tmp 13) rfl gp rfl P (HS.out.range (by (with_reducible (repeat (first | exact List.mem_cons_self | refine List.mem_cons_of_mem _ ?_))))) hpl ?_; (try simp only [Act.put, List.setIfInBounds_toArray, List.set_cons_zero, List.set_cons_succ, List.getElem_toArray, List.getElem_cons_zero, List.getElem_cons_succ])) | (refine wpList_loadG (by rfl) (.tmp 15) rfl gq rfl Q (HS.out.range (by (with_reducible (repeat (first | exact List.mem_cons_self | refine List.mem_cons_of_mem _ ?_))))) hql ?_; (try simp only [Act.put, List.setIfInBounds_toArray, List.set_cons_zero, List.set_cons_succ, List.getElem_toArray, List.getElem_cons_zero, List.getElem_cons_succ])) | (refine wpList_loadG (by rfl) (.tmp 17) rfl gr rfl R (HS.out.range (by (with_reducible (repeat (first | exact List.mem_cons_self | refine List.mem_cons_of_mem _ ?_))))) hrl ?_; (try simp only [Act.put, List.setIfInBounds_toArray, List.set_cons_zero, List.set_cons_succ, List.getElem_toArray, List.getElem_cons_zero, List.getElem_cons_succ])) | (refine wpList_loadG (by rfl) (.tmp 19) rfl gs rfl S (HS.out.range (by (with_reducible (repeat (first | exact List.mem_cons_self | refine List.mem_cons_of_mem _ ?_))))) hsl ?_; (try simp only [Act.put, List.setIfInBounds_toArray, List.set_cons_zero, List.set_cons_succ, List.getElem_toArray, List.getElem_cons_zero, List.getElem_cons_succ])))
              refine (HC1.out _ _ _ (by have := HXE.out; omega) (by have := HYE.out; omega) (HK.out.below HS.out.below) (HV.out.on HS.out.below) (HV2.out.on HS.out.below)).mono ?_
              rintro e wc1 ⟨rfl, hb⟩
              replace HS := Lib.hid (HS.out.call hb)
              clear hb
              go_wp2
              go_ret
              exact ⟨by rw [HF.out, decide_eq_true H1.out, decide_eq_true H2.out, decide_eq_true H3.out]; simp, HS.out.below⟩
          · rw [decide_eq_false h3] at e3
            have H3 := Lib.hid h3
            clear h3
            go_wp2_with (first | (refine wpList_loadG (by rfl) (.tmp 9) rfl gx rfl X (HS.out.range (by (with_reducible (repeat (first | exact List.mem_cons_self | refine List.mem_cons_of_mem _ ?_))))) hxl ?_; (try simp only [Act.put, List.setIfInBounds_toArray, List.set_cons_zero, List.set_cons_succ, List.getElem_toArray, List.getElem_cons_zero, List.getElem_cons_succ])) | (refine wpList_loadG (by rfl) (.tmp 11) rfl gy rfl Y (HS.out.range (by (with_reducible (repeat (first | exact List.mem_cons_self | refine List.mem_cons_of_mem _ ?_))))) hyl ?_; (try simp only [Act.put, List.setIfInBounds_toArray, List.set_cons_zero, List.set_cons_succ, List.getElem_toArray, List.getElem_cons_zero, List.getElem_cons_succ])) | (refine wpList_loadG (by rfl) (.tmp 13) rfl gp rfl P (HS.out.range (by (with_reducible (repeat (first | exact List.mem_cons_self | refine List.mem_cons_of_mem _ ?_))))) hpl ?_; (try simp only [Act.put, List.setIfInBounds_toArray, List.set_cons_zero, List.set_cons_succ, List.getElem_toArray, List.getElem_cons_zero, List.getElem_cons_succ])) | (refine wpList_loadG (by rfl) (.tmp 15) rfl gq rfl Q (HS.out.range (by (with_reducible (repeat (first | exact List.mem_cons_self | refine List.mem_cons_of_mem _ ?_))))) hql ?_; (try simp only [Act.put, List.setIfInBounds_toArray, List.set_cons_zero, List.set_cons_succ, List.getElem_toArray, List.getElem_cons_zero, List.getElem_cons_succ])) | (refine wpList_loadG (by rfl) (.tmp 17) rfl gr rfl R (HS.out.range (by (with_reducible (repeat (first | exact List.mem_cons_self | refine List.mem_cons_of_mem _ ?_))))) hrl ?_; (try simp only [Act.put, List.setIfInBounds_toArray, List.set_cons_zero, List.set_cons_succ, List.getElem_toArray, List.getElem_cons_zero, List.getElem_cons_succ])) | (refine wpList_loadG (by rfl) (.tmp 19) rfl gs rfl S (HS.out.range (by (with_reducible (repeat (first | exact List.mem_cons_self | refine List.mem_cons_of_mem _ ?_))))) hsl ?_; (try simp only [Act.put, List.setIfInBounds_toArray, List.set_cons_zero, List.set_cons_succ, List.getElem_toArray, List.getElem_cons_zero, List.getElem_cons_succ])))
            go_ret
            exact ⟨by rw [HF.out, decide_eq_true H1.out, decide_eq_true H2.out, decide_eq_false H3.out]; simp, HS.out.below⟩
        · rw [decide_eq_false h2] at e2
          have H2 := Lib.hid h2
          clear h2
          go_wp2_with (first | (refine wpList_loadG (by rfl) (.tmp 9) rfl gx rfl X (HS.out.range (by (with_reducible (repeat (first | exact List.mem_cons_self | refine List.mem_cons_of_mem _ ?_))))) hxl ?_; (try simp only [Act.put, List.setIfInBounds_toArray, List.set_cons_zero, List.set_cons_succ, List.getElem_toArray, List.getElem_cons_zero, List.getElem_cons_succ])) | (refine wpList_loadG (by rfl) (.tmp 11) rfl gy rfl Y (HS.out.range (by (with_reducible (repeat (first | exact List.mem_cons_self | refine List.mem_cons_of_mem _ ?_))))) hyl ?_; (try simp only [Act.put, List.setIfInBounds_toArray, List.set_cons_zero, List.set_cons_succ, List.getElem_toArray, List.getElem_cons_zero, List.getElem_cons_succ])) | (refine wpList_loadG (by rfl) (.tmp 13) rfl gp rfl P (HS.out.range (by (with_reducible (repeat (first | exact List.mem_cons_self | refine List.mem_cons_of_mem _ ?_))))) hpl ?_; (try simp only [Act.put, List.setIfInBounds_toArray, List.set_cons_zero, List.set_cons_succ, List.getElem_toArray, List.getElem_cons_zero, List.getElem_cons_succ])) | (refine wpList_loadG (by rfl) (.tmp 15) rfl gq rfl Q (HS.out.range (by (with_reducible (repeat (first | exact List.mem_cons_self | refine List.mem_cons_of_mem _ ?_))))) hql ?_; (try simp only [Act.put, List.setIfInBounds_toArray, List.set_cons_zero, List.set_cons_succ, List.getElem_toArray, List.getElem_cons_zero, List.getElem_cons_succ])) | (refine wpList_loadG (by rfl) (.tmp 17) rfl gr rfl R (HS.out.range (by (with_reducible (repeat (first | exact List.mem_cons_self | refine List.mem_cons_of_mem _ ?_))))) hrl ?_; (try simp only [Act.put, List.setIfInBounds_toArray, List.set_cons_zero, List.set_cons_succ, List.getElem_toArray, List.getElem_cons_zero, List.getElem_cons_succ])) | (refine wpList_loadG (by rfl) (.tmp 19) rfl gs rfl S (HS.out.range (by (with_reducible (repeat (first | exact List.mem_cons_self | refine List.mem_cons_of_mem _ ?_))))) hsl ?_; (try simp only [Act.put, List.setIfInBounds_toArray, List.set_cons_zero, List.set_cons_succ, List.getElem_toArray, List.getElem_cons_zero, List.getElem_cons_succ])))
          go_ret
          exact ⟨by rw [HF.out, decide_eq_true H1.out, decide_eq_false H2.out]; simp, HS.out.below⟩
      · rw [decide_eq_false h1] at e1
        have H1 := Lib.hid h1
        clear h1
        refine wp_region_lit ?_
        refine wpList_loadG (by rfl) (.tmp 9) rfl gx rfl X (HS.out.range (by (with_reducible (repeat (first | exact List.mem_cons_self | refine List.mem_cons_of_mem _ ?_))))) hxl ?_
        (try simp only [Act.put, List.setIfInBounds_toArray, List.set_cons_zero, List.set_cons_succ, List.getElem_toArray, List.getElem_cons_zero, List.getElem_cons_succ])
        refine wpList_loadG (by rfl) (.tmp 11) rfl gy rfl Y (HS.out.range (by (with_reducible (repeat (first | exact List.mem_cons_self | refine List.mem_cons_of_mem _ ?_))))) hyl ?_
        (try simp only [Act.put, List.setIfInBounds_toArray, List.set_cons_zero, List.set_cons_succ, List.getElem_toArray, List.getElem_cons_zero, List.getElem_cons_succ])
        with_reducible refine wpList_step (fun K hK => ?_)
        go_simp
        with_reducible refine hK _ _ ?_
        clear hK K
        (try simp only [Act.put, List.setIfInBounds_toArray, List.set_cons_zero, List.set_cons_succ, List.getElem_toArray, List.getElem_cons_zero, List.getElem_cons_succ])
        with_reducible refine wpList_step (fun K hK => ?_)
        go_simp
        with_reducible refine hK _ _ ?_
        clear hK K
        (try simp only [Act.put, List.setIfInBounds_toArray, List.set_cons_zero, List.set_cons_succ, List.getElem_toArray, List.getElem_cons_zero, List.getElem_cons_succ])
        with_reducible refine wpList_skip ?_ ?_
        · rfl
        (try simp only [Act.put, List.setIfInBounds_toArray, List.set_cons_zero, List.set_cons_succ, List.getElem_toArray, List.getElem_cons_zero, List.getElem_cons_succ])
        with_reducible refine wpList_skip ?_ ?_
        · rfl
        (try simp only [Act.put, List.setIfInBounds_toArray, List.set_cons_zero, List.set_cons_succ, List.getElem_toArray, List.getElem_cons_zero, List.getElem_cons_succ])
        with_reducible refine wpList_skip ?_ ?_
        · rfl
        (try simp only [Act.put, List.setIfInBounds_toArray, List.set_cons_zero, List.set_cons_succ, List.getElem_toArray, List.getElem_cons_zero, List.getElem_cons_succ])
        with_reducible refine wpList_skip ?_ ?_
        · rfl
        (try simp only [Act.put, List.setIfInBounds_toArray, List.set_cons_zero, List.set_cons_succ, List.getElem_toArray, List.getElem_cons_zero, List.getElem_cons_succ])
        with_reducible refine wpList_skip ?_ ?_
        · rfl
        (try simp only [Act.put, List.setIfInBounds_toArray, List.set_cons_zero, List.set_cons_succ, List.getElem_toArray, List.getElem_cons_zero, List.getElem_cons_succ])
        with_reducible refine wpList_skip ?_ ?_
        · rfl
        (try simp only [Act.put, List.setIfInBounds_toArray, List.set_cons_zero, List.set_cons_succ, List.getElem_toArray, List.getElem_cons_zero, List.getElem_cons_succ])
        with_reducible refine wpList_skip ?_ ?_
        · rfl
        (try simp only [Act.put, List.setIfInBounds_toArray, List.set_cons_zero, List.set_cons_succ, List.getElem_toArray, List.getElem_cons_zero, List.getElem_cons_succ])
        with_reducible refine wpList_skip ?_ ?_
        · rfl
        (try simp only [Act.put, List.setIfInBounds_toArray, List.set_cons_zero, List.set_cons_succ, List.getElem_toArray, List.getElem_cons_zero, List.getElem_cons_succ])
        with_reducible refine wpList_step (fun K hK => ?_)
        go_simp
        with_reducible refine hK _ _ ?_
        clear hK K
        (try simp only [Act.put, List.setIfInBounds_toArray, List.set_cons_zero, List.set_cons_succ, List.getElem_toArray, List.getElem_cons_zero, List.getElem_cons_succ])
        with_reducible refine wpList_nil ?_
        cases C1
        · go_wp2_with fail
          refine (HC1.out _ _ _ (by have := HXE.out; omega) (by have := HYE.out; omega) (HK.out.below HS.out.below) (HV.out.on HS.out.below) (HV2.out.on HS.out.below)).mono ?_
          rintro e wc1 ⟨rfl, hb⟩
          replace HS := Lib.hid (HS.out.call hb)
          clear hb
          go_wp2_with fail
          refine (HC2.out _ _ _ (by have := HXE.out; omega) (by have := HYE.out; omega) (HK.out.below HS.out.below) (HV.out.on HS.out.below) (HV2.out.on HS.out.below)).mono ?_
          rintro e wc2 ⟨rfl, hb⟩
          replace HS := Lib.hid (HS.out.call hb)
          clear hb
          go_wp2
          go_ret
          exact ⟨by rw [HF.out, decide_eq_false H1.out]; simp, HS.out.below⟩
        · go_wp2_with fail
          refine (HC1.out _ _ _ (by have := HXE.out; omega) (by have := HYE.out; omega) (HK.out.below HS.out.below) (HV.out.on HS.out.below) (HV2.out.on HS.out.below)).mono ?_
          rintro e wc1 ⟨rfl, hb⟩
          replace HS := Lib.hid (HS.out.call hb)
          clear hb
          go_wp2
          go_ret
          exact ⟨by rw [HF.out, decide_eq_false H1.out]; simp, HS.out.below⟩
end Go.Proofs.YthmpeeipbclhkaaDoor
