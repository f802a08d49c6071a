/-
  The statement 'Rows.FrameDetectsCardSaid': for every content, place and four bytes the law of detection (the checksum changes, and the frame with the old checksum is damaged) answers true; the arguments read as they did. Condition: the table of the checksum lies as the program's text lays it.
-/
import Derived.Test.YtdmlnjgbfkkjdaaDoorFr
import Derived.ChangeMaps5
namespace Go.Proofs.YtdmlnjgbfkkjdaaDoor.frameDetects
open Go.ChangeShapes Go.WideShapes Go.ChangeAt Go.RowKit Go.Lib
set_option linter.unusedVariables false
set_option linter.unusedSimpArgs false

/-- The content with m bytes from A on replaced. -/
def chg (b : List Int) (A : Nat) (D : List Int) (m : Nat) : List Int := b.take A ++ D.take m ++ b.drop (A + m)
theorem chg_zero (b : List Int) (A : Nat) (D : List Int) : chg b A D 0 = b := by unfold chg; simp
theorem chg_len (b : List Int) (A : Nat) (D : List Int) (m : Nat) (hm : m ≤ D.length) (hA : A + m ≤ b.length) : (chg b A D m).length = b.length := by unfold chg; simp; omega
theorem chg_next (b : List Int) (A : Nat) (D : List Int) (k : Nat) (hk : k < D.length) (hA : A + k < b.length) : (chg b A D k).set (A + k) D[k] = chg b A D (k + 1) := by
  unfold chg
  have h1 : (b.take A ++ D.take k).length = A + k := by simp; omega
  rw [List.set_append, if_neg (by rw [h1]; omega), h1, Nat.sub_self, List.drop_eq_getElem_cons hA, List.set_cons_zero, List.take_succ_eq_append_getElem hk]
  simp only [List.append_assoc, List.cons_append, List.nil_append, Nat.add_assoc]
theorem chg_rg {b D : List Int} (hb : Rg8 b) (hD : Rg8 D) (A m : Nat) : Rg8 (chg b A D m) := ((hb.take A).app (hD.take m)).app (hb.drop (A + m))
theorem chg_self (b : List Int) (A m : Nat) : b = b.take A ++ (b.drop A).take m ++ b.drop (A + m) := by
  rw [List.append_assoc, ← List.drop_drop, List.take_append_drop, List.take_append_drop]
theorem chg_crc {b D : List Int} (hb : Rg8 b) (hD : Rg8 D) (A m : Nat) (hm : m ≤ D.length) (h4 : m ≤ 4) (hA : A + m ≤ b.length) (hne : chg b A D m ≠ b) : crcI (chg b A D m) ≠ crcI b := by
  intro h
  apply hne
  have e := chg_self b A m
  have h2 : crcI (b.take A ++ D.take m ++ b.drop (A + m)) = crcI (b.take A ++ (b.drop A).take m ++ b.drop (A + m)) := by rw [← e]; exact h
  have h3 := change_four (hb.take A) (hb.drop (A + m)) (hD.take m) ((hb.drop A).take m) (by simp; omega) (by simp; omega) h2
  unfold chg
  rw [h3]
  exact e.symm
theorem own_put {w : World} {base g n cap : Nat} {l : List Int} (h : w.ownsRow base 5 1 (.slice (some ⟨g, 0, none⟩) n cap) n (byteVals l)) (Q : Nat) (u : Int) :
    (w.setCell ⟨g, Q, none⟩ (.int .u8 u)).ownsRow base 5 1 (.slice (some ⟨g, 0, none⟩) n cap) n (byteVals (l.set Q u)) := by
  rcases h.2 with ⟨e, _⟩ | ⟨g', cap', cur, e, hb, hg, hn, hm, hs, ht⟩
  · cases e
  · simp only [Value.slice.injEq, Option.some.injEq, Addr.mk.injEq, and_true, true_and] at e
    obtain ⟨rfl, rfl⟩ := e
    refine ⟨by have := h.1; rw [byteVals_length] at this ⊢; simpa using this, Or.inr ⟨g, cap, _, rfl, hb, heap_setCell_same w g Q cur 5 _ hg, hn, hm, by simpa using hs, ?_⟩⟩
    have e2 : byteVals (l.set Q u) = (byteVals l).set Q (.int .u8 u) := by unfold byteVals; rw [List.map_set]
    rw [e2, ← ht, ← List.take_set]
    congr 1
    simp
theorem own_at {w : World} {base g n cap : Nat} {l : List Int} (h : w.ownsRow base 5 1 (.slice (some ⟨g, 0, none⟩) n cap) n (byteVals l)) {Q : Nat} (hQ : Q < l.length) (hl : l.length = n) :
    w.cell? ⟨g, Q, none⟩ = some (.int .u8 l[Q]) ∧ w.frozen? ⟨g, Q, none⟩ = false ∧ base ≤ g := by
  rcases h.2 with ⟨e, _⟩ | ⟨g', cap', cur, e, hb, hg, hn, hm, hs, ht⟩
  · cases e
  · simp only [Value.slice.injEq, Option.some.injEq, Addr.mk.injEq, and_true, true_and] at e
    obtain ⟨rfl, rfl⟩ := e
    refine ⟨?_, by simp [World.frozen?, hg], hb⟩
    rw [cell_of_row w g Q cur 5 (0, 0) hg]
    have h2 : (byteVals l)[Q]? = some (.int .u8 l[Q]) := by unfold byteVals; rw [List.getElem?_map, List.getElem?_eq_getElem hQ]; rfl
    rw [← ht, List.getElem?_take] at h2
    split at h2
    · simpa using h2
    · cases h2

set_option maxRecDepth 100000 in
set_option maxHeartbeats 8000000 in
theorem walk (b : List Int) (at0 : Int) (D : List Int) (vb : Value) (w : World) (hk : KOk w) (hb : Bs (fun k => k < w.heap.size) w vb b) (hat : I64 at0) (hD : D.length = 4) (hDr : ∀ u ∈ D, 0 ≤ u ∧ u ≤ 255) :
    Calls Tryd.prog 9 #[vb, .int .i64 at0, .agg (byteVals D).toArray] w fun e w' => e = .returned (.bool true) ∧ Below w.heap.size w w' := by
  obtain ⟨W, hW⟩ : ∃ W, W = w.alloc (.cells (byteVals D).toArray 42) := ⟨_, rfl⟩
  have HBW := Lib.hid (show Below w.heap.size w W by rw [hW]; exact ball (Below.refl _ _) _)
  have HDW := Lib.hid (show RowB W w.heap.size 42 D by rw [hW]; exact RowB.new w 42 D)
  have HW := Lib.hid hW
  have HK := Lib.hid hk
  have HV := Lib.hid hb
  have hbr : Rg8 b := hb.2.1
  have HBR := Lib.hid hbr; have HDR := Lib.hid (show Rg8 D from hDr); have HD := Lib.hid hD
  obtain ⟨a, c, rfl⟩ := hb.shape
  have hbl := hb.1
  obtain ⟨n, hn⟩ : ∃ n, n = b.length := ⟨_, rfl⟩
  rw [← hn] at HV hbl ⊢
  have HN := Lib.hid hn
  obtain ⟨a1, a2⟩ := hat
  clear hW hk hb hbr hn hD hDr
  by_cases hok : n ≤ 8192 ∧ 0 ≤ at0 ∧ at0 < (n : Int)
  rotate_left
  · by_cases c1 : 8192 < n
    · have c1' : (8192 : Int) < (n : Int) := by omega
      clear hok c1
      go_enter Tryd.func9, Tryd.ntmps9
      go_wp2_with fail
      rw [← HW.out]
      refine (sane_true W (HK.out.below HBW.out)).mono ?_
      rintro e w1 ⟨rfl, hb1⟩
      have HB1 := Lib.hid (btrans HBW.out hb1); clear hb1
      go_wp2
      go_ret
      exact ⟨rfl, HB1.out⟩
    · have c1' : (n : Int) ≤ 8192 := by omega
      by_cases c2 : at0 < 0
      · clear hok c1
        go_enter Tryd.func9, Tryd.ntmps9
        go_wp2_with fail
        rw [← HW.out]
        refine (sane_true W (HK.out.below HBW.out)).mono ?_
        rintro e w1 ⟨rfl, hb1⟩
        have HB1 := Lib.hid (btrans HBW.out hb1); clear hb1
        go_wp2
        go_ret
        exact ⟨rfl, HB1.out⟩
      · have c3 : (n : Int) ≤ at0 := by omega
        have c2' : 0 ≤ at0 := by omega
        clear hok c1 c2
        go_enter Tryd.func9, Tryd.ntmps9
        go_wp2_with fail
        rw [← HW.out]
        refine (sane_true W (HK.out.below HBW.out)).mono ?_
        rintro e w1 ⟨rfl, hb1⟩
        have HB1 := Lib.hid (btrans HBW.out hb1); clear hb1
        go_wp2
        go_ret
        exact ⟨rfl, HB1.out⟩
  · obtain ⟨h8, h0, hlt⟩ := hok
    obtain ⟨A, rfl⟩ : ∃ A : Nat, at0 = (A : Int) := ⟨at0.toNat, by omega⟩
    have hAn : A < n := by omega
    clear h0 hlt a1 a2
    obtain ⟨m, hm⟩ : ∃ m, m = min 4 (n - A) := ⟨_, rfl⟩
    have hm4 : m ≤ 4 := by omega
    have hmn : A + m ≤ n := by omega
    have hmx : m = 4 ∨ A + m = n := by omega
    clear hm
    have h8' : (n : Int) ≤ 8192 := by omega
    have hAn' : (A : Int) < (n : Int) := by omega
    have HCRC := Lib.hid (show ∀ wx vx l, Below w.heap.size w wx → Bs (fun k => k < wx.heap.size) wx vx l → Calls Tryd.prog 13 #[vx] wx fun e w' => e = .returned (.int .u32 (crcI l : Nat)) ∧ wx = w' from fun wx vx l hx hv => crc_any l vx wx (HK.out.below hx) hv)
    go_enter Tryd.func9, Tryd.ntmps9
    go_wp2_with fail
    rw [← HW.out]
    refine (sane_true W (HK.out.below HBW.out)).mono ?_
    rintro e w1 ⟨rfl, hb1⟩
    have HB1 := Lib.hid (btrans HBW.out hb1)
    have HD1 := Lib.hid (HDW.out.kept (hb1.block _ (blt HDW.out)))
    clear hb1 HDW HW HBW
    go_wp2_with fail
    refine (joined_any b [] _ _ w1 (HV.out.on HB1.out) (bs_nil _ _) (by rw [← HN.out]; simp; omega)).mono ?_
    rintro e w2 ⟨v2, rfl, hb2, ho2⟩
    rw [List.append_nil, ← HN.out] at ho2
    obtain ⟨g, cap, hv2⟩ : ∃ g cap, v2 = .slice (some ⟨g, 0, none⟩) n cap := by
      rcases ho2.2 with ⟨_, h0⟩ | ⟨g, cap, cur, e, _⟩
      · omega
      · exact ⟨g, cap, e⟩
    subst hv2
    have HB2 := Lib.hid (btrans HB1.out hb2)
    have HD2 := Lib.hid (HD1.out.kept (hb2.block _ (blt HD1.out)))
    have HO2 := Lib.hid ho2
    have HL1 := Lib.hid (Nat.le_trans (Nat.succ_le_of_lt (blt HD1.out)) (Nat.le_refl _))
    clear hb2 ho2
    go_wp2
    go_loopw [8] (fun i wr => ∃ k : Nat, k ≤ m ∧ i = .int .i64 k ∧ Hid (Below w.heap.size w wr ∧ RowB wr w.heap.size 42 D ∧ wr.ownsRow w1.heap.size 5 1 (.slice (some ⟨g, 0, none⟩) n cap) n (byteVals (chg b A D k)))) (fun i _ => m - (intOf i).toNat)
    case atStart => exact ⟨0, by omega, rfl, Lib.hid ⟨HB2.out, HD2.out, by rw [chg_zero]; exact HO2.out⟩⟩
    case round =>
      obtain ⟨k, hk, rfl, H⟩ := hrel
      by_cases hkm : k < m
      · have hk4 : k < 4 := by omega
        have hkD : k < D.length := by rw [HD.out]; exact hk4
        obtain ⟨Q, hQ⟩ : ∃ Q, Q = A + k := ⟨_, rfl⟩
        have hQn : Q < n := by omega
        have hcl := chg_len b A D k (by omega) (by rw [← HN.out]; omega)
        rw [← HN.out] at hcl
        obtain ⟨e1', e2, e3⟩ := own_at H.out.2.2 (Q := Q) (by omega) hcl
        obtain ⟨uq, e1⟩ : ∃ uq, wr.cell? ⟨g, Q, none⟩ = some (.int .u8 uq) := ⟨_, e1'⟩
        clear e1'
        have hd := H.out.2.1.cell (j := k) (x := D[k]) (List.getElem?_eq_getElem hkD)
        have hx1 : (A : Int) + (k : Int) = (Q : Int) := by omega
        have hnx := chg_next b A D k hkD (by rw [← HN.out]; omega)
        rw [← hQ] at hnx
        have HNX := Lib.hid hnx
        have hs1 : w.heap.size < g := by have := HL1.out; omega
        have HS1 := Lib.hid hs1
        clear hnx hQ hcl e3 hs1
        go_wp2
        go_roundw
        case rel =>
          have hs := HS1.out
          refine ⟨k + 1, by omega, by go_num, H.out.1.setCell (by show w.heap.size ≤ g; omega) _, H.out.2.1.kept (heap_setCell_other _ _ _ _ (by simp; omega)), ?_⟩
          rw [← HNX.out]
          exact own_put H.out.2.2 Q _
        case measure => simp [intOf]; omega
      · obtain rfl : k = m := by omega
        have hcl := chg_len b A D k (by rw [HD.out]; exact hm4) (by rw [← HN.out]; exact hmn)
        have hcr := chg_rg HBR.out HDR.out A k
        have hne := chg_crc HBR.out HDR.out A k (by rw [HD.out]; exact hm4) hm4 (by rw [← HN.out]; exact hmn)
        rw [← HN.out] at hcl
        have HF := Lib.hid H.out.1
        have hbs : Bs (fun k => k < wr.heap.size) wr (.slice (some ⟨g, 0, none⟩) n cap) (chg b A D k) := Bs.own (by rw [hcl]; exact H.out.2.2) (by omega) hcr
        obtain ⟨Q, hQ⟩ : ∃ Q, Q = A + k := ⟨_, rfl⟩
        have hx1 : (A : Int) + (k : Int) = (Q : Int) := by omega
        obtain ⟨C, hC⟩ : ∃ C, C = chg b A D k := ⟨_, rfl⟩
        rw [← hC] at hcl hcr hne hbs
        have HBS := Lib.hid hbs
        have hcv := conv_str hbs
        have hcw := conv_str (HV.out.on HF.out)
        have HEQ := Lib.hid (nums_inj hcr HBR.out)
        generalize strOfNums C = SA at *
        generalize strOfNums b = SB at *
        have HNE := Lib.hid hne; have HCL := Lib.hid hcl; have HCR := Lib.hid hcr
        clear hbs hC hne hcl hcr H hk hkm
        have hexit : k = 4 ∨ ((k : Int) < 4 ∧ Q = n) := by omega
        clear hmx hmn hm4 hQ
        by_cases hCb : C = b
        · have hq : (SA.toList == SB.toList) = true := by rw [HEQ.out, decide_eq_true hCb]
          have HC1 := Lib.hid (show Calls Tryd.prog 13 #[.slice (some ⟨g, 0, none⟩) n cap] wr fun e w' => e = .returned (.int .u32 (crcI b : Nat)) ∧ wr = w' by have h := HCRC.out wr _ C HF.out HBS.out; rwa [hCb] at h)
          have HC2 := Lib.hid (HCRC.out wr _ b HF.out (HV.out.on HF.out))
          generalize crcI b = cc at *
          clear hCb
          rcases hexit with h4 | ⟨hk4, hQn⟩
          all_goals
            first | subst h4 | subst hQn
            go_wp2_with fail
            refine HC1.out.mono ?_
            rintro e w5 ⟨rfl, rfl⟩
            go_wp2_with fail
            refine HC2.out.mono ?_
            rintro e w5 ⟨rfl, rfl⟩
            go_wp2
            go_ret
            exact ⟨rfl, HF.out⟩
        · have hq : (SA.toList == SB.toList) = false := by rw [HEQ.out, decide_eq_false hCb]
          have HC1 := Lib.hid (HCRC.out wr _ C HF.out HBS.out)
          have HC2 := Lib.hid (HCRC.out wr _ b HF.out (HV.out.on HF.out))
          have hne := HNE.out hCb
          have hcb := crcI_lt HBR.out
          obtain ⟨x1, x2, x3⟩ := wrong_seal HCR.out (by rw [HCL.out]; exact h8) (crcI b) hcb hne
          have hl4 := (esc_len (sealF C (crcI b))).2
          rw [seal_len, HCL.out] at hl4
          have HSE := Lib.hid (show Calls Tryd.prog 22 #[.slice (some ⟨g, 0, none⟩) n cap, .int .u32 (crcI b : Nat)] wr (OwnOf wr (sealF C (crcI b))) from sealed_any C (crcI b) _ wr hcb HBS.out (by rw [HCL.out]; omega))
          have HWR := Lib.hid (show ∀ wx vx, Bs (fun k => k < wx.heap.size) wx vx (sealF C (crcI b)) → Calls Tryd.prog 21 #[vx] wx (OwnOf wx (wrapF (sealF C (crcI b)))) from fun wx vx hx => wrapped_any _ vx wx hx (by omega))
          have HRC := Lib.hid (show ∀ wx vx vw, Below w.heap.size w wx → Bs (fun k => k < wx.heap.size) wx vx (wrapF (sealF C (crcI b))) → Ls (fun k => k < wx.heap.size) wx vw [] → Calls Tryd.prog 19 #[vx, vw, .int .i64 ((1 : Nat) : Int)] wx fun e w' => e = .returned (.bool true) ∧ Below wx.heap.size wx w' from fun wx vx vw h1 h2 h3 =>
            receives_any _ [] 1 vx vw wx (HK.out.below h1) h2 h3 (by have := (wrapF_len (sealF C (crcI b))).2; rw [seal_len, HCL.out] at this; omega) x1 x2 x3)
          have HSL := Lib.hid (show (sealF C (crcI b)).length ≤ 140737488355328 by rw [seal_len, HCL.out]; omega)
          have HSR := Lib.hid (seal_rg HCR.out (crcI b))
          have HWL := Lib.hid (show (wrapF (sealF C (crcI b))).length ≤ 140737488355328 by have := (wrapF_len (sealF C (crcI b))).2; rw [seal_len, HCL.out] at this; omega)
          have HWG := Lib.hid (wrapF_rg (seal_rg HCR.out (crcI b)))
          have hnc : ((crcI C : Nat) : Int) ≠ ((crcI b : Nat) : Int) := by omega
          have hnd : (((crcI C : Nat) : Int) == ((crcI b : Nat) : Int)) = false := by simpa using hnc
          have hne2 : (((crcI C : Nat) : Int) != ((crcI b : Nat) : Int)) = true := by unfold bne; rw [hnd]; rfl
          clear hnc hne hcb x1 x2 x3 hl4 hCb
          generalize wrapF (sealF C (crcI b)) = FF at *
          generalize sealF C (crcI b) = EE at *
          generalize crcI b = cb at *
          generalize crcI C = cc at *
          rcases hexit with h4 | ⟨hk4, hQn⟩
          all_goals
            first | subst h4 | subst hQn
            go_wp2_with fail
            refine HC1.out.mono ?_
            rintro e w5 ⟨rfl, rfl⟩
            go_wp2_with fail
            refine HC2.out.mono ?_
            rintro e w5 ⟨rfl, rfl⟩
            go_wp2_with fail
            refine HC2.out.mono ?_
            rintro e w5 ⟨rfl, rfl⟩
            go_wp2_with fail
            refine HSE.out.mono ?_
            rintro e w6 ⟨v6, rfl, hb6, ho6⟩
            have HB6 := Lib.hid (btrans HF.out hb6)
            have HE6 := Lib.hid (Bs.own ho6 HSL.out HSR.out)
            clear hb6 ho6
            go_wp2_with fail
            refine (HWR.out w6 _ HE6.out).mono ?_
            rintro e w7 ⟨v7, rfl, hb7, ho7⟩
            have HB7 := Lib.hid (btrans HB6.out hb7)
            have HF7 := Lib.hid (Bs.own ho7 HWL.out HWG.out)
            clear hb7 ho7
            go_wp2_with fail
            refine (HRC.out (w7.alloc (.cells #[] 22)) _ _ (ball HB7.out _) (HF7.out.on (ball (Below.refl _ _) _)) (Ls.nil _ _ _ _)).mono ?_
            rintro e w8 ⟨rfl, hb8⟩
            have HB8 := Lib.hid (btrans (ball HB7.out (.cells #[] 22)) hb8)
            clear hb8
            go_wp2
            go_ret
            exact ⟨rfl, HB8.out⟩

/-- The door's own heap meets the condition. -/
theorem door_met (os : Os) (args : Array Value) : laidMetH Tryd.prog Rows.frameDetectsRow.laid ((World.doorLaid Tryd.prog 400 os).forCall (fun _ _ => 0) ⟨#[], args, []⟩).memory :=
  laidMetH_of_parts3 (fuel := 8) (laidMet_of_run' 8 (by kernel_rfl) (by kernel_rfl)) (by kernel_rfl) (by kernel_rfl)

set_option maxRecDepth 100000 in
theorem lifted (os : Os) (started : os.Started) (H : Type) (enc : TypeId × Value → H) :
    ReturnsInHanded {} Tryd.checked os 9 .any (fun w args => (Rows.frameDetectsSpec.pre enc Tryd.prog Tryd.f9 [] false w args ∧ laidMetH Tryd.prog Rows.frameDetectsRow.laid w) ∧ sizedMet enc Tryd.prog Tryd.f9 (OpenSpec.ofChange Rows.frameDetectsSpec) false w args)
      (Rows.frameDetectsSpec.post enc Tryd.prog Tryd.f9 false true false false) := by
  refine returnsInHanded_of_change_and (C := Tryd.checked) (X := fun w _ => laidMetH Tryd.prog Rows.frameDetectsRow.laid w) (fun _ _ _ hh h => h.of_heap hh) own started (by kernel_rfl) Tryd.func9
    (ChangeSpec.witness_shaped (enc := enc) (C := Tryd.checked) (os := os) (X := fun w _ => laidMetH Tryd.prog Rows.frameDetectsRow.laid w) false (World.doorLaid Tryd.prog 400 os) #[.slice none 0 0, .int .i64 0, .agg #[.int .u8 0, .int .u8 0, .int .u8 0, .int .u8 0]] 8 rfl (World.shaped_of_RefB (by kernel_rfl) (by kernel_rfl)) (by kernel_rfl) (by kernel_rfl) (by kernel_rfl) (door_met os _)) ?_
  intro W base args ds gs before hval0 hW _ hsz0 hL _
  have hsz : (DataW.weightsEach Tryd.prog (Tryd.f9.params.toList ++ Rows.frameDetectsSpec.plain.varTypes Tryd.prog) (ds ++ gs)).all (· ≤ reachBytes) = true := hsz0
  clear hsz0
  have hval : ∀ (j : Nat) t v, Tryd.f9.params[j]? = some t → args[j]? = some v → Value.okWide Tryd.prog W .any base t v := hval0
  clear hval0
  have hW' := hW
  obtain ⟨p, q, hA0, hV, rfl, hfz, hnd⟩ := hW
  have hA : DataW.TrodAll enc Tryd.prog W 0 (fun _ => true) true Tryd.f9.params.toList args.toList ds p := hA0
  rw [Tryd.params9] at hA hval hsz
  obtain ⟨v0, vs0, d0, ds0, p0, q0, hargs, rfl, rfl, h0, r0⟩ := trodAll_cons hA
  obtain ⟨v1, vs1, d1, ds1, p1, q1, rfl, rfl, rfl, h1, r1⟩ := trodAll_cons r0
  obtain ⟨v2, vs2, d2, ds2, p2, q2, rfl, rfl, rfl, h2, r2⟩ := trodAll_cons r1
  obtain ⟨rfl, rfl, rfl⟩ := trodAll_nil r2
  obtain rfl : args = #[v0, v1, v2] := by cases args; simp_all
  obtain ⟨rfl, rfl⟩ := trodVars_none hV
  have hw0 : ∀ n ∈ d0.weights Tryd.prog 22, n ≤ reachBytes := by
    intro n hn
    have := List.all_eq_true.1 hsz n (DataW.weights_mem_each (t := 22) (d := d0) (j := 0) rfl rfl n hn)
    simpa using this
  obtain ⟨oa0, ol0, oc0, rfl⟩ := okWide_slice Tryd.underlying22 (hval 0 22 v0 rfl rfl)
  obtain ⟨fu0, hf0⟩ := h0
  obtain ⟨b0, hb0⟩ := openB (v := .slice oa0 ol0 oc0) hf0 hw0
  obtain ⟨a1, rfl, ha1⟩ := openI (hval 1 3 v1 rfl rfl) h1
  obtain ⟨x2, rfl, xl2, xr2⟩ := openA (hval 2 42 v2 rfl rfl) h2
  clear hA0
  refine (walk b0 a1 x2 _ W (kok_of_laid hL) hb0 ha1 xl2 xr2).mono fun e W' ⟨he, hbw⟩ => ?_
  subst he
  refine ⟨_, rfl, post_law laidOut ?_ rfl rfl hW' rfl rfl rfl hbw⟩
  intro t ht
  rw [Tryd.params9] at ht
  have hm : t ∈ [3, 22, 42] := by
    simp at ht
    rcases ht with rfl|rfl|rfl <;> simp
  have hall : ([3, 22, 42].all fun u => Tryd.prog.readableRec u && decide (u < Tryd.prog.types.size)) = true := by kernel_rfl
  have := List.all_eq_true.1 hall t hm
  simpa using this

theorem over : Rows.frameDetectsRow.holds Tryd.pinned (OpenSpec.ofChange Rows.frameDetectsSpec) :=
  OpenClaim.holds_of_wide 9 Tryd.f9 rfl rfl rfl rfl rfl rfl rfl ⟨rfl, rfl, rfl, rfl, rfl⟩ rfl rfl rfl rfl rfl (by kernel_rfl) Tryd.func9 (by kernel_rfl)
    (of_decide_eq_true (by kernel_rfl)) (by unfold Func.isWrapper; first | (rw [if_pos (by decide +kernel)]; kernel_rfl) | (rw [if_neg (by decide +kernel)]; exact ⟨rfl, rfl⟩))
    (fun os started H enc _ => lifted os started H enc)

/-- THE STATEMENT. -/
theorem proved : Rows.FrameDetectsCardSaid :=
  Claim7.holds_tied_plain_at .later [] [.data] true (true, "77527d3cf38f6b3763f46bed1e18cdecc3d688c4d8546000962d453ae035ff12") false
    over (fun _ h => by cases h) (by kernel_rfl) (fun _ h => by cases h) frameDetects_row_tie rfl ⟨rfl, rfl⟩ (by kernel_rfl) rfl
    (fun f fn hf hfn => by
      obtain rfl : f = 9 := Option.some.inj ((show Tryd.prog.funcNamed "wagonpool/wagonpoollaw10.FrameDetects" = some 9 by kernel_rfl).symm.trans hf) |>.symm
      obtain rfl : fn = Tryd.f9 := (Option.some.inj (Tryd.func9.symm.trans hfn)).symm
      exact ⟨by kernel_rfl, fun j t ht => by
        rw [Tryd.params9] at ht
        have hm : t ∈ [3, 22, 42] := by
          have := Array.mem_of_getElem? ht
          simp at this
          rcases this with rfl|rfl|rfl <;> simp
        have hall : ([3, 22, 42].all fun u => !Tryd.prog.wantsStandIn u) = true := by kernel_rfl
        exact (show Tryd.prog.wantsStandIn t = false by simpa using List.all_eq_true.1 hall t hm)⟩)
    (by kernel_rfl)
#print axioms proved
end Go.Proofs.YtdmlnjgbfkkjdaaDoor.frameDetects
