/-
  The statement 'Rows.SignChallengesCardSaid': for all seeds and messages the law of the challenges returns true; the arguments read as they did.
-/
import Derived.Test.YtlfjcifeiihmfaaDoorPk
import Derived.Test.YtlfjcifeiihmfaaDoorMs
import Derived.Test.YtlfjcifeiihmfaaDoorLw
import Derived.ChangeMaps5
namespace Go.Proofs.YtlfjcifeiihmfaaDoor.signChallenges
open Go.ChangeShapes Go.WideShapes Go.ChangeAt Go.RowKit
set_option linter.unusedVariables false

theorem beq_swap (a b : Int) : ((a == b) == (b == a)) = true := by
  by_cases h : a = b
  · subst h; simp
  · rw [beq_eq_false_iff_ne.2 h, beq_eq_false_iff_ne.2 (Ne.symm h)]; rfl

set_option maxRecDepth 100000 in
set_option maxHeartbeats 4000000 in
theorem walk (b m o : List Int) (a : Option Addr) (k : Nat) (a' : Option Addr) (k' : Nat) (a2 : Option Addr) (k2 : Nat) (w : World) (hk : KOk w) (hv : Bs (fun k => k < w.heap.size) w (.slice a b.length k) b) (hv' : Bs (fun k => k < w.heap.size) w (.slice a' m.length k') m) (hvo : Bs (fun k => k < w.heap.size) w (.slice a2 o.length k2) o) :
    Calls Tryd.prog 9 #[.slice a b.length k, .slice a' m.length k', .slice a2 o.length k2] w fun e w' => e = .returned (.bool true) ∧ Below w.heap.size w w' := by
  have HK := Lib.hid hk; have HV := Lib.hid hv; have HV' := Lib.hid hv'; have HVO := Lib.hid hvo
  clear hk hv hv' hvo
  by_cases h1 : 1 ≤ b.length
  · by_cases h2 : b.length ≤ 64
    · by_cases h3 : m.length ≤ 500
      · by_cases h4 : o.length ≤ 500
        · obtain ⟨x, hx⟩ : ∃ x : Nat, (x : Int) = secF secS b := ⟨(secF secS b).toNat, by have := secF_range secS b; omega⟩
          have hxr := secF_range secS b
          have x0 : 0 < x := by omega
          have x1 : x < 1152921504606845399 := by omega
          have S1 := Lib.hid (fun W hk hv => secret_ok b a k W hk hv (by omega) h2)
          rw [← hx] at S1
          have P1 := Lib.hid (fun w => public_ok x w x0 x1)
          have G1 := Lib.hid (fun W hk hv => sign_ok x m (.slice a' m.length k') W hk hv x0 x1 (by omega))
          obtain ⟨c, g, hc, hg, cl, gl, hr⟩ := sig_nat x m
          have hvp := vld_pub x x0 x1
          have pl := powP_lt 4 x
          have pl' := powP_lt' 4 x
          have F1 := Lib.hid (fun W hk hv => verify_ok (powP 4 x) c g o (.slice a2 o.length k2) W hk hv pl' hvp cl gl (by omega))
          have hch := sig_chal x m c g hr
          have E1 := Lib.hid (fun w => powP_any 4 g w (by decide) (by omega))
          have E2 := Lib.hid (fun w => powP_any (powP 4 x) (1152921504606845399 - c) w pl' (by omega))
          have y1 := powP_lt 4 g
          have y2 := powP_lt (powP 4 x) (1152921504606845399 - c)
          have T1 := Lib.hid (fun w => ltimes_any (powP 4 g) (powP (powP 4 x) (1152921504606845399 - c)) 2305843009213690799 w y1 (by decide) (powP_lt' _ _))
          have hrs : powP 4 g * powP (powP 4 x) (1152921504606845399 - c) % 2305843009213690799 = resid (powP 4 x) c g := rfl
          rw [hrs] at T1
          have ry := resid_lt (powP 4 x) c g
          have K1 := Lib.hid (fun w => packed_any (resid (powP 4 x) c g : Int) w (by omega) (by omega))
          have K2 := Lib.hid (fun w => packed_any (powP 4 x : Int) w (by omega) (by omega))
          rw [hc, hg] at G1
          have ec : ((2305843009213690799 : Nat) : Int) = 2305843009213690799 := rfl
          rw [ec] at T1
          have e4 : ((4 : Nat) : Int) = 4 := rfl
          rw [e4] at E1
          rw [hc] at hch
          have hq : (1152921504606845399 : Int) - (c : Int) = ((1152921504606845399 - c : Nat) : Int) := by omega
          obtain ⟨NQ, hNQ⟩ : ∃ z : Int, z = ((1152921504606845399 - c : Nat) : Int) := ⟨_, rfl⟩
          obtain ⟨X, hX⟩ : ∃ z : Int, z = (x : Int) := ⟨_, rfl⟩
          obtain ⟨C, hC⟩ : ∃ z : Int, z = (c : Int) := ⟨_, rfl⟩
          obtain ⟨G, hG⟩ : ∃ z : Int, z = (g : Int) := ⟨_, rfl⟩
          obtain ⟨PX, hPX⟩ : ∃ z : Int, z = (powP 4 x : Int) := ⟨_, rfl⟩
          obtain ⟨R, hR⟩ : ∃ z : Int, z = (resid (powP 4 x) c g : Int) := ⟨_, rfl⟩
          obtain ⟨U, hU⟩ : ∃ z : Int, z = (powP 4 g : Int) := ⟨_, rfl⟩
          obtain ⟨V, hV⟩ : ∃ z : Int, z = (powP (powP 4 x) (1152921504606845399 - c) : Int) := ⟨_, rfl⟩
          have C0 : 0 ≤ C := by omega
          have C1 : C < 1152921504606845399 := by omega
          have G2 : G < 1152921504606845399 := by omega
          have U1 : U < 2305843009213690799 := by omega
          have V1 : V < 2305843009213690799 := by omega
          have q1 : 1152921504606845399 - C = NQ := by omega
          rw [← hX] at S1 P1 G1
          rw [← hPX] at P1 F1 K2 E2 hch
          rw [← hC, ← hG] at G1 F1
          rw [← hC] at hch
          rw [← hG, ← hU] at E1
          rw [← hNQ, ← hV] at E2
          rw [← hU, ← hV, ← hR] at T1
          rw [← hR] at K1 F1 hch
          have HCH := Lib.hid hch
          clear hX hC hG hPX hR hU hV hNQ hq hch hvp pl pl' hc hg cl gl hr hx hxr x0 x1 y1 y2 hrs ry ec e4
          have l1 : 1 ≤ (b.length : Int) := by omega
          have l2 : (b.length : Int) ≤ 64 := by omega
          have l3 : (m.length : Int) ≤ 500 := by omega
          have l4 : (o.length : Int) ≤ 500 := by omega
          have Hl3 := Lib.hid h3; have Hl4 := Lib.hid h4
          clear h1 h2 h3 h4
          generalize hM : m.length = M at *
          generalize hN : b.length = N at *
          generalize hO : o.length = O at *
          go_enter Tryd.func9, Tryd.ntmps9
          go_wp2_with fail
          refine (sane_true _).mono ?_
          rintro e w1 ⟨rfl, hb1⟩
          have B1 := Lib.hid hb1; clear hb1
          have S2 := Lib.hid (S1.out w1 (HK.out.below B1.out) (HV.out.up2 (fun k hk => B1.out.block k hk) B1.out.size))
          go_wp2_with fail
          refine S2.out.mono ?_
          rintro e w2 ⟨rfl, hb2⟩
          have B2 := Lib.hid (B1.out.trans (hb2.mono B1.out.size)); clear hb2
          go_wp2_with fail
          refine (P1.out _).mono ?_
          rintro e w3 ⟨rfl, hb3⟩
          have B3 := Lib.hid (B2.out.trans (hb3.mono B2.out.size)); clear hb3
          have G3 := Lib.hid (G1.out w3 (HK.out.below B3.out) (HV'.out.up2 (fun k hk => B3.out.block k hk) B3.out.size))
          go_wp2_with fail
          refine G3.out.mono ?_
          rintro e w4 ⟨rfl, hb4⟩
          have B4 := Lib.hid (B3.out.trans (hb4.mono B3.out.size)); clear hb4
          have Q4 := Lib.hid (Kq.start w4 C G)
          go_wp2_with fail
          refine (E1.out _).mono ?_
          rintro e w5 ⟨rfl, hb5⟩
          have Q5 := Lib.hid (Q4.out.next hb5); clear hb5
          have c0 := Q5.out.c0
          have c1 := Q5.out.c1
          go_wp2_with fail
          refine (E2.out _).mono ?_
          rintro e w6 ⟨rfl, hb6⟩
          have Q6 := Lib.hid (Q5.out.next hb6); clear hb6 c0 c1
          go_wp2_with fail
          refine (T1.out _).mono ?_
          rintro e w7 ⟨rfl, rfl⟩
          go_wp2_with fail
          refine (K1.out _).mono ?_
          rintro e w8 ⟨u1, rfl, h8⟩
          obtain ⟨b1, n1, rfl⟩ := h8.len
          have H8 := Lib.hid h8; clear h8
          go_wp2_with fail
          refine (K2.out _).mono ?_
          rintro e w9 ⟨u2, rfl, h9⟩
          obtain ⟨b2, n2, rfl⟩ := h9.len
          obtain ⟨v3, w10, hr3, hd3⟩ := app_pds (H8.out.next h9.2) (h9.bs (by rw [nb_length]; decide) (nb_range _)) (by rw [nb_length, nb_length]; decide)
          have R3 := Lib.hid hr3
          have h3b := hd3.bs (by rw [List.length_append, nb_length, nb_length]; decide) (head_range R PX)
          have H3 := Lib.hid h3b
          have D3 := Lib.hid hd3.2
          clear hr3 hd3 h3b h9 H8
          obtain ⟨b3, n3, rfl⟩ : ∃ a c, v3 = .slice a (nb R ++ nb PX).length c := by
            obtain ⟨_, _, a, c, h, _⟩ := H3.out
            exact ⟨a, c, h⟩
          have hlh : (nb R ++ nb PX).length ≤ 16 := by rw [List.length_append, nb_length, nb_length]; decide
          have HLH := Lib.hid hlh; clear hlh
          have Kw := Lib.hid (B4.out.trans ((Q6.out.next D3.out).1.mono B4.out.size))
          have Z10 := Lib.hid (Q6.out.next D3.out)
          -- the message: mine
          obtain ⟨v4, w11, hr4, hd4⟩ := app_pds (PdS.new w10) (H3.out.up2 (fun k hk => heap_alloc_old w10 _ hk) (by simp)) (by simp only [List.length_nil]; have := HLH.out; omega)
          rw [List.nil_append] at hd4
          obtain ⟨v5, w12, hr5, hd5⟩ := app_pds hd4 ((HV'.out.up2 (fun k hk => (Kw.out.trans (hd4.2.mono Kw.out.size)).block k hk) (Kw.out.trans (hd4.2.mono Kw.out.size)).size)) (by have := HLH.out; have := Hl3.out; omega)
          have R4 := Lib.hid hr4; have R5 := Lib.hid hr5
          have hr45 : ∀ x ∈ (nb R ++ nb PX) ++ m, 0 ≤ x ∧ x ≤ 255 := by
            intro x hx
            rcases List.mem_append.1 hx with hx | hx
            · exact head_range R PX x hx
            · exact HV'.out.2.1 x hx
          have M5 := Lib.hid (hd5.bs (by rw [List.length_append]; have := HLH.out; have := Hl3.out; omega) hr45)
          have D5 := Lib.hid hd5.2
          have TG := Lib.hid (tagged_any chaS ((nb R ++ nb PX) ++ m) v5 w12 (HK.out.below (Kw.out.trans (hd5.2.mono Kw.out.size))) M5.out (by decide) (by rw [List.length_append]; have := HLH.out; have := Hl3.out; omega))
          have NM : Hid (∀ w', Calls Tryd.prog 27 #[.agg (byteVals (sha (hmsg (strB chaS) ((nb R ++ nb PX) ++ m)))).toArray] w' fun e w'' => e = .returned (.int .u64 (dg chaS ((nb R ++ nb PX) ++ m))) ∧ Below w'.heap.size w' w'') := Lib.hid (fun w' => number_any _ w' (sha_length _) (sha_range _))
          clear hr4 hr5 hd4 hd5 hr45 M5
          go_wp2_with (first | (at_builtin; refine wp_app rfl rfl rfl (.tmp 91) (.tmp 93) rfl rfl rfl R3.out ?_) | (at_builtin; refine wp_app rfl rfl rfl (.tmp 95) (.tmp 96) rfl rfl rfl R4.out ?_) | (at_builtin; refine wp_app rfl rfl rfl (.tmp 97) (.tmp 98) rfl rfl rfl R5.out ?_))
          refine TG.out.mono ?_
          rintro e w13 ⟨rfl, hb13⟩
          have D13 := Lib.hid (D5.out.trans (hb13.mono D5.out.size)); clear hb13
          have hz := dg_range chaS ((nb R ++ nb PX) ++ m)
          have hzq : dg chaS ((nb R ++ nb PX) ++ m) % 1152921504606845399 = C := by rw [← chal_head]; exact HCH.out
          generalize dg chaS ((nb R ++ nb PX) ++ m) = z at *
          go_wp2_with fail
          refine (NM.out _).mono ?_
          rintro e w14 ⟨rfl, hb14⟩
          have D14 := Lib.hid (D13.out.trans (hb14.mono D13.out.size)); clear hb14
          clear R3 R4 R5 TG NM
          have H14 := Lib.hid (H3.out.up2 (fun k hk => D14.out.block k hk) D14.out.size)
          have Kx := Lib.hid (Kw.out.trans (D14.out.mono (by have := Kw.out.size; omega)))
          have Z14 := Lib.hid (Z10.out.next D14.out)
          obtain ⟨v6, w15, hr6, hd6⟩ := app_pds (PdS.new w14) (H14.out.up2 (fun k hk => heap_alloc_old w14 _ hk) (by simp)) (by simp only [List.length_nil]; have := HLH.out; omega)
          rw [List.nil_append] at hd6
          obtain ⟨v7, w16, hr7, hd7⟩ := app_pds hd6 ((HVO.out.up2 (fun k hk => (Kx.out.trans (hd6.2.mono Kx.out.size)).block k hk) (Kx.out.trans (hd6.2.mono Kx.out.size)).size)) (by have := HLH.out; have := Hl4.out; omega)
          have R6 := Lib.hid hr6; have R7 := Lib.hid hr7
          have hr67 : ∀ x ∈ (nb R ++ nb PX) ++ o, 0 ≤ x ∧ x ≤ 255 := by
            intro x hx
            rcases List.mem_append.1 hx with hx | hx
            · exact head_range R PX x hx
            · exact HVO.out.2.1 x hx
          have M7 := Lib.hid (hd7.bs (by rw [List.length_append]; have := HLH.out; have := Hl4.out; omega) hr67)
          have D7 := Lib.hid hd7.2
          have TG := Lib.hid (tagged_any chaS ((nb R ++ nb PX) ++ o) v7 w16 (HK.out.below (Kx.out.trans (hd7.2.mono Kx.out.size))) M7.out (by decide) (by rw [List.length_append]; have := HLH.out; have := Hl4.out; omega))
          have NM : Hid (∀ w', Calls Tryd.prog 27 #[.agg (byteVals (sha (hmsg (strB chaS) ((nb R ++ nb PX) ++ o)))).toArray] w' fun e w'' => e = .returned (.int .u64 (dg chaS ((nb R ++ nb PX) ++ o))) ∧ Below w'.heap.size w' w'') := Lib.hid (fun w' => number_any _ w' (sha_length _) (sha_range _))
          clear hr6 hr7 hd6 hd7 hr67 M7
          go_wp2_with (first | (at_builtin; refine wp_app rfl rfl rfl (.tmp 103) (.tmp 104) rfl rfl rfl R6.out ?_) | (at_builtin; refine wp_app rfl rfl rfl (.tmp 105) (.tmp 106) rfl rfl rfl R7.out ?_))
          refine TG.out.mono ?_
          rintro e w17 ⟨rfl, hb17⟩
          have D17 := Lib.hid (D7.out.trans (hb17.mono D7.out.size)); clear hb17
          have hy := dg_range chaS ((nb R ++ nb PX) ++ o)
          rw [chal_head] at F1
          generalize dg chaS ((nb R ++ nb PX) ++ o) = y at *
          go_wp2_with fail
          refine (NM.out _).mono ?_
          rintro e w18 ⟨rfl, hb18⟩
          have D18 := Lib.hid (D17.out.trans (hb18.mono D17.out.size)); clear hb18
          clear R6 R7 TG NM
          have Z18 := Lib.hid (Z14.out.next D18.out)
          have Ky := Lib.hid (Kx.out.trans (D18.out.mono (by have := Kx.out.size; omega)))
          have c0 := Z18.out.c0
          have c1 := Z18.out.c1
          go_wp2_with fail
          have FV := Lib.hid (fun W' (hb : Below w18.heap.size w18 W') => F1.out W' (HK.out.below (Ky.out.trans (hb.mono Ky.out.size))) (HVO.out.up2 (fun k hk => (Ky.out.trans (hb.mono Ky.out.size)).block k hk) (Ky.out.trans (hb.mono Ky.out.size)).size))
          have z18 := Z18.out
          go_region_held3 (fun w' => w'.cell? ⟨w4.heap.size, 0, none⟩ = some (.int .u64 C) ∧ w'.cell? ⟨w4.heap.size, 1, none⟩ = some (.int .u64 G) ∧ Kq w4 C G w') (first | (with_reducible exact Kq.all (by with_reducible assumption)) | (with_reducible exact Kq.all (Kq.drew (by with_reducible assumption))))
            (first | (go_at_call 19; refine (FV.out _ (Below.drew (Below.refl _ _))).mono ?_; rintro e w19 ⟨rfl, hb19⟩; have z19 := Kq.next (Kq.drew z18) hb19; have D19 := Lib.hid hb19; clear hb19))
          have hsw := beq_swap C (y % 1152921504606845399)
          generalize hY : y % 1152921504606845399 = Y at *
          have Hsw := Lib.hid hsw; clear hsw
          rw [Hsw.out]
          go_wp2
          go_ret
          exact ⟨rfl, Ky.out.trans (Below.mono (B := w18.heap.size) ((Below.drew (Below.refl _ _)).trans D19.out) Ky.out.size)⟩
        · have l3 : 500 < (o.length : Int) := by omega
          clear h1 h2 h3 h4
          generalize m.length = M at *
          generalize b.length = N at *
          generalize o.length = O at *
          go_enter Tryd.func9, Tryd.ntmps9
          go_wp2_with fail
          refine (sane_true _).mono ?_
          rintro e w1 ⟨rfl, hb1⟩
          have B1 := Lib.hid hb1; clear hb1
          go_wp2
          all_goals go_ret
          all_goals exact ⟨rfl, B1.out⟩
      · have l3 : 500 < (m.length : Int) := by omega
        clear h1 h2 h3
        generalize m.length = M at *
        generalize b.length = N at *
        generalize o.length = O at *
        go_enter Tryd.func9, Tryd.ntmps9
        go_wp2_with fail
        refine (sane_true _).mono ?_
        rintro e w1 ⟨rfl, hb1⟩
        have B1 := Lib.hid hb1; clear hb1
        go_wp2
        all_goals go_ret
        all_goals exact ⟨rfl, B1.out⟩
    · have l3 : 64 < (b.length : Int) := by omega
      clear h1 h2
      generalize m.length = M at *
      generalize b.length = N at *
      generalize o.length = O at *
      go_enter Tryd.func9, Tryd.ntmps9
      go_wp2_with fail
      refine (sane_true _).mono ?_
      rintro e w1 ⟨rfl, hb1⟩
      have B1 := Lib.hid hb1; clear hb1
      go_wp2
      all_goals go_ret
      all_goals exact ⟨rfl, B1.out⟩
  · have l3 : (b.length : Int) < 1 := by omega
    clear h1 
    generalize m.length = M at *
    generalize b.length = N at *
    generalize o.length = O at *
    go_enter Tryd.func9, Tryd.ntmps9
    go_wp2_with fail
    refine (sane_true _).mono ?_
    rintro e w1 ⟨rfl, hb1⟩
    have B1 := Lib.hid hb1; clear hb1
    go_wp2
    all_goals go_ret
    all_goals exact ⟨rfl, B1.out⟩


/-- The door's own heap meets the condition. -/
theorem door_met (os : Os) (args : Array Value) : laidMetH Tryd.prog Rows.signChallengesRow.laid ((World.doorLaid Tryd.prog 400 os).forCall (fun _ _ => 0) ⟨#[], args, []⟩).memory :=
  laidMetH_of_parts3 (fuel := 8) (laidMet_of_run' 8 (by kernel_rfl) (by kernel_rfl)) (by kernel_rfl) (by kernel_rfl)

set_option maxRecDepth 100000 in
theorem lifted (os : Os) (started : os.Started) (H : Type) (enc : TypeId × Value → H) :
    ReturnsInHanded {} Tryd.checked os 9 .any (fun w args => (Rows.signChallengesSpec.pre enc Tryd.prog Tryd.f9 [] false w args ∧ laidMetH Tryd.prog Rows.signChallengesRow.laid w) ∧ sizedMet enc Tryd.prog Tryd.f9 (OpenSpec.ofChange Rows.signChallengesSpec) false w args)
      (Rows.signChallengesSpec.post enc Tryd.prog Tryd.f9 false true false false) := by
  refine returnsInHanded_of_change_and (C := Tryd.checked) (X := fun w _ => laidMetH Tryd.prog Rows.signChallengesRow.laid w) (fun _ _ _ hh h => h.of_heap hh) own started (by kernel_rfl) Tryd.func9
    (ChangeSpec.witness_shaped (enc := enc) (C := Tryd.checked) (os := os) (X := fun w _ => laidMetH Tryd.prog Rows.signChallengesRow.laid w) false (World.doorLaid Tryd.prog 400 os) #[.slice none 0 0, .slice none 0 0, .slice none 0 0] 8 rfl (World.shaped_of_RefB (by kernel_rfl) (by kernel_rfl)) (by kernel_rfl) (by kernel_rfl) (by kernel_rfl) (door_met os _)) ?_
  intro W base args ds gs before hval0 hW _ hsz0 hL _
  have hsz : (DataW.weightsEach Tryd.prog (Tryd.f9.params.toList ++ Rows.signChallengesSpec.plain.varTypes Tryd.prog) (ds ++ gs)).all (· ≤ reachBytes) = true := hsz0
  have hval : ∀ (j : Nat) t v, Tryd.f9.params[j]? = some t → args[j]? = some v → Value.okWide Tryd.prog W .any base t v := hval0
  clear hsz0 hval0
  have hW' := hW
  obtain ⟨p, q, hA0, hV, rfl, hfz, hnd⟩ := hW
  have hA : DataW.TrodAll enc Tryd.prog W 0 (fun _ => true) true Tryd.f9.params.toList args.toList ds p := hA0
  rw [Tryd.params9] at hA hval hsz
  obtain ⟨v0, vs0, d0, ds0, p0, q0, hargs, rfl, rfl, h0, r0⟩ := trodAll_cons hA
  obtain ⟨v1, vs1, d1, ds1, p1, q1, rfl, rfl, rfl, h1, r1⟩ := trodAll_cons r0
  obtain ⟨v2, vs2, d2, ds2, p2, q2, rfl, rfl, rfl, h2, r2⟩ := trodAll_cons r1
  obtain ⟨rfl, rfl, rfl⟩ := trodAll_nil r2
  obtain rfl : args = #[v0, v1, v2] := by cases args; simp_all
  obtain ⟨rfl, rfl⟩ := trodVars_none hV
  have hw0 : ∀ n ∈ d0.weights Tryd.prog 22, n ≤ reachBytes := by
    intro n hn
    have := List.all_eq_true.1 hsz n (DataW.weights_mem_each (t := 22) (d := d0) (j := 0) rfl rfl n hn)
    simpa using this
  obtain ⟨oa0, ol0, oc0, rfl⟩ := okWide_slice Tryd.underlying22 (hval 0 22 v0 rfl rfl)
  obtain ⟨fu0, hf0⟩ := h0
  obtain ⟨b0, hb0⟩ := openB (v := .slice oa0 ol0 oc0) hf0 hw0
  obtain rfl : ol0 = b0.length := by
    obtain ⟨_, _, _, _, e, _⟩ := hb0
    simp only [Value.slice.injEq] at e
    exact e.2.1
  have hw1 : ∀ n ∈ d1.weights Tryd.prog 22, n ≤ reachBytes := by
    intro n hn
    have := List.all_eq_true.1 hsz n (DataW.weights_mem_each (t := 22) (d := d1) (j := 1) rfl rfl n hn)
    simpa using this
  obtain ⟨oa1, ol1, oc1, rfl⟩ := okWide_slice Tryd.underlying22 (hval 1 22 v1 rfl rfl)
  obtain ⟨fu1, hf1⟩ := h1
  obtain ⟨b1, hb1⟩ := openB (v := .slice oa1 ol1 oc1) hf1 hw1
  obtain rfl : ol1 = b1.length := by
    obtain ⟨_, _, _, _, e, _⟩ := hb1
    simp only [Value.slice.injEq] at e
    exact e.2.1
  have hw2 : ∀ n ∈ d2.weights Tryd.prog 22, n ≤ reachBytes := by
    intro n hn
    have := List.all_eq_true.1 hsz n (DataW.weights_mem_each (t := 22) (d := d2) (j := 2) rfl rfl n hn)
    simpa using this
  obtain ⟨oa2, ol2, oc2, rfl⟩ := okWide_slice Tryd.underlying22 (hval 2 22 v2 rfl rfl)
  obtain ⟨fu2, hf2⟩ := h2
  obtain ⟨b2, hb2⟩ := openB (v := .slice oa2 ol2 oc2) hf2 hw2
  obtain rfl : ol2 = b2.length := by
    obtain ⟨_, _, _, _, e, _⟩ := hb2
    simp only [Value.slice.injEq] at e
    exact e.2.1
  clear hA0
  refine (walk b0 b1 b2 oa0 oc0 oa1 oc1 oa2 oc2 W (kok_of_laid hL) hb0 hb1 hb2).mono fun e W' ⟨he, hbw⟩ => ?_
  subst he
  refine ⟨_, rfl, post_law laidOut ?_ rfl rfl hW' rfl rfl rfl hbw⟩
  intro t ht
  rw [Tryd.params9] at ht
  have hm : t ∈ [22] := by simp at ht; simp; omega
  have hall : ([22].all fun u => Tryd.prog.readableRec u && decide (u < Tryd.prog.types.size)) = true := by kernel_rfl
  have := List.all_eq_true.1 hall t hm
  simpa using this

theorem over : Rows.signChallengesRow.holds Tryd.pinned (OpenSpec.ofChange Rows.signChallengesSpec) :=
  OpenClaim.holds_of_wide 9 Tryd.f9 rfl rfl rfl rfl rfl rfl rfl ⟨rfl, rfl, rfl, rfl, rfl⟩ rfl rfl rfl rfl rfl (by kernel_rfl) Tryd.func9 (by kernel_rfl)
    (of_decide_eq_true (by kernel_rfl)) (by unfold Func.isWrapper; first | (rw [if_pos (by decide +kernel)]; kernel_rfl) | (rw [if_neg (by decide +kernel)]; exact ⟨rfl, rfl⟩))
    (fun os started H enc _ => lifted os started H enc)

/-- THE STATEMENT. -/
theorem proved : Rows.SignChallengesCardSaid :=
  Claim7.holds_tied_plain_at .later [] [.data] true (true, "f6b8e2bca58b870a70669e1a5b4edbfcbd882eeab9a8bd45ca4f43270d351360") false
    over (fun _ h => by cases h) (by kernel_rfl) (fun _ h => by cases h) signChallenges_row_tie rfl ⟨rfl, rfl⟩ (by kernel_rfl) rfl
    (fun f fn hf hfn => by
      obtain rfl : f = 9 := Option.some.inj ((show Tryd.prog.funcNamed "wagonpool/wagonpoollaw03.SignChallenges" = some 9 by kernel_rfl).symm.trans hf) |>.symm
      obtain rfl : fn = Tryd.f9 := (Option.some.inj (Tryd.func9.symm.trans hfn)).symm
      exact ⟨by kernel_rfl, fun j t ht => by
        rw [Tryd.params9] at ht
        have hm : t ∈ [22] := by have := Array.mem_of_getElem? ht; simp at this; simp; omega
        have hall : ([22].all fun u => !Tryd.prog.wantsStandIn u) = true := by kernel_rfl
        exact (show Tryd.prog.wantsStandIn t = false by simpa using List.all_eq_true.1 hall t hm)⟩)
    (by kernel_rfl)
#print axioms proved
end Go.Proofs.YtlfjcifeiihmfaaDoor.signChallenges
