/-
  The statement 'Rows.FleetMatchesPoolSaid': for all arguments the law returns true; the arguments read as they did.
-/
import Derived.Test.YtijdjbkmkopmnaaHr
import Derived.Test.YtijdjbkmkopmnaaSb
namespace Go.Proofs.Ytijdjbkmkopmnaa.fleetMatchesPool
open Go.ChangeShapes Go.WideShapes Go.ChangeAt Go.RowKit
set_option linter.unusedVariables false
set_option linter.unusedSimpArgs false


set_option maxRecDepth 100000 in
set_option maxHeartbeats 60000000 in
theorem walk (V0 : Value) (P0 : Pool) (w : World) (h0 : Pol w V0 P0) :
    Calls Try.prog 4 #[V0] w fun e w' => e = .returned (.bool true) ∧ Below w.heap.size w w' := by
  obtain ⟨a0, a1, a2, a3, a4, a5, a6, a7, a8, c0, c1, c2, c3, c4, c5, c6, c7, c8, rfl, G⟩ := h0.shape
  obtain ⟨n0, e0⟩ : ∃ n, n = P0.ps.length := ⟨_, rfl⟩
  obtain ⟨n1, e1⟩ : ∃ n, n = P0.es.length := ⟨_, rfl⟩
  obtain ⟨n2, e2⟩ : ∃ n, n = P0.ts.length := ⟨_, rfl⟩
  obtain ⟨n3, e3⟩ : ∃ n, n = P0.ws.length := ⟨_, rfl⟩
  obtain ⟨n4, e4⟩ : ∃ n, n = P0.ss.length := ⟨_, rfl⟩
  obtain ⟨n5, e5⟩ : ∃ n, n = P0.hs.length := ⟨_, rfl⟩
  obtain ⟨n6, e6⟩ : ∃ n, n = P0.rs.length := ⟨_, rfl⟩
  obtain ⟨n7, e7⟩ : ∃ n, n = P0.sh.length := ⟨_, rfl⟩
  obtain ⟨n8, e8⟩ : ∃ n, n = P0.rl.length := ⟨_, rfl⟩
  have HPL := Lib.hid G
  rw [← e0, ← e1, ← e2, ← e3, ← e4, ← e5, ← e6, ← e7, ← e8] at h0 ⊢
  obtain ⟨W, hW⟩ : ∃ W, W = w.alloc (.cells #[.slice a0 n0 c0, .slice a1 n1 c1, .slice a2 n2 c2, .slice a3 n3 c3, .slice a4 n4 c4, .slice a5 n5 c5, .slice a6 n6 c6, .slice a7 n7 c7, .slice a8 n8 c8] 49) := ⟨_, rfl⟩
  have hB : Below w.heap.size w W := by rw [hW]; exact ball (Below.refl w.heap.size w) _
  have hr : W.heap[w.heap.size]? = some (.cells #[.slice a0 n0 c0, .slice a1 n1 c1, .slice a2 n2 c2, .slice a3 n3 c3, .slice a4 n4 c4, .slice a5 n5 c5, .slice a6 n6 c6, .slice a7 n7 c7, .slice a8 n8 c8] 49 (0, 0)) := by rw [hW]; exact bnew _ _
  have HW := Lib.hid hW; have HB := Lib.hid hB; have HX := Lib.hid hr; have HV := Lib.hid (h0.on hB)
  have G8 := Lib.hid (by have := G.frl.on hB; rw [← e8] at this; exact this)
  have HF := Lib.hid (by have k2 := G.ft.on hB; have k3 := G.fw.on hB; have k4 := G.fs.on hB; have k5 := G.fh.on hB; rw [← e2] at k2; rw [← e3] at k3; rw [← e4] at k4; rw [← e5] at k5; exact (⟨_, _, _, _, rfl, k2, k3, k4, k5⟩ : Fl W (.agg #[.slice a2 n2 c2, .slice a3 n3 c3, .slice a4 n4 c4, .slice a5 n5 c5]) P0.ts P0.ws P0.ss P0.hs))
  have l8 : n8 ≤ 70368744177664 := by rw [e8]; exact G.frl.1
  obtain ⟨b0, b1, b2, b3, b4, b5, b6, b7, b8⟩ := box9 hr
  have HE8 := Lib.hid e8
  clear h0 G hW hB hr HPL e0 e1 e2 e3 e4 e5 e6 e7 e8
  obtain ⟨S, hS⟩ : ∃ S, fewB P0.ts.length P0.ws.length P0.ss.length P0.hs.length = S := ⟨_, rfl⟩
  have HS := Lib.hid hS
  clear hS
  cases S with
  | false =>
    have Hc := Lib.hid (sane_true W)
    go_enter Try.func4, Try.ntmps4
    go_upto_region 1 with (fail)
    rw [← HW.out]
    clear HW
    go_wp2_with fail
    refine Hc.out.mono ?_
    rintro e w1 ⟨rfl, hb⟩
    replace HB := Lib.hid (btrans HB.out hb); replace HV := Lib.hid (HV.out.on hb); replace HX := Lib.hid (bon HX.out hb); replace HF := Lib.hid (Fl.on HF.out hb); replace G8 := Lib.hid (G8.out.on hb)
    clear hb b0 b1 b2 b3 b4 b5 b6 b7 b8 Hc
    obtain ⟨b0, b1, b2, b3, b4, b5, b6, b7, b8⟩ := box9 HX.out
    have Hc := Lib.hid (few_any HF.out)
    rw [HS.out] at Hc
    go_wp2_with fail
    refine Hc.out.mono ?_
    rintro e w2 ⟨rfl, hb⟩
    replace HB := Lib.hid (btrans HB.out hb); replace HV := Lib.hid (HV.out.on hb); replace HX := Lib.hid (bon HX.out hb); replace HF := Lib.hid (Fl.on HF.out hb); replace G8 := Lib.hid (G8.out.on hb)
    clear hb b0 b1 b2 b3 b4 b5 b6 b7 b8 Hc
    obtain ⟨b0, b1, b2, b3, b4, b5, b6, b7, b8⟩ := box9 HX.out
    go_wp2
    go_ret
    exact ⟨rfl, HB.out⟩
  | true =>
    by_cases qn0 : n0 > 64
    · by_cases rn0 : n0 ≤ 512
      · have dn0 : decide ((n0 : Int) > 64) = true := decide_eq_true (by omega)
        have fn0 : decide (64 < n0) = true := decide_eq_true (by omega)
        have kn0 : decide ((n0 : Int) ≤ 512) = true := decide_eq_true (by omega)
        have mn0 : decide (n0 ≤ 512) = true := decide_eq_true (by omega)
        clear qn0 rn0
        have Hc := Lib.hid (sane_true W)
        go_enter Try.func4, Try.ntmps4
        go_upto_region 1 with (fail)
        rw [← HW.out]
        clear HW
        go_wp2_with fail
        refine Hc.out.mono ?_
        rintro e w1 ⟨rfl, hb⟩
        replace HB := Lib.hid (btrans HB.out hb); replace HV := Lib.hid (HV.out.on hb); replace HX := Lib.hid (bon HX.out hb); replace HF := Lib.hid (Fl.on HF.out hb); replace G8 := Lib.hid (G8.out.on hb)
        clear hb b0 b1 b2 b3 b4 b5 b6 b7 b8 Hc
        obtain ⟨b0, b1, b2, b3, b4, b5, b6, b7, b8⟩ := box9 HX.out
        have Hc := Lib.hid (few_any HF.out)
        rw [HS.out] at Hc
        go_wp2_with fail
        refine Hc.out.mono ?_
        rintro e w2 ⟨rfl, hb⟩
        replace HB := Lib.hid (btrans HB.out hb); replace HV := Lib.hid (HV.out.on hb); replace HX := Lib.hid (bon HX.out hb); replace HF := Lib.hid (Fl.on HF.out hb); replace G8 := Lib.hid (G8.out.on hb)
        clear hb b0 b1 b2 b3 b4 b5 b6 b7 b8 Hc
        obtain ⟨b0, b1, b2, b3, b4, b5, b6, b7, b8⟩ := box9 HX.out
        go_wp2
        go_ret
        exact ⟨rfl, HB.out⟩
      · have dn0 : decide ((n0 : Int) > 64) = true := decide_eq_true (by omega)
        have fn0 : decide (64 < n0) = true := decide_eq_true (by omega)
        have kn0 : decide ((n0 : Int) ≤ 512) = false := decide_eq_false (by omega)
        have mn0 : decide (n0 ≤ 512) = false := decide_eq_false (by omega)
        clear qn0 rn0
        by_cases qn1 : n1 > 200
        · by_cases rn1 : n1 ≤ 2048
          · have dn1 : decide ((n1 : Int) > 200) = true := decide_eq_true (by omega)
            have fn1 : decide (200 < n1) = true := decide_eq_true (by omega)
            have kn1 : decide ((n1 : Int) ≤ 2048) = true := decide_eq_true (by omega)
            have mn1 : decide (n1 ≤ 2048) = true := decide_eq_true (by omega)
            clear qn1 rn1
            have Hc := Lib.hid (sane_true W)
            go_enter Try.func4, Try.ntmps4
            go_upto_region 1 with (fail)
            rw [← HW.out]
            clear HW
            go_wp2_with fail
            refine Hc.out.mono ?_
            rintro e w1 ⟨rfl, hb⟩
            replace HB := Lib.hid (btrans HB.out hb); replace HV := Lib.hid (HV.out.on hb); replace HX := Lib.hid (bon HX.out hb); replace HF := Lib.hid (Fl.on HF.out hb); replace G8 := Lib.hid (G8.out.on hb)
            clear hb b0 b1 b2 b3 b4 b5 b6 b7 b8 Hc
            obtain ⟨b0, b1, b2, b3, b4, b5, b6, b7, b8⟩ := box9 HX.out
            have Hc := Lib.hid (few_any HF.out)
            rw [HS.out] at Hc
            go_wp2_with fail
            refine Hc.out.mono ?_
            rintro e w2 ⟨rfl, hb⟩
            replace HB := Lib.hid (btrans HB.out hb); replace HV := Lib.hid (HV.out.on hb); replace HX := Lib.hid (bon HX.out hb); replace HF := Lib.hid (Fl.on HF.out hb); replace G8 := Lib.hid (G8.out.on hb)
            clear hb b0 b1 b2 b3 b4 b5 b6 b7 b8 Hc
            obtain ⟨b0, b1, b2, b3, b4, b5, b6, b7, b8⟩ := box9 HX.out
            go_wp2
            go_ret
            exact ⟨rfl, HB.out⟩
          · have dn1 : decide ((n1 : Int) > 200) = true := decide_eq_true (by omega)
            have fn1 : decide (200 < n1) = true := decide_eq_true (by omega)
            have kn1 : decide ((n1 : Int) ≤ 2048) = false := decide_eq_false (by omega)
            have mn1 : decide (n1 ≤ 2048) = false := decide_eq_false (by omega)
            clear qn1 rn1
            have Hc := Lib.hid (sane_true W)
            go_enter Try.func4, Try.ntmps4
            go_upto_region 1 with (fail)
            rw [← HW.out]
            clear HW
            go_wp2_with fail
            refine Hc.out.mono ?_
            rintro e w1 ⟨rfl, hb⟩
            replace HB := Lib.hid (btrans HB.out hb); replace HV := Lib.hid (HV.out.on hb); replace HX := Lib.hid (bon HX.out hb); replace HF := Lib.hid (Fl.on HF.out hb); replace G8 := Lib.hid (G8.out.on hb)
            clear hb b0 b1 b2 b3 b4 b5 b6 b7 b8 Hc
            obtain ⟨b0, b1, b2, b3, b4, b5, b6, b7, b8⟩ := box9 HX.out
            have Hc := Lib.hid (few_any HF.out)
            rw [HS.out] at Hc
            go_wp2_with fail
            refine Hc.out.mono ?_
            rintro e w2 ⟨rfl, hb⟩
            replace HB := Lib.hid (btrans HB.out hb); replace HV := Lib.hid (HV.out.on hb); replace HX := Lib.hid (bon HX.out hb); replace HF := Lib.hid (Fl.on HF.out hb); replace G8 := Lib.hid (G8.out.on hb)
            clear hb b0 b1 b2 b3 b4 b5 b6 b7 b8 Hc
            obtain ⟨b0, b1, b2, b3, b4, b5, b6, b7, b8⟩ := box9 HX.out
            go_wp2
            clear b0 b1 b2 b3 b4 b5 b6 b7 b8 dn0 fn0 dn1 fn1 kn0 mn0 kn1 mn1
            go_loopw [3] (fun s3 wr => ∃ i : Nat, i ≤ n8 ∧ s3 = .int .i64 (i : Int) ∧ Hid (w2 = wr)) (fun s3 _ => n8 - (intOf s3).toNat)
            case atStart => exact ⟨0, by omega, rfl, Lib.hid rfl⟩
            case round =>
              obtain ⟨i, hi, rfl, HI⟩ := hrel
              obtain rfl := HI.out
              clear HI
              obtain ⟨b0, b1, b2, b3, b4, b5, b6, b7, b8⟩ := box9 HX.out
              by_cases hlt : i < n8
              · have hlt2 : (i : Int) < (n8 : Int) := by omega
                obtain ⟨g, off, x, rfl, hg, hx, hok, hra, _⟩ := G8.out.pick i (by rw [← HE8.out]; exact hlt)
                have hc : w2.cell? ⟨g, off + i * 16 + 15, none⟩ = some (.slice x.ha x.hol.length x.hc) := hra 15 _ rfl
                obtain ⟨L, hL⟩ : ∃ L, L = x.hol.length := ⟨_, rfl⟩
                rw [← hL] at hc
                have hc2 : w2.cell? ⟨g, off + i * 16 + 1 + 14, none⟩ = some (.slice x.ha L x.hc) := hc
                clear hg hx hok hra hL
                by_cases q : L > 300
                · have d1 : decide ((L : Int) > 300) = true := decide_eq_true (by omega)
                  have d2 : decide (300 < L) = true := decide_eq_true (by omega)
                  clear q
                  go_wp2
                  go_ret
                  exact ⟨rfl, HB.out⟩
                · have d1 : decide ((L : Int) > 300) = false := decide_eq_false (by omega)
                  have d2 : decide (300 < L) = false := decide_eq_false (by omega)
                  clear q
                  go_wp2
                  go_roundw
                  case rel => exact ⟨i + 1, by omega, by go_num, trivial⟩
                  case measure => simp [intOf]; omega
              · obtain rfl : n8 = i := by omega
                have hlt2 : ¬ ((n8 : Int) < (n8 : Int)) := by omega
                obtain ⟨R, hR⟩ : ∃ R, R = ckp P0 := ⟨_, rfl⟩
                have HR := Lib.hid hR
                clear hR hlt G8 HE8 HF HS
                go_wp2_with fail
                clear b0 b1 b2 b3 b4 b5 b6 b7 b8
                have h7s := box9 (bon HX.out (Below.refl w2.heap.size w2).drew)
                refine wp_region_held_drew (S := fun w' => w'.cell? ⟨w.heap.size, 0, none⟩ = some (.slice a0 n0 c0) ∧ w'.cell? ⟨w.heap.size, 1, none⟩ = some (.slice a1 n1 c1) ∧ w'.cell? ⟨w.heap.size, 2, none⟩ = some (.slice a2 n2 c2) ∧ w'.cell? ⟨w.heap.size, 3, none⟩ = some (.slice a3 n3 c3) ∧ w'.cell? ⟨w.heap.size, 4, none⟩ = some (.slice a4 n4 c4) ∧ w'.cell? ⟨w.heap.size, 5, none⟩ = some (.slice a5 n5 c5) ∧ w'.cell? ⟨w.heap.size, 6, none⟩ = some (.slice a6 n6 c6) ∧ w'.cell? ⟨w.heap.size, 7, none⟩ = some (.slice a7 n7 c7) ∧ w'.cell? ⟨w.heap.size, 8, none⟩ = some (.slice a8 n8 c8)) (by kernel_rfl) h7s (fun hHeld => ?_)
                change wpAnyH _ _ _ _ _ 6 #[false, false, false, false, false, false] _ _
                refine wpAnyH_take (i := 0) (oi := _) (v := .agg #[.slice a0 n0 c0, .slice a1 n1 c1, .slice a2 n2 c2, .slice a3 n3 c3, .slice a4 n4 c4, .slice a5 n5 c5, .slice a6 n6 c6, .slice a7 n7 c7, .slice a8 n8 c8]) rfl (by kernel_rfl) (by kernel_rfl) (by kernel_rfl) (fun _ _ _ h => h) (Or.inl ⟨by rfl, fun wx hSw => ?_⟩) (by assumption) ?_
                · go_simp
                  try (first | omega | (rw [IntKind.wrap_i64]; omega))
                (try simp only [Act.put, List.setIfInBounds_toArray, List.set_cons_zero, List.set_cons_succ, List.getElem_toArray, List.getElem_cons_zero, List.getElem_cons_succ])
                refine wpAnyH_take (i := 2) (oi := _) (v := .agg #[.slice a0 n0 c0, .slice a1 n1 c1, .slice a2 n2 c2, .slice a3 n3 c3, .slice a4 n4 c4, .slice a5 n5 c5, .slice a6 n6 c6, .slice a7 n7 c7, .slice a8 n8 c8]) rfl (by kernel_rfl) (by kernel_rfl) (by kernel_rfl) (fun _ _ _ h => h) (Or.inl ⟨by rfl, fun wx hSw => ?_⟩) (by assumption) ?_
                · go_simp
                  try (first | omega | (rw [IntKind.wrap_i64]; omega))
                (try simp only [Act.put, List.setIfInBounds_toArray, List.set_cons_zero, List.set_cons_succ, List.getElem_toArray, List.getElem_cons_zero, List.getElem_cons_succ])
                refine wpAnyH_ready (rs := [1]) (by kernel_rfl) (by simp) ?_
                refine AllReadyH.cons (o := _) rfl (fun K hK => ?_) AllReadyH.nil
                have Hc := Lib.hid (ckp_any (HV.out.on ((Below.refl w2.heap.size w2).drew)) R HR.out)
                go_simp
                refine Hc.out.mono ?_
                rintro e v0 ⟨rfl, hb⟩
                have HD0 : Hid (Below w2.heap.size w2 v0) := Lib.hid (btrans ((Below.refl w2.heap.size w2).drew) hb)
                have h70 := box9 (bon HX.out HD0.out)
                clear hb Hc
                go_wp2_with fail
                refine hK.out _ _ (h70) (fun hHeld => ?_)
                clear hK K
                (try simp only [Act.put, List.setIfInBounds_toArray, List.set_cons_zero, List.set_cons_succ, List.getElem_toArray, List.getElem_cons_zero, List.getElem_cons_succ])
                refine wpAnyH_ready (rs := [3]) (by kernel_rfl) (by simp) ?_
                refine AllReadyH.cons (o := _) rfl (fun K hK => ?_) AllReadyH.nil
                have Hc := Lib.hid (rckp_any (HV.out.on (HD0.out)) R HR.out)
                go_simp
                refine Hc.out.mono ?_
                rintro e v1 ⟨rfl, hb⟩
                have HD1 : Hid (Below w2.heap.size w2 v1) := Lib.hid (btrans (HD0.out) hb)
                have h71 := box9 (bon HX.out HD1.out)
                clear hb Hc
                go_wp2_with fail
                refine hK.out _ _ (h71) (fun hHeld => ?_)
                clear hK K
                (try simp only [Act.put, List.setIfInBounds_toArray, List.set_cons_zero, List.set_cons_succ, List.getElem_toArray, List.getElem_cons_zero, List.getElem_cons_succ])
                refine wpAnyH_take (i := 4) (oi := _) (v := .bool true) rfl (by kernel_rfl) (by kernel_rfl) (by kernel_rfl) (fun _ _ _ h => h) (Or.inl ⟨by rfl, fun wx hSw => ?_⟩) (by assumption) ?_
                · go_simp
                  try (first | omega | (rw [IntKind.wrap_i64]; omega))
                (try simp only [Act.put, List.setIfInBounds_toArray, List.set_cons_zero, List.set_cons_succ, List.getElem_toArray, List.getElem_cons_zero, List.getElem_cons_succ])
                refine wpAnyH_take (i := 5) (oi := _) (v := .bool true) rfl (by kernel_rfl) (by kernel_rfl) (by kernel_rfl) (fun _ _ _ h => h) (Or.inl ⟨by rfl, fun wx hSw => ?_⟩) (by assumption) ?_
                · go_simp
                  try (first | omega | (rw [IntKind.wrap_i64]; omega))
                (try simp only [Act.put, List.setIfInBounds_toArray, List.set_cons_zero, List.set_cons_succ, List.getElem_toArray, List.getElem_cons_zero, List.getElem_cons_succ])
                refine wpAnyH_done (by kernel_rfl) ?_ _
                clear hHeld
                have HZ := Lib.hid (btrans HB.out HD1.out)
                clear h7s h70 h71
                go_wp2
                go_ret
                exact ⟨rfl, HZ.out⟩
        · have dn1 : decide ((n1 : Int) > 200) = false := decide_eq_false (by omega)
          have fn1 : decide (200 < n1) = false := decide_eq_false (by omega)
          clear qn1
          have Hc := Lib.hid (sane_true W)
          go_enter Try.func4, Try.ntmps4
          go_upto_region 1 with (fail)
          rw [← HW.out]
          clear HW
          go_wp2_with fail
          refine Hc.out.mono ?_
          rintro e w1 ⟨rfl, hb⟩
          replace HB := Lib.hid (btrans HB.out hb); replace HV := Lib.hid (HV.out.on hb); replace HX := Lib.hid (bon HX.out hb); replace HF := Lib.hid (Fl.on HF.out hb); replace G8 := Lib.hid (G8.out.on hb)
          clear hb b0 b1 b2 b3 b4 b5 b6 b7 b8 Hc
          obtain ⟨b0, b1, b2, b3, b4, b5, b6, b7, b8⟩ := box9 HX.out
          have Hc := Lib.hid (few_any HF.out)
          rw [HS.out] at Hc
          go_wp2_with fail
          refine Hc.out.mono ?_
          rintro e w2 ⟨rfl, hb⟩
          replace HB := Lib.hid (btrans HB.out hb); replace HV := Lib.hid (HV.out.on hb); replace HX := Lib.hid (bon HX.out hb); replace HF := Lib.hid (Fl.on HF.out hb); replace G8 := Lib.hid (G8.out.on hb)
          clear hb b0 b1 b2 b3 b4 b5 b6 b7 b8 Hc
          obtain ⟨b0, b1, b2, b3, b4, b5, b6, b7, b8⟩ := box9 HX.out
          go_wp2
          clear b0 b1 b2 b3 b4 b5 b6 b7 b8 dn0 fn0 dn1 fn1 kn0 mn0
          go_loopw [3] (fun s3 wr => ∃ i : Nat, i ≤ n8 ∧ s3 = .int .i64 (i : Int) ∧ Hid (w2 = wr)) (fun s3 _ => n8 - (intOf s3).toNat)
          case atStart => exact ⟨0, by omega, rfl, Lib.hid rfl⟩
          case round =>
            obtain ⟨i, hi, rfl, HI⟩ := hrel
            obtain rfl := HI.out
            clear HI
            obtain ⟨b0, b1, b2, b3, b4, b5, b6, b7, b8⟩ := box9 HX.out
            by_cases hlt : i < n8
            · have hlt2 : (i : Int) < (n8 : Int) := by omega
              obtain ⟨g, off, x, rfl, hg, hx, hok, hra, _⟩ := G8.out.pick i (by rw [← HE8.out]; exact hlt)
              have hc : w2.cell? ⟨g, off + i * 16 + 15, none⟩ = some (.slice x.ha x.hol.length x.hc) := hra 15 _ rfl
              obtain ⟨L, hL⟩ : ∃ L, L = x.hol.length := ⟨_, rfl⟩
              rw [← hL] at hc
              have hc2 : w2.cell? ⟨g, off + i * 16 + 1 + 14, none⟩ = some (.slice x.ha L x.hc) := hc
              clear hg hx hok hra hL
              by_cases q : L > 300
              · have d1 : decide ((L : Int) > 300) = true := decide_eq_true (by omega)
                have d2 : decide (300 < L) = true := decide_eq_true (by omega)
                clear q
                go_wp2
                go_ret
                exact ⟨rfl, HB.out⟩
              · have d1 : decide ((L : Int) > 300) = false := decide_eq_false (by omega)
                have d2 : decide (300 < L) = false := decide_eq_false (by omega)
                clear q
                go_wp2
                go_roundw
                case rel => exact ⟨i + 1, by omega, by go_num, trivial⟩
                case measure => simp [intOf]; omega
            · obtain rfl : n8 = i := by omega
              have hlt2 : ¬ ((n8 : Int) < (n8 : Int)) := by omega
              obtain ⟨R, hR⟩ : ∃ R, R = ckp P0 := ⟨_, rfl⟩
              have HR := Lib.hid hR
              clear hR hlt G8 HE8 HF HS
              go_wp2_with fail
              clear b0 b1 b2 b3 b4 b5 b6 b7 b8
              have h7s := box9 (bon HX.out (Below.refl w2.heap.size w2).drew)
              refine wp_region_held_drew (S := fun w' => w'.cell? ⟨w.heap.size, 0, none⟩ = some (.slice a0 n0 c0) ∧ w'.cell? ⟨w.heap.size, 1, none⟩ = some (.slice a1 n1 c1) ∧ w'.cell? ⟨w.heap.size, 2, none⟩ = some (.slice a2 n2 c2) ∧ w'.cell? ⟨w.heap.size, 3, none⟩ = some (.slice a3 n3 c3) ∧ w'.cell? ⟨w.heap.size, 4, none⟩ = some (.slice a4 n4 c4) ∧ w'.cell? ⟨w.heap.size, 5, none⟩ = some (.slice a5 n5 c5) ∧ w'.cell? ⟨w.heap.size, 6, none⟩ = some (.slice a6 n6 c6) ∧ w'.cell? ⟨w.heap.size, 7, none⟩ = some (.slice a7 n7 c7) ∧ w'.cell? ⟨w.heap.size, 8, none⟩ = some (.slice a8 n8 c8)) (by kernel_rfl) h7s (fun hHeld => ?_)
              change wpAnyH _ _ _ _ _ 6 #[false, false, false, false, false, false] _ _
              refine wpAnyH_take (i := 0) (oi := _) (v := .agg #[.slice a0 n0 c0, .slice a1 n1 c1, .slice a2 n2 c2, .slice a3 n3 c3, .slice a4 n4 c4, .slice a5 n5 c5, .slice a6 n6 c6, .slice a7 n7 c7, .slice a8 n8 c8]) rfl (by kernel_rfl) (by kernel_rfl) (by kernel_rfl) (fun _ _ _ h => h) (Or.inl ⟨by rfl, fun wx hSw => ?_⟩) (by assumption) ?_
              · go_simp
                try (first | omega | (rw [IntKind.wrap_i64]; omega))
              (try simp only [Act.put, List.setIfInBounds_toArray, List.set_cons_zero, List.set_cons_succ, List.getElem_toArray, List.getElem_cons_zero, List.getElem_cons_succ])
              refine wpAnyH_take (i := 2) (oi := _) (v := .agg #[.slice a0 n0 c0, .slice a1 n1 c1, .slice a2 n2 c2, .slice a3 n3 c3, .slice a4 n4 c4, .slice a5 n5 c5, .slice a6 n6 c6, .slice a7 n7 c7, .slice a8 n8 c8]) rfl (by kernel_rfl) (by kernel_rfl) (by kernel_rfl) (fun _ _ _ h => h) (Or.inl ⟨by rfl, fun wx hSw => ?_⟩) (by assumption) ?_
              · go_simp
                try (first | omega | (rw [IntKind.wrap_i64]; omega))
              (try simp only [Act.put, List.setIfInBounds_toArray, List.set_cons_zero, List.set_cons_succ, List.getElem_toArray, List.getElem_cons_zero, List.getElem_cons_succ])
              refine wpAnyH_ready (rs := [1]) (by kernel_rfl) (by simp) ?_
              refine AllReadyH.cons (o := _) rfl (fun K hK => ?_) AllReadyH.nil
              have Hc := Lib.hid (ckp_any (HV.out.on ((Below.refl w2.heap.size w2).drew)) R HR.out)
              go_simp
              refine Hc.out.mono ?_
              rintro e v0 ⟨rfl, hb⟩
              have HD0 : Hid (Below w2.heap.size w2 v0) := Lib.hid (btrans ((Below.refl w2.heap.size w2).drew) hb)
              have h70 := box9 (bon HX.out HD0.out)
              clear hb Hc
              go_wp2_with fail
              refine hK.out _ _ (h70) (fun hHeld => ?_)
              clear hK K
              (try simp only [Act.put, List.setIfInBounds_toArray, List.set_cons_zero, List.set_cons_succ, List.getElem_toArray, List.getElem_cons_zero, List.getElem_cons_succ])
              refine wpAnyH_ready (rs := [3]) (by kernel_rfl) (by simp) ?_
              refine AllReadyH.cons (o := _) rfl (fun K hK => ?_) AllReadyH.nil
              have Hc := Lib.hid (rckp_any (HV.out.on (HD0.out)) R HR.out)
              go_simp
              refine Hc.out.mono ?_
              rintro e v1 ⟨rfl, hb⟩
              have HD1 : Hid (Below w2.heap.size w2 v1) := Lib.hid (btrans (HD0.out) hb)
              have h71 := box9 (bon HX.out HD1.out)
              clear hb Hc
              go_wp2_with fail
              refine hK.out _ _ (h71) (fun hHeld => ?_)
              clear hK K
              (try simp only [Act.put, List.setIfInBounds_toArray, List.set_cons_zero, List.set_cons_succ, List.getElem_toArray, List.getElem_cons_zero, List.getElem_cons_succ])
              refine wpAnyH_take (i := 4) (oi := _) (v := .bool true) rfl (by kernel_rfl) (by kernel_rfl) (by kernel_rfl) (fun _ _ _ h => h) (Or.inl ⟨by rfl, fun wx hSw => ?_⟩) (by assumption) ?_
              · go_simp
                try (first | omega | (rw [IntKind.wrap_i64]; omega))
              (try simp only [Act.put, List.setIfInBounds_toArray, List.set_cons_zero, List.set_cons_succ, List.getElem_toArray, List.getElem_cons_zero, List.getElem_cons_succ])
              refine wpAnyH_take (i := 5) (oi := _) (v := .bool true) rfl (by kernel_rfl) (by kernel_rfl) (by kernel_rfl) (fun _ _ _ h => h) (Or.inl ⟨by rfl, fun wx hSw => ?_⟩) (by assumption) ?_
              · go_simp
                try (first | omega | (rw [IntKind.wrap_i64]; omega))
              (try simp only [Act.put, List.setIfInBounds_toArray, List.set_cons_zero, List.set_cons_succ, List.getElem_toArray, List.getElem_cons_zero, List.getElem_cons_succ])
              refine wpAnyH_done (by kernel_rfl) ?_ _
              clear hHeld
              have HZ := Lib.hid (btrans HB.out HD1.out)
              clear h7s h70 h71
              go_wp2
              go_ret
              exact ⟨rfl, HZ.out⟩
    · have dn0 : decide ((n0 : Int) > 64) = false := decide_eq_false (by omega)
      have fn0 : decide (64 < n0) = false := decide_eq_false (by omega)
      clear qn0
      by_cases qn1 : n1 > 200
      · by_cases rn1 : n1 ≤ 2048
        · have dn1 : decide ((n1 : Int) > 200) = true := decide_eq_true (by omega)
          have fn1 : decide (200 < n1) = true := decide_eq_true (by omega)
          have kn1 : decide ((n1 : Int) ≤ 2048) = true := decide_eq_true (by omega)
          have mn1 : decide (n1 ≤ 2048) = true := decide_eq_true (by omega)
          clear qn1 rn1
          have Hc := Lib.hid (sane_true W)
          go_enter Try.func4, Try.ntmps4
          go_upto_region 1 with (fail)
          rw [← HW.out]
          clear HW
          go_wp2_with fail
          refine Hc.out.mono ?_
          rintro e w1 ⟨rfl, hb⟩
          replace HB := Lib.hid (btrans HB.out hb); replace HV := Lib.hid (HV.out.on hb); replace HX := Lib.hid (bon HX.out hb); replace HF := Lib.hid (Fl.on HF.out hb); replace G8 := Lib.hid (G8.out.on hb)
          clear hb b0 b1 b2 b3 b4 b5 b6 b7 b8 Hc
          obtain ⟨b0, b1, b2, b3, b4, b5, b6, b7, b8⟩ := box9 HX.out
          have Hc := Lib.hid (few_any HF.out)
          rw [HS.out] at Hc
          go_wp2_with fail
          refine Hc.out.mono ?_
          rintro e w2 ⟨rfl, hb⟩
          replace HB := Lib.hid (btrans HB.out hb); replace HV := Lib.hid (HV.out.on hb); replace HX := Lib.hid (bon HX.out hb); replace HF := Lib.hid (Fl.on HF.out hb); replace G8 := Lib.hid (G8.out.on hb)
          clear hb b0 b1 b2 b3 b4 b5 b6 b7 b8 Hc
          obtain ⟨b0, b1, b2, b3, b4, b5, b6, b7, b8⟩ := box9 HX.out
          go_wp2
          go_ret
          exact ⟨rfl, HB.out⟩
        · have dn1 : decide ((n1 : Int) > 200) = true := decide_eq_true (by omega)
          have fn1 : decide (200 < n1) = true := decide_eq_true (by omega)
          have kn1 : decide ((n1 : Int) ≤ 2048) = false := decide_eq_false (by omega)
          have mn1 : decide (n1 ≤ 2048) = false := decide_eq_false (by omega)
          clear qn1 rn1
          have Hc := Lib.hid (sane_true W)
          go_enter Try.func4, Try.ntmps4
          go_upto_region 1 with (fail)
          rw [← HW.out]
          clear HW
          go_wp2_with fail
          refine Hc.out.mono ?_
          rintro e w1 ⟨rfl, hb⟩
          replace HB := Lib.hid (btrans HB.out hb); replace HV := Lib.hid (HV.out.on hb); replace HX := Lib.hid (bon HX.out hb); replace HF := Lib.hid (Fl.on HF.out hb); replace G8 := Lib.hid (G8.out.on hb)
          clear hb b0 b1 b2 b3 b4 b5 b6 b7 b8 Hc
          obtain ⟨b0, b1, b2, b3, b4, b5, b6, b7, b8⟩ := box9 HX.out
          have Hc := Lib.hid (few_any HF.out)
          rw [HS.out] at Hc
          go_wp2_with fail
          refine Hc.out.mono ?_
          rintro e w2 ⟨rfl, hb⟩
          replace HB := Lib.hid (btrans HB.out hb); replace HV := Lib.hid (HV.out.on hb); replace HX := Lib.hid (bon HX.out hb); replace HF := Lib.hid (Fl.on HF.out hb); replace G8 := Lib.hid (G8.out.on hb)
          clear hb b0 b1 b2 b3 b4 b5 b6 b7 b8 Hc
          obtain ⟨b0, b1, b2, b3, b4, b5, b6, b7, b8⟩ := box9 HX.out
          go_wp2
          clear b0 b1 b2 b3 b4 b5 b6 b7 b8 dn0 fn0 dn1 fn1 kn1 mn1
          go_loopw [3] (fun s3 wr => ∃ i : Nat, i ≤ n8 ∧ s3 = .int .i64 (i : Int) ∧ Hid (w2 = wr)) (fun s3 _ => n8 - (intOf s3).toNat)
          case atStart => exact ⟨0, by omega, rfl, Lib.hid rfl⟩
          case round =>
            obtain ⟨i, hi, rfl, HI⟩ := hrel
            obtain rfl := HI.out
            clear HI
            obtain ⟨b0, b1, b2, b3, b4, b5, b6, b7, b8⟩ := box9 HX.out
            by_cases hlt : i < n8
            · have hlt2 : (i : Int) < (n8 : Int) := by omega
              obtain ⟨g, off, x, rfl, hg, hx, hok, hra, _⟩ := G8.out.pick i (by rw [← HE8.out]; exact hlt)
              have hc : w2.cell? ⟨g, off + i * 16 + 15, none⟩ = some (.slice x.ha x.hol.length x.hc) := hra 15 _ rfl
              obtain ⟨L, hL⟩ : ∃ L, L = x.hol.length := ⟨_, rfl⟩
              rw [← hL] at hc
              have hc2 : w2.cell? ⟨g, off + i * 16 + 1 + 14, none⟩ = some (.slice x.ha L x.hc) := hc
              clear hg hx hok hra hL
              by_cases q : L > 300
              · have d1 : decide ((L : Int) > 300) = true := decide_eq_true (by omega)
                have d2 : decide (300 < L) = true := decide_eq_true (by omega)
                clear q
                go_wp2
                go_ret
                exact ⟨rfl, HB.out⟩
              · have d1 : decide ((L : Int) > 300) = false := decide_eq_false (by omega)
                have d2 : decide (300 < L) = false := decide_eq_false (by omega)
                clear q
                go_wp2
                go_roundw
                case rel => exact ⟨i + 1, by omega, by go_num, trivial⟩
                case measure => simp [intOf]; omega
            · obtain rfl : n8 = i := by omega
              have hlt2 : ¬ ((n8 : Int) < (n8 : Int)) := by omega
              obtain ⟨R, hR⟩ : ∃ R, R = ckp P0 := ⟨_, rfl⟩
              have HR := Lib.hid hR
              clear hR hlt G8 HE8 HF HS
              go_wp2_with fail
              clear b0 b1 b2 b3 b4 b5 b6 b7 b8
              have h7s := box9 (bon HX.out (Below.refl w2.heap.size w2).drew)
              refine wp_region_held_drew (S := fun w' => w'.cell? ⟨w.heap.size, 0, none⟩ = some (.slice a0 n0 c0) ∧ w'.cell? ⟨w.heap.size, 1, none⟩ = some (.slice a1 n1 c1) ∧ w'.cell? ⟨w.heap.size, 2, none⟩ = some (.slice a2 n2 c2) ∧ w'.cell? ⟨w.heap.size, 3, none⟩ = some (.slice a3 n3 c3) ∧ w'.cell? ⟨w.heap.size, 4, none⟩ = some (.slice a4 n4 c4) ∧ w'.cell? ⟨w.heap.size, 5, none⟩ = some (.slice a5 n5 c5) ∧ w'.cell? ⟨w.heap.size, 6, none⟩ = some (.slice a6 n6 c6) ∧ w'.cell? ⟨w.heap.size, 7, none⟩ = some (.slice a7 n7 c7) ∧ w'.cell? ⟨w.heap.size, 8, none⟩ = some (.slice a8 n8 c8)) (by kernel_rfl) h7s (fun hHeld => ?_)
              change wpAnyH _ _ _ _ _ 6 #[false, false, false, false, false, false] _ _
              refine wpAnyH_take (i := 0) (oi := _) (v := .agg #[.slice a0 n0 c0, .slice a1 n1 c1, .slice a2 n2 c2, .slice a3 n3 c3, .slice a4 n4 c4, .slice a5 n5 c5, .slice a6 n6 c6, .slice a7 n7 c7, .slice a8 n8 c8]) rfl (by kernel_rfl) (by kernel_rfl) (by kernel_rfl) (fun _ _ _ h => h) (Or.inl ⟨by rfl, fun wx hSw => ?_⟩) (by assumption) ?_
              · go_simp
                try (first | omega | (rw [IntKind.wrap_i64]; omega))
              (try simp only [Act.put, List.setIfInBounds_toArray, List.set_cons_zero, List.set_cons_succ, List.getElem_toArray, List.getElem_cons_zero, List.getElem_cons_succ])
              refine wpAnyH_take (i := 2) (oi := _) (v := .agg #[.slice a0 n0 c0, .slice a1 n1 c1, .slice a2 n2 c2, .slice a3 n3 c3, .slice a4 n4 c4, .slice a5 n5 c5, .slice a6 n6 c6, .slice a7 n7 c7, .slice a8 n8 c8]) rfl (by kernel_rfl) (by kernel_rfl) (by kernel_rfl) (fun _ _ _ h => h) (Or.inl ⟨by rfl, fun wx hSw => ?_⟩) (by assumption) ?_
              · go_simp
                try (first | omega | (rw [IntKind.wrap_i64]; omega))
              (try simp only [Act.put, List.setIfInBounds_toArray, List.set_cons_zero, List.set_cons_succ, List.getElem_toArray, List.getElem_cons_zero, List.getElem_cons_succ])
              refine wpAnyH_ready (rs := [1]) (by kernel_rfl) (by simp) ?_
              refine AllReadyH.cons (o := _) rfl (fun K hK => ?_) AllReadyH.nil
              have Hc := Lib.hid (ckp_any (HV.out.on ((Below.refl w2.heap.size w2).drew)) R HR.out)
              go_simp
              refine Hc.out.mono ?_
              rintro e v0 ⟨rfl, hb⟩
              have HD0 : Hid (Below w2.heap.size w2 v0) := Lib.hid (btrans ((Below.refl w2.heap.size w2).drew) hb)
              have h70 := box9 (bon HX.out HD0.out)
              clear hb Hc
              go_wp2_with fail
              refine hK.out _ _ (h70) (fun hHeld => ?_)
              clear hK K
              (try simp only [Act.put, List.setIfInBounds_toArray, List.set_cons_zero, List.set_cons_succ, List.getElem_toArray, List.getElem_cons_zero, List.getElem_cons_succ])
              refine wpAnyH_ready (rs := [3]) (by kernel_rfl) (by simp) ?_
              refine AllReadyH.cons (o := _) rfl (fun K hK => ?_) AllReadyH.nil
              have Hc := Lib.hid (rckp_any (HV.out.on (HD0.out)) R HR.out)
              go_simp
              refine Hc.out.mono ?_
              rintro e v1 ⟨rfl, hb⟩
              have HD1 : Hid (Below w2.heap.size w2 v1) := Lib.hid (btrans (HD0.out) hb)
              have h71 := box9 (bon HX.out HD1.out)
              clear hb Hc
              go_wp2_with fail
              refine hK.out _ _ (h71) (fun hHeld => ?_)
              clear hK K
              (try simp only [Act.put, List.setIfInBounds_toArray, List.set_cons_zero, List.set_cons_succ, List.getElem_toArray, List.getElem_cons_zero, List.getElem_cons_succ])
              refine wpAnyH_take (i := 4) (oi := _) (v := .bool true) rfl (by kernel_rfl) (by kernel_rfl) (by kernel_rfl) (fun _ _ _ h => h) (Or.inl ⟨by rfl, fun wx hSw => ?_⟩) (by assumption) ?_
              · go_simp
                try (first | omega | (rw [IntKind.wrap_i64]; omega))
              (try simp only [Act.put, List.setIfInBounds_toArray, List.set_cons_zero, List.set_cons_succ, List.getElem_toArray, List.getElem_cons_zero, List.getElem_cons_succ])
              refine wpAnyH_take (i := 5) (oi := _) (v := .bool true) rfl (by kernel_rfl) (by kernel_rfl) (by kernel_rfl) (fun _ _ _ h => h) (Or.inl ⟨by rfl, fun wx hSw => ?_⟩) (by assumption) ?_
              · go_simp
                try (first | omega | (rw [IntKind.wrap_i64]; omega))
              (try simp only [Act.put, List.setIfInBounds_toArray, List.set_cons_zero, List.set_cons_succ, List.getElem_toArray, List.getElem_cons_zero, List.getElem_cons_succ])
              refine wpAnyH_done (by kernel_rfl) ?_ _
              clear hHeld
              have HZ := Lib.hid (btrans HB.out HD1.out)
              clear h7s h70 h71
              go_wp2
              go_ret
              exact ⟨rfl, HZ.out⟩
      · have dn1 : decide ((n1 : Int) > 200) = false := decide_eq_false (by omega)
        have fn1 : decide (200 < n1) = false := decide_eq_false (by omega)
        clear qn1
        have Hc := Lib.hid (sane_true W)
        go_enter Try.func4, Try.ntmps4
        go_upto_region 1 with (fail)
        rw [← HW.out]
        clear HW
        go_wp2_with fail
        refine Hc.out.mono ?_
        rintro e w1 ⟨rfl, hb⟩
        replace HB := Lib.hid (btrans HB.out hb); replace HV := Lib.hid (HV.out.on hb); replace HX := Lib.hid (bon HX.out hb); replace HF := Lib.hid (Fl.on HF.out hb); replace G8 := Lib.hid (G8.out.on hb)
        clear hb b0 b1 b2 b3 b4 b5 b6 b7 b8 Hc
        obtain ⟨b0, b1, b2, b3, b4, b5, b6, b7, b8⟩ := box9 HX.out
        have Hc := Lib.hid (few_any HF.out)
        rw [HS.out] at Hc
        go_wp2_with fail
        refine Hc.out.mono ?_
        rintro e w2 ⟨rfl, hb⟩
        replace HB := Lib.hid (btrans HB.out hb); replace HV := Lib.hid (HV.out.on hb); replace HX := Lib.hid (bon HX.out hb); replace HF := Lib.hid (Fl.on HF.out hb); replace G8 := Lib.hid (G8.out.on hb)
        clear hb b0 b1 b2 b3 b4 b5 b6 b7 b8 Hc
        obtain ⟨b0, b1, b2, b3, b4, b5, b6, b7, b8⟩ := box9 HX.out
        go_wp2
        clear b0 b1 b2 b3 b4 b5 b6 b7 b8 dn0 fn0 dn1 fn1
        go_loopw [3] (fun s3 wr => ∃ i : Nat, i ≤ n8 ∧ s3 = .int .i64 (i : Int) ∧ Hid (w2 = wr)) (fun s3 _ => n8 - (intOf s3).toNat)
        case atStart => exact ⟨0, by omega, rfl, Lib.hid rfl⟩
        case round =>
          obtain ⟨i, hi, rfl, HI⟩ := hrel
          obtain rfl := HI.out
          clear HI
          obtain ⟨b0, b1, b2, b3, b4, b5, b6, b7, b8⟩ := box9 HX.out
          by_cases hlt : i < n8
          · have hlt2 : (i : Int) < (n8 : Int) := by omega
            obtain ⟨g, off, x, rfl, hg, hx, hok, hra, _⟩ := G8.out.pick i (by rw [← HE8.out]; exact hlt)
            have hc : w2.cell? ⟨g, off + i * 16 + 15, none⟩ = some (.slice x.ha x.hol.length x.hc) := hra 15 _ rfl
            obtain ⟨L, hL⟩ : ∃ L, L = x.hol.length := ⟨_, rfl⟩
            rw [← hL] at hc
            have hc2 : w2.cell? ⟨g, off + i * 16 + 1 + 14, none⟩ = some (.slice x.ha L x.hc) := hc
            clear hg hx hok hra hL
            by_cases q : L > 300
            · have d1 : decide ((L : Int) > 300) = true := decide_eq_true (by omega)
              have d2 : decide (300 < L) = true := decide_eq_true (by omega)
              clear q
              go_wp2
              go_ret
              exact ⟨rfl, HB.out⟩
            · have d1 : decide ((L : Int) > 300) = false := decide_eq_false (by omega)
              have d2 : decide (300 < L) = false := decide_eq_false (by omega)
              clear q
              go_wp2
              go_roundw
              case rel => exact ⟨i + 1, by omega, by go_num, trivial⟩
              case measure => simp [intOf]; omega
          · obtain rfl : n8 = i := by omega
            have hlt2 : ¬ ((n8 : Int) < (n8 : Int)) := by omega
            obtain ⟨R, hR⟩ : ∃ R, R = ckp P0 := ⟨_, rfl⟩
            have HR := Lib.hid hR
            clear hR hlt G8 HE8 HF HS
            go_wp2_with fail
            clear b0 b1 b2 b3 b4 b5 b6 b7 b8
            have h7s := box9 (bon HX.out (Below.refl w2.heap.size w2).drew)
            refine wp_region_held_drew (S := fun w' => w'.cell? ⟨w.heap.size, 0, none⟩ = some (.slice a0 n0 c0) ∧ w'.cell? ⟨w.heap.size, 1, none⟩ = some (.slice a1 n1 c1) ∧ w'.cell? ⟨w.heap.size, 2, none⟩ = some (.slice a2 n2 c2) ∧ w'.cell? ⟨w.heap.size, 3, none⟩ = some (.slice a3 n3 c3) ∧ w'.cell? ⟨w.heap.size, 4, none⟩ = some (.slice a4 n4 c4) ∧ w'.cell? ⟨w.heap.size, 5, none⟩ = some (.slice a5 n5 c5) ∧ w'.cell? ⟨w.heap.size, 6, none⟩ = some (.slice a6 n6 c6) ∧ w'.cell? ⟨w.heap.size, 7, none⟩ = some (.slice a7 n7 c7) ∧ w'.cell? ⟨w.heap.size, 8, none⟩ = some (.slice a8 n8 c8)) (by kernel_rfl) h7s (fun hHeld => ?_)
            change wpAnyH _ _ _ _ _ 6 #[false, false, false, false, false, false] _ _
            refine wpAnyH_take (i := 0) (oi := _) (v := .agg #[.slice a0 n0 c0, .slice a1 n1 c1, .slice a2 n2 c2, .slice a3 n3 c3, .slice a4 n4 c4, .slice a5 n5 c5, .slice a6 n6 c6, .slice a7 n7 c7, .slice a8 n8 c8]) rfl (by kernel_rfl) (by kernel_rfl) (by kernel_rfl) (fun _ _ _ h => h) (Or.inl ⟨by rfl, fun wx hSw => ?_⟩) (by assumption) ?_
            · go_simp
              try (first | omega | (rw [IntKind.wrap_i64]; omega))
            (try simp only [Act.put, List.setIfInBounds_toArray, List.set_cons_zero, List.set_cons_succ, List.getElem_toArray, List.getElem_cons_zero, List.getElem_cons_succ])
            refine wpAnyH_take (i := 2) (oi := _) (v := .agg #[.slice a0 n0 c0, .slice a1 n1 c1, .slice a2 n2 c2, .slice a3 n3 c3, .slice a4 n4 c4, .slice a5 n5 c5, .slice a6 n6 c6, .slice a7 n7 c7, .slice a8 n8 c8]) rfl (by kernel_rfl) (by kernel_rfl) (by kernel_rfl) (fun _ _ _ h => h) (Or.inl ⟨by rfl, fun wx hSw => ?_⟩) (by assumption) ?_
            · go_simp
              try (first | omega | (rw [IntKind.wrap_i64]; omega))
            (try simp only [Act.put, List.setIfInBounds_toArray, List.set_cons_zero, List.set_cons_succ, List.getElem_toArray, List.getElem_cons_zero, List.getElem_cons_succ])
            refine wpAnyH_ready (rs := [1]) (by kernel_rfl) (by simp) ?_
            refine AllReadyH.cons (o := _) rfl (fun K hK => ?_) AllReadyH.nil
            have Hc := Lib.hid (ckp_any (HV.out.on ((Below.refl w2.heap.size w2).drew)) R HR.out)
            go_simp
            refine Hc.out.mono ?_
            rintro e v0 ⟨rfl, hb⟩
            have HD0 : Hid (Below w2.heap.size w2 v0) := Lib.hid (btrans ((Below.refl w2.heap.size w2).drew) hb)
            have h70 := box9 (bon HX.out HD0.out)
            clear hb Hc
            go_wp2_with fail
            refine hK.out _ _ (h70) (fun hHeld => ?_)
            clear hK K
            (try simp only [Act.put, List.setIfInBounds_toArray, List.set_cons_zero, List.set_cons_succ, List.getElem_toArray, List.getElem_cons_zero, List.getElem_cons_succ])
            refine wpAnyH_ready (rs := [3]) (by kernel_rfl) (by simp) ?_
            refine AllReadyH.cons (o := _) rfl (fun K hK => ?_) AllReadyH.nil
            have Hc := Lib.hid (rckp_any (HV.out.on (HD0.out)) R HR.out)
            go_simp
            refine Hc.out.mono ?_
            rintro e v1 ⟨rfl, hb⟩
            have HD1 : Hid (Below w2.heap.size w2 v1) := Lib.hid (btrans (HD0.out) hb)
            have h71 := box9 (bon HX.out HD1.out)
            clear hb Hc
            go_wp2_with fail
            refine hK.out _ _ (h71) (fun hHeld => ?_)
            clear hK K
            (try simp only [Act.put, List.setIfInBounds_toArray, List.set_cons_zero, List.set_cons_succ, List.getElem_toArray, List.getElem_cons_zero, List.getElem_cons_succ])
            refine wpAnyH_take (i := 4) (oi := _) (v := .bool true) rfl (by kernel_rfl) (by kernel_rfl) (by kernel_rfl) (fun _ _ _ h => h) (Or.inl ⟨by rfl, fun wx hSw => ?_⟩) (by assumption) ?_
            · go_simp
              try (first | omega | (rw [IntKind.wrap_i64]; omega))
            (try simp only [Act.put, List.setIfInBounds_toArray, List.set_cons_zero, List.set_cons_succ, List.getElem_toArray, List.getElem_cons_zero, List.getElem_cons_succ])
            refine wpAnyH_take (i := 5) (oi := _) (v := .bool true) rfl (by kernel_rfl) (by kernel_rfl) (by kernel_rfl) (fun _ _ _ h => h) (Or.inl ⟨by rfl, fun wx hSw => ?_⟩) (by assumption) ?_
            · go_simp
              try (first | omega | (rw [IntKind.wrap_i64]; omega))
            (try simp only [Act.put, List.setIfInBounds_toArray, List.set_cons_zero, List.set_cons_succ, List.getElem_toArray, List.getElem_cons_zero, List.getElem_cons_succ])
            refine wpAnyH_done (by kernel_rfl) ?_ _
            clear hHeld
            have HZ := Lib.hid (btrans HB.out HD1.out)
            clear h7s h70 h71
            go_wp2
            go_ret
            exact ⟨rfl, HZ.out⟩

set_option maxRecDepth 100000 in
theorem lifted (os : Os) (started : os.Started) (H : Type) (enc : TypeId × Value → H) :
    ReturnsInHanded {} Try.checked os 4 .any (Rows.fleetMatchesPoolSpec.pre6 enc Try.prog Try.f4 Rows.fleetMatchesPoolRow.domain false) (Rows.fleetMatchesPoolSpec.post enc Try.prog Try.f4 false true false false) := by
  refine returnsInHanded_of_change_sized (C := Try.checked) own started (by kernel_rfl) Try.func4
    (ChangeSpec.witness6 (enc := enc) (C := Try.checked) false ⟨#[], #[.agg #[.slice none 0 0, .slice none 0 0, .slice none 0 0, .slice none 0 0, .slice none 0 0, .slice none 0 0, .slice none 0 0, .slice none 0 0, .slice none 0 0]], []⟩ 8 (by kernel_rfl) (by kernel_rfl) (by kernel_rfl) (by kernel_rfl)) ?_
  intro W base args ds gs before hval0 hW _ hsz0 _
  have hsz : (DataW.weightsEach Try.prog (Try.f4.params.toList ++ Rows.fleetMatchesPoolSpec.plain.varTypes Try.prog) (ds ++ gs)).all (· ≤ reachBytes) = true := hsz0
  have hval : ∀ (j : Nat) t v, Try.f4.params[j]? = some t → args[j]? = some v → Value.okWide Try.prog W .any base t v := hval0
  clear hsz0 hval0
  have hW' := hW
  obtain ⟨p, q, hA0, hV, rfl, _, _⟩ := hW
  have hA : DataW.TrodAll enc Try.prog W 0 (fun _ => true) true Try.f4.params.toList args.toList ds p := hA0
  rw [Try.params4] at hA hval hsz
  obtain ⟨v0, vs0, d0, ds0, p0, q0, hargs, rfl, rfl, h0, r0⟩ := trodAll_cons hA
  obtain ⟨rfl, rfl, rfl⟩ := trodAll_nil r0
  obtain rfl : args = #[v0] := by cases args; simp_all
  obtain ⟨rfl, rfl⟩ := trodVars_none hV
  have hw0 : ∀ n ∈ d0.weights Try.prog 49, n ≤ reachBytes := by
    intro n hn
    have := List.all_eq_true.1 hsz n (DataW.weights_mem_each (t := 49) (d := d0) (j := 0) rfl rfl n hn)
    simpa using this
  obtain ⟨P0, hn0⟩ := openPool (hval 0 49 v0 rfl rfl) h0 hw0
  clear hA0
  refine (walk v0 P0 W hn0).mono fun e W' ⟨he, hb⟩ => ?_
  subst he
  refine ⟨_, rfl, post_law laidOut ?_ rfl rfl hW' rfl rfl rfl hb⟩
  intro t ht
  rw [Try.params4] at ht
  have hm : t ∈ [49] := (by decide : ∀ t ∈ (#[49] : Array TypeId).toList, t ∈ [49]) t ht
  have hall : ([49].all fun u => Try.prog.readableRec u && decide (u < Try.prog.types.size)) = true := by kernel_rfl
  have := List.all_eq_true.1 hall t hm
  simpa using this

theorem over : Rows.fleetMatchesPoolRow.holds Try.pinned (OpenSpec.ofChange Rows.fleetMatchesPoolSpec) :=
  OpenClaim.holds_of_wide 4 Try.f4 rfl rfl rfl rfl rfl rfl rfl ⟨rfl, rfl, rfl, rfl, rfl⟩ rfl rfl rfl rfl rfl (by kernel_rfl) Try.func4 (by kernel_rfl)
    (of_decide_eq_true (by kernel_rfl)) (by unfold Func.isWrapper; first | (rw [if_pos (by decide +kernel)]; kernel_rfl) | (rw [if_neg (by decide +kernel)]; exact ⟨rfl, rfl⟩))
    (fun os started H enc _ => lifted os started H enc)

/-- THE STATEMENT. -/
theorem proved : Rows.FleetMatchesPoolSaid :=
  over
#print axioms proved
end Go.Proofs.Ytijdjbkmkopmnaa.fleetMatchesPool
