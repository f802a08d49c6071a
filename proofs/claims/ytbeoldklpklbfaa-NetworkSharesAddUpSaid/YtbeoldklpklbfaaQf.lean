/-
  The statement 'Rows.NetworkSharesAddUpSaid': for all arguments the law returns true; the arguments read as they did.
-/
import Derived.Test.YtbeoldklpklbfaaFr
import Derived.Test.YtbeoldklpklbfaaRs
namespace Go.Proofs.Ytbeoldklpklbfaa.networkSharesAddUp
open Go.ChangeShapes Go.WideShapes Go.ChangeAt Go.RowKit
set_option linter.unusedVariables false
set_option linter.unusedSimpArgs false

theorem i64_of {F : Nat → Prop} {w : World} {v : Value} {l : List Int} (h : Hl F w v l) {k : Nat} {x : Int} (hx : l[k]? = some x) : I64 x := h.2.1 x (List.mem_of_getElem? hx)

set_option maxRecDepth 100000 in
set_option maxHeartbeats 8000000 in
theorem walk (V0 : Value) (ps0 : List Pc) (es0 : List Ed) (u1 : Value) (l1 : List Int) (w : World) (h0 : Nw w V0 ps0 es0) (h1 : Hl (fun k => k < w.heap.size) w u1 l1) :
    Calls Try.prog 10 #[V0, u1] w fun e w' => e = .returned (.bool true) ∧ Below w.heap.size w w' := by
  obtain ⟨va, vc, vb, vd, rfl, hh1, hh2⟩ := h0.shape
  obtain ⟨n, hn⟩ : ∃ n, n = ps0.length := ⟨_, rfl⟩
  obtain ⟨m, hm⟩ : ∃ m, m = es0.length := ⟨_, rfl⟩
  rw [← hn, ← hm] at h0 ⊢
  have HN := Lib.hid hn; have HM := Lib.hid hm
  obtain ⟨W, hW⟩ : ∃ W, W = w.alloc (.cells #[.slice va n vc, .slice vb m vd] 25) := ⟨_, rfl⟩
  have hB : Below w.heap.size w W := by rw [hW]; exact ball (Below.refl w.heap.size w) _
  have e0 : W.heap[w.heap.size]? = some (.cells #[.slice va n vc, .slice vb m vd] 25 (0, 0)) := by rw [hW]; exact bnew _ _
  have HV := Lib.hid (h0.on hB); have HB := Lib.hid hB; have HX := Lib.hid e0
  obtain ⟨b0, b1⟩ := box2 e0
  clear h0 hh1 hh2 hn hm hB e0
  obtain ⟨ua, uc, rfl⟩ := h1.shape
  obtain ⟨tl, htl⟩ : ∃ tl, tl = l1.length := ⟨_, rfl⟩
  rw [← htl] at h1 ⊢
  obtain ⟨S, hS⟩ : ∃ S, smB ps0.length es0.length = S := ⟨_, rfl⟩
  have HLU := Lib.hid (h1.on HB.out); have HTL := Lib.hid htl; have HS := Lib.hid hS
  clear h1 htl hS
  cases S with
  | false =>
    have Hc := Lib.hid (sane_true W)
    go_enter Try.func10, Try.ntmps10
    go_wp2_with fail
    rw [← hW]
    clear hW
    refine Hc.out.mono ?_
    rintro e w1 ⟨rfl, hb⟩
    replace HB := Lib.hid (btrans HB.out hb); replace HV := Lib.hid (HV.out.on hb); replace HX := Lib.hid (bon HX.out hb)
    replace HLU := Lib.hid (HLU.out.on hb)
    clear hb b0 b1 Hc
    obtain ⟨b0, b1⟩ := box2 HX.out
    have Hc := Lib.hid (small_any HV.out)
    rw [HS.out] at Hc
    go_wp2_with fail
    refine Hc.out.mono ?_
    rintro e w2 ⟨rfl, hb⟩
    replace HB := Lib.hid (btrans HB.out hb); replace HV := Lib.hid (HV.out.on hb); replace HX := Lib.hid (bon HX.out hb)
    replace HLU := Lib.hid (HLU.out.on hb)
    clear hb b0 b1 Hc
    obtain ⟨b0, b1⟩ := box2 HX.out
    go_wp2
    go_ret
    exact ⟨rfl, HB.out⟩
  | true =>
    by_cases z1 : tl > 20
    · have d1 : decide ((tl : Int) > 20) = true := decide_eq_true (by omega)
      clear z1
      have Hc := Lib.hid (sane_true W)
      go_enter Try.func10, Try.ntmps10
      go_wp2_with fail
      rw [← hW]
      clear hW
      refine Hc.out.mono ?_
      rintro e w1 ⟨rfl, hb⟩
      replace HB := Lib.hid (btrans HB.out hb); replace HV := Lib.hid (HV.out.on hb); replace HX := Lib.hid (bon HX.out hb)
      replace HLU := Lib.hid (HLU.out.on hb)
      clear hb b0 b1 Hc
      obtain ⟨b0, b1⟩ := box2 HX.out
      have Hc := Lib.hid (small_any HV.out)
      rw [HS.out] at Hc
      go_wp2_with fail
      refine Hc.out.mono ?_
      rintro e w2 ⟨rfl, hb⟩
      replace HB := Lib.hid (btrans HB.out hb); replace HV := Lib.hid (HV.out.on hb); replace HX := Lib.hid (bon HX.out hb)
      replace HLU := Lib.hid (HLU.out.on hb)
      clear hb b0 b1 Hc
      obtain ⟨b0, b1⟩ := box2 HX.out
      go_wp2
      go_ret
      exact ⟨rfl, HB.out⟩
    · have d1 : decide ((tl : Int) > 20) = false := decide_eq_false (by omega)
      have Hc := Lib.hid (sane_true W)
      go_enter Try.func10, Try.ntmps10
      go_wp2_with fail
      rw [← hW]
      clear hW
      refine Hc.out.mono ?_
      rintro e w1 ⟨rfl, hb⟩
      replace HB := Lib.hid (btrans HB.out hb); replace HV := Lib.hid (HV.out.on hb); replace HX := Lib.hid (bon HX.out hb)
      replace HLU := Lib.hid (HLU.out.on hb)
      clear hb b0 b1 Hc
      obtain ⟨b0, b1⟩ := box2 HX.out
      have Hc := Lib.hid (small_any HV.out)
      rw [HS.out] at Hc
      go_wp2_with fail
      refine Hc.out.mono ?_
      rintro e w2 ⟨rfl, hb⟩
      replace HB := Lib.hid (btrans HB.out hb); replace HV := Lib.hid (HV.out.on hb); replace HX := Lib.hid (bon HX.out hb)
      replace HLU := Lib.hid (HLU.out.on hb)
      clear hb b0 b1 Hc
      obtain ⟨b0, b1⟩ := box2 HX.out
      have Hc := Lib.hid (sharesP_any HV.out HLU.out (by have := HTL.out; omega))
      go_wp2_with fail
      refine Hc.out.mono ?_
      rintro e w3 ⟨sa, sl, sc, SS, E, rfl, hb, hss, hr⟩
      replace HB := Lib.hid (btrans HB.out hb); replace HV := Lib.hid (HV.out.on hb); replace HX := Lib.hid (bon HX.out hb)
      replace HLU := Lib.hid (HLU.out.on hb)
      have HLS := Lib.hid hss
      have KH := Lib.hid hr
      clear hb b0 b1 Hc hss hr
      obtain ⟨b0, b1⟩ := box2 HX.out
      obtain ⟨q1, q2⟩ := addup KH.out
      have hsl : sl = SS.length := by
        obtain ⟨_, _, e⟩ := HLS.out.shape
        simp only [Value.slice.injEq] at e
        exact e.2.1
      by_cases z : E = 0
      · subst z
        obtain ⟨es, P, hchk, hval, rfl, hP, hn0, rfl⟩ := q2 rfl
        have hml : m = es.length := by rw [HM.out, hval.1, List.length_map]
        have hmb : m ≤ 2048 := by have := hval.2.2.2; omega
        have hsl16 : sl ≤ 16 := by have := shr_len es P (P.length - 1) 16; omega
        have htl20 : tl ≤ 20 := by omega
        have htp : tl = P.length := by have := HTL.out; rw [ints_length] at this; exact this
        have HSM := Lib.hid (shr_mem hval.2.1 P (P.length - 1) 16)
        obtain ⟨SS, hSS⟩ : ∃ SS, SS = shr es P (P.length - 1) 16 := ⟨_, rfl⟩
        have HPN := Lib.hid hP; have HN0 := Lib.hid hn0; have HVAL := Lib.hid hval; have HML := Lib.hid hml; have HTP := Lib.hid htp
        rw [← hSS] at hsl HLS HSM
        have HSS := Lib.hid hSS; have HSL := Lib.hid hsl
        have HCHK := Lib.hid hchk
        clear q1 q2 hchk hval hP hn0 hml htp z1 d1 KH hSS hsl
        go_wp2
        clear b0 b1
        go_loopw [7, 8] (fun s t wr => ∃ (i : Nat) (K : Int), s = .int .i64 K ∧ t = .int .i64 (i : Int) ∧ (i = 0 ∨ i + 1 ≤ tl) ∧ 0 ≤ K ∧ K ≤ 10000 * (i : Int) ∧ Hid (K = (ksm es P i : Nat)) ∧ Hid (Below w3.heap.size w3 wr)) (fun _ t _ => tl - (intOf t).toNat)
        case atStart => exact ⟨0, 0, rfl, rfl, Or.inl rfl, by omega, by omega, Lib.hid rfl, Lib.hid (Below.refl _ _)⟩
        case round =>
          obtain ⟨i, K, rfl, rfl, hi, hK0, hK1, HK, HW⟩ := hrel
          have hw1 : IntKind.i64.wrap ((i : Int) + 1) = (i : Int) + 1 := wrap_in (by omega) (by omega)
          by_cases hlt : i + 1 < tl
          · have hlt2 : (i : Int) + 1 < (tl : Int) := by omega
            have hlt3 : (i : Int) < (tl : Int) := by omega
            have htp := HTP.out
            obtain ⟨p, hp⟩ : ∃ p, P[i]? = some p := ⟨_, List.getElem?_eq_getElem (by omega)⟩
            obtain ⟨q, hq⟩ : ∃ q, P[i + 1]? = some q := ⟨_, List.getElem?_eq_getElem (by omega)⟩
            have HXP : Hid ((ints P)[i]? = some (p : Int)) := Lib.hid (by rw [ints_get, hp]; rfl)
            have HXQ : Hid ((ints P)[i + 1]? = some (q : Int)) := Lib.hid (by rw [ints_get, hq]; rfl)
            have HIP : Hid (I64 (p : Int)) := Lib.hid (i64_of HLU.out HXP.out)
            have HIQ : Hid (I64 (q : Int)) := Lib.hid (i64_of HLU.out HXQ.out)
            obtain ⟨g, off, x9, rfl, hg, _, _, _, _⟩ := HLU.out.pick i (by rw [ints_length]; omega)
            have hoff : off + ((i : Int) + 1).toNat = off + (i + 1) := by omega
            obtain ⟨j, hj⟩ : ∃ j, rln es P i = some j := by
              cases hr : rln es P i with
              | none => exact absurd hr (HN0.out i (by omega))
              | some j => exact ⟨j, rfl⟩
            have HHOP := Lib.hid (rln_hop HPN.out (by omega) hj)
            have HJ := Lib.hid hj
            obtain ⟨b0, b1⟩ := box2 (bon HX.out HW.out)
            clear hp hq hg hj htp
            go_upto_region 12 with (fail)
            have h7s : (wr.drew.cell? ⟨w.heap.size, 0, none⟩ = some (.slice va n vc) ∧ wr.drew.cell? ⟨w.heap.size, 1, none⟩ = some (.slice vb m vd)) ∧ wr.drew.cell? ⟨g, off + i, none⟩ = some (.int .i64 (p : Int)) ∧ wr.drew.cell? ⟨g, off + (i + 1), none⟩ = some (.int .i64 (q : Int)) := by
              have hbb := HW.out.drew
              obtain ⟨q0, q1⟩ := box2 (bon HX.out hbb)
              exact ⟨⟨q0, q1⟩, ((HLU.out.on hbb).at HXP.out).2.1, ((HLU.out.on hbb).at HXQ.out).2.1⟩
            clear b0 b1
            refine wp_region_held_drew (S := fun w' => (w'.cell? ⟨w.heap.size, 0, none⟩ = some (.slice va n vc) ∧ w'.cell? ⟨w.heap.size, 1, none⟩ = some (.slice vb m vd)) ∧ w'.cell? ⟨g, off + i, none⟩ = some (.int .i64 (p : Int)) ∧ w'.cell? ⟨g, off + (i + 1), none⟩ = some (.int .i64 (q : Int))) (by kernel_rfl) h7s (fun hHeld => ?_)
            change wpAnyH _ _ _ _ _ 16 #[false, false, false, false, false, false, false, false, false, false, false, false, false, false, false, false] _ _
            refine wpAnyH_take (i := 0) (oi := _) (v := .agg #[.slice va n vc, .slice vb m vd]) rfl (by kernel_rfl) (by kernel_rfl) (by kernel_rfl) (fun _ _ _ h => h) (Or.inl ⟨by rfl, fun wx hSw => ?_⟩) (by assumption) ?_
            · go_simp
              try (first | omega | (rw [IntKind.wrap_i64]; omega))
            (try simp only [Act.put, List.setIfInBounds_toArray, List.set_cons_zero, List.set_cons_succ, List.getElem_toArray, List.getElem_cons_zero, List.getElem_cons_succ])
            refine wpAnyH_take (i := 1) (oi := _) (v := .slice (some ⟨g, off, none⟩) tl uc) rfl (by kernel_rfl) (by kernel_rfl) (by kernel_rfl) (fun _ _ _ h => h) (Or.inl ⟨by rfl, fun wx hSw => ?_⟩) (by assumption) ?_
            · go_simp
              try (first | omega | (rw [IntKind.wrap_i64]; omega))
            (try simp only [Act.put, List.setIfInBounds_toArray, List.set_cons_zero, List.set_cons_succ, List.getElem_toArray, List.getElem_cons_zero, List.getElem_cons_succ])
            refine wpAnyH_take (i := 2) (oi := _) (v := .int .i64 (i : Int)) rfl (by kernel_rfl) (by kernel_rfl) (by kernel_rfl) (fun _ _ _ h => h) (Or.inl ⟨by rfl, fun wx hSw => ?_⟩) (by assumption) ?_
            · go_simp
              try (first | omega | (rw [IntKind.wrap_i64]; omega))
            (try simp only [Act.put, List.setIfInBounds_toArray, List.set_cons_zero, List.set_cons_succ, List.getElem_toArray, List.getElem_cons_zero, List.getElem_cons_succ])
            refine wpAnyH_take (i := 3) (oi := _) (v := .pointer (some ⟨g, off + i, none⟩)) rfl (by kernel_rfl) (by kernel_rfl) (by kernel_rfl) (fun _ _ _ h => h) (Or.inl ⟨by rfl, fun wx hSw => ?_⟩) (by assumption) ?_
            · go_simp
              try (first | omega | (rw [IntKind.wrap_i64]; omega))
            (try simp only [Act.put, List.setIfInBounds_toArray, List.set_cons_zero, List.set_cons_succ, List.getElem_toArray, List.getElem_cons_zero, List.getElem_cons_succ])
            refine wpAnyH_take (i := 4) (oi := _) (v := .int .i64 (p : Int)) rfl (by kernel_rfl) (by kernel_rfl) (by kernel_rfl) (fun _ _ _ h => h) (Or.inl ⟨by rfl, fun wx hSw => ?_⟩) (by assumption) ?_
            · go_simp
              try (first | omega | (rw [IntKind.wrap_i64]; omega))
            (try simp only [Act.put, List.setIfInBounds_toArray, List.set_cons_zero, List.set_cons_succ, List.getElem_toArray, List.getElem_cons_zero, List.getElem_cons_succ])
            refine wpAnyH_take (i := 5) (oi := _) (v := .slice (some ⟨g, off, none⟩) tl uc) rfl (by kernel_rfl) (by kernel_rfl) (by kernel_rfl) (fun _ _ _ h => h) (Or.inl ⟨by rfl, fun wx hSw => ?_⟩) (by assumption) ?_
            · go_simp
              try (first | omega | (rw [IntKind.wrap_i64]; omega))
            (try simp only [Act.put, List.setIfInBounds_toArray, List.set_cons_zero, List.set_cons_succ, List.getElem_toArray, List.getElem_cons_zero, List.getElem_cons_succ])
            refine wpAnyH_take (i := 6) (oi := _) (v := .int .i64 (i : Int)) rfl (by kernel_rfl) (by kernel_rfl) (by kernel_rfl) (fun _ _ _ h => h) (Or.inl ⟨by rfl, fun wx hSw => ?_⟩) (by assumption) ?_
            · go_simp
              try (first | omega | (rw [IntKind.wrap_i64]; omega))
            (try simp only [Act.put, List.setIfInBounds_toArray, List.set_cons_zero, List.set_cons_succ, List.getElem_toArray, List.getElem_cons_zero, List.getElem_cons_succ])
            refine wpAnyH_take (i := 7) (oi := _) (v := .int .i64 ((i : Int) + 1)) rfl (by kernel_rfl) (by kernel_rfl) (by kernel_rfl) (fun _ _ _ h => h) (Or.inl ⟨by rfl, fun wx hSw => ?_⟩) (by assumption) ?_
            · go_simp
              try (first | omega | (rw [IntKind.wrap_i64]; omega))
            (try simp only [Act.put, List.setIfInBounds_toArray, List.set_cons_zero, List.set_cons_succ, List.getElem_toArray, List.getElem_cons_zero, List.getElem_cons_succ])
            refine wpAnyH_take (i := 8) (oi := _) (v := .pointer (some ⟨g, off + (i + 1), none⟩)) rfl (by kernel_rfl) (by kernel_rfl) (by kernel_rfl) (fun _ _ _ h => h) (Or.inl ⟨by rfl, fun wx hSw => ?_⟩) (by assumption) ?_
            · go_simp
              try (first | omega | (rw [IntKind.wrap_i64]; omega))
            (try simp only [Act.put, List.setIfInBounds_toArray, List.set_cons_zero, List.set_cons_succ, List.getElem_toArray, List.getElem_cons_zero, List.getElem_cons_succ])
            refine wpAnyH_take (i := 9) (oi := _) (v := .int .i64 (q : Int)) rfl (by kernel_rfl) (by kernel_rfl) (by kernel_rfl) (fun _ _ _ h => h) (Or.inl ⟨by rfl, fun wx hSw => ?_⟩) (by assumption) ?_
            · go_simp
              try (first | omega | (rw [IntKind.wrap_i64]; omega))
            (try simp only [Act.put, List.setIfInBounds_toArray, List.set_cons_zero, List.set_cons_succ, List.getElem_toArray, List.getElem_cons_zero, List.getElem_cons_succ])
            refine wpAnyH_ready (rs := [10]) (by kernel_rfl) (by simp) ?_
            refine AllReadyH.cons (o := _) rfl (fun K hK => ?_) AllReadyH.nil
            have Hc := Lib.hid (edgeP_any (HV.out.on HW.out.drew) (p : Int) (q : Int) HIP.out HIQ.out)
            go_simp
            refine Hc.out.mono ?_
            rintro e w7 ⟨I, E, rfl, hb, hr7⟩
            have HD : Hid (Below w3.heap.size w3 w7) := Lib.hid (btrans HW.out.drew hb)
            have HER := Lib.hid hr7
            have h7 : (w7.cell? ⟨w.heap.size, 0, none⟩ = some (.slice va n vc) ∧ w7.cell? ⟨w.heap.size, 1, none⟩ = some (.slice vb m vd)) ∧ w7.cell? ⟨g, off + i, none⟩ = some (.int .i64 (p : Int)) ∧ w7.cell? ⟨g, off + (i + 1), none⟩ = some (.int .i64 (q : Int)) := by
              have hbb := HD.out
              obtain ⟨q0, q1⟩ := box2 (bon HX.out hbb)
              exact ⟨⟨q0, q1⟩, ((HLU.out.on hbb).at HXP.out).2.1, ((HLU.out.on hbb).at HXQ.out).2.1⟩
            clear hb Hc hr7
            go_wp2_with fail
            refine hK.out _ _ (h7) (fun hHeld => ?_)
            clear hK K
            (try simp only [Act.put, List.setIfInBounds_toArray, List.set_cons_zero, List.set_cons_succ, List.getElem_toArray, List.getElem_cons_zero, List.getElem_cons_succ])
            refine wpAnyH_take (i := 11) (oi := _) (v := .tuple #[.int .i64 I, .int .i64 E]) rfl (by kernel_rfl) (by kernel_rfl) (by kernel_rfl) (fun _ _ _ h => h) (Or.inl ⟨by rfl, fun wx hSw => ?_⟩) (by assumption) ?_
            · go_simp
              try (first | omega | (rw [IntKind.wrap_i64]; omega))
            (try simp only [Act.put, List.setIfInBounds_toArray, List.set_cons_zero, List.set_cons_succ, List.getElem_toArray, List.getElem_cons_zero, List.getElem_cons_succ])
            refine wpAnyH_take (i := 12) (oi := _) (v := .int .i64 I) rfl (by kernel_rfl) (by kernel_rfl) (by kernel_rfl) (fun _ _ _ h => h) (Or.inl ⟨by rfl, fun wx hSw => ?_⟩) (by assumption) ?_
            · go_simp
              try (first | omega | (rw [IntKind.wrap_i64]; omega))
            (try simp only [Act.put, List.setIfInBounds_toArray, List.set_cons_zero, List.set_cons_succ, List.getElem_toArray, List.getElem_cons_zero, List.getElem_cons_succ])
            refine wpAnyH_take (i := 13) (oi := _) (v := .int .i64 E) rfl (by kernel_rfl) (by kernel_rfl) (by kernel_rfl) (fun _ _ _ h => h) (Or.inl ⟨by rfl, fun wx hSw => ?_⟩) (by assumption) ?_
            · go_simp
              try (first | omega | (rw [IntKind.wrap_i64]; omega))
            (try simp only [Act.put, List.setIfInBounds_toArray, List.set_cons_zero, List.set_cons_succ, List.getElem_toArray, List.getElem_cons_zero, List.getElem_cons_succ])
            refine wpAnyH_take (i := 14) (oi := _) (v := .int .i64 I) rfl (by kernel_rfl) (by kernel_rfl) (by kernel_rfl) (fun _ _ _ h => h) (Or.inl ⟨by rfl, fun wx hSw => ?_⟩) (by assumption) ?_
            · go_simp
              try (first | omega | (rw [IntKind.wrap_i64]; omega))
            (try simp only [Act.put, List.setIfInBounds_toArray, List.set_cons_zero, List.set_cons_succ, List.getElem_toArray, List.getElem_cons_zero, List.getElem_cons_succ])
            refine wpAnyH_take (i := 15) (oi := _) (v := .int .i64 E) rfl (by kernel_rfl) (by kernel_rfl) (by kernel_rfl) (fun _ _ _ h => h) (Or.inl ⟨by rfl, fun wx hSw => ?_⟩) (by assumption) ?_
            · go_simp
              try (first | omega | (rw [IntKind.wrap_i64]; omega))
            (try simp only [Act.put, List.setIfInBounds_toArray, List.set_cons_zero, List.set_cons_succ, List.getElem_toArray, List.getElem_cons_zero, List.getElem_cons_succ])
            refine wpAnyH_done (by kernel_rfl) ?_ _
            clear hHeld h7s h7
            have HE7 := hop_edge HVAL.out HCHK.out HXP.out HXQ.out HER.out
            rcases HE7 with ⟨_, hno⟩ | ⟨rfl, j', rfl, hj'⟩
            · exact absurd HHOP.out (hno j)
            obtain rfl : j = j' := by have := hop_rln hj'; rw [HJ.out] at this; exact Option.some.inj this
            obtain ⟨z, hz, hzo, hjl, _, _⟩ := hop_line HVAL.out hj'
            have hjm : j < m := by have := HML.out; omega
            have hjm2 : (j : Int) < (m : Int) := by omega
            have d2 : decide ((j : Int) < 0) = false := decide_eq_false (by omega)
            have d3 : decide ((j : Int) ≥ (m : Int)) = false := decide_eq_false (by omega)
            obtain ⟨va2, vc2, vb2, vd2, he2, _, hES⟩ := (HV.out.on HD.out).shape
            simp only [Value.agg.injEq, Array.mk.injEq, List.cons.injEq, Value.slice.injEq, and_true] at he2
            obtain ⟨⟨rfl, _, rfl⟩, rfl, hm9, rfl⟩ := he2
            rw [← hm9] at hES
            obtain ⟨g5, off5, z2, rfl, hg5, hz2, z0, z1, zr, z3, z4, hcap5⟩ := Es.cells hES j (by rw [← HM.out]; exact hjm)
            have hzy : z2 = z.ed := by
              rw [HVAL.out.1, List.getElem?_map, hz] at hz2
              exact (Option.some.inj hz2).symm
            subst hzy
            obtain ⟨xk, hxk⟩ : ∃ xk, xk = z.k := ⟨_, rfl⟩
            obtain ⟨rr, hrr⟩ : ∃ rr, rr = z.r := ⟨_, rfl⟩
            have z4' : w7.cell? ⟨g5, off5 + j * 5 + 4, none⟩ = some (.int .i64 (xk : Int)) := by rw [hxk]; exact z4
            have zr' : w7.cell? ⟨g5, off5 + j * 5 + 2, none⟩ = some (.int .i64 (rr : Int)) := by rw [hrr]; exact zr
            have hxkb : xk ≤ 10000 := by unfold Ln.ok at hzo; omega
            have hrr16 : rr < 16 := by unfold Ln.ok at hzo; omega
            have hsn := ksm_next HJ.out hz
            rw [← hxk] at hsn
            have hfull : hasr SS (rr : Int) sl = true := by
              rw [HSL.out, HSS.out]
              refine hasr_full ?_
              rw [hrr]
              have := HTP.out
              exact shr_has (usf_line HJ.out hz (by omega)) 16 (by omega)
            have HFULL := Lib.hid hfull
            have HZR := Lib.hid zr'; have HG5 := Lib.hid hg5
            obtain ⟨b0, b1⟩ := box2 (bon HX.out HD.out)
            have hw2 : IntKind.i64.wrap (K + (xk : Int)) = K + (xk : Int) := wrap_in (by omega) (by omega)
            have HSN : Hid (K + (xk : Int) = (ksm es P (i + 1) : Nat)) := Lib.hid (by rw [HK.out, hsn]; omega)
            clear hz hzo hjl hES hm9 hg5 hz2 z0 z1 zr zr' z3 z4 hcap5 hxk hrr hj' hsn HK HER hfull hrr16
            go_wp2
            clear b0 b1 z4'
            go_loopw [11, 12] (fun s t wr => ∃ c : Nat, c ≤ sl ∧ s = .bool (hasr SS (rr : Int) c) ∧ t = .int .i64 (c : Int) ∧ Hid (Below w7.heap.size w7 wr)) (fun _ t _ => sl - (intOf t).toNat)
            case atStart => exact ⟨0, by omega, rfl, rfl, Lib.hid (Below.refl _ _)⟩
            case round =>
              obtain ⟨c, hc, rfl, rfl, HC⟩ := hrel
              obtain ⟨b0, b1⟩ := box2 (bon HX.out (btrans HD.out HC.out))
              by_cases hcl : c < sl
              · have hcl2 : (c : Int) < (sl : Int) := by omega
                obtain ⟨g3, off3, s, rfl, hg3, hs, _, _, f0, f1, _⟩ := Ss.cells (HLS.out.on (btrans HD.out HC.out)) c (by rw [← HSL.out]; exact hcl)
                have hnx := hasr_next (r := (rr : Int)) hs
                obtain ⟨sr, hsr⟩ : ∃ sr, sr = s.r := ⟨_, rfl⟩
                rw [← hsr] at f0 hnx
                have z2 : wr.cell? ⟨g5, off5 + j * 5 + 2, none⟩ = some (.int .i64 (rr : Int)) := (HC.out.cell (p := ⟨g5, off5 + j * 5 + 2, none⟩) HG5.out).trans HZR.out
                clear hg3 hs hsr f1
                obtain ⟨M2, hM2⟩ : ∃ M2, M2 = hasr SS (rr : Int) (c + 1) := ⟨_, rfl⟩
                rw [← hM2] at hnx
                have HM2 := Lib.hid hM2
                clear hM2
                cases hM : hasr SS (rr : Int) c with
                | true =>
                  rw [hM, Bool.true_or] at hnx
                  subst hnx
                  clear hM
                  go_wp2_with fail
                  go_quiet (fail)
                  have HC2 := Lib.hid (bdrewN HC.out nq)
                  clear f0 z2 b0 b1
                  generalize wr.drewN nq = w9 at *
                  go_wp2
                  go_roundw
                  case rel => exact ⟨c + 1, by omega, by rw [HM2.out], by go_num, HC2⟩
                  case measure => simp [intOf]; omega
                | false =>
                  rw [hM, Bool.false_or] at hnx
                  clear hM
                  by_cases e : sr = (rr : Int)
                  · have d5 : (sr == (rr : Int)) = true := by simpa using e
                    rw [d5] at hnx
                    subst hnx
                    clear e
                    go_wp2_with fail
                    go_quiet (fail)
                    have HC2 := Lib.hid (bdrewN HC.out nq)
                    clear f0 z2 b0 b1
                    generalize wr.drewN nq = w9 at *
                    go_wp2
                    go_roundw
                    case rel => exact ⟨c + 1, by omega, by rw [HM2.out], by go_num, HC2⟩
                    case measure => simp [intOf]; omega
                  · have d5 : (sr == (rr : Int)) = false := by simpa using e
                    rw [d5] at hnx
                    subst hnx
                    clear e
                    go_wp2_with fail
                    go_quiet (fail)
                    have HC2 := Lib.hid (bdrewN HC.out nq)
                    clear f0 z2 b0 b1
                    generalize wr.drewN nq = w9 at *
                    go_wp2
                    go_roundw
                    case rel => exact ⟨c + 1, by omega, by rw [HM2.out], by go_num, HC2⟩
                    case measure => simp [intOf]; omega
              · obtain rfl : c = sl := by omega
                have hcl2 : ¬ ((c : Int) < (c : Int)) := by omega
                have hf := HFULL.out
                rw [hf]
                clear hf
                go_wp2
                go_roundw
                case rel => exact ⟨i + 1, K + (xk : Int), rfl, by go_num, Or.inr (by omega), by omega, by omega, HSN, Lib.hid (btrans HD.out HC.out)⟩
                case measure => simp [intOf]; omega
          · have hlt2 : ¬ ((i : Int) + 1 < (tl : Int)) := by omega
            have HKE : Hid (K = tot SS) := Lib.hid (by
              rw [HSS.out, tot_shr, ktt_ksm HVAL.out.2.1 (P.length - 1) (fun i hi => HN0.out i (by omega)), HK.out]
              have := HTP.out
              congr 2
              omega)
            clear HK
            go_wp2
            go_loopw [7, 13] (fun s t wr => ∃ (c : Nat) (K : Int), c ≤ sl ∧ s = .int .i64 K ∧ t = .int .i64 (c : Int) ∧ -200000 * (c : Int) ≤ K ∧ K ≤ 200000 ∧ Hid (K = tot SS - tot (SS.take c)) ∧ Hid (Below w3.heap.size w3 wr)) (fun _ t _ => sl - (intOf t).toNat)
            case atStart => exact ⟨0, K, by omega, rfl, rfl, by omega, by omega, Lib.hid (by rw [List.take_zero, HKE.out]; show _ = tot SS - 0; omega), HW⟩
            case round =>
              obtain ⟨c, K, hc, rfl, rfl, hK2, hK3, HKC, HC⟩ := hrel
              by_cases hcl : c < sl
              · have hcl2 : (c : Int) < (sl : Int) := by omega
                obtain ⟨g3, off3, s, rfl, hg3, hs, _, _, f0, f1, _⟩ := Ss.cells (HLS.out.on HC.out) c (by rw [← HSL.out]; exact hcl)
                have hsb := HSM.out s (List.mem_of_getElem? hs)
                have htt := tot_take hs
                obtain ⟨sr, hsr⟩ : ∃ sr, sr = s.r := ⟨_, rfl⟩
                obtain ⟨sk, hsk⟩ : ∃ sk, sk = s.k := ⟨_, rfl⟩
                rw [← hsr] at f0
                rw [← hsk] at f1 htt
                have hskb : 0 ≤ sk ∧ sk ≤ 200000 := by have := HTP.out; rw [hsk]; constructor <;> omega
                have HK2 : Hid (K - sk = tot SS - tot (SS.take (c + 1))) := Lib.hid (by rw [htt, HKC.out]; omega)
                have hw3 : IntKind.i64.wrap (K - sk) = K - sk := wrap_in (by omega) (by omega)
                have HSR := Lib.hid hsr; have HSC := Lib.hid hs
                clear hsb htt hsr hsk hs hg3 HKC
                by_cases c0 : c = 0
                · have d6 : decide ((c : Int) > 0) = false := decide_eq_false (by omega)
                  have d6a : ¬ ((0 : Int) < (c : Int)) := by omega
                  have d6b : ¬ (0 < c) := by omega
                  clear c0
                  go_wp2_with fail
                  go_quiet (fail)
                  have HC2 := Lib.hid (bdrewN HC.out nq)
                  clear f0 f1
                  generalize wr.drewN nq = w9 at *
                  go_wp2
                  go_roundw
                  case rel => exact ⟨c + 1, K - sk, by omega, rfl, by go_num, by omega, by omega, HK2, HC2⟩
                  case measure => simp [intOf]; omega
                · have d6 : decide ((c : Int) > 0) = true := decide_eq_true (by omega)
                  have d6a : (0 : Int) < (c : Int) := by omega
                  have d6b : 0 < c := by omega
                  obtain ⟨c2, hc2⟩ : ∃ c2, c2 + 1 = c := ⟨c - 1, by omega⟩
                  have hw4 : IntKind.i64.wrap ((c : Int) - 1) = (c2 : Int) := by rw [show (c : Int) - 1 = (c2 : Int) by omega]; exact wrap_in (by omega) (by omega)
                  have hcl3 : (c2 : Int) < (sl : Int) := by omega
                  obtain ⟨g4, off4, s4, e4, _, hs4, _, _, f2, _, _⟩ := Ss.cells (HLS.out.on HC.out) c2 (by rw [← HSL.out]; omega)
                  simp only [Option.some.injEq, Addr.mk.injEq, and_true] at e4
                  obtain ⟨rfl, rfl⟩ := e4
                  have hlt9 : s4.r < sr := by
                    rw [HSR.out]
                    obtain ⟨a1, a2⟩ := List.getElem?_eq_some_iff.1 hs4
                    obtain ⟨a3, a4⟩ := List.getElem?_eq_some_iff.1 HSC.out
                    have := List.pairwise_iff_getElem.1 (show SS.Pairwise (fun s t => s.r < t.r) by rw [HSS.out]; exact (shr_lt es P _ 16).2) c2 c a1 a3 (by omega)
                    rw [a2, a4] at this
                    exact this
                  obtain ⟨s4r, hs4r⟩ : ∃ z, z = s4.r := ⟨_, rfl⟩
                  rw [← hs4r] at f2 hlt9
                  have d7 : decide (s4r ≥ sr) = false := decide_eq_false (by omega)
                  clear c0 hc2 hs4 hs4r hlt9
                  go_wp2_with fail
                  go_quiet (fail)
                  have HC2 := Lib.hid (bdrewN HC.out nq)
                  clear f0 f1 f2
                  generalize wr.drewN nq = w9 at *
                  go_wp2
                  go_roundw
                  case rel => exact ⟨c + 1, K - sk, by omega, rfl, by go_num, by omega, by omega, HK2, HC2⟩
                  case measure => simp [intOf]; omega
              · obtain rfl : c = sl := by omega
                have hcl2 : ¬ ((c : Int) < (c : Int)) := by omega
                have hKz : K = 0 := by rw [HKC.out, HSL.out, List.take_length]; omega
                subst hKz
                clear HKC
                by_cases t1 : tl > 1
                · have d8 : decide ((tl : Int) > 1) = true := decide_eq_true (by omega)
                  clear t1
                  go_wp2
                  go_ret
                  exact ⟨rfl, btrans HB.out HC.out⟩
                · have d8 : decide ((tl : Int) > 1) = false := decide_eq_false (by omega)
                  obtain rfl : c = 0 := by
                    rw [HSL.out, HSS.out, show P.length - 1 = 0 by have := HTP.out; omega, shr_none]
                    rfl
                  clear t1
                  go_wp2
                  go_ret
                  exact ⟨rfl, btrans HB.out HC.out⟩
      · have d0 : (E != 0) = true := by simpa using z
        obtain rfl := q1 z
        obtain rfl : sl = 0 := hsl
        clear z q1 q2
        go_wp2
        go_ret
        exact ⟨rfl, HB.out⟩

set_option maxRecDepth 100000 in
theorem lifted (os : Os) (started : os.Started) (H : Type) (enc : TypeId × Value → H) :
    ReturnsInHanded {} Try.checked os 10 .any (Rows.networkSharesAddUpSpec.pre6 enc Try.prog Try.f10 Rows.networkSharesAddUpRow.domain false) (Rows.networkSharesAddUpSpec.post enc Try.prog Try.f10 false true false false) := by
  refine returnsInHanded_of_change_sized (C := Try.checked) own started (by kernel_rfl) Try.func10
    (ChangeSpec.witness6 (enc := enc) (C := Try.checked) false ⟨#[], #[.agg #[.slice none 0 0, .slice none 0 0], .slice none 0 0], []⟩ 8 (by kernel_rfl) (by kernel_rfl) (by kernel_rfl) (by kernel_rfl)) ?_
  intro W base args ds gs before hval0 hW _ hsz0 _
  have hsz : (DataW.weightsEach Try.prog (Try.f10.params.toList ++ Rows.networkSharesAddUpSpec.plain.varTypes Try.prog) (ds ++ gs)).all (· ≤ reachBytes) = true := hsz0
  have hval : ∀ (j : Nat) t v, Try.f10.params[j]? = some t → args[j]? = some v → Value.okWide Try.prog W .any base t v := hval0
  clear hsz0 hval0
  have hW' := hW
  obtain ⟨p, q, hA0, hV, rfl, _, _⟩ := hW
  have hA : DataW.TrodAll enc Try.prog W 0 (fun _ => true) true Try.f10.params.toList args.toList ds p := hA0
  rw [Try.params10] at hA hval hsz
  obtain ⟨v0, vs0, d0, ds0, p0, q0, hargs, rfl, rfl, h0, r0⟩ := trodAll_cons hA
  obtain ⟨v1, vs1, d1, ds1, p1, q1, rfl, rfl, rfl, h1, r1⟩ := trodAll_cons r0
  obtain ⟨rfl, rfl, rfl⟩ := trodAll_nil r1
  obtain rfl : args = #[v0, v1] := by cases args; simp_all
  obtain ⟨rfl, rfl⟩ := trodVars_none hV
  have hw0 : ∀ n ∈ d0.weights Try.prog 25, n ≤ reachBytes := by
    intro n hn
    have := List.all_eq_true.1 hsz n (DataW.weights_mem_each (t := 25) (d := d0) (j := 0) rfl rfl n hn)
    simpa using this
  obtain ⟨ps0, es0, hn0⟩ := openNw (hval 0 25 v0 rfl rfl) h0 hw0
  have hw1 : ∀ n ∈ d1.weights Try.prog 29, n ≤ reachBytes := by
    intro n hn
    have := List.all_eq_true.1 hsz n (DataW.weights_mem_each (t := 29) (d := d1) (j := 1) rfl rfl n hn)
    simpa using this
  obtain ⟨fuel1, hf1⟩ := h1
  obtain ⟨l1, hl1⟩ := openH (v := v1) (by first | exact hf1 | (obtain ⟨o, m, c, rfl⟩ := okWide_slice Try.underlying29 (hval 1 29 v1 rfl rfl); exact hf1)) hw1
  clear hA0
  refine (walk v0 ps0 es0 v1 l1 W hn0 hl1).mono fun e W' ⟨he, hb⟩ => ?_
  subst he
  refine ⟨_, rfl, post_law laidOut ?_ rfl rfl hW' rfl rfl rfl hb⟩
  intro t ht
  rw [Try.params10] at ht
  have hm : t ∈ [25, 29] := (by decide : ∀ t ∈ (#[25, 29] : Array TypeId).toList, t ∈ [25, 29]) t ht
  have hall : ([25, 29].all fun u => Try.prog.readableRec u && decide (u < Try.prog.types.size)) = true := by kernel_rfl
  have := List.all_eq_true.1 hall t hm
  simpa using this

theorem over : Rows.networkSharesAddUpRow.holds Try.pinned (OpenSpec.ofChange Rows.networkSharesAddUpSpec) :=
  OpenClaim.holds_of_wide 10 Try.f10 rfl rfl rfl rfl rfl rfl rfl ⟨rfl, rfl, rfl, rfl, rfl⟩ rfl rfl rfl rfl rfl (by kernel_rfl) Try.func10 (by kernel_rfl)
    (of_decide_eq_true (by kernel_rfl)) (by unfold Func.isWrapper; first | (rw [if_pos (by decide +kernel)]; kernel_rfl) | (rw [if_neg (by decide +kernel)]; exact ⟨rfl, rfl⟩))
    (fun os started H enc _ => lifted os started H enc)

/-- THE STATEMENT. -/
theorem proved : Rows.NetworkSharesAddUpSaid :=
  over
#print axioms proved
end Go.Proofs.Ytbeoldklpklbfaa.networkSharesAddUp
