/-
  The statement 'Rows.FleetTransitiveSaid': for all arguments the law returns true; the arguments read as they did.
-/
import Derived.Test.YtijdjbkmkopmnaaFr
namespace Go.Proofs.Ytijdjbkmkopmnaa.fleetTransitive
open Go.ChangeShapes Go.WideShapes Go.ChangeAt Go.RowKit
set_option linter.unusedVariables false
set_option linter.unusedSimpArgs false

theorem gr_ok {ts : List Ty} {ws : List Wn} {ss : List Sw} {hs : List Wh} {wanted : Int} {l : List Sw} {E : Int} (h : GR ts ws ss hs wanted l E) (hE : E = 0) :
    chk ts ws ss hs = 0 ∧ ∃ (f : Nat) (es : List Tr) (L : List Nat), wanted = (f : Int) ∧ f < ts.length ∧ ss = es.map toSw ∧ Oks ts.length es ∧ Least es f L ∧ l = gv f L 32 := by
  rcases h with ⟨a, b, _⟩ | ⟨_, _, b, _⟩ | ⟨a, _, r⟩
  · exact absurd (b.symm.trans hE) a
  · omega
  · exact ⟨a, r⟩
theorem gr_at {ts : List Ty} {ws : List Wn} {ss : List Sw} {hs : List Wh} {es : List Tr} {t : Nat} {m : List Sw} {E : Int} (hc : chk ts ws ss hs = 0) (he : ss = es.map toSw) (ht : t < ts.length) (h : GR ts ws ss hs (t : Int) m E) : E = 0 ∧ ∃ L, Least es t L ∧ m = gv t L 32 := by
  rcases h with ⟨a, _⟩ | ⟨_, a, _⟩ | ⟨_, e, f, es', L, h1, h2, h3, h4, h5, h6⟩
  · exact absurd hc a
  · rw [rng_true ⟨by omega, by omega⟩] at a; cases a
  · obtain rfl : es = es' := map_inj (by rw [← he, h3])
    obtain rfl : t = f := by omega
    exact ⟨e, L, h5, h6⟩
theorem found_at {es : List Tr} {f t n : Nat} {L L' : List Nat} (hL : Least es f L) (hL' : Least es t L') (ho : Oks n es) (hf : f < n) (hn : n ≤ 32) (ht : t < 32) (htU : cv L t < 32000000000) {y : Sw} (hk : y ∈ gv t L' 32) :
    ∃ (j : Nat) (z : Sw), (gv f L 32)[j]? = some z ∧ z.gi = y.gi ∧ z.co ≤ (cv L t : Int) + y.co ∧ 0 ≤ y.co ∧ y.co ≤ 32000000000 := by
  obtain ⟨s, h1, h2, rfl⟩ := gv_mem.1 hk
  have hch : Ch es f t (cv L t) := by rcases hL.att.att t ht with e | ⟨_, e⟩; omega; exact e
  have hch2 : Ch es t s (cv L' s) := by rcases hL'.att.att s h1 with e | ⟨_, e⟩; omega; exact e
  have hc := hch.trans hch2
  have hle := hL.le hc
  have hU := hL.reach ho hf hn hc
  obtain ⟨j, hj⟩ := List.getElem?_of_mem (gv_mem.2 ⟨s, h1, hU, rfl⟩ : (⟨f, s, cv L s⟩ : Sw) ∈ gv f L 32)
  refine ⟨j, _, hj, rfl, ?_, ?_, ?_⟩ <;> simp only <;> omega

set_option maxRecDepth 100000 in
set_option maxHeartbeats 8000000 in
theorem walk (V0 : Value) (ts0 : List Ty) (ws0 : List Wn) (ss0 : List Sw) (hs0 : List Wh) (a1 : Int) (w : World) (h0 : Fl w V0 ts0 ws0 ss0 hs0) (h1 : I64 a1) :
    Calls Try.prog 6 #[V0, .int .i64 a1] w fun e w' => e = .returned (.bool true) ∧ Below w.heap.size w w' := by
  obtain ⟨A1, c1, A2, c2, A3, c3, A4, c4, rfl, gg1, gg2, gg3, gg4⟩ := h0.shape
  obtain ⟨n, hn⟩ : ∃ n, n = ts0.length := ⟨_, rfl⟩
  obtain ⟨m, hm⟩ : ∃ m, m = ws0.length := ⟨_, rfl⟩
  obtain ⟨k, hk⟩ : ∃ k, k = ss0.length := ⟨_, rfl⟩
  obtain ⟨h, hh⟩ : ∃ h, h = hs0.length := ⟨_, rfl⟩
  rw [← hn, ← hm, ← hk, ← hh] at h0 ⊢
  have HN := Lib.hid hn; have HM := Lib.hid hm; have HK := Lib.hid hk; have HH := Lib.hid hh
  obtain ⟨W, hW⟩ : ∃ W, W = w.alloc (.cells #[.slice A1 n c1, .slice A2 m c2, .slice A3 k c3, .slice A4 h c4] 27) := ⟨_, rfl⟩
  have hB : Below w.heap.size w W := by rw [hW]; exact ball (Below.refl w.heap.size w) _
  have e0 : W.heap[w.heap.size]? = some (.cells #[.slice A1 n c1, .slice A2 m c2, .slice A3 k c3, .slice A4 h c4] 27 (0, 0)) := by rw [hW]; exact bnew _ _
  have HV := Lib.hid (h0.on hB); have HB := Lib.hid hB; have HX := Lib.hid e0; have HW := Lib.hid hW
  obtain ⟨b0, b1, b2, b3⟩ := box4 e0
  clear h0 gg1 gg2 gg3 gg4 hn hm hk hh hB e0 hW
  obtain ⟨S, hS⟩ : ∃ S, fewB ts0.length ws0.length ss0.length hs0.length = S := ⟨_, rfl⟩
  have HS := Lib.hid hS
  clear hS
  cases S with
  | false =>
    have Hc := Lib.hid (sane_true W)
    go_enter Try.func6, Try.ntmps6
    go_upto_region 1 with (fail)
    rw [← HW.out]
    clear HW
    go_wp2_with fail
    refine Hc.out.mono ?_
    rintro e w1 ⟨rfl, hb⟩
    replace HB := Lib.hid (btrans HB.out hb); replace HV := Lib.hid (HV.out.on hb); replace HX := Lib.hid (bon HX.out hb)
    clear hb b0 b1 b2 b3 Hc
    obtain ⟨b0, b1, b2, b3⟩ := box4 HX.out
    have Hc := Lib.hid (few_any HV.out)
    rw [HS.out] at Hc
    go_wp2_with fail
    refine Hc.out.mono ?_
    rintro e w2 ⟨rfl, hb⟩
    replace HB := Lib.hid (btrans HB.out hb); replace HV := Lib.hid (HV.out.on hb); replace HX := Lib.hid (bon HX.out hb)
    clear hb b0 b1 b2 b3 Hc
    obtain ⟨b0, b1, b2, b3⟩ := box4 HX.out
    go_wp2
    go_ret
    exact ⟨rfl, HB.out⟩
  | true =>
    have Hc := Lib.hid (sane_true W)
    go_enter Try.func6, Try.ntmps6
    go_upto_region 1 with (fail)
    rw [← HW.out]
    clear HW
    go_wp2_with fail
    refine Hc.out.mono ?_
    rintro e w1 ⟨rfl, hb⟩
    replace HB := Lib.hid (btrans HB.out hb); replace HV := Lib.hid (HV.out.on hb); replace HX := Lib.hid (bon HX.out hb)
    clear hb b0 b1 b2 b3 Hc
    obtain ⟨b0, b1, b2, b3⟩ := box4 HX.out
    have Hc := Lib.hid (few_any HV.out)
    rw [HS.out] at Hc
    go_wp2_with fail
    refine Hc.out.mono ?_
    rintro e w2 ⟨rfl, hb⟩
    replace HB := Lib.hid (btrans HB.out hb); replace HV := Lib.hid (HV.out.on hb); replace HX := Lib.hid (bon HX.out hb)
    clear hb b0 b1 b2 b3 Hc
    obtain ⟨b0, b1, b2, b3⟩ := box4 HX.out
    have Hc := Lib.hid (given_any HV.out a1)
    go_wp2_with fail
    refine Hc.out.mono ?_
    rintro e w3 ⟨A, kk, cc, l, E, rfl, hb, hss, hgr⟩
    replace HB := Lib.hid (btrans HB.out hb); replace HV := Lib.hid (HV.out.on hb); replace HX := Lib.hid (bon HX.out hb)
    have HLL := Lib.hid hss
    have HG := Lib.hid hgr
    clear hb b0 b1 b2 b3 Hc hss hgr
    obtain ⟨b0, b1, b2, b3⟩ := box4 HX.out
    by_cases hE : E = 0
    rotate_left
    · have d0 : (E != 0) = true := by simpa using hE
      clear hE
      go_wp2
      go_ret
      exact ⟨rfl, HB.out⟩
    have d0 : (E != 0) = false := by simpa using hE
    obtain ⟨hchk, f, es, L, rfl, hf, hes, ho, hL, hl⟩ := gr_ok HG.out hE
    have hn32 : ts0.length ≤ 32 := (chk_val hchk).t
    obtain ⟨A', c', hsh⟩ := HLL.out.shape
    simp only [Value.slice.injEq] at hsh
    obtain ⟨z1, hkk, z2⟩ := hsh
    clear z1 z2
    have hk32 : kk ≤ 32 := by rw [hkk, hl]; exact gv_len f L 32
    have d1 : decide (32 < kk) = false := decide_eq_false (by omega)
    have d2 : decide ((kk : Int) > 32) = false := decide_eq_false (by omega)
    have HC := Lib.hid hchk; have HF := Lib.hid hf; have HES := Lib.hid hes; have HO := Lib.hid ho; have HL := Lib.hid hL; have HLQ := Lib.hid hl; have HN32 := Lib.hid hn32; have HKK := Lib.hid hkk; have HK32 := Lib.hid hk32
    clear hE hchk hf hes ho hL hl hn32 hkk HG
    go_wp2
    clear d0 d1 d2 b0 b1 b2 b3
    go_loopw [7] (fun s7 wr => ∃ i : Nat, i ≤ kk ∧ s7 = .int .i64 (i : Int) ∧ Hid (Below w3.heap.size w3 wr)) (fun s7 _ => kk - (intOf s7).toNat)
    case atStart => exact ⟨0, by omega, rfl, Lib.hid (Below.refl _ _)⟩
    case round =>
      obtain ⟨i, hi, rfl, HI⟩ := hrel
      by_cases hlt : i < kk
      rotate_left
      · obtain rfl : i = kk := by omega
        have hlt2 : ¬ ((i : Int) < (i : Int)) := by omega
        go_wp2
        go_ret
        exact ⟨rfl, btrans HB.out HI.out⟩
      have hlt2 : (i : Int) < (kk : Int) := by omega
      obtain ⟨g, off, x, rfl, hg, hx, _, hra, _⟩ := (HLL.out.on HI.out).pick i (by rw [← HKK.out]; exact hlt)
      have hxm : x ∈ gv f L 32 := by rw [← HLQ.out]; exact List.mem_of_getElem? hx
      obtain ⟨q, q1, q2, rfl⟩ := gv_mem.1 hxm
      have hqn : q < ts0.length := HL.out.out HO.out HF.out q1 q2
      obtain ⟨P, hP⟩ : ∃ P, P = cv L q := ⟨_, rfl⟩
      have c1' : wr.cell? ⟨g, off + i * 3 + 1, none⟩ = some (.int .i64 (q : Int)) := hra 1 _ rfl
      have HX1 := Lib.hid (bon HX.out HI.out); have HV1 := Lib.hid (HV.out.on HI.out); have HL1 := Lib.hid (HLL.out.on HI.out)
      have h7s := And.intro (box4 (bon HX1.out (Below.refl wr.heap.size wr).drew)) (show wr.drew.cell? ⟨g, off + i * 3 + 1, none⟩ = some (.int .i64 (q : Int)) from c1')
      have HC1 := Lib.hid c1'; have HG1 := Lib.hid hg; have HXX := Lib.hid hx; have HQ := Lib.hid (And.intro q1 (And.intro q2 hqn)); have HP := Lib.hid hP
      clear hxm q1 q2 hqn hP c1' hg hx hra
      go_wp2_with fail
      refine wp_region_held_drew (S := fun w' => (w'.cell? ⟨w.heap.size, 0, none⟩ = some (.slice A1 n c1) ∧ w'.cell? ⟨w.heap.size, 1, none⟩ = some (.slice A2 m c2) ∧ w'.cell? ⟨w.heap.size, 2, none⟩ = some (.slice A3 k c3) ∧ w'.cell? ⟨w.heap.size, 3, none⟩ = some (.slice A4 h c4)) ∧ w'.cell? ⟨g, off + i * 3 + 1, none⟩ = some (.int .i64 (q : Int))) (by kernel_rfl) h7s (fun hHeld => ?_)
      change wpAnyH _ _ _ _ _ 12 #[false, false, false, false, false, false, false, false, false, false, false, false] _ _
      refine wpAnyH_take (i := 0) (oi := _) (v := .agg #[.slice A1 n c1, .slice A2 m c2, .slice A3 k c3, .slice A4 h c4]) rfl (by kernel_rfl) (by kernel_rfl) (by kernel_rfl) (fun _ _ _ h => h) (Or.inl ⟨by rfl, fun wx hSw => ?_⟩) (by assumption) ?_
      · go_simp
        try (first | omega | (rw [IntKind.wrap_i64]; omega))
      (try simp only [Act.put, List.setIfInBounds_toArray, List.set_cons_zero, List.set_cons_succ, List.getElem_toArray, List.getElem_cons_zero, List.getElem_cons_succ])
      refine wpAnyH_take (i := 1) (oi := _) (v := .slice (some ⟨g, off, none⟩) kk cc) rfl (by kernel_rfl) (by kernel_rfl) (by kernel_rfl) (fun _ _ _ h => h) (Or.inl ⟨by rfl, fun wx hSw => ?_⟩) (by assumption) ?_
      · go_simp
        try (first | omega | (rw [IntKind.wrap_i64]; omega))
      (try simp only [Act.put, List.setIfInBounds_toArray, List.set_cons_zero, List.set_cons_succ, List.getElem_toArray, List.getElem_cons_zero, List.getElem_cons_succ])
      refine wpAnyH_take (i := 2) (oi := _) (v := .int .i64 (i : Int)) rfl (by kernel_rfl) (by kernel_rfl) (by kernel_rfl) (fun _ _ _ h => h) (Or.inl ⟨by rfl, fun wx hSw => ?_⟩) (by assumption) ?_
      · go_simp
        try (first | omega | (rw [IntKind.wrap_i64]; omega))
      (try simp only [Act.put, List.setIfInBounds_toArray, List.set_cons_zero, List.set_cons_succ, List.getElem_toArray, List.getElem_cons_zero, List.getElem_cons_succ])
      refine wpAnyH_take (i := 3) (oi := _) (v := .pointer (some ⟨g, off + i * 3, none⟩)) rfl (by kernel_rfl) (by kernel_rfl) (by kernel_rfl) (fun _ _ _ h => h) (Or.inl ⟨by rfl, fun wx hSw => ?_⟩) (by assumption) ?_
      · go_simp
        try (first | omega | (rw [IntKind.wrap_i64]; omega))
      (try simp only [Act.put, List.setIfInBounds_toArray, List.set_cons_zero, List.set_cons_succ, List.getElem_toArray, List.getElem_cons_zero, List.getElem_cons_succ])
      refine wpAnyH_take (i := 4) (oi := _) (v := .pointer (some ⟨g, off + i * 3 + 1, none⟩)) rfl (by kernel_rfl) (by kernel_rfl) (by kernel_rfl) (fun _ _ _ h => h) (Or.inl ⟨by rfl, fun wx hSw => ?_⟩) (by assumption) ?_
      · go_simp
        try (first | omega | (rw [IntKind.wrap_i64]; omega))
      (try simp only [Act.put, List.setIfInBounds_toArray, List.set_cons_zero, List.set_cons_succ, List.getElem_toArray, List.getElem_cons_zero, List.getElem_cons_succ])
      refine wpAnyH_take (i := 5) (oi := _) (v := .int .i64 (q : Int)) rfl (by kernel_rfl) (by kernel_rfl) (by kernel_rfl) (fun _ _ _ h => h) (Or.inl ⟨by rfl, fun wx hSw => ?_⟩) (by assumption) ?_
      · go_simp
        try (first | omega | (rw [IntKind.wrap_i64]; omega))
      (try simp only [Act.put, List.setIfInBounds_toArray, List.set_cons_zero, List.set_cons_succ, List.getElem_toArray, List.getElem_cons_zero, List.getElem_cons_succ])
      refine wpAnyH_ready (rs := [6]) (by kernel_rfl) (by simp) ?_
      refine AllReadyH.cons (o := _) rfl (fun K hK => ?_) AllReadyH.nil
      have Hc := Lib.hid (given_any (HV1.out.on (Below.refl wr.heap.size wr).drew) (q : Int))
      go_simp
      refine Hc.out.mono ?_
      rintro e v0 ⟨B, k2, c2', mm, E2, rfl, hb, hss, hgr⟩
      have HD0 : Hid (Below wr.heap.size wr v0) := Lib.hid (btrans (Below.refl wr.heap.size wr).drew hb)
      obtain ⟨rfl, L', hL', hm'⟩ := gr_at HC.out HES.out HQ.out.2.2 hgr
      have h70 := And.intro (box4 (bon HX1.out HD0.out)) (((HD0.out).cell (p := ⟨g, off + i * 3 + 1, none⟩) HG1.out).trans HC1.out)
      have HM2 := Lib.hid hss; have HL2 := Lib.hid hL'; have HMQ := Lib.hid hm'
      clear hb Hc hss hgr hL' hm'
      go_wp2_with fail
      refine hK.out _ _ (h70) (fun hHeld => ?_)
      clear hK K
      (try simp only [Act.put, List.setIfInBounds_toArray, List.set_cons_zero, List.set_cons_succ, List.getElem_toArray, List.getElem_cons_zero, List.getElem_cons_succ])
      refine wpAnyH_take (i := 7) (oi := _) (v := .tuple #[.slice B k2 c2', .int .i64 0]) rfl (by kernel_rfl) (by kernel_rfl) (by kernel_rfl) (fun _ _ _ h => h) (Or.inl ⟨by rfl, fun wx hSw => ?_⟩) (by assumption) ?_
      · go_simp
        try (first | omega | (rw [IntKind.wrap_i64]; omega))
      (try simp only [Act.put, List.setIfInBounds_toArray, List.set_cons_zero, List.set_cons_succ, List.getElem_toArray, List.getElem_cons_zero, List.getElem_cons_succ])
      refine wpAnyH_take (i := 8) (oi := _) (v := .slice B k2 c2') rfl (by kernel_rfl) (by kernel_rfl) (by kernel_rfl) (fun _ _ _ h => h) (Or.inl ⟨by rfl, fun wx hSw => ?_⟩) (by assumption) ?_
      · go_simp
        try (first | omega | (rw [IntKind.wrap_i64]; omega))
      (try simp only [Act.put, List.setIfInBounds_toArray, List.set_cons_zero, List.set_cons_succ, List.getElem_toArray, List.getElem_cons_zero, List.getElem_cons_succ])
      refine wpAnyH_take (i := 9) (oi := _) (v := .int .i64 0) rfl (by kernel_rfl) (by kernel_rfl) (by kernel_rfl) (fun _ _ _ h => h) (Or.inl ⟨by rfl, fun wx hSw => ?_⟩) (by assumption) ?_
      · go_simp
        try (first | omega | (rw [IntKind.wrap_i64]; omega))
      (try simp only [Act.put, List.setIfInBounds_toArray, List.set_cons_zero, List.set_cons_succ, List.getElem_toArray, List.getElem_cons_zero, List.getElem_cons_succ])
      refine wpAnyH_take (i := 10) (oi := _) (v := .slice B k2 c2') rfl (by kernel_rfl) (by kernel_rfl) (by kernel_rfl) (fun _ _ _ h => h) (Or.inl ⟨by rfl, fun wx hSw => ?_⟩) (by assumption) ?_
      · go_simp
        try (first | omega | (rw [IntKind.wrap_i64]; omega))
      (try simp only [Act.put, List.setIfInBounds_toArray, List.set_cons_zero, List.set_cons_succ, List.getElem_toArray, List.getElem_cons_zero, List.getElem_cons_succ])
      refine wpAnyH_take (i := 11) (oi := _) (v := .int .i64 0) rfl (by kernel_rfl) (by kernel_rfl) (by kernel_rfl) (fun _ _ _ h => h) (Or.inl ⟨by rfl, fun wx hSw => ?_⟩) (by assumption) ?_
      · go_simp
        try (first | omega | (rw [IntKind.wrap_i64]; omega))
      (try simp only [Act.put, List.setIfInBounds_toArray, List.set_cons_zero, List.set_cons_succ, List.getElem_toArray, List.getElem_cons_zero, List.getElem_cons_succ])
      refine wpAnyH_done (by kernel_rfl) ?_ _
      clear hHeld
      clear h7s h70
      obtain ⟨B', c'', hsh⟩ := HM2.out.shape
      simp only [Value.slice.injEq] at hsh
      obtain ⟨z1, hk2, z2⟩ := hsh
      clear z1 z2
      have hk232 : k2 ≤ 32 := by rw [hk2, HMQ.out]; exact gv_len q L' 32
      have d1 : decide (32 < k2) = false := decide_eq_false (by omega)
      have d2 : decide ((k2 : Int) > 32) = false := decide_eq_false (by omega)
      have HK2 := Lib.hid hk2; have HK232 := Lib.hid hk232
      clear hk2
      have HLz := Lib.hid (HL1.out.on HD0.out)
      go_wp2
      clear d1 d2
      go_loopw [10] (fun s10 wr => ∃ k3 : Nat, k3 ≤ k2 ∧ s10 = .int .i64 (k3 : Int) ∧ Hid (Below v0.heap.size v0 wr)) (fun s10 _ => k2 - (intOf s10).toNat)
      case atStart => exact ⟨0, by omega, rfl, Lib.hid (Below.refl _ _)⟩
      case round =>
        obtain ⟨k3, hk3, rfl, HW⟩ := hrel
        by_cases hlt3 : k3 < k2
        rotate_left
        · obtain rfl : k3 = k2 := by omega
          have hlt4 : ¬ ((k3 : Int) < (k3 : Int)) := by omega
          have HN2 := Lib.hid (btrans HI.out (btrans HD0.out HW.out))
          go_wp2
          go_roundw
          case rel => exact ⟨i + 1, by omega, by go_num, HN2⟩
          case measure => simp [intOf]; omega
        have hlt4 : (k3 : Int) < (k2 : Int) := by omega
        obtain ⟨g2, off2, y, rfl, hg2, hy, _, hry, _⟩ := HM2.out.pick k3 (by rw [← HK2.out]; exact hlt3)
        obtain ⟨yw, yg, yc⟩ := y
        have hfnd := found_at HL.out HL2.out HO.out HF.out HN32.out HQ.out.1 HQ.out.2.1 (y := ⟨yw, yg, yc⟩) (by rw [← HMQ.out]; exact List.mem_of_getElem? hy)
        rw [← HLQ.out, ← HP.out] at hfnd
        have hP2 : P < 32000000000 := by rw [HP.out]; exact HQ.out.2.1
        have hyc : 0 ≤ yc ∧ yc ≤ 32000000000 := by obtain ⟨_, _, _, _, _, a, b⟩ := hfnd; exact ⟨a, b⟩
        have u1 : IntKind.i64.wrap ((P : Int) + yc) = (P : Int) + yc := wrap_in (by omega) (by omega)
        have HFND := Lib.hid hfnd; have HU1 := Lib.hid u1
        have HYR : Hid (v0.rangeAt g2 (off2 + k3 * 3) [.int .i64 yw, .int .i64 yg, .int .i64 yc]) := Lib.hid hry
        have HG2 := Lib.hid hg2
        clear hg2 hy hry hfnd hP2 hyc u1
        go_wp2
        go_loopw [11, 12] (fun s11 s12 wr => ∃ (j b : Nat), j ≤ kk ∧ s11 = .bool (decide (b = 1)) ∧ s12 = .int .i64 (j : Int) ∧ Hid (b ≤ 1 ∧ ∀ j' z, j' < j → l[j']? = some z → z.gi = yg → z.co ≤ (P : Int) + yc → b = 1) ∧ Hid (Below v0.heap.size v0 wr)) (fun _ s12 _ => kk - (intOf s12).toNat)
        case atStart => exact ⟨0, 0, by omega, rfl, rfl, Lib.hid ⟨by omega, fun j' z hj => by omega⟩, HW⟩
        case round =>
          clear HW
          obtain ⟨j, b, hj, rfl, rfl, HJ, HW⟩ := hrel
          by_cases hlt5 : j < kk
          rotate_left
          · obtain rfl : j = kk := by omega
            have hlt6 : ¬ ((j : Int) < (j : Int)) := by omega
            obtain rfl : b = 1 := by
              obtain ⟨j0, z, e1, e2, e3, _⟩ := HFND.out
              exact HJ.out.2 j0 z (by rw [HKK.out]; exact (List.getElem?_eq_some_iff.1 e1).1) e1 e2 e3
            go_wp2
            go_roundw
            case rel => exact ⟨k3 + 1, by omega, by go_num, HW⟩
            case measure => simp [intOf]; omega
          have hlt6 : (j : Int) < (kk : Int) := by omega
          obtain ⟨⟨zw, zg, zc⟩, hz⟩ : ∃ z, l[j]? = some z := ⟨_, List.getElem?_eq_getElem (by rw [← HKK.out]; exact hlt5)⟩
          have hl3 := HLz.out.on HW.out
          have hz3 := (hl3.at hz).2.1
          have c1 : wr.cell? ⟨g, off + j * 3 + 1, none⟩ = some (.int .i64 zg) := hz3 1 _ rfl
          have c2 : wr.cell? ⟨g, off + j * 3 + 2, none⟩ = some (.int .i64 zc) := hz3 2 _ rfl
          have c3 : wr.cell? ⟨g, off + i * 3 + 2, none⟩ = some (.int .i64 (P : Int)) := by rw [HP.out]; exact (hl3.at HXX.out).2.1 2 _ rfl
          have hy3 := rangeAt_kept HYR.out (HW.out.block g2 HG2.out)
          have c4 : wr.cell? ⟨g2, off2 + k3 * 3 + 1, none⟩ = some (.int .i64 yg) := hy3 1 _ rfl
          have c5 : wr.cell? ⟨g2, off2 + k3 * 3 + 2, none⟩ = some (.int .i64 yc) := hy3 2 _ rfl
          have HZ := Lib.hid hz
          have u1 := HU1.out
          clear hz hl3 hz3 hy3
          by_cases hb1 : b = 1
          · rw [decide_eq_true hb1]
            subst hb1
            have HJ2 : Hid (1 ≤ 1 ∧ ∀ j' z, j' < j + 1 → l[j']? = some z → z.gi = yg → z.co ≤ (P : Int) + yc → 1 = 1) := Lib.hid (⟨by omega, fun _ _ _ _ _ _ => rfl⟩)
            clear HJ
            go_wp2_with fail
            go_quiet (fail)
            have HW2 := Lib.hid (bdrewN HW.out nq)
            clear c1 c2 c3 c4 c5
            generalize wr.drewN nq = w7 at *
            go_wp2
            go_roundw
            case rel => exact ⟨j + 1, 1, by omega, rfl, by go_num, Lib.hid ⟨by omega, fun _ _ _ _ _ _ => rfl⟩, HW2⟩
            case measure => simp [intOf]; omega
          · have hb0 : b = 0 := by have := HJ.out.1; omega
            rw [decide_eq_false hb1]
            subst hb0
            have HB0 : Hid (0 = 1 → (0 : Nat) = 1) := Lib.hid (fun h => h)
            clear hb1
            by_cases he : yg = zg
            · subst he
              by_cases hle : zc ≤ (P : Int) + yc
              · have dl : decide (zc ≤ (P : Int) + yc) = true := decide_eq_true hle
                clear hle
                have HJ2 : Hid (1 ≤ 1 ∧ ∀ j' z, j' < j + 1 → l[j']? = some z → z.gi = yg → z.co ≤ (P : Int) + yc → 1 = 1) := Lib.hid (⟨by omega, fun _ _ _ _ _ _ => rfl⟩)
                clear HJ
                go_wp2_with fail
                go_quiet (fail)
                have HW2 := Lib.hid (bdrewN HW.out nq)
                clear c1 c2 c3 c4 c5
                generalize wr.drewN nq = w7 at *
                go_wp2
                go_roundw
                case rel => exact ⟨j + 1, 1, by omega, rfl, by go_num, Lib.hid ⟨by omega, fun _ _ _ _ _ _ => rfl⟩, HW2⟩
                case measure => simp [intOf]; omega
              · have dl : decide (zc ≤ (P : Int) + yc) = false := decide_eq_false hle
                have HLE := Lib.hid hle
                clear hle
                have HJ2 : Hid (0 ≤ 1 ∧ ∀ j' z, j' < j + 1 → l[j']? = some z → z.gi = yg → z.co ≤ (P : Int) + yc → 0 = 1) := Lib.hid (⟨by omega, fun j' z h1 h2 h3 h4 => by
                by_cases e : j' < j
                · exact HB0.out (HJ.out.2 j' z e h2 h3 h4)
                · obtain rfl : j' = j := by omega
                  have := HZ.out
                  rw [h2] at this
                  cases this
                  exact absurd h4 HLE.out⟩)
                clear HJ
                go_wp2_with fail
                go_quiet (fail)
                have HW2 := Lib.hid (bdrewN HW.out nq)
                clear c1 c2 c3 c4 c5
                generalize wr.drewN nq = w7 at *
                go_wp2
                go_roundw
                case rel => exact ⟨j + 1, 0, by omega, rfl, by go_num, HJ2, HW2⟩
                case measure => simp [intOf]; omega
            · have de : (zg == yg) = false := by simpa using fun h => he h.symm
              have HE2 := Lib.hid he
              clear he
              have HJ2 : Hid (0 ≤ 1 ∧ ∀ j' z, j' < j + 1 → l[j']? = some z → z.gi = yg → z.co ≤ (P : Int) + yc → 0 = 1) := Lib.hid (⟨by omega, fun j' z h1 h2 h3 h4 => by
                by_cases e : j' < j
                · exact HB0.out (HJ.out.2 j' z e h2 h3 h4)
                · obtain rfl : j' = j := by omega
                  have := HZ.out
                  rw [h2] at this
                  cases this
                  exact absurd h3.symm HE2.out⟩)
              clear HJ
              go_wp2_with fail
              go_quiet (fail)
              have HW2 := Lib.hid (bdrewN HW.out nq)
              clear c1 c2 c3 c4 c5
              generalize wr.drewN nq = w7 at *
              go_wp2
              go_roundw
              case rel => exact ⟨j + 1, 0, by omega, rfl, by go_num, HJ2, HW2⟩
              case measure => simp [intOf]; omega

set_option maxRecDepth 100000 in
theorem lifted (os : Os) (started : os.Started) (H : Type) (enc : TypeId × Value → H) :
    ReturnsInHanded {} Try.checked os 6 .any (Rows.fleetTransitiveSpec.pre6 enc Try.prog Try.f6 Rows.fleetTransitiveRow.domain false) (Rows.fleetTransitiveSpec.post enc Try.prog Try.f6 false true false false) := by
  refine returnsInHanded_of_change_sized (C := Try.checked) own started (by kernel_rfl) Try.func6
    (ChangeSpec.witness6 (enc := enc) (C := Try.checked) false ⟨#[], #[.agg #[.slice none 0 0, .slice none 0 0, .slice none 0 0, .slice none 0 0], .int .i64 0], []⟩ 8 (by kernel_rfl) (by kernel_rfl) (by kernel_rfl) (by kernel_rfl)) ?_
  intro W base args ds gs before hval0 hW _ hsz0 _
  have hsz : (DataW.weightsEach Try.prog (Try.f6.params.toList ++ Rows.fleetTransitiveSpec.plain.varTypes Try.prog) (ds ++ gs)).all (· ≤ reachBytes) = true := hsz0
  have hval : ∀ (j : Nat) t v, Try.f6.params[j]? = some t → args[j]? = some v → Value.okWide Try.prog W .any base t v := hval0
  clear hsz0 hval0
  have hW' := hW
  obtain ⟨p, q, hA0, hV, rfl, _, _⟩ := hW
  have hA : DataW.TrodAll enc Try.prog W 0 (fun _ => true) true Try.f6.params.toList args.toList ds p := hA0
  rw [Try.params6] at hA hval hsz
  obtain ⟨v0, vs0, d0, ds0, p0, q0, hargs, rfl, rfl, h0, r0⟩ := trodAll_cons hA
  obtain ⟨v1, vs1, d1, ds1, p1, q1, rfl, rfl, rfl, h1, r1⟩ := trodAll_cons r0
  obtain ⟨rfl, rfl, rfl⟩ := trodAll_nil r1
  obtain rfl : args = #[v0, v1] := by cases args; simp_all
  obtain ⟨rfl, rfl⟩ := trodVars_none hV
  have hw0 : ∀ n ∈ d0.weights Try.prog 27, n ≤ reachBytes := by
    intro n hn
    have := List.all_eq_true.1 hsz n (DataW.weights_mem_each (t := 27) (d := d0) (j := 0) rfl rfl n hn)
    simpa using this
  obtain ⟨ts0, ws0, ss0, hs0, hn0⟩ := openFl (hval 0 27 v0 rfl rfl) h0 hw0
  obtain ⟨a1, rfl, rfl, rfl, wf1⟩ := open_int Try.underlying3 (hval 1 3 v1 rfl rfl) h1
  clear hA0
  refine (walk v0 ts0 ws0 ss0 hs0 a1 W hn0 (i64_wf wf1)).mono fun e W' ⟨he, hb⟩ => ?_
  subst he
  refine ⟨_, rfl, post_law laidOut ?_ rfl rfl hW' rfl rfl rfl hb⟩
  intro t ht
  rw [Try.params6] at ht
  have hm : t ∈ [3, 27] := (by decide : ∀ t ∈ (#[27, 3] : Array TypeId).toList, t ∈ [3, 27]) t ht
  have hall : ([3, 27].all fun u => Try.prog.readableRec u && decide (u < Try.prog.types.size)) = true := by kernel_rfl
  have := List.all_eq_true.1 hall t hm
  simpa using this

theorem over : Rows.fleetTransitiveRow.holds Try.pinned (OpenSpec.ofChange Rows.fleetTransitiveSpec) :=
  OpenClaim.holds_of_wide 6 Try.f6 rfl rfl rfl rfl rfl rfl rfl ⟨rfl, rfl, rfl, rfl, rfl⟩ rfl rfl rfl rfl rfl (by kernel_rfl) Try.func6 (by kernel_rfl)
    (of_decide_eq_true (by kernel_rfl)) (by unfold Func.isWrapper; first | (rw [if_pos (by decide +kernel)]; kernel_rfl) | (rw [if_neg (by decide +kernel)]; exact ⟨rfl, rfl⟩))
    (fun os started H enc _ => lifted os started H enc)

/-- THE STATEMENT. -/
theorem proved : Rows.FleetTransitiveSaid :=
  over
#print axioms proved
end Go.Proofs.Ytijdjbkmkopmnaa.fleetTransitive
