/-
  Walks: the apportionment: the first loop, the sort, the second loop.
-/
import Derived.Test.YtempnbchiofghaaGreatDoorEc
namespace Go.Proofs.YtempnbchiofghaaGreatDoor
open Go.RowKit
set_option linter.unusedVariables false
set_option linter.unusedSimpArgs false

set_option maxRecDepth 100000 in
set_option maxHeartbeats 8000000 in
theorem apportion_any (t W : Int) (ws : List Int) (v : Value) (w : World) (ht0 : 0 ≤ t) (ht1 : t ≤ 9007199254740992) (hW : WOk W ws) (h : Hl (fun k => k < w.heap.size) w v ws) :
    Calls Tryz.prog 47 #[.int .i64 t, .int .i64 W, v] w fun e w' => ∃ (g : Nat) (ord : List Nat), e = .returned (.slice (some ⟨g, 0, none⟩) ws.length ws.length) ∧ Below w.heap.size w w' ∧ w.heap.size ≤ g ∧ IsOrd (rf t W ws) ws.length ord ∧ Hr w' g (pts t W ws ord (lf t W ws ws.length).toNat) := by
  obtain ⟨oa, c, rfl⟩ := h.shape
  obtain ⟨n, hn⟩ : ∃ n, ws.length = n := ⟨_, rfl⟩
  have hlen := hW.len
  rw [hn] at h hlen ⊢
  have hmk := run_make_row' (P := Tryz.prog) 22 3 (.int .i64 0) 8 Tryz.underlying22 info3' rfl .i64 .i64 n (by omega) (by omega)
  have HAS := Lib.hid (as_start w n)
  have HN := Lib.hid hn; have HH := Lib.hid h; have HW := Lib.hid hW
  have HT0 := Lib.hid ht0; have HT1 := Lib.hid ht1
  have hn256 : n ≤ 256 := hlen
  clear hn h hW ht0 ht1 hlen
  go_enter Tryz.func47, Tryz.ntmps47
  go_wp2
  clear hmk
  generalize (((w.alloc (.cells (madeCells #[.int .i64 0] n) 3)).alloc (.cells (madeCells #[.int .i64 0] n) 3)).alloc (.cells #[.slice (some ⟨w.heap.size + 1, 0, none⟩) n n] 22)).alloc (.cells (madeCells #[.int .i64 0] n) 3) = wS at *
  generalize w.heap.size + 1 + 1 + 1 = b3 at *
  generalize w.heap.size + 1 + 1 = b2 at *
  generalize w.heap.size + 1 = b1 at *
  go_loopw [9, 26] (fun s i wr => ∃ (k : Nat) (x : Int), k ≤ n ∧ s = .int .i64 x ∧ i = .int .i64 (k : Int) ∧ Hid (x = lf t W ws k ∧ ∃ P R O, Pre (qf t W ws) n k P ∧ Pre (rf t W ws) n k R ∧ Pre (fun j => (j : Int)) n k O ∧ AS w w.heap.size b1 b2 b3 n P R O wr)) (fun _ i _ => n - (intOf i).toNat)
  case atStart => exact ⟨0, t, by omega, rfl, rfl, Lib.hid ⟨by simp [lf, sig], _, _, _, Pre.zero _ n, Pre.zero _ n, Pre.zero _ n, HAS.out⟩⟩
  case round =>
    obtain ⟨k, x, hk, rfl, rfl, HI⟩ := hrel
    by_cases hlt : k < n
    · have hlt2 : (k : Int) < (n : Int) := by omega
      obtain ⟨g, off, y, rfl, hg, hy, hyi, c0, hcap⟩ := HH.out.pick k (by have := HN.out; omega)
      obtain ⟨hx, P, R, O, h1, h2, h3, hA⟩ := HI.out
      have c1 : wr.cell? ⟨g, off + k, none⟩ = some (.int .i64 y) := (hA.below.cell (p := ⟨g, off + k, none⟩) hg).trans c0
      have hyd : ws.getD k 0 = y := by rw [List.getD_eq_getElem?_getD, hy]; rfl
      have y0 := (HW.out.at k).1
      have y1 := (HW.out.at k).2
      have y2 := HW.out.le k
      rw [hyd] at y0 y1 y2
      have hp := HW.out.pos
      have hm := HW.out.most
      have q0 := qf_bnd HW.out HT0.out k
      have l1 := lf_mid HW.out HT0.out k (by have := HN.out; omega)
      have l2 := lf_step t W ws k
      have hprop : ∀ w, Calls Tryz.prog 50 #[.int .i64 t, .int .i64 y, .int .i64 W] w fun e w' => e = .returned (.tuple #[.int .i64 (qf t W ws k), .int .i64 (rf t W ws k)]) ∧ Below w.heap.size w w' := by
        have := proportion_any t y W HT0.out HT1.out y0 y1 hp (by omega) y2
        rw [← hyd] at this
        rw [← hyd]
        exact this
      obtain ⟨q, hq⟩ : ∃ q, qf t W ws k = q := ⟨_, rfl⟩
      obtain ⟨r, hr⟩ : ∃ r, rf t W ws k = r := ⟨_, rfl⟩
      have n1 := h1.next hlt; have n2 := h2.next hlt; have n3 := h3.next hlt
      rw [hq] at hprop q0 l2 n1
      rw [hr] at hprop n2
      have HPR := Lib.hid hprop
      have w1 : IntKind.i64.wrap (x - q) = x - q := by
        have := HT1.out
        rw [hx]
        exact wrap_in (by omega) (by omega)
      have HX : Hid (x - q = lf t W ws (k + 1)) := Lib.hid (by rw [l2, hx])
      have HN1 := Lib.hid n1; have HN2 := Lib.hid n2; have HN3 := Lib.hid n3
      have HP1 := Lib.hid h1; have HP2 := Lib.hid h2; have HP3 := Lib.hid h3
      have HA := Lib.hid hA
      clear hx h1 h2 h3 hA hy hyd y0 y1 y2 hp hm q0 l1 l2 hprop hq hr n1 n2 n3 HI c0
      go_upto_region 8 with (fail)
      clear c1
      have hS0 : wr.drew.cell? ⟨b2, 0, none⟩ = some (.slice (some ⟨b1, 0, none⟩) n n) := by rw [World.cell?_drew]; exact HA.out.var
      refine wp_region_held_drew (S := fun w' => w'.cell? ⟨b2, 0, none⟩ = some (.slice (some ⟨b1, 0, none⟩) n n)) (by kernel_rfl) hS0 (fun hHeld => ?_)
      change wpAnyH _ _ _ _ _ 15 #[false, false, false, false, false, false, false, false, false, false, false, false, false, false, false] _ _
      have HA1 := Lib.hid (HA.out.on (Below.drew (Below.refl _ _)))
      generalize wr.drew = W1 at *
      clear HA hS0
      refine wpAnyH_take (i := 0) (oi := _) (v := .slice (some ⟨w.heap.size, 0, none⟩) n n) rfl (by kernel_rfl) (by kernel_rfl) (by kernel_rfl) (fun _ _ _ h => h) (Or.inl ⟨by rfl, fun wx hSw => ?_⟩) (by assumption) ?_
      · go_simp
      (try simp only [Act.put, List.setIfInBounds_toArray, List.set_cons_zero, List.set_cons_succ, List.getElem_toArray, List.getElem_cons_zero, List.getElem_cons_succ])
      refine wpAnyH_take (i := 1) (oi := _) (v := .int .i64 (k : Int)) rfl (by kernel_rfl) (by kernel_rfl) (by kernel_rfl) (fun _ _ _ h => h) (Or.inl ⟨by rfl, fun wx hSw => ?_⟩) (by assumption) ?_
      · go_simp
      (try simp only [Act.put, List.setIfInBounds_toArray, List.set_cons_zero, List.set_cons_succ, List.getElem_toArray, List.getElem_cons_zero, List.getElem_cons_succ])
      refine wpAnyH_take (i := 2) (oi := _) (v := .slice (some ⟨b1, 0, none⟩) n n) rfl (by kernel_rfl) (by kernel_rfl) (by kernel_rfl) (fun _ _ _ h => h) (Or.inl ⟨by rfl, fun wx hSw => ?_⟩) (by assumption) ?_
      · replace hSw : wx.cell? ⟨b2, 0, none⟩ = some (.slice (some ⟨b1, 0, none⟩) n n) := hSw; clear hHeld; go_simp
      (try simp only [Act.put, List.setIfInBounds_toArray, List.set_cons_zero, List.set_cons_succ, List.getElem_toArray, List.getElem_cons_zero, List.getElem_cons_succ])
      refine wpAnyH_take (i := 3) (oi := _) (v := .int .i64 (k : Int)) rfl (by kernel_rfl) (by kernel_rfl) (by kernel_rfl) (fun _ _ _ h => h) (Or.inl ⟨by rfl, fun wx hSw => ?_⟩) (by assumption) ?_
      · go_simp
      (try simp only [Act.put, List.setIfInBounds_toArray, List.set_cons_zero, List.set_cons_succ, List.getElem_toArray, List.getElem_cons_zero, List.getElem_cons_succ])
      refine wpAnyH_take (i := 4) (oi := _) (v := .int .i64 t) rfl (by kernel_rfl) (by kernel_rfl) (by kernel_rfl) (fun _ _ _ h => h) (Or.inl ⟨by rfl, fun wx hSw => ?_⟩) (by assumption) ?_
      · go_simp
      (try simp only [Act.put, List.setIfInBounds_toArray, List.set_cons_zero, List.set_cons_succ, List.getElem_toArray, List.getElem_cons_zero, List.getElem_cons_succ])
      refine wpAnyH_take (i := 5) (oi := _) (v := .int .i64 y) rfl (by kernel_rfl) (by kernel_rfl) (by kernel_rfl) (fun _ _ _ h => h) (Or.inl ⟨by rfl, fun wx hSw => ?_⟩) (by assumption) ?_
      · go_simp
      (try simp only [Act.put, List.setIfInBounds_toArray, List.set_cons_zero, List.set_cons_succ, List.getElem_toArray, List.getElem_cons_zero, List.getElem_cons_succ])
      refine wpAnyH_take (i := 6) (oi := _) (v := .int .i64 W) rfl (by kernel_rfl) (by kernel_rfl) (by kernel_rfl) (fun _ _ _ h => h) (Or.inl ⟨by rfl, fun wx hSw => ?_⟩) (by assumption) ?_
      · go_simp
      (try simp only [Act.put, List.setIfInBounds_toArray, List.set_cons_zero, List.set_cons_succ, List.getElem_toArray, List.getElem_cons_zero, List.getElem_cons_succ])
      refine wpAnyH_ready (rs := [7]) (by kernel_rfl) (by simp) ?_
      refine AllReadyH.cons (o := _) rfl (fun K hK => ?_) AllReadyH.nil
      go_simp
      refine (HPR.out _).mono ?_
      rintro e wy ⟨rfl, hbl⟩
      have HA2 := Lib.hid (HA1.out.on hbl)
      have hS2 := HA2.out.var
      clear hbl HA1 hHeld
      go_wp2_with fail
      refine hK.out _ _ hS2 (fun hHeld => ?_)
      clear hK K hS2
      (try simp only [Act.put, List.setIfInBounds_toArray, List.set_cons_zero, List.set_cons_succ, List.getElem_toArray, List.getElem_cons_zero, List.getElem_cons_succ])
      refine wpAnyH_take (i := 8) (oi := _) (v := .tuple #[.int .i64 q, .int .i64 r]) rfl (by kernel_rfl) (by kernel_rfl) (by kernel_rfl) (fun _ _ _ h => h) (Or.inl ⟨by rfl, fun wx hSw => ?_⟩) (by assumption) ?_
      · go_simp
      (try simp only [Act.put, List.setIfInBounds_toArray, List.set_cons_zero, List.set_cons_succ, List.getElem_toArray, List.getElem_cons_zero, List.getElem_cons_succ])
      refine wpAnyH_take (i := 9) (oi := _) (v := .int .i64 q) rfl (by kernel_rfl) (by kernel_rfl) (by kernel_rfl) (fun _ _ _ h => h) (Or.inl ⟨by rfl, fun wx hSw => ?_⟩) (by assumption) ?_
      · go_simp
      (try simp only [Act.put, List.setIfInBounds_toArray, List.set_cons_zero, List.set_cons_succ, List.getElem_toArray, List.getElem_cons_zero, List.getElem_cons_succ])
      refine wpAnyH_take (i := 10) (oi := _) (v := .int .i64 r) rfl (by kernel_rfl) (by kernel_rfl) (by kernel_rfl) (fun _ _ _ h => h) (Or.inl ⟨by rfl, fun wx hSw => ?_⟩) (by assumption) ?_
      · go_simp
      (try simp only [Act.put, List.setIfInBounds_toArray, List.set_cons_zero, List.set_cons_succ, List.getElem_toArray, List.getElem_cons_zero, List.getElem_cons_succ])
      refine wpAnyH_take (i := 11) (oi := _) (v := .pointer (some ⟨w.heap.size, k, none⟩)) rfl (by kernel_rfl) (by kernel_rfl) (by kernel_rfl) (fun _ _ _ h => h) (Or.inl ⟨by rfl, fun wx hSw => ?_⟩) (by assumption) ?_
      · go_simp
      (try simp only [Act.put, List.setIfInBounds_toArray, List.set_cons_zero, List.set_cons_succ, List.getElem_toArray, List.getElem_cons_zero, List.getElem_cons_succ])
      obtain ⟨p0, hp0⟩ : ∃ p0, P[k]? = some p0 := ⟨_, List.getElem?_eq_getElem (by have := HP1.out.1; omega)⟩
      obtain ⟨r0, hr0⟩ : ∃ r0, R[k]? = some r0 := ⟨_, List.getElem?_eq_getElem (by have := HP2.out.1; omega)⟩
      obtain ⟨o0, ho0⟩ : ∃ o0, O[k]? = some o0 := ⟨_, List.getElem?_eq_getElem (by have := HP3.out.1; omega)⟩
      have HO0 := Lib.hid ho0; have HR0 := Lib.hid hr0; have HP0 := Lib.hid hp0
      have c2 := HA2.out.hP.cell hp0
      have f2 := HA2.out.hP.free k
      clear hp0 hr0 ho0
      refine wpAnyH_ready (rs := [12]) (by kernel_rfl) (by simp) ?_
      refine AllReadyH.cons (o := _) rfl (fun K hK => ?_) AllReadyH.nil
      go_simp
      have HA3 := Lib.hid (HA2.out.setP k q)
      have hS3 := HA3.out.var
      clear c2 f2 HA2 hHeld
      refine hK.out _ _ hS3 (fun hHeld => ?_)
      clear hK K hS3
      (try simp only [Act.put, List.setIfInBounds_toArray, List.set_cons_zero, List.set_cons_succ, List.getElem_toArray, List.getElem_cons_zero, List.getElem_cons_succ])
      generalize wy.setCell ⟨w.heap.size, k, none⟩ (.int .i64 q) = wz at *
      refine wpAnyH_take (i := 13) (oi := _) (v := .pointer (some ⟨b1, k, none⟩)) rfl (by kernel_rfl) (by kernel_rfl) (by kernel_rfl) (fun _ _ _ h => h) (Or.inl ⟨by rfl, fun wx hSw => ?_⟩) (by assumption) ?_
      · go_simp
      (try simp only [Act.put, List.setIfInBounds_toArray, List.set_cons_zero, List.set_cons_succ, List.getElem_toArray, List.getElem_cons_zero, List.getElem_cons_succ])
      have c3 := HA3.out.hR.cell HR0.out
      have f3 := HA3.out.hR.free k
      refine wpAnyH_ready (rs := [14]) (by kernel_rfl) (by simp) ?_
      refine AllReadyH.cons (o := _) rfl (fun K hK => ?_) AllReadyH.nil
      go_simp
      have HA4 := Lib.hid (HA3.out.setR k r)
      have hS4 := HA4.out.var
      clear c3 f3 HA3 hHeld
      refine hK.out _ _ hS4 (fun hHeld => ?_)
      clear hK K hS4
      (try simp only [Act.put, List.setIfInBounds_toArray, List.set_cons_zero, List.set_cons_succ, List.getElem_toArray, List.getElem_cons_zero, List.getElem_cons_succ])
      generalize wz.setCell ⟨b1, k, none⟩ (.int .i64 r) = wv at *
      refine wpAnyH_done (by kernel_rfl) ?_ _
      clear hHeld
      have c4 := HA4.out.hO.cell HO0.out
      have f4 := HA4.out.hO.free k
      have HA5 := Lib.hid (HA4.out.setO k (k : Int))
      have c5 : (wv.setCell ⟨b3, k, none⟩ (.int .i64 (k : Int))).cell? ⟨w.heap.size, k, none⟩ = some (.int .i64 q) := HA5.out.hP.cell (by
        rw [List.getElem?_set, if_pos rfl, if_pos (by have := HP1.out.1; omega)])
      clear HA4
      go_wp2
      generalize wv.setCell ⟨b3, k, none⟩ (.int .i64 (k : Int)) = wu at *
      clear c4 f4 c5
      go_roundw
      case rel => exact ⟨k + 1, x - q, by omega, rfl, by go_num, Lib.hid ⟨HX.out, _, _, _, HN1.out, HN2.out, HN3.out, HA5.out⟩⟩
      case measure => simp [intOf]; omega
    · obtain rfl : k = n := by omega
      have hlt2 : ¬ ((k : Int) < (k : Int)) := by omega
      obtain ⟨hx, P, R, O, h1, h2, h3, hA⟩ := HI.out
      have hnl := HN.out
      have p1 := h1.all; have p2 := h2.all; have p3 := h3.all
      subst p1 p2 p3
      have HA := Lib.hid hA
      have HX := Lib.hid hx
      clear HI h1 h2 h3 hA hx hnl
      have hn0 : 0 < k := by
        rcases Nat.eq_zero_or_pos k with h0 | h0
        · have h1 := HW.out.sum
          have h2 := HW.out.pos
          have h3 : ws = [] := List.eq_nil_of_length_eq_zero (by rw [HN.out]; exact h0)
          rw [h3] at h1
          simp at h1
          omega
        · exact h0
      have HS := Lib.hid (sort_any (rf t W ws) k hn0 hn256 HA.out)
      have hb := lf_bnd (t := t) HW.out
      rw [HN.out] at hb
      obtain ⟨kk, hkk⟩ : ∃ kk : Nat, (lf t W ws k).toNat = kk := ⟨_, rfl⟩
      have hx2 : x = (kk : Int) := by rw [HX.out, ← hkk]; omega
      have hkn : kk ≤ k := by omega
      have HKK := Lib.hid hkk
      subst hx2
      have hkn2 : (kk : Int) ≤ (k : Int) := by omega
      clear hb hkk HA HX
      go_wp2_with fail
      refine HS.out.mono ?_
      rintro e w2 ⟨rfl, ord, ho, hA2⟩
      have HO := Lib.hid ho
      have HA2 := Lib.hid hA2
      clear ho hA2 HS
      go_wp2
      go_loopw [62] (fun i wr => ∃ m : Nat, m ≤ kk ∧ i = .int .i64 (m : Int) ∧ Hid (AS w w.heap.size b1 b2 b3 k (pts t W ws ord m) ((List.range k).map (rf t W ws)) (ord.map fun j => ((j : Nat) : Int)) wr)) (fun i _ => kk - (intOf i).toNat)
      case atStart => exact ⟨0, by omega, rfl, Lib.hid (by rw [pts_zero, HN.out]; exact HA2.out)⟩
      case round =>
        obtain ⟨m, hm, rfl, HA3⟩ := hrel
        by_cases hmk : m < kk
        · have hmk2 : (m : Int) < (kk : Int) := by omega
          have hol := HO.out.length
          obtain ⟨o, hoq⟩ : ∃ o, ord[m]? = some o := ⟨_, List.getElem?_eq_getElem (by omega)⟩
          have hon : o < k := HO.out.lt (List.mem_of_getElem? hoq)
          have htk : ord.take (m + 1) = ord.take m ++ [o] := by rw [List.take_add_one, hoq]; rfl
          have hnt : o ∉ ord.take m := by
            have hnd := HO.out.nodup
            rw [← List.take_append_drop (m + 1) ord, htk, List.append_assoc] at hnd
            have := (List.nodup_append.1 hnd).2.2
            exact fun hmem => this o hmem o (by simp) rfl
          have c0 := HA3.out.hO.cell (show (ord.map fun j => ((j : Nat) : Int))[m]? = some (o : Int) by rw [List.getElem?_map, hoq]; rfl)
          have hpg := pts_get t W ws ord m o (by rw [HN.out]; exact hon)
          rw [if_neg hnt, Int.add_zero] at hpg
          have hst := pts_step (t := t) (W := W) (ws := ws) (by rw [HN.out]; exact hon) htk hnt
          have hqb := qf_bnd HW.out HT0.out o
          obtain ⟨q, hq⟩ : ∃ q, qf t W ws o = q := ⟨_, rfl⟩
          rw [hq] at hpg hst hqb
          have c1 := HA3.out.hP.cell hpg
          have f1 := HA3.out.hP.free o
          have HA4 := HA3.out.setP o (q + 1)
          rw [← hst] at HA4
          replace HA4 := Lib.hid HA4
          have w1 : IntKind.i64.wrap (q + 1) = q + 1 := by
            have := HT1.out
            exact wrap_in (by omega) (by omega)
          have hon2 : (o : Int) < (k : Int) := by omega
          clear hol hoq htk hnt hpg hst hqb hq HA3
          go_wp2
          clear c0 c1 f1
          generalize wr.setCell ⟨w.heap.size, o, none⟩ (.int .i64 (q + 1)) = wu at *
          go_roundw
          case rel => exact ⟨m + 1, by omega, by go_num, HA4⟩
          case measure => simp [intOf]; omega
        · obtain rfl : m = kk := by omega
          have hmk2 : ¬ ((m : Int) < (m : Int)) := by omega
          go_wp2
          go_ret
          exact ⟨w.heap.size, rfl, HA3.out.below, Nat.le_refl _, ord, HO.out, by rw [HKK.out]; exact HA3.out.hP⟩

end Go.Proofs.YtempnbchiofghaaGreatDoor
