/-
  Walks: Share of the reference.
-/
import Derived.Test.YtempnbchiofghaaGreatDoorHa
namespace Go.Proofs.YtempnbchiofghaaGreatDoor
open Go.RowKit
set_option linter.unusedVariables false
set_option linter.unusedSimpArgs false

/-- The reference's division of a product, for ints. -/
theorem muldivI_any (a b c : Int) (a0 : 0 ≤ a) (a1 : a ≤ 9007199254740992) (b0 : 0 ≤ b) (hbc : b ≤ c) (c0 : 0 < c) (c1 : c ≤ 2305843009213693952) (w : World) :
    Calls Tryz.prog 35 #[.int .i64 a, .int .i64 b, .int .i64 c] w fun e w' => e = .returned (.tuple #[.int .i64 (a * b / c), .int .i64 (a * b % c)]) ∧ w = w' := by
  obtain ⟨A, rfl⟩ := Int.eq_ofNat_of_zero_le a0
  obtain ⟨B, rfl⟩ := Int.eq_ofNat_of_zero_le b0
  obtain ⟨C, rfl⟩ := Int.eq_ofNat_of_zero_le (Int.le_of_lt c0)
  refine (muldiv_any A B C (by omega) (by omega) (by omega) (by omega) w).mono ?_
  rintro e w' ⟨rfl, rfl⟩
  refine ⟨?_, rfl⟩
  rw [Int.natCast_ediv, Int.natCast_emod, Int.natCast_mul]

/-- The remainders when the first m of the order are taken. -/
def rts (t W : Int) (ws : List Int) (o : List Nat) (m : Nat) : List Int := (List.range ws.length).map fun j => if j ∈ o.take m then -1 else rf t W ws j
theorem rts_length (t W : Int) (ws : List Int) (o : List Nat) (m : Nat) : (rts t W ws o m).length = ws.length := by simp [rts]
theorem rts_get (t W : Int) (ws : List Int) (o : List Nat) (m j : Nat) (hj : j < ws.length) : (rts t W ws o m)[j]? = some (if j ∈ o.take m then -1 else rf t W ws j) := by
  unfold rts
  rw [List.getElem?_map, List.getElem?_range hj]
  rfl
theorem rts_zero (t W : Int) (ws : List Int) (o : List Nat) : rts t W ws o 0 = (List.range ws.length).map (rf t W ws) := by
  unfold rts
  refine List.map_congr_left fun j _ => ?_
  simp
theorem rts_step {t W : Int} {ws : List Int} {o : List Nat} {m b : Nat} (hb : b < ws.length) (he : o.take (m + 1) = o.take m ++ [b]) : rts t W ws o (m + 1) = (rts t W ws o m).set b (-1) := by
  refine List.ext_getElem? fun j => ?_
  rw [List.getElem?_set]
  rcases Nat.lt_or_ge j ws.length with hj | hj
  · rw [rts_get _ _ _ _ _ _ hj, he]
    by_cases hjb : b = j
    · subst hjb
      rw [if_pos rfl, if_pos (show b ∈ o.take m ++ [b] by simp), if_pos (show b < (rts t W ws o m).length by rw [rts_length]; exact hj)]
    · rw [if_neg hjb, rts_get _ _ _ _ _ _ hj]
      have : j ≠ b := fun h => hjb h.symm
      simp [this]
  · rw [List.getElem?_eq_none (by rw [rts_length]; exact hj)]
    split
    · split
      · rw [rts_length] at *; omega
      · rfl
    · rw [List.getElem?_eq_none (by rw [rts_length]; exact hj)]
theorem rts_bnd {t W : Int} {ws : List Int} (h : WOk W ws) (o : List Nat) (m j : Nat) : -1 ≤ (if j ∈ o.take m then -1 else rf t W ws j) ∧ (if j ∈ o.take m then -1 else rf t W ws j) ≤ W := by
  have := rf_bnd (t := t) h j
  have := h.pos
  split <;> omega
/-- best is the first greatest of the remainders that are left: the m-th of the order. -/
theorem best_next {t W : Int} {ws : List Int} {o : List Nat} {m b : Nat} (hW : WOk W ws) (ho : IsOrd (rf t W ws) ws.length o) (hm : m < ws.length) (hb : b < ws.length)
    (hmax : ∀ i x y, (rts t W ws o m)[i]? = some x → (rts t W ws o m)[b]? = some y → x ≤ y ∧ (i < b → x < y)) : b ∉ o.take m ∧ o.take (m + 1) = o.take m ++ [b] := by
  have hl := ho.length
  have hbn : b ∉ o.take m := by
    intro hbm
    have hnd := ho.nodup
    obtain ⟨j, hj⟩ : ∃ j, o[m]? = some j := ⟨_, List.getElem?_eq_getElem (by omega)⟩
    have hjn := ho.lt (List.mem_of_getElem? hj)
    have hjm : j ∉ o.take m := by
      have e : o.take (m + 1) = o.take m ++ [j] := by rw [List.take_add_one, hj]; rfl
      rw [← List.take_append_drop (m + 1) o, e, List.append_assoc] at hnd
      have := (List.nodup_append.1 hnd).2.2
      exact fun hmem => this j hmem j (by simp) rfl
    have h1 := rts_get t W ws o m j hjn
    have h2 := rts_get t W ws o m b hb
    rw [if_neg hjm] at h1
    rw [if_pos hbm] at h2
    have := (hmax j _ _ h1 h2).1
    have := (rf_bnd (t := t) hW j).1
    omega
  refine ⟨hbn, ho.next hm hb hbn fun i hi hin hbef => ?_⟩
  have h1 := rts_get t W ws o m i hi
  have h2 := rts_get t W ws o m b hb
  rw [if_neg hin] at h1
  rw [if_neg hbn] at h2
  have := hmax i _ _ h1 h2
  unfold bef at hbef
  omega

/-- The state of the reference's second phase. -/
structure RS (w0 : World) (gP gR : Nat) (P R : List Int) (w : World) : Prop where
  below : Below w0.heap.size w0 w
  base : w0.heap.size ≤ gP ∧ w0.heap.size ≤ gR ∧ gP ≠ gR
  hP : Hc w gP P
  hR : Hc w gR R
theorem RS.setP {w0 w : World} {gP gR : Nat} {P R : List Int} (h : RS w0 gP gR P R w) (i : Nat) (x : Int) (hi : i < P.length) : RS w0 gP gR (P.set i x) R (w.setCell ⟨gP, i, none⟩ (.int .i64 x)) :=
  ⟨Below.setCell h.below (show w0.heap.size ≤ gP from h.base.1) _, h.base, h.hP.put i x hi, h.hR.other _ _ (fun e => h.base.2.2 e.symm)⟩
theorem RS.setR {w0 w : World} {gP gR : Nat} {P R : List Int} (h : RS w0 gP gR P R w) (i : Nat) (x : Int) (hi : i < R.length) : RS w0 gP gR P (R.set i x) (w.setCell ⟨gR, i, none⟩ (.int .i64 x)) :=
  ⟨Below.setCell h.below (show w0.heap.size ≤ gR from h.base.2.1) _, h.base, h.hP.other _ _ h.base.2.2, h.hR.put i x hi⟩
theorem RS.on {w0 w w' : World} {gP gR : Nat} {P R : List Int} (h : RS w0 gP gR P R w) (hb : Below w.heap.size w w') : RS w0 gP gR P R w' := by
  refine ⟨btrans h.below hb, h.base, ?_, ?_⟩
  · obtain ⟨cur, hh, ht⟩ := h.hP
    exact ⟨cur, (hb.block _ h.hP.lt).trans hh, ht⟩
  · obtain ⟨cur, hh, ht⟩ := h.hR
    exact ⟨cur, (hb.block _ h.hR.lt).trans hh, ht⟩

theorem two_start (w : World) : Two w (.slice (some ⟨w.heap.size, 0, none⟩) 0 0) (.slice (some ⟨w.heap.size + 1, 0, none⟩) 0 0) [] [] ((w.alloc (.cells #[] 3)).alloc (.cells #[] 3)) := by
  have s1 : (w.alloc (.cells #[] 3)).heap.size = w.heap.size + 1 := World.size_alloc ..
  have h2 := own_new w.heap.size (w.alloc (.cells #[] 3)) (by omega)
  rw [s1] at h2
  refine ⟨btrans (ball (Below.refl _ _) _) (ball (Below.refl _ _) _), (own_new w.heap.size w (Nat.le_refl _)).on (ball (Below.refl _ _) _), h2, ?_, ⟨_, rfl⟩, ⟨_, rfl⟩⟩
  simp [Value.ownBlock]

set_option maxRecDepth 100000 in
set_option maxHeartbeats 8000000 in
theorem rshare_any (total : Int) (ws : List Int) (v : Value) (w : World) (E : Int) (hE : ShErr total ws E) (ord : List Nat) (hord : E = 0 → IsOrd (rf (absT total) ws.sum ws) ws.length ord) (h : Hl (fun k => k < w.heap.size) w v ws) :
    Calls Tryz.prog 24 #[.int .i64 total, v] w fun e w' => ∃ sv, e = .returned (.tuple #[sv, .int .i64 E]) ∧ Below w.heap.size w w' ∧ (E ≠ 0 → sv = .slice none 0 0) ∧ (E = 0 → Hl (fun k => k < w'.heap.size) w' sv (shl total ws ord)) := by
  obtain ⟨E0, hE0, hE1, hE2⟩ := hE
  have HWT := Lib.hid (weights_any ws v w E0 hE0 h)
  have HIN := rin_any total
  obtain ⟨oa, c, rfl⟩ := h.shape
  obtain ⟨n, hn⟩ : ∃ n, ws.length = n := ⟨_, rfl⟩
  by_cases h0 : E0 = 0
  · subst h0
    obtain ⟨hl256, hok⟩ := werr_ok hE0
    by_cases hr : inR total
    · have hEE := (hE2 rfl).1 hr
      subst hEE
      have hWO := wok_WOk hok hl256
      have ho := hord rfl
      have hab := absT_bnd hr
      have HTO := total_any ws (.slice oa ws.length c) w h hl256 hok.1
      have HABS := abs_any total hr
      rw [show absI total = absT total from rfl] at HABS
      have hneg' := in_neg hr
      obtain ⟨S, hS⟩ : ∃ S, ws.sum = S := ⟨_, rfl⟩
      obtain ⟨T, hT⟩ : ∃ T, absT total = T := ⟨_, rfl⟩
      rw [hS] at hWO HTO ho
      rw [hT] at HABS ho hab
      rw [decide_eq_true hr] at HIN
      rw [hn] at h HTO HWT hl256 ho ⊢
      replace HTO := Lib.hid HTO; replace HABS := Lib.hid HABS; replace HIN := Lib.hid HIN
      have HN := Lib.hid hn; have HH := Lib.hid h; have HWO := Lib.hid hWO; have HO := Lib.hid ho; have HS := Lib.hid hS; have HT := Lib.hid hT; have HAB := Lib.hid hab; have HRR := Lib.hid hr
      have h256 := hl256
      have HT2 := Lib.hid (two_start w)
      clear hn h hWO ho hS hT hab hr hE0 hE1 hE2 hok hord hl256 hneg'
      go_enter Tryz.func24, Tryz.ntmps24
      go_wp2_with fail
      refine HWT.out.mono ?_
      rintro e w' ⟨rfl, rfl⟩
      go_wp2_with fail
      refine (HIN.out _).mono ?_
      rintro e w' ⟨rfl, rfl⟩
      go_wp2_with fail
      refine HTO.out.mono ?_
      rintro e w' ⟨rfl, rfl⟩
      go_wp2_with fail
      refine (HABS.out _).mono ?_
      rintro e w' ⟨rfl, rfl⟩
      go_wp2
      generalize hWS : (w.alloc (.cells #[] 3)).alloc (.cells #[] 3) = wS at *
      clear hWS HTO
      go_loopw [8, 9, 10, 11] (fun s p q i wr => ∃ (k : Nat) (x : Int), k ≤ n ∧ s = .int .i64 x ∧ i = .int .i64 (k : Int) ∧ Hid (x = lf T S ws k) ∧ Hid (Two w p q ((List.range k).map (qf T S ws)) ((List.range k).map (rf T S ws)) wr)) (fun _ _ _ i _ => n - (intOf i).toNat)
      case atStart => exact ⟨0, T, by omega, rfl, rfl, Lib.hid (by simp [lf, sig]), Lib.hid HT2.out⟩
      case round =>
        obtain ⟨k, x, hk, rfl, rfl, HX, HTW⟩ := hrel
        by_cases hlt : k < n
        · have hlt2 : (k : Int) < (n : Int) := by omega
          obtain ⟨g, off, y, rfl, hg, hy, hyi, c0, hcap⟩ := HH.out.pick k (by have := HN.out; omega)
          have c1 : wr.cell? ⟨g, off + k, none⟩ = some (.int .i64 y) := (HTW.out.below.cell (p := ⟨g, off + k, none⟩) hg).trans c0
          have hyd : ws.getD k 0 = y := by rw [List.getD_eq_getElem?_getD, hy]; rfl
          have y0 := (HWO.out.at k).1
          have y2 := HWO.out.le k
          rw [hyd] at y0 y2
          have hp := HWO.out.pos
          have hm := HWO.out.most
          have q0 := qf_bnd HWO.out HAB.out.1 k
          have l1 := lf_mid HWO.out HAB.out.1 k (by have := HN.out; omega)
          have l2 := lf_step T S ws k
          have hprop : ∀ w, Calls Tryz.prog 35 #[.int .i64 T, .int .i64 y, .int .i64 S] w fun e w' => e = .returned (.tuple #[.int .i64 (qf T S ws k), .int .i64 (rf T S ws k)]) ∧ w = w' := by
            have := muldivI_any T y S HAB.out.1 HAB.out.2 y0 y2 hp hm
            rw [← hyd] at this
            rw [← hyd]
            exact this
          obtain ⟨q, hq⟩ : ∃ q, qf T S ws k = q := ⟨_, rfl⟩
          obtain ⟨r, hr⟩ : ∃ r, rf T S ws k = r := ⟨_, rfl⟩
          rw [hq] at hprop q0 l2
          rw [hr] at hprop
          have HPR := Lib.hid hprop
          have w1 : IntKind.i64.wrap (x - q) = x - q := by
            have := HAB.out.2
            rw [HX.out]
            exact wrap_in (by omega) (by omega)
          have HX2 : Hid (x - q = lf T S ws (k + 1)) := Lib.hid (by rw [l2, HX.out])
          have eP : (List.range (k + 1)).map (qf T S ws) = (List.range k).map (qf T S ws) ++ [q] := by rw [List.range_succ, List.map_append, ← hq]; rfl
          have eR : (List.range (k + 1)).map (rf T S ws) = (List.range k).map (rf T S ws) ++ [r] := by rw [List.range_succ, List.map_append, ← hr]; rfl
          have HEP := Lib.hid eP; have HER := Lib.hid eR
          clear hyd y0 y2 hp hm q0 l1 l2 hprop hq hr eP eR hy HX c0
          go_wp2_with fail
          have hS0 : wr.drew.cell? ⟨g, off + k, none⟩ = some (.int .i64 y) := by rw [World.cell?_drew]; exact c1
          refine wp_region_held_drew (S := fun w' => w'.cell? ⟨g, off + k, none⟩ = some (.int .i64 y)) (by kernel_rfl) hS0 (fun hHeld => ?_)
          change wpAnyH _ _ _ _ _ 13 #[false, false, false, false, false, false, false, false, false, false, false, false, false] _ _
          have HT3 := Lib.hid (HTW.out.on (Below.drew (Below.refl _ _)))
          clear HTW c1 hS0
          generalize wr.drew = w7 at *
          refine wpAnyH_take (i := 0) (oi := _) (v := .int .i64 total) rfl (by kernel_rfl) (by kernel_rfl) (by kernel_rfl) (fun _ _ _ h => h) (Or.inl ⟨by rfl, fun wx hSw => ?_⟩) (by assumption) ?_
          · go_simp
          (try simp only [Act.put, List.setIfInBounds_toArray, List.set_cons_zero, List.set_cons_succ, List.getElem_toArray, List.getElem_cons_zero, List.getElem_cons_succ])
          refine wpAnyH_take (i := 2) (oi := _) (v := .slice (some ⟨g, off, none⟩) n c) rfl (by kernel_rfl) (by kernel_rfl) (by kernel_rfl) (fun _ _ _ h => h) (Or.inl ⟨by rfl, fun wx hSw => ?_⟩) (by assumption) ?_
          · go_simp
          (try simp only [Act.put, List.setIfInBounds_toArray, List.set_cons_zero, List.set_cons_succ, List.getElem_toArray, List.getElem_cons_zero, List.getElem_cons_succ])
          refine wpAnyH_take (i := 3) (oi := _) (v := .int .i64 (k : Int)) rfl (by kernel_rfl) (by kernel_rfl) (by kernel_rfl) (fun _ _ _ h => h) (Or.inl ⟨by rfl, fun wx hSw => ?_⟩) (by assumption) ?_
          · go_simp
          (try simp only [Act.put, List.setIfInBounds_toArray, List.set_cons_zero, List.set_cons_succ, List.getElem_toArray, List.getElem_cons_zero, List.getElem_cons_succ])
          refine wpAnyH_take (i := 4) (oi := _) (v := .pointer (some ⟨g, off + k, none⟩)) rfl (by kernel_rfl) (by kernel_rfl) (by kernel_rfl) (fun _ _ _ h => h) (Or.inl ⟨by rfl, fun wx hSw => ?_⟩) (by assumption) ?_
          · go_simp
          (try simp only [Act.put, List.setIfInBounds_toArray, List.set_cons_zero, List.set_cons_succ, List.getElem_toArray, List.getElem_cons_zero, List.getElem_cons_succ])
          refine wpAnyH_take (i := 5) (oi := _) (v := .int .i64 y) rfl (by kernel_rfl) (by kernel_rfl) (by kernel_rfl) (fun _ _ _ h => h) (Or.inl ⟨by rfl, fun wx hSw => ?_⟩) (by assumption) ?_
          · replace hSw : wx.cell? ⟨g, off + k, none⟩ = some (.int .i64 y) := hSw; clear hHeld; go_simp
          (try simp only [Act.put, List.setIfInBounds_toArray, List.set_cons_zero, List.set_cons_succ, List.getElem_toArray, List.getElem_cons_zero, List.getElem_cons_succ])
          refine wpAnyH_take (i := 6) (oi := _) (v := .int .i64 S) rfl (by kernel_rfl) (by kernel_rfl) (by kernel_rfl) (fun _ _ _ h => h) (Or.inl ⟨by rfl, fun wx hSw => ?_⟩) (by assumption) ?_
          · go_simp
          (try simp only [Act.put, List.setIfInBounds_toArray, List.set_cons_zero, List.set_cons_succ, List.getElem_toArray, List.getElem_cons_zero, List.getElem_cons_succ])
          refine wpAnyH_ready (rs := [1]) (by kernel_rfl) (by simp) ?_
          refine AllReadyH.cons (o := _) rfl (fun K hK => ?_) AllReadyH.nil
          go_simp
          refine (HABS.out _).mono ?_
          rintro e wy ⟨rfl, rfl⟩
          go_wp2_with fail
          refine hK.out _ _ hHeld (fun hHeld => ?_)
          clear hK K
          (try simp only [Act.put, List.setIfInBounds_toArray, List.set_cons_zero, List.set_cons_succ, List.getElem_toArray, List.getElem_cons_zero, List.getElem_cons_succ])
          refine wpAnyH_ready (rs := [7]) (by kernel_rfl) (by simp) ?_
          refine AllReadyH.cons (o := _) rfl (fun K hK => ?_) AllReadyH.nil
          go_simp
          refine (HPR.out _).mono ?_
          rintro e wy ⟨rfl, rfl⟩
          go_wp2_with fail
          refine hK.out _ _ hHeld (fun hHeld => ?_)
          clear hK K
          (try simp only [Act.put, List.setIfInBounds_toArray, List.set_cons_zero, List.set_cons_succ, List.getElem_toArray, List.getElem_cons_zero, List.getElem_cons_succ])
          refine wpAnyH_take (i := 8) (oi := _) (v := .tuple #[.int .i64 q, .int .i64 r]) rfl (by kernel_rfl) (by kernel_rfl) (by kernel_rfl) (fun _ _ _ h => h) (Or.inl ⟨by rfl, fun wx hSw => ?_⟩) (by assumption) ?_
          · go_simp
          (try simp only [Act.put, List.setIfInBounds_toArray, List.set_cons_zero, List.set_cons_succ, List.getElem_toArray, List.getElem_cons_zero, List.getElem_cons_succ])
          refine wpAnyH_take (i := 9) (oi := _) (v := .int .i64 q) rfl (by kernel_rfl) (by kernel_rfl) (by kernel_rfl) (fun _ _ _ h => h) (Or.inl ⟨by rfl, fun wx hSw => ?_⟩) (by assumption) ?_
          · go_simp
          (try simp only [Act.put, List.setIfInBounds_toArray, List.set_cons_zero, List.set_cons_succ, List.getElem_toArray, List.getElem_cons_zero, List.getElem_cons_succ])
          refine wpAnyH_take (i := 10) (oi := _) (v := .int .i64 r) rfl (by kernel_rfl) (by kernel_rfl) (by kernel_rfl) (fun _ _ _ h => h) (Or.inl ⟨by rfl, fun wx hSw => ?_⟩) (by assumption) ?_
          · go_simp
          (try simp only [Act.put, List.setIfInBounds_toArray, List.set_cons_zero, List.set_cons_succ, List.getElem_toArray, List.getElem_cons_zero, List.getElem_cons_succ])
          refine wpAnyH_take (i := 11) (oi := _) (v := .int .i64 q) rfl (by kernel_rfl) (by kernel_rfl) (by kernel_rfl) (fun _ _ _ h => h) (Or.inl ⟨by rfl, fun wx hSw => ?_⟩) (by assumption) ?_
          · go_simp
          (try simp only [Act.put, List.setIfInBounds_toArray, List.set_cons_zero, List.set_cons_succ, List.getElem_toArray, List.getElem_cons_zero, List.getElem_cons_succ])
          refine wpAnyH_take (i := 12) (oi := _) (v := .int .i64 r) rfl (by kernel_rfl) (by kernel_rfl) (by kernel_rfl) (fun _ _ _ h => h) (Or.inl ⟨by rfl, fun wx hSw => ?_⟩) (by assumption) ?_
          · go_simp
          (try simp only [Act.put, List.setIfInBounds_toArray, List.set_cons_zero, List.set_cons_succ, List.getElem_toArray, List.getElem_cons_zero, List.getElem_cons_succ])
          refine wpAnyH_done (by kernel_rfl) ?_ _
          clear hHeld
          obtain ⟨v1, w1', hr1, ht1⟩ := HT3.out.pushP q (by rw [List.length_map, List.length_range]; omega)
          have HR1 := Lib.hid hr1; have HT4 := Lib.hid ht1
          clear hr1 ht1 HT3
          obtain ⟨v2, w2', hr2, ht2⟩ := HT4.out.pushR r (by rw [List.length_map, List.length_range]; omega)
          have HR2 := Lib.hid hr2; have HT5 := Lib.hid ht2
          clear hr2 ht2 HT4
          go_wp2_with (first | (at_builtin; refine wp_appi rfl rfl rfl (.tmp 48) (.tmp 50) rfl rfl rfl HR1.out ?_) | (at_builtin; refine wp_appi rfl rfl rfl (.tmp 52) (.tmp 54) rfl rfl rfl HR2.out ?_))
          go_roundw
          case rel => exact ⟨k + 1, x - q, by omega, rfl, by go_num, HX2, Lib.hid (by rw [HEP.out, HER.out]; exact HT5.out)⟩
          case measure => simp [intOf]; omega
        · obtain rfl : k = n := by omega
          have hlt2 : ¬ ((k : Int) < (k : Int)) := by omega
          obtain ⟨gP, hgP⟩ := HTW.out.sP
          obtain ⟨gR, hgR⟩ := HTW.out.sR
          obtain ⟨cP, eP, lP, bP, hcP⟩ := HTW.out.hP.hc hgP
          obtain ⟨cR, eR, lR, bR, hcR⟩ := HTW.out.hR.hc hgR
          have hne : gP ≠ gR := fun e => HTW.out.ne (by rw [hgP, hgR, e])
          have hRS : RS w gP gR (pts T S ws ord 0) (rts T S ws ord 0) wr := ⟨HTW.out.below, ⟨bP, bR, hne⟩, by rw [pts_zero, HN.out]; exact hcP, by rw [rts_zero, HN.out]; exact hcR⟩
          rw [List.length_map, List.length_range] at eP lP eR lR
          have hb := lf_bnd (t := T) HWO.out
          rw [HN.out] at hb
          obtain ⟨kk, hkk⟩ : ∃ kk : Nat, (lf T S ws k).toNat = kk := ⟨_, rfl⟩
          have hx2 : x = (kk : Int) := by rw [HX.out, ← hkk]; omega
          have hkn : kk ≤ k := by omega
          have HKK := Lib.hid hkk; have HRS := Lib.hid hRS; have HLP := Lib.hid lP; have HBP := Lib.hid bP
          subst hx2 eP eR
          clear hb hkk HX HTW hgP hgR bP bR hne hRS hcP hcR lP
          go_wp2
          go_loopw [8] (fun s wr => ∃ m : Nat, m ≤ kk ∧ s = .int .i64 ((kk : Int) - (m : Int)) ∧ Hid (RS w gP gR (pts T S ws ord m) (rts T S ws ord m) wr)) (fun s _ => (intOf s).toNat)
          case atStart => exact ⟨0, by omega, by simp, HRS⟩
          case round =>
            obtain ⟨m, hm, rfl, HR⟩ := hrel
            by_cases hmk : m < kk
            · have hpos : (0 : Int) < (kk : Int) - (m : Int) := by omega
              obtain ⟨wo, hwo⟩ : ∃ wo, wo = wr := ⟨_, rfl⟩
              subst hwo
              go_wp2
              go_loopw [14, 15] (fun p q w2 => ∃ (b i : Nat), i ≤ k ∧ b < k ∧ b ≤ i ∧ p = .int .i64 (b : Int) ∧ q = .int .i64 (i : Int) ∧ Hid (∀ j x y, j < i → (rts T S ws ord m)[j]? = some x → (rts T S ws ord m)[b]? = some y → x ≤ y ∧ (j < b → x < y)) ∧ Hid (Below wo.heap.size wo w2)) (fun _ q _ => k - (intOf q).toNat)
              case atStart => exact ⟨0, 0, by omega, by omega, by omega, rfl, rfl, Lib.hid (fun j x y hj => by omega), Lib.hid (Below.refl _ _)⟩
              case round =>
                obtain ⟨b, i, hi, hbk, hbi, rfl, rfl, HM, HBW⟩ := hrel
                by_cases hik : i < k
                · have hik2 : (i : Int) < (k : Int) := by omega
                  have hbk2 : (b : Int) < (k : Int) := by omega
                  obtain ⟨x, hx⟩ : ∃ x, (rts T S ws ord m)[i]? = some x := ⟨_, List.getElem?_eq_getElem (by rw [rts_length, HN.out]; exact hik)⟩
                  obtain ⟨y, hy⟩ : ∃ y, (rts T S ws ord m)[b]? = some y := ⟨_, List.getElem?_eq_getElem (by rw [rts_length, HN.out]; exact hbk)⟩
                  have hRS2 := HR.out.on HBW.out
                  have c0 := hRS2.hR.cell hx
                  have c1 := hRS2.hR.cell hy
                  by_cases hxy : y < x
                  · have hM2 : Hid (∀ j z y, j < i + 1 → (rts T S ws ord m)[j]? = some z → (rts T S ws ord m)[i]? = some y → z ≤ y ∧ (j < i → z < y)) := Lib.hid (by
                      intro j z y' hj hz hy'
                      rw [hx] at hy'
                      cases hy'
                      rcases Nat.lt_or_ge j i with hji | hji
                      · have := HM.out j z y hji hz hy
                        omega
                      · obtain rfl : j = i := by omega
                        rw [hx] at hz
                        cases hz
                        omega)
                    have d1 : decide (x > y) = true := decide_eq_true hxy
                    clear hx hy hRS2 HM hxy
                    go_wp2_with fail
                    go_quiet (fail)
                    have HD : Hid (Below wo.heap.size wo (wr.drewN nq)) := Lib.hid (bdrewN HBW.out nq)
                    clear c0 c1 HBW
                    generalize wr.drewN nq = w7 at *
                    go_wp2
                    go_roundw
                    case rel => exact ⟨i, i + 1, by omega, by omega, by omega, rfl, by go_num, hM2, HD⟩
                    case measure => simp [intOf]; omega
                  · have hM2 : Hid (∀ j z y, j < i + 1 → (rts T S ws ord m)[j]? = some z → (rts T S ws ord m)[b]? = some y → z ≤ y ∧ (j < b → z < y)) := Lib.hid (by
                      intro j z y' hj hz hy'
                      rw [hy] at hy'
                      cases hy'
                      rcases Nat.lt_or_ge j i with hji | hji
                      · exact HM.out j z y hji hz hy
                      · obtain rfl : j = i := by omega
                        rw [hx] at hz
                        cases hz
                        omega)
                    have d1 : decide (x > y) = false := decide_eq_false hxy
                    clear hx hy hRS2 HM
                    go_wp2_with fail
                    go_quiet (fail)
                    have HD : Hid (Below wo.heap.size wo (wr.drewN nq)) := Lib.hid (bdrewN HBW.out nq)
                    clear c0 c1 HBW
                    generalize wr.drewN nq = w7 at *
                    go_wp2
                    go_roundw
                    case rel => exact ⟨b, i + 1, by omega, by omega, by omega, rfl, by go_num, hM2, HD⟩
                    case measure => simp [intOf]; omega
                · obtain rfl : i = k := by omega
                  have hik2 : ¬ ((i : Int) < (i : Int)) := by omega
                  have hbk2 : (b : Int) < (i : Int) := by omega
                  obtain ⟨hbn, htk⟩ := best_next HWO.out (by rw [HN.out]; exact HO.out) (m := m) (by rw [HN.out]; omega) (by rw [HN.out]; exact hbk) (fun j x y hx hy => HM.out j x y (by have := (List.getElem?_eq_some_iff.1 hx).1; rw [rts_length, HN.out] at this; exact this) hx hy)
                  have hRS2 := HR.out.on HBW.out
                  have hpg := pts_get T S ws ord m b (by rw [HN.out]; exact hbk)
                  rw [if_neg hbn, Int.add_zero] at hpg
                  have hst := pts_step (t := T) (W := S) (ws := ws) (by rw [HN.out]; exact hbk) htk hbn
                  have hst2 := rts_step (t := T) (W := S) (ws := ws) (by rw [HN.out]; exact hbk) htk
                  have hqb := qf_bnd HWO.out HAB.out.1 b
                  obtain ⟨q, hq⟩ : ∃ q, qf T S ws b = q := ⟨_, rfl⟩
                  rw [hq] at hpg hst hqb
                  have c0 := hRS2.hP.cell hpg
                  have f0 := hRS2.hP.free b
                  have hRS3 := hRS2.setP b (q + 1) (by rw [pts_length, HN.out]; exact hbk)
                  rw [← hst] at hRS3
                  obtain ⟨r, hrg⟩ : ∃ r, (rts T S ws ord m)[b]? = some r := ⟨_, List.getElem?_eq_getElem (by rw [rts_length, HN.out]; exact hbk)⟩
                  have c1 : (wr.setCell ⟨gP, b, none⟩ (.int .i64 (q + 1))).cell? ⟨gR, b, none⟩ = some (.int .i64 r) := hRS3.hR.cell hrg
                  have f1 : (wr.setCell ⟨gP, b, none⟩ (.int .i64 (q + 1))).frozen? ⟨gR, b, none⟩ = false := hRS3.hR.free b
                  have hRS4 := hRS3.setR b (-1) (by rw [rts_length, HN.out]; exact hbk)
                  rw [← hst2] at hRS4
                  have w1 : IntKind.i64.wrap (q + 1) = q + 1 := by
                    have := HAB.out.2
                    exact wrap_in (by omega) (by omega)
                  have w2' : IntKind.i64.wrap ((kk : Int) - (m : Int) - 1) = (kk : Int) - (m : Int) - 1 := wrap_in (by omega) (by omega)
                  have HF := Lib.hid hRS4
                  clear hbn htk hRS2 hpg hst hst2 hqb hq hRS3 hrg hRS4 HM HBW HR
                  go_wp2
                  refine ⟨⟨m + 1, by omega, congrArg (Value.int IntKind.i64) (by omega), HF⟩, ?_⟩
                  simp [intOf]; omega
            · obtain rfl : m = kk := by omega
              have hpos : ¬ (0 : Int) < (m : Int) - (m : Int) := by omega
              obtain ⟨L, hL⟩ : ∃ L, pts T S ws ord m = L := ⟨_, rfl⟩
              have hrs := HR.out
              rw [hL] at hrs
              have hLl : L.length = k := by rw [← hL, pts_length, HN.out]
              have hLb : ∀ x ∈ L, 0 ≤ x ∧ x ≤ 9007199254740993 := by
                intro x hx
                rw [← hL] at hx
                have := pts_bnd HWO.out (t := T) HAB.out.1 _ _ x hx
                have := HAB.out.2
                omega
              have HL := Lib.hid hL; have HLL := Lib.hid hLl; have HLB := Lib.hid hLb; have HRS3 := Lib.hid hrs
              clear hL hLl hLb hrs HR HRS
              by_cases hneg : total < 0
              · have HNG := Lib.hid hneg
                have ea : T = -total := by rw [← HT.out]; exact if_pos hneg
                have HEA := Lib.hid ea
                clear ea
                go_wp2
                go_loopw [16] (fun i wr => ∃ j0 : Nat, j0 ≤ k ∧ i = .int .i64 (j0 : Int) ∧ Hid (Below w.heap.size w wr ∧ ∃ L2, Hc wr gP L2 ∧ L2.length = k ∧ (∀ j x, j < j0 → L[j]? = some x → L2[j]? = some (-x)) ∧ (∀ j, j0 ≤ j → L2[j]? = L[j]?))) (fun i _ => k - (intOf i).toNat)
                case atStart => exact ⟨0, by omega, rfl, Lib.hid ⟨HRS3.out.below, L, HRS3.out.hP, HLL.out, fun j x hj => (by omega), fun j _ => rfl⟩⟩
                case round =>
                  obtain ⟨j0, hj0, rfl, HQ⟩ := hrel
                  by_cases hjk : j0 < k
                  · have hjk2 : (j0 : Int) < (k : Int) := by omega
                    obtain ⟨hbl, L2, hr2, hl2, h3, h4⟩ := HQ.out
                    obtain ⟨x, hx⟩ : ∃ x, L[j0]? = some x := ⟨_, List.getElem?_eq_getElem (by have := HLL.out; omega)⟩
                    have hx2 := h4 j0 (Nat.le_refl _)
                    rw [hx] at hx2
                    have c0 := hr2.cell hx2
                    have f0 := hr2.free j0
                    have hxb := HLB.out x (List.mem_of_getElem? hx)
                    have w1 : IntKind.i64.wrap (-x) = -x := wrap_in (by omega) (by omega)
                    have hr3 := hr2.put j0 (-x) (by omega)
                    have hgg := HBP.out
                    have HQ2 : Hid (Below w.heap.size w (wr.setCell ⟨gP, j0, none⟩ (.int .i64 (-x))) ∧ ∃ L2, Hc (wr.setCell ⟨gP, j0, none⟩ (.int .i64 (-x))) gP L2 ∧ L2.length = k ∧ (∀ j x, j < j0 + 1 → L[j]? = some x → L2[j]? = some (-x)) ∧ (∀ j, j0 + 1 ≤ j → L2[j]? = L[j]?)) := by
                      refine Lib.hid ⟨Below.setCell hbl (show w.heap.size ≤ gP from hgg) _, _, hr3, by rw [List.length_set]; exact hl2, fun j y hj hy => ?_, fun j hj => ?_⟩
                      · rw [List.getElem?_set]
                        by_cases hjm : j0 = j
                        · subst hjm
                          rw [if_pos rfl, if_pos (by omega)]
                          rw [hx] at hy
                          cases hy
                          rfl
                        · rw [if_neg hjm]
                          exact h3 j y (by omega) hy
                      · rw [List.getElem?_set, if_neg (by omega)]
                        exact h4 j (by omega)
                    clear hbl hr2 hl2 h3 h4 hx hx2 hxb hr3 hgg HQ
                    go_wp2
                    clear c0 f0
                    generalize wr.setCell ⟨gP, j0, none⟩ (.int .i64 (-x)) = wu at *
                    go_roundw
                    case rel => exact ⟨j0 + 1, by omega, by go_num, HQ2⟩
                    case measure => simp [intOf]; omega
                  · obtain rfl : j0 = k := by omega
                    have hjk2 : ¬ ((j0 : Int) < (j0 : Int)) := by omega
                    obtain ⟨hbl, L2, hr2, hl2, h3, h4⟩ := HQ.out
                    have hL2 : L2 = shl total ws ord := by
                      unfold shl
                      rw [if_pos (show total < 0 by have := HNG.out; omega), HT.out, HS.out, HN.out, HKK.out, HL.out]
                      refine List.ext_getElem? fun j => ?_
                      rcases Nat.lt_or_ge j j0 with hj | hj
                      · obtain ⟨y, hy⟩ : ∃ y, L[j]? = some y := ⟨_, List.getElem?_eq_getElem (by have := HLL.out; omega)⟩
                        rw [List.getElem?_map, hy]
                        exact h3 j y hj hy
                      · rw [List.getElem?_eq_none (by omega), List.getElem?_eq_none (by rw [List.length_map]; have := HLL.out; omega)]
                    have hI : ∀ x ∈ L2, I64 x := by
                      intro x hx
                      rw [hL2] at hx
                      unfold shl at hx
                      rw [if_pos (show total < 0 by have := HNG.out; omega), HT.out, HS.out, HN.out, HKK.out, HL.out] at hx
                      obtain ⟨y, hy, rfl⟩ := List.mem_map.1 hx
                      have := HLB.out y hy
                      exact ⟨by omega, by omega⟩
                    have hh := hr2.hl (c := cP) (by omega) (by have := HLP.out; omega) hI
                    rw [hl2] at hh
                    have HF : Hid (Below w.heap.size w wr ∧ Hl (fun k => k < wr.heap.size) wr (.slice (some ⟨gP, 0, none⟩) j0 cP) (shl total ws ord)) := Lib.hid ⟨hbl, hL2 ▸ hh⟩
                    clear hbl hr2 hl2 h3 h4 hL2 hI hh HQ
                    go_wp2
                    go_ret2
                    exact ⟨_, rfl, HF.out.1, HF.out.2⟩
              · have HNG := Lib.hid hneg
                have hI : ∀ x ∈ L, I64 x := by
                  intro x hx
                  have := HLB.out x hx
                  exact ⟨by omega, by omega⟩
                have hll := HLL.out
                have hh := HRS3.out.hP.hl (c := cP) (by omega) (by have := HLP.out; omega) hI
                rw [hll] at hh
                have hLs : L = shl total ws ord := by
                  unfold shl
                  rw [if_neg hneg, HT.out, HS.out, HN.out, HKK.out, HL.out]
                have HF : Hid (Below w.heap.size w wr ∧ Hl (fun k => k < wr.heap.size) wr (.slice (some ⟨gP, 0, none⟩) k cP) (shl total ws ord)) := Lib.hid ⟨HRS3.out.below, hLs ▸ hh⟩
                clear hI hll hh hLs
                go_wp2
                go_ret2
                exact ⟨_, rfl, HF.out.1, HF.out.2⟩
    · have hE3 := (hE2 rfl).2 hr
      subst hE3
      rw [decide_eq_false hr] at HIN
      replace HIN := Lib.hid HIN
      rw [hn] at HWT ⊢
      clear hE0 hE1 hE2 hord hr h hn hok hl256
      go_enter Tryz.func24, Tryz.ntmps24
      go_wp2_with fail
      refine HWT.out.mono ?_
      rintro e w' ⟨rfl, rfl⟩
      go_wp2_with fail
      refine (HIN.out _).mono ?_
      rintro e w' ⟨rfl, rfl⟩
      go_wp2
      go_ret2
      exact ⟨_, rfl, Below.refl _ _, fun _ => rfl, fun h => by omega⟩
  · have hEE := hE1 h0
    subst hEE
    rw [hn] at HWT ⊢
    have HH0 := Lib.hid h0
    have t0 : (E != 0) = true := by simpa using h0
    clear hE0 hE1 hE2 hord h hn HIN h0
    go_enter Tryz.func24, Tryz.ntmps24
    go_wp2_with fail
    refine HWT.out.mono ?_
    rintro e w' ⟨rfl, rfl⟩
    go_wp2
    go_ret2
    exact ⟨_, rfl, Below.refl _ _, fun _ => rfl, fun h => absurd h HH0.out⟩
end Go.Proofs.YtempnbchiofghaaGreatDoor
