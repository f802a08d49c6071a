/-
  Walk of the reference: Bytes.
-/
import Derived.Test.YtjhjcigappkebaaIn1
import Derived.Deep.CutRange
namespace Go.Proofs.Ytjhjcigappkebaa
set_option linter.unusedVariables false
set_option linter.unusedSimpArgs false
open Go.RowKit

theorem esc_app (a b : List Int) : esc (a ++ b) = esc a ++ esc b := by
  induction a with
  | nil => rfl
  | cons x xs ih =>
    simp only [List.cons_append, esc, ih]
    split <;> simp
theorem esc_nx (b : List Int) (k : Nat) (x : Int) (hx : b[k]? = some x) : esc (b.take (k + 1)) = esc (b.take k) ++ (if x = 0 then [0, 255] else [x]) := by
  rw [List.take_add_one, hx, esc_app]
  congr 1
theorem esc_len (b : List Int) : (esc b).length ≤ 2 * b.length := by
  induction b with
  | nil => simp [esc]
  | cons x xs ih => simp only [esc]; split <;> simp <;> omega
theorem bsTwo (wr : World) : Bs (fun k => k < (wr.alloc (.cells #[.int .u8 0, .int .u8 0] 5)).heap.size) (wr.alloc (.cells #[.int .u8 0, .int .u8 0] 5)) (.slice (some ⟨wr.heap.size, 0, none⟩) 2 2) [0, 0] :=
  ⟨by simp, by intro u hu; simp at hu; omega, some ⟨wr.heap.size, 0, none⟩, 2, rfl, Nat.le_refl _, fun _ => ⟨wr.heap.size, 0, rfl, by simp, fun j u hj => by
    have hj2 : j < 2 := (List.getElem?_eq_some_iff.1 hj).1
    rw [cell_of_row _ wr.heap.size _ _ 5 (0, 0) (heap_alloc_new wr _)]
    rcases (show j = 0 ∨ j = 1 by omega) with rfl | rfl <;> (simp at hj; subst hj; rfl)⟩⟩
theorem enc_k1 (t : T) (h : t.kind = 1) : enc t = encInt t.num := by
  cases t with
  | mk k n b l =>
    have hk : k = 1 := h
    show enc (.mk k n b l) = encInt n
    unfold enc; rw [if_pos hk]
theorem enc_k2 (t : T) (h : t.kind = 2) : enc t = 48 :: (esc t.bs ++ [0, 0]) := by
  cases t with
  | mk k n b l =>
    have hk : k = 2 := h
    show enc (.mk k n b l) = 48 :: (esc b ++ [0, 0])
    unfold enc; rw [if_neg (by omega), if_pos hk]; rfl
theorem enc_k3 (t : T) (h1 : t.kind ≠ 1) (h2 : t.kind ≠ 2) : enc t = 64 :: (encL t.els ++ [0]) := by
  cases t with
  | mk k n b l =>
    have hk1 : k ≠ 1 := h1
    have hk2 : k ≠ 2 := h2
    show enc (.mk k n b l) = 64 :: (encL l ++ [0])
    unfold enc; rw [if_neg hk1, if_neg hk2]

set_option maxRecDepth 100000 in
set_option maxHeartbeats 4000000 in
theorem rbytes_any : ∀ (n : Nat) (t : T), dep t < n → (enc t).length ≤ 100000000 → ∀ (w : World) (a2 : Option Addr) (c2 : Nat) (a3 : Option Addr) (c3 : Nat), Rd (fun k => k < w.heap.size) w t (.agg #[.int .i64 t.kind, .int .i64 t.num, .slice a2 t.bs.length c2, .slice a3 t.els.length c3]) →
    Calls Try.prog 36 #[.agg #[.int .i64 t.kind, .int .i64 t.num, .slice a2 t.bs.length c2, .slice a3 t.els.length c3]] w fun e w' => ∃ u, e = .returned u ∧ PdS w u (enc t) w' := by
  intro n
  induction n with
  | zero => intro t h; omega
  | succ n ih =>
    intro t hd hsz w a2 c2 a3 c3 hr
    have hA := heldBox hr
    have HA := Lib.hid hA; have HSZ := Lib.hid hsz
    have HB := Lib.hid (ball (Below.refl _ _) (Obj.cells #[.int .i64 t.kind, .int .i64 t.num, .slice a2 t.bs.length c2, .slice a3 t.els.length c3] 25) : Below w.heap.size w _)
    obtain ⟨z2, zc2, z3, zc3, hfe, hbs, _, hnum, hl1, hl2, hl3⟩ := hr.form
    simp only [Value.agg.injEq] at hfe
    have hfe' := congrArg Array.toList hfe
    simp only [List.cons.injEq, and_true, Value.slice.injEq, true_and] at hfe'
    obtain ⟨⟨rfl, rfl⟩, rfl, rfl⟩ := hfe'
    clear hfe
    by_cases hk1 : t.kind = 1
    · have hc := fun w' => rinteger_any t.num w' hnum
      rw [enc_k1 t hk1]
      have g1 : (t.kind == 1) = true := by rw [hk1]; rfl
      have HC := Lib.hid hc
      clear ih hd hsz hr hA hbs hl1 hl2 hl3 hc hk1 hnum
      go_enter Try.func36, Try.ntmps36
      obtain ⟨b0, b1, b2, b3⟩ := HA.out.2.1
      go_wp2_with fail
      refine (HC.out _).mono ?_
      rintro e w' ⟨u, rfl, h⟩
      have HF := Lib.hid (h.base HB.out)
      clear h b0 b1 b2 b3
      go_wp2
      go_ret
      exact ⟨_, rfl, HF.out⟩
    have g1 : (t.kind == 1) = false := by rw [beq_eq_false_iff_ne]; exact hk1
    by_cases hk2 : t.kind = 2
    · have g2 : (t.kind == 2) = true := by rw [hk2]; rfl
      rw [enc_k2 t hk2]
      have hbl : 2 * t.bs.length ≤ 281474976710656 := by have := hbs.1; omega
      have hel : (esc t.bs).length ≤ 100000000 := by have h := HSZ.out; rw [enc_k2 t hk2] at h; simp at h; omega
      have HBS := Lib.hid hbs
      have hesc : ∀ k, (esc (t.bs.take k)).length ≤ 100000000 := by
        intro k
        have e : esc t.bs = esc (t.bs.take k) ++ esc (t.bs.drop k) := by rw [← esc_app, List.take_append_drop]
        rw [e, List.length_append] at hel
        omega
      have HESC := Lib.hid hesc
      clear ih hd hsz hr hA hl1 hl2 hl3 hk1 hk2 hnum hel hesc hbs
      go_enter Try.func36, Try.ntmps36
      obtain ⟨b0, b1, b2, b3⟩ := HA.out.2.1
      go_upto_region 3 with fail
      generalize (w.alloc (Obj.cells #[.int .i64 t.kind, .int .i64 t.num, .slice a2 t.bs.length c2, .slice a3 t.els.length c3] 25)) = W at *
      obtain ⟨v6, w6, hr6, h6⟩ := (PdS.new W).pushOne 48 (by omega) (by simp)
      rw [show (W.alloc (.cells #[] 5)).heap.size = W.heap.size + 1 from by simp] at hr6
      have H6 := Lib.hid h6; have R6 := Lib.hid hr6
      clear h6 hr6
      have d0 := ((ball (Below.refl _ _) (.cells #[] 5) : Below W.heap.size W _).cell (p := ⟨w.heap.size, 0, none⟩) HA.out.1).trans b0
      go_wp2_with (first | (at_builtin; refine wp_app rfl rfl rfl (.tmp 16) (.tmp 17) rfl rfl rfl R6.out ?_))
      clear b0 b1 b2 b3 d0
      go_loopw [3, 4] (fun x i wr => ∃ k : Nat, k ≤ t.bs.length ∧ i = .int .i64 k ∧ Hid (PdS W x (48 :: esc (t.bs.take k)) wr)) (fun _ i _ => t.bs.length - (intOf i).toNat)
      case atStart => exact ⟨0, by omega, rfl, H6⟩
      case round =>
        clear H6 R6
        obtain ⟨k, hk, rfl, H⟩ := hrel
        have HAr := Lib.hid (HA.out.below H.out.2)
        obtain ⟨b0, b1, b2, b3⟩ := HAr.out.2.1
        by_cases hlt : k < t.bs.length
        · have hlt2 : (k : Int) < (t.bs.length : Int) := by omega
          obtain ⟨g, off, cap, hv, hcap, hg, hcell⟩ := HBS.out.at (by omega)
          simp only [Value.slice.injEq] at hv
          obtain ⟨rfl, hLL, rfl⟩ := hv
          clear hLL
          obtain ⟨x, hx⟩ : ∃ x, t.bs[k]? = some x := ⟨_, List.getElem?_eq_getElem hlt⟩
          have hxr := HBS.out.2.1 x (List.mem_of_getElem? hx)
          have hnx := esc_nx t.bs k x hx
          have hcw := (HB.out.cell (p := ⟨g, off + k, none⟩) hg).trans (hcell k x hx)
          have hgW : g < W.heap.size := Nat.lt_of_lt_of_le hg HB.out.size
          have hc := (World.cell?_of_block (w := W) (a := ⟨g, off + k, none⟩) (H.out.2.block g hgW)).trans hcw
          have hle := HESC.out k
          obtain ⟨v6, w6, hr6, h6⟩ := H.out.pushOne x hxr (by simp; omega)
          obtain ⟨xa, xc, rfl⟩ := H.out.len
          have HA6 := Lib.hid (HA.out.below h6.2)
          have hc6 := (World.cell?_of_block (w := W) (a := ⟨g, off + k, none⟩) (h6.2.block g hgW)).trans hcw
          have R6 := Lib.hid hr6
          by_cases hx0 : x = 0
          · subst hx0
            rw [if_pos rfl] at hnx
            obtain ⟨v7, w7, hr7, h7⟩ := h6.pushOne 255 (by omega) (by simp; omega)
            have e7 : 48 :: esc (t.bs.take k) ++ [0] ++ [255] = 48 :: esc (t.bs.take (k + 1)) := by rw [hnx]; simp
            rw [e7] at h7
            have H7 := Lib.hid h7; have R7 := Lib.hid hr7
            obtain ⟨f0, f1, f2, f3⟩ := HA6.out.2.1
            clear h6 h7 hr6 hr7 hnx e7 hcell hcw hx
            go_wp2_with (first | (at_builtin; refine wp_app rfl rfl rfl (.tmp 26) (.tmp 32) rfl rfl rfl R6.out ?_) | (at_builtin; refine wp_app rfl rfl rfl (.tmp 40) (.tmp 41) rfl rfl rfl R7.out ?_))
            go_roundw
            case rel => exact ⟨k + 1, by omega, by go_num, H7⟩
            case measure => simp [intOf]; omega
          · rw [if_neg hx0] at hnx
            have e7 : 48 :: esc (t.bs.take k) ++ [x] = 48 :: esc (t.bs.take (k + 1)) := by rw [hnx]; simp
            rw [e7] at h6
            have H7 := Lib.hid h6
            have gx : (x == 0) = false := by rw [beq_eq_false_iff_ne]; exact hx0
            obtain ⟨f0, f1, f2, f3⟩ := HA6.out.2.1
            clear h6 hr6 hnx e7 hcell hcw hx hx0
            go_wp2_with (first | (at_builtin; refine wp_app rfl rfl rfl (.tmp 26) (.tmp 32) rfl rfl rfl R6.out ?_))
            go_roundw
            case rel => exact ⟨k + 1, by omega, by go_num, H7⟩
            case measure => simp [intOf]; omega
        · have hk2 : k = t.bs.length := by omega
          subst hk2
          have hlt2 : ¬ ((t.bs.length : Int) < (t.bs.length : Int)) := by omega
          rw [List.take_length] at H
          have hle := HESC.out t.bs.length
          rw [List.take_length] at hle
          obtain ⟨v6, w6, hr6, h6⟩ := (H.out.next (ball (Below.refl _ _) (.cells #[.int .u8 0, .int .u8 0] 5))).push (fun k => k < (wr.alloc (.cells #[.int .u8 0, .int .u8 0] 5)).heap.size) (u := .slice (some ⟨wr.heap.size, 0, none⟩) 2 2) (b := [0, 0])
            (bsTwo wr) (by simp; omega)
          have e7 : 48 :: esc t.bs ++ [0, 0] = 48 :: (esc t.bs ++ [0, 0]) := rfl
          rw [e7] at h6
          have HF := Lib.hid (h6.base HB.out); have R6 := Lib.hid hr6
          clear h6 hr6 H
          go_wp2_with (first | (at_builtin; refine wp_app rfl rfl rfl (.tmp 43) (.tmp 44) rfl rfl rfl R6.out ?_))
          go_ret
          exact ⟨_, rfl, HF.out⟩
    · have g2 : (t.kind == 2) = false := by rw [beq_eq_false_iff_ne]; exact hk2
      rw [enc_k3 t hk1 hk2]
      have hel : (encL t.els).length ≤ 100000000 := by have h := HSZ.out; rw [enc_k3 t hk1 hk2] at h; simp at h; omega
      have hencL : ∀ k, (encL (t.els.take k)).length ≤ 100000000 := fun k => Nat.le_trans (encL_take_le t.els k) hel
      have hrec : ∀ (k : Nat) (u : T), t.els[k]? = some u → ∀ (w' : World) (x2 : Option Addr) (y2 : Nat) (x3 : Option Addr) (y3 : Nat), Rd (fun k => k < w'.heap.size) w' u (.agg #[.int .i64 u.kind, .int .i64 u.num, .slice x2 u.bs.length y2, .slice x3 u.els.length y3]) →
          Calls Try.prog 36 #[.agg #[.int .i64 u.kind, .int .i64 u.num, .slice x2 u.bs.length y2, .slice x3 u.els.length y3]] w' fun e w'' => ∃ v, e = .returned v ∧ PdS w' v (enc u) w'' := by
        intro k u hu w' x2 y2 x3 y3 h
        refine ih u ?_ (by have := encL_at k u hu; omega) w' x2 y2 x3 y3 h
        have := dep_mem (List.mem_of_getElem? hu)
        have e : dep t = depL t.els + 1 := by cases t; rfl
        omega
      have HREC := Lib.hid hrec; have HEL := Lib.hid hencL; have HL3 := Lib.hid hl3
      clear ih hd hsz hr hA hbs hl2 hl3 hk1 hk2 hnum hel hencL hrec
      go_enter Try.func36, Try.ntmps36
      obtain ⟨b0, b1, b2, b3⟩ := HA.out.2.1
      go_upto_region 3 with fail
      generalize (w.alloc (Obj.cells #[.int .i64 t.kind, .int .i64 t.num, .slice a2 t.bs.length c2, .slice a3 t.els.length c3] 25)) = W at *
      obtain ⟨v6, w6, hr6, h6⟩ := (PdS.new W).pushOne 64 (by omega) (by simp)
      rw [show (W.alloc (.cells #[] 5)).heap.size = W.heap.size + 1 from by simp] at hr6
      have H6 := Lib.hid h6; have R6 := Lib.hid hr6
      clear h6 hr6
      have d0 := ((ball (Below.refl _ _) (.cells #[] 5) : Below W.heap.size W _).cell (p := ⟨w.heap.size, 0, none⟩) HA.out.1).trans b0
      go_wp2_with (first | (at_builtin; refine wp_app rfl rfl rfl (.tmp 46) (.tmp 47) rfl rfl rfl R6.out ?_))
      clear b0 b1 b2 b3 d0
      go_loopw [3, 5] (fun x i wr => ∃ k : Nat, k ≤ t.els.length ∧ i = .int .i64 k ∧ Hid (PdS W x (64 :: encL (t.els.take k)) wr)) (fun _ i _ => t.els.length - (intOf i).toNat)
      case atStart => exact ⟨0, by omega, rfl, H6⟩
      case round =>
        clear H6 R6
        obtain ⟨k, hk, rfl, H⟩ := hrel
        have HAr := Lib.hid (HA.out.below H.out.2)
        obtain ⟨b0, b1, b2, b3⟩ := HAr.out.2.1
        by_cases hlt : k < t.els.length
        · have hlt2 : (k : Int) < (t.els.length : Int) := by omega
          obtain ⟨g, off, rfl, hg, hll⟩ := HL3.out (by omega)
          obtain ⟨u, hu⟩ : ∃ u, t.els[k]? = some u := ⟨_, List.getElem?_eq_getElem hlt⟩
          obtain ⟨x2, y2, x3, y3, c0, c1, c2', c3', hru⟩ := hll.cells k u hu
          have hBw := HB.out.trans (H.out.2.mono HB.out.size)
          have hru2 : Rd (fun k => k < wr.heap.size) wr u (.agg #[.int .i64 u.kind, .int .i64 u.num, .slice x2 u.bs.length y2, .slice x3 u.els.length y3]) := Rd.kept (fun k hk => hBw.block k hk) (fun k hk => Nat.lt_of_lt_of_le hk hBw.size) _ _ hru
          have e0 := (hBw.cell (p := ⟨g, off + k * 4, none⟩) hg).trans c0
          have e1 := (hBw.cell (p := ⟨g, off + k * 4 + 1, none⟩) hg).trans c1
          have e2 := (hBw.cell (p := ⟨g, off + k * 4 + 2, none⟩) hg).trans c2'
          have e3 := (hBw.cell (p := ⟨g, off + k * 4 + 3, none⟩) hg).trans c3'
          have hcl := HREC.out k u hu wr x2 y2 x3 y3 hru2
          have hrg := enc_range u _ hru
          have hul := Nat.le_trans (encL_at k u hu) (by have := HEL.out t.els.length; rw [List.take_length] at this; exact this)
          have hnx : encL (t.els.take (k + 1)) = encL (t.els.take k) ++ enc u := by
            rw [encL_next t.els k hlt]
            have : t.els[k] = u := by rw [List.getElem?_eq_getElem hlt] at hu; exact Option.some.inj hu
            rw [this]
          have HCL := Lib.hid hcl; have HRG := Lib.hid hrg; have HNX := Lib.hid hnx; have HUL := Lib.hid hul
          clear hcl hrg hnx hul hru hru2 hu hll c0 c1 c2' c3' hBw
          go_wp2_with fail
          refine HCL.out.mono ?_
          rintro e w5 ⟨v5, rfl, h5⟩
          obtain ⟨v6, w6, hr6, h6⟩ := (H.out.next h5.2).push _ (h5.bs (by have := HUL.out; omega) HRG.out) (by have := HUL.out; have := HEL.out k; simp; omega)
          rw [List.cons_append, ← HNX.out] at h6
          have H7 := Lib.hid h6; have R6 := Lib.hid hr6
          clear h6 hr6 h5 b0 b1 b2 b3 e0 e1 e2 e3
          go_wp2_with (first | (at_builtin; refine wp_app rfl rfl rfl (.tmp 56) (.tmp 62) rfl rfl rfl R6.out ?_))
          go_roundw
          case rel => exact ⟨k + 1, by omega, by go_num, H7⟩
          case measure => simp [intOf]; omega
        · have hk2 : k = t.els.length := by omega
          subst hk2
          have hlt2 : ¬ ((t.els.length : Int) < (t.els.length : Int)) := by omega
          have hle := HEL.out t.els.length
          rw [List.take_length] at H hle
          obtain ⟨v6, w6, hr6, h6⟩ := H.out.pushOne 0 (by omega) (by simp; omega)
          have e7 : 64 :: encL t.els ++ [0] = 64 :: (encL t.els ++ [0]) := rfl
          rw [e7] at h6
          have HF := Lib.hid (h6.base HB.out); have R6 := Lib.hid hr6
          clear h6 hr6 H
          go_wp2_with (first | (at_builtin; refine wp_app rfl rfl rfl (.tmp 64) (.tmp 65) rfl rfl rfl R6.out ?_))
          go_ret
          exact ⟨_, rfl, HF.out⟩
end Go.Proofs.Ytjhjcigappkebaa
