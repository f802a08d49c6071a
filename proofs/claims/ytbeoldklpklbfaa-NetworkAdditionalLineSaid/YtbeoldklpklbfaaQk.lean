/-
  The statement 'Rows.NetworkAdditionalLineSaid': for all arguments the law returns true; the arguments read as they did.
-/
import Derived.Test.YtbeoldklpklbfaaFx
import Derived.Test.YtbeoldklpklbfaaRm
import Derived.Test.YtbeoldklpklbfaaXh
namespace Go.Proofs.Ytbeoldklpklbfaa.networkAdditionalLine
open Go.ChangeShapes Go.WideShapes Go.ChangeAt Go.RowKit
set_option linter.unusedVariables false
set_option linter.unusedSimpArgs false

theorem line_of {n : Nat} {es : List Ln} {f : Nat} {L : List Int} (h : Tm n es f L) {i : Nat} {x : Ln} (hx : es[i]? = some x) : (dv L x.a < 0 ∧ dv L x.b < 0) ∨ (0 ≤ dv L x.a ∧ 0 ≤ dv L x.b ∧ dv L x.b ≤ dv L x.a + x.m ∧ dv L x.a ≤ dv L x.b + x.m) := by
  obtain ⟨m1, h1, w1⟩ := wt_line hx (show jn x x.a x.b from Or.inl ⟨rfl, rfl⟩)
  obtain ⟨m2, h2, w2⟩ := wt_line hx (show jn x x.b x.a from Or.inr ⟨rfl, rfl⟩)
  have ea := h.2.edge _ _ _ w1
  have eb := h.2.edge _ _ _ w2
  by_cases c : 0 ≤ dv L x.a
  · have := ea c
    have := eb this.1
    exact Or.inr ⟨c, by omega, by omega, by omega⟩
  · refine Or.inl ⟨by omega, ?_⟩
    by_cases d : 0 ≤ dv L x.b
    · have := eb d; omega
    · omega
theorem wt_more (lx : Ln) (es : List Ln) : ∀ p q m, wt es p q = some m → ∃ m', m' ≤ m ∧ wt (lx :: es) p q = some m' := by
  intro p q m h
  obtain ⟨i, hi, hm⟩ := wt_some h
  obtain ⟨x, hx, hj⟩ := fd_line hi
  rw [mi_get hx] at hm
  obtain ⟨m', h1, h2⟩ := wt_line (es := lx :: es) (i := i + 1) (x := x) (by simpa using hx) hj
  exact ⟨m', by omega, h2⟩
theorem chk_tail {ps : List Pc} {x : Ed} {es : List Ed} (h : chk ps (x :: es) = 0) : chk ps es = 0 := by
  unfold chk at h ⊢
  split at h
  · rename_i hl
    simp only [List.length_cons] at hl
    split at h
    · rename_i hb
      simp only [List.all_cons, Bool.and_eq_true] at hb
      rw [if_pos ⟨hl.1, by omega⟩, if_pos (by rw [hb.1, hb.2.2]; rfl)]
    · cases h
  · cases h

set_option maxRecDepth 100000 in
set_option maxHeartbeats 8000000 in
theorem walk (V0 : Value) (ps0 : List Pc) (es0 : List Ed) (x1 : Ed) (a2 : Int) (w : World) (h0 : Nw w V0 ps0 es0) (hbig : (1 + es0.length) * 40 ≤ 140737488355328) (h1 : ∀ y ∈ x1.cs, I64 y) (h2 : I64 a2) :
    Calls Try.prog 11 #[V0, .agg #[.int .i64 x1.a, .int .i64 x1.b, .int .i64 x1.r, .int .i64 x1.m, .int .i64 x1.k], .int .i64 a2] w fun e w' => e = .returned (.bool true) ∧ Below w.heap.size w w' := by
  obtain ⟨xa, xb, xr, xm, xk⟩ := x1
  dsimp only
  obtain ⟨va, vc, vb, vd, rfl, hh1, hh2⟩ := h0.shape
  obtain ⟨n, hn⟩ : ∃ n, n = ps0.length := ⟨_, rfl⟩
  obtain ⟨m, hm⟩ : ∃ m, m = es0.length := ⟨_, rfl⟩
  rw [← hn, ← hm] at h0 ⊢
  rw [← hm] at hbig hh2
  have HN := Lib.hid hn; have HM := Lib.hid hm
  obtain ⟨W, hW⟩ : ∃ W, W = (w.alloc (.cells #[.slice va n vc, .slice vb m vd] 25)).alloc (.cells #[.int .i64 xa, .int .i64 xb, .int .i64 xr, .int .i64 xm, .int .i64 xk] 45) := ⟨_, rfl⟩
  have hB : Below w.heap.size w W := by rw [hW]; exact ball (ball (Below.refl w.heap.size w) _) _
  have e0 : W.heap[w.heap.size]? = some (.cells #[.slice va n vc, .slice vb m vd] 25 (0, 0)) := by rw [hW]; exact bal (bnew _ _) _
  have e1 : W.heap[w.heap.size + 1]? = some (.cells #[.int .i64 xa, .int .i64 xb, .int .i64 xr, .int .i64 xm, .int .i64 xk] 45 (0, 0)) := by
    rw [hW]; have := heap_alloc_new (w.alloc (.cells #[.slice va n vc, .slice vb m vd] 25)) (.cells #[.int .i64 xa, .int .i64 xb, .int .i64 xr, .int .i64 xm, .int .i64 xk] 45); rw [World.size_alloc] at this; exact this
  have HV := Lib.hid (h0.on hB); have HB := Lib.hid hB; have HX := Lib.hid e0; have HXE := Lib.hid e1; have HES := Lib.hid (hh2.on hB); have HBIG := Lib.hid hbig
  have HI := Lib.hid h1; have HA2 := Lib.hid h2
  clear h0 hh1 hh2 hn hm hB e0 e1 hbig h1 h2
  have Hc := Lib.hid (sane_true W)
  go_enter Try.func11, Try.ntmps11
  go_wp2_with fail
  rw [← hW]
  clear hW
  refine Hc.out.mono ?_
  rintro e w1 ⟨rfl, hb⟩
  replace HB := Lib.hid (btrans HB.out hb); replace HV := Lib.hid (HV.out.on hb); replace HX := Lib.hid (bon HX.out hb); replace HXE := Lib.hid (bon HXE.out hb); replace HES := Lib.hid (HES.out.on hb)
  clear hb Hc
  go_upto_region 3 with (fail)
  have hst : (w1.drew.cell? ⟨w.heap.size, 0, none⟩ = some (.slice va n vc) ∧ w1.drew.cell? ⟨w.heap.size, 1, none⟩ = some (.slice vb m vd)) ∧ w1.drew.cell? ⟨w.heap.size + 1, 0, none⟩ = some (.int .i64 xa) ∧ w1.drew.cell? ⟨w.heap.size + 1, 1, none⟩ = some (.int .i64 xb) ∧ w1.drew.cell? ⟨w.heap.size + 1, 2, none⟩ = some (.int .i64 xr) ∧ w1.drew.cell? ⟨w.heap.size + 1, 3, none⟩ = some (.int .i64 xm) ∧ w1.drew.cell? ⟨w.heap.size + 1, 4, none⟩ = some (.int .i64 xk) := ⟨box2 HX.out, box5 HXE.out⟩
  have HST := Lib.hid hst
  clear hst
  go_cut [7] from 15 to 22 (fun s7 wx => ∃ (M : Nat) (v' : Value), s7 = .pointer (some ⟨M, 0, none⟩) ∧ OwE w1.heap.size wx v' (⟨xa, xb, xr, xm, xk⟩ :: es0) ∧ Below w1.heap.size w1 wx ∧ wx.heap[M]? = some (.cells #[.slice va n vc, v'] 25 (0, 0)))
  case first =>
    refine wp_region_held_drew (S := fun w' => (w'.cell? ⟨w.heap.size, 0, none⟩ = some (.slice va n vc) ∧ w'.cell? ⟨w.heap.size, 1, none⟩ = some (.slice vb m vd)) ∧ w'.cell? ⟨w.heap.size + 1, 0, none⟩ = some (.int .i64 xa) ∧ w'.cell? ⟨w.heap.size + 1, 1, none⟩ = some (.int .i64 xb) ∧ w'.cell? ⟨w.heap.size + 1, 2, none⟩ = some (.int .i64 xr) ∧ w'.cell? ⟨w.heap.size + 1, 3, none⟩ = some (.int .i64 xm) ∧ w'.cell? ⟨w.heap.size + 1, 4, none⟩ = some (.int .i64 xk)) (by kernel_rfl) HST.out (fun hHeld => ?_)
    change wpAnyH _ _ _ _ _ 10 #[false, false, false, false, false, false, false, false, false, false] _ _
    refine wpAnyH_take (i := 0) (oi := _) (v := .pointer (some ⟨w.heap.size, 0, none⟩)) rfl (by kernel_rfl) (by kernel_rfl) (by kernel_rfl) (fun _ _ _ h => h) (Or.inl ⟨by rfl, fun wx hSw => ?_⟩) (by assumption) ?_
    · go_simp
      try (first | omega | (rw [IntKind.wrap_i64]; omega))
    (try simp only [Act.put, List.setIfInBounds_toArray, List.set_cons_zero, List.set_cons_succ, List.getElem_toArray, List.getElem_cons_zero, List.getElem_cons_succ])
    refine wpAnyH_take (i := 1) (oi := _) (v := .slice va n vc) rfl (by kernel_rfl) (by kernel_rfl) (by kernel_rfl) (fun _ _ _ h => h) (Or.inl ⟨by rfl, fun wx hSw => ?_⟩) (by assumption) ?_
    · go_simp
      try (first | omega | (rw [IntKind.wrap_i64]; omega))
    (try simp only [Act.put, List.setIfInBounds_toArray, List.set_cons_zero, List.set_cons_succ, List.getElem_toArray, List.getElem_cons_zero, List.getElem_cons_succ])
    refine wpAnyH_take (i := 2) (oi := _) (v := .agg #[.int .i64 xa, .int .i64 xb, .int .i64 xr, .int .i64 xm, .int .i64 xk]) rfl (by kernel_rfl) (by kernel_rfl) (by kernel_rfl) (fun _ _ _ h => h) (Or.inl ⟨by rfl, fun wx hSw => ?_⟩) (by assumption) ?_
    · go_simp
      try (first | omega | (rw [IntKind.wrap_i64]; omega))
    (try simp only [Act.put, List.setIfInBounds_toArray, List.set_cons_zero, List.set_cons_succ, List.getElem_toArray, List.getElem_cons_zero, List.getElem_cons_succ])
    refine wpAnyH_take (i := 4) (oi := _) (v := .pointer (some ⟨w.heap.size, 1, none⟩)) rfl (by kernel_rfl) (by kernel_rfl) (by kernel_rfl) (fun _ _ _ h => h) (Or.inl ⟨by rfl, fun wx hSw => ?_⟩) (by assumption) ?_
    · go_simp
      try (first | omega | (rw [IntKind.wrap_i64]; omega))
    (try simp only [Act.put, List.setIfInBounds_toArray, List.set_cons_zero, List.set_cons_succ, List.getElem_toArray, List.getElem_cons_zero, List.getElem_cons_succ])
    refine wpAnyH_take (i := 5) (oi := _) (v := .slice vb m vd) rfl (by kernel_rfl) (by kernel_rfl) (by kernel_rfl) (fun _ _ _ h => h) (Or.inl ⟨by rfl, fun wx hSw => ?_⟩) (by assumption) ?_
    · go_simp
      try (first | omega | (rw [IntKind.wrap_i64]; omega))
    (try simp only [Act.put, List.setIfInBounds_toArray, List.set_cons_zero, List.set_cons_succ, List.getElem_toArray, List.getElem_cons_zero, List.getElem_cons_succ])
    refine wpAnyH_ready (rs := [3, 8]) (by kernel_rfl) (by simp) ?_
    refine AllReadyH.cons (o := _) rfl (fun K hK => ?_) (AllReadyH.cons (o := _) rfl (fun K hK => ?_) AllReadyH.nil)
    · skip
      go_simp
      refine hK.out _ _ ((show ((w1.drew.alloc (.cells #[.int .i64 xa, .int .i64 xb, .int .i64 xr, .int .i64 xm, .int .i64 xk] 45)).cell? ⟨w.heap.size, 0, none⟩ = some (.slice va n vc) ∧ (w1.drew.alloc (.cells #[.int .i64 xa, .int .i64 xb, .int .i64 xr, .int .i64 xm, .int .i64 xk] 45)).cell? ⟨w.heap.size, 1, none⟩ = some (.slice vb m vd)) ∧ (w1.drew.alloc (.cells #[.int .i64 xa, .int .i64 xb, .int .i64 xr, .int .i64 xm, .int .i64 xk] 45)).cell? ⟨w.heap.size + 1, 0, none⟩ = some (.int .i64 xa) ∧ (w1.drew.alloc (.cells #[.int .i64 xa, .int .i64 xb, .int .i64 xr, .int .i64 xm, .int .i64 xk] 45)).cell? ⟨w.heap.size + 1, 1, none⟩ = some (.int .i64 xb) ∧ (w1.drew.alloc (.cells #[.int .i64 xa, .int .i64 xb, .int .i64 xr, .int .i64 xm, .int .i64 xk] 45)).cell? ⟨w.heap.size + 1, 2, none⟩ = some (.int .i64 xr) ∧ (w1.drew.alloc (.cells #[.int .i64 xa, .int .i64 xb, .int .i64 xr, .int .i64 xm, .int .i64 xk] 45)).cell? ⟨w.heap.size + 1, 3, none⟩ = some (.int .i64 xm) ∧ (w1.drew.alloc (.cells #[.int .i64 xa, .int .i64 xb, .int .i64 xr, .int .i64 xm, .int .i64 xk] 45)).cell? ⟨w.heap.size + 1, 4, none⟩ = some (.int .i64 xk) from ⟨box2 (bon HX.out (ball (Below.refl w1.heap.size w1).drew (.cells #[.int .i64 xa, .int .i64 xb, .int .i64 xr, .int .i64 xm, .int .i64 xk] 45))), box5 (bon HXE.out (ball (Below.refl w1.heap.size w1).drew (.cells #[.int .i64 xa, .int .i64 xb, .int .i64 xr, .int .i64 xm, .int .i64 xk] 45)))⟩)) (fun hHeld => ?_)
      clear hK K
      (try simp only [Act.put, List.setIfInBounds_toArray, List.set_cons_zero, List.set_cons_succ, List.getElem_toArray, List.getElem_cons_zero, List.getElem_cons_succ])
      refine wpAnyH_ready (rs := [6, 8]) (by kernel_rfl) (by simp) ?_
      refine AllReadyH.cons (o := _) rfl (fun K hK => ?_) (AllReadyH.cons (o := _) rfl (fun K hK => ?_) AllReadyH.nil)
      · skip
        have hB6 := (bnew w1.drew (.cells #[.int .i64 xa, .int .i64 xb, .int .i64 xr, .int .i64 xm, .int .i64 xk] 45))
        try simp only [World.size_alloc] at hB6
        obtain ⟨v5, w5, hr5, ho5, hb5, hg5, hn5⟩ := edge_append2 (w := w1) (u := (w1.drew.alloc (.cells #[.int .i64 xa, .int .i64 xb, .int .i64 xr, .int .i64 xm, .int .i64 xk] 45))) (B := w1.heap.size) (x := ⟨xa, xb, xr, xm, xk⟩) (l := es0) (vd := vd) (ball (Below.refl w1.heap.size w1).drew (.cells #[.int .i64 xa, .int .i64 xb, .int .i64 xr, .int .i64 xm, .int .i64 xk] 45)) hB6 (by first | omega | exact Nat.le_refl _ | exact Nat.le_succ _) (by rw [← HM.out]; exact HES.out) (by rw [← HM.out]; exact HBIG.out)
        rw [← HM.out] at hr5
        obtain ⟨a5, c5, rfl⟩ := ho5.shape
        obtain ⟨k5, hk5⟩ : ∃ k5, k5 = (((⟨xa, xb, xr, xm, xk⟩ : Ed) :: es0).length) := ⟨_, rfl⟩
        rw [← hk5] at hr5 ho5 hn5
        have HK5 := Lib.hid hk5
        clear hk5
        have HB5 := Lib.hid hb5
        have HO5 := Lib.hid ho5
        have HG5 := Lib.hid hg5
        have HN5 := Lib.hid hn5
        clear hb5 ho5 hg5 hn5 hB6
        rw [if_pos (by kernel_rfl)]
        first | refine Or.inl ?_ | skip
        refine oper_appE rfl (.tmp 18) (.tmp 20) rfl rfl rfl hr5 ?_
        refine hK.out _ _ ((show (w5.cell? ⟨w.heap.size, 0, none⟩ = some (.slice va n vc) ∧ w5.cell? ⟨w.heap.size, 1, none⟩ = some (.slice vb m vd)) ∧ w5.cell? ⟨w.heap.size + 1, 0, none⟩ = some (.int .i64 xa) ∧ w5.cell? ⟨w.heap.size + 1, 1, none⟩ = some (.int .i64 xb) ∧ w5.cell? ⟨w.heap.size + 1, 2, none⟩ = some (.int .i64 xr) ∧ w5.cell? ⟨w.heap.size + 1, 3, none⟩ = some (.int .i64 xm) ∧ w5.cell? ⟨w.heap.size + 1, 4, none⟩ = some (.int .i64 xk) from ⟨box2 (bon HX.out HB5.out), box5 (bon HXE.out HB5.out)⟩)) (fun hHeld => ?_)
        clear hK K
        (try simp only [Act.put, List.setIfInBounds_toArray, List.set_cons_zero, List.set_cons_succ, List.getElem_toArray, List.getElem_cons_zero, List.getElem_cons_succ])
        refine wpAnyH_take (i := 7) (oi := _) (v := .agg #[.slice va n vc, .slice a5 k5 c5]) rfl (by kernel_rfl) (by kernel_rfl) (by kernel_rfl) (fun _ _ _ h => h) (Or.inl ⟨by rfl, fun wx hSw => ?_⟩) (by assumption) ?_
        · go_simp
          try (first | omega | (rw [IntKind.wrap_i64]; omega))
        (try simp only [Act.put, List.setIfInBounds_toArray, List.set_cons_zero, List.set_cons_succ, List.getElem_toArray, List.getElem_cons_zero, List.getElem_cons_succ])
        refine wpAnyH_ready (rs := [8]) (by kernel_rfl) (by simp) ?_
        refine AllReadyH.cons (o := _) rfl (fun K hK => ?_) AllReadyH.nil
        go_simp
        refine hK.out _ _ ((show ((w5.alloc (.cells #[.slice none 0 0, .slice none 0 0] 25)).cell? ⟨w.heap.size, 0, none⟩ = some (.slice va n vc) ∧ (w5.alloc (.cells #[.slice none 0 0, .slice none 0 0] 25)).cell? ⟨w.heap.size, 1, none⟩ = some (.slice vb m vd)) ∧ (w5.alloc (.cells #[.slice none 0 0, .slice none 0 0] 25)).cell? ⟨w.heap.size + 1, 0, none⟩ = some (.int .i64 xa) ∧ (w5.alloc (.cells #[.slice none 0 0, .slice none 0 0] 25)).cell? ⟨w.heap.size + 1, 1, none⟩ = some (.int .i64 xb) ∧ (w5.alloc (.cells #[.slice none 0 0, .slice none 0 0] 25)).cell? ⟨w.heap.size + 1, 2, none⟩ = some (.int .i64 xr) ∧ (w5.alloc (.cells #[.slice none 0 0, .slice none 0 0] 25)).cell? ⟨w.heap.size + 1, 3, none⟩ = some (.int .i64 xm) ∧ (w5.alloc (.cells #[.slice none 0 0, .slice none 0 0] 25)).cell? ⟨w.heap.size + 1, 4, none⟩ = some (.int .i64 xk) from ⟨box2 (bon HX.out (ball HB5.out (.cells #[.slice none 0 0, .slice none 0 0] 25))), box5 (bon HXE.out (ball HB5.out (.cells #[.slice none 0 0, .slice none 0 0] 25)))⟩)) (fun hHeld => ?_)
        clear hK K
        (try simp only [Act.put, List.setIfInBounds_toArray, List.set_cons_zero, List.set_cons_succ, List.getElem_toArray, List.getElem_cons_zero, List.getElem_cons_succ])
        refine wpAnyH_ready (rs := [9]) (by kernel_rfl) (by simp) ?_
        refine AllReadyH.cons (o := _) rfl (fun K hK => ?_) AllReadyH.nil
        have hz9 : (w5.alloc (.cells #[.slice none 0 0, .slice none 0 0] 25)).heap[w5.heap.size]? = some (.cells #[.slice none 0 0, .slice none 0 0] 25 (0, 0)) := (bnew w5 (.cells #[.slice none 0 0, .slice none 0 0] 25))
        have HEND : Hid (OwE w1.heap.size ((w5.alloc (.cells #[.slice none 0 0, .slice none 0 0] 25)).setRow (w5.heap.size) #[.slice va n vc, .slice a5 k5 c5]) (.slice a5 k5 c5) (⟨xa, xb, xr, xm, xk⟩ :: es0) ∧ Below w1.heap.size w1 ((w5.alloc (.cells #[.slice none 0 0, .slice none 0 0] 25)).setRow (w5.heap.size) #[.slice va n vc, .slice a5 k5 c5]) ∧ ((w5.alloc (.cells #[.slice none 0 0, .slice none 0 0] 25)).setRow (w5.heap.size) #[.slice va n vc, .slice a5 k5 c5]).heap[w5.heap.size]? = some (.cells #[.slice va n vc, .slice a5 k5 c5] 25 (0, 0))) := Lib.hid ⟨(HO5.out.on (bsetRow (ball (Below.refl w5.heap.size w5) (.cells #[.slice none 0 0, .slice none 0 0] 25)) (Nat.le_refl _) _)), (bsetRow (ball HB5.out (.cells #[.slice none 0 0, .slice none 0 0] 25)) (by have := HB5.out.size; omega) #[.slice va n vc, .slice a5 k5 c5]), setRow_heap _ _ _ _ _ _ hz9⟩
        rw [if_pos (show Region.wanted _ _ = true by rfl)]
        refine wp_store_row 25 (.tmp 7) (.tmp 22) rfl (w5.heap.size) #[.slice va n vc, .slice a5 k5 c5] rfl rfl 25 #[.slice none 0 0, .slice none 0 0] hz9 (by kernel_rfl) rfl (all_oneCell_toArray (cs := [.slice va n vc, .slice a5 k5 c5]) (by intro v hv; simp only [List.mem_cons, List.not_mem_nil, or_false] at hv; rcases hv with rfl | rfl <;> rfl)) ?_
        refine hK.out _ _ ((show (((w5.alloc (.cells #[.slice none 0 0, .slice none 0 0] 25)).setRow (w5.heap.size) #[.slice va n vc, .slice a5 k5 c5]).cell? ⟨w.heap.size, 0, none⟩ = some (.slice va n vc) ∧ ((w5.alloc (.cells #[.slice none 0 0, .slice none 0 0] 25)).setRow (w5.heap.size) #[.slice va n vc, .slice a5 k5 c5]).cell? ⟨w.heap.size, 1, none⟩ = some (.slice vb m vd)) ∧ ((w5.alloc (.cells #[.slice none 0 0, .slice none 0 0] 25)).setRow (w5.heap.size) #[.slice va n vc, .slice a5 k5 c5]).cell? ⟨w.heap.size + 1, 0, none⟩ = some (.int .i64 xa) ∧ ((w5.alloc (.cells #[.slice none 0 0, .slice none 0 0] 25)).setRow (w5.heap.size) #[.slice va n vc, .slice a5 k5 c5]).cell? ⟨w.heap.size + 1, 1, none⟩ = some (.int .i64 xb) ∧ ((w5.alloc (.cells #[.slice none 0 0, .slice none 0 0] 25)).setRow (w5.heap.size) #[.slice va n vc, .slice a5 k5 c5]).cell? ⟨w.heap.size + 1, 2, none⟩ = some (.int .i64 xr) ∧ ((w5.alloc (.cells #[.slice none 0 0, .slice none 0 0] 25)).setRow (w5.heap.size) #[.slice va n vc, .slice a5 k5 c5]).cell? ⟨w.heap.size + 1, 3, none⟩ = some (.int .i64 xm) ∧ ((w5.alloc (.cells #[.slice none 0 0, .slice none 0 0] 25)).setRow (w5.heap.size) #[.slice va n vc, .slice a5 k5 c5]).cell? ⟨w.heap.size + 1, 4, none⟩ = some (.int .i64 xk) from ⟨box2 (bon HX.out (bsetRow (ball HB5.out (.cells #[.slice none 0 0, .slice none 0 0] 25)) (by have := HB5.out.size; omega) #[.slice va n vc, .slice a5 k5 c5])), box5 (bon HXE.out (bsetRow (ball HB5.out (.cells #[.slice none 0 0, .slice none 0 0] 25)) (by have := HB5.out.size; omega) #[.slice va n vc, .slice a5 k5 c5]))⟩)) (fun hHeld => ?_)
        clear hK K
        (try simp only [Act.put, List.setIfInBounds_toArray, List.set_cons_zero, List.set_cons_succ, List.getElem_toArray, List.getElem_cons_zero, List.getElem_cons_succ])
        refine wpAnyH_done (by kernel_rfl) ?_ _
        go_wp2
        go_meet
        exact ⟨_, _, rfl, HEND.out.1, HEND.out.2.1, HEND.out.2.2⟩
      · skip
        go_simp
        refine hK.out _ _ ((show (((w1.drew.alloc (.cells #[.int .i64 xa, .int .i64 xb, .int .i64 xr, .int .i64 xm, .int .i64 xk] 45)).alloc (.cells #[.slice none 0 0, .slice none 0 0] 25)).cell? ⟨w.heap.size, 0, none⟩ = some (.slice va n vc) ∧ ((w1.drew.alloc (.cells #[.int .i64 xa, .int .i64 xb, .int .i64 xr, .int .i64 xm, .int .i64 xk] 45)).alloc (.cells #[.slice none 0 0, .slice none 0 0] 25)).cell? ⟨w.heap.size, 1, none⟩ = some (.slice vb m vd)) ∧ ((w1.drew.alloc (.cells #[.int .i64 xa, .int .i64 xb, .int .i64 xr, .int .i64 xm, .int .i64 xk] 45)).alloc (.cells #[.slice none 0 0, .slice none 0 0] 25)).cell? ⟨w.heap.size + 1, 0, none⟩ = some (.int .i64 xa) ∧ ((w1.drew.alloc (.cells #[.int .i64 xa, .int .i64 xb, .int .i64 xr, .int .i64 xm, .int .i64 xk] 45)).alloc (.cells #[.slice none 0 0, .slice none 0 0] 25)).cell? ⟨w.heap.size + 1, 1, none⟩ = some (.int .i64 xb) ∧ ((w1.drew.alloc (.cells #[.int .i64 xa, .int .i64 xb, .int .i64 xr, .int .i64 xm, .int .i64 xk] 45)).alloc (.cells #[.slice none 0 0, .slice none 0 0] 25)).cell? ⟨w.heap.size + 1, 2, none⟩ = some (.int .i64 xr) ∧ ((w1.drew.alloc (.cells #[.int .i64 xa, .int .i64 xb, .int .i64 xr, .int .i64 xm, .int .i64 xk] 45)).alloc (.cells #[.slice none 0 0, .slice none 0 0] 25)).cell? ⟨w.heap.size + 1, 3, none⟩ = some (.int .i64 xm) ∧ ((w1.drew.alloc (.cells #[.int .i64 xa, .int .i64 xb, .int .i64 xr, .int .i64 xm, .int .i64 xk] 45)).alloc (.cells #[.slice none 0 0, .slice none 0 0] 25)).cell? ⟨w.heap.size + 1, 4, none⟩ = some (.int .i64 xk) from ⟨box2 (bon HX.out (ball (ball (Below.refl w1.heap.size w1).drew (.cells #[.int .i64 xa, .int .i64 xb, .int .i64 xr, .int .i64 xm, .int .i64 xk] 45)) (.cells #[.slice none 0 0, .slice none 0 0] 25))), box5 (bon HXE.out (ball (ball (Below.refl w1.heap.size w1).drew (.cells #[.int .i64 xa, .int .i64 xb, .int .i64 xr, .int .i64 xm, .int .i64 xk] 45)) (.cells #[.slice none 0 0, .slice none 0 0] 25)))⟩)) (fun hHeld => ?_)
        clear hK K
        (try simp only [Act.put, List.setIfInBounds_toArray, List.set_cons_zero, List.set_cons_succ, List.getElem_toArray, List.getElem_cons_zero, List.getElem_cons_succ])
        refine wpAnyH_ready (rs := [6]) (by kernel_rfl) (by simp) ?_
        refine AllReadyH.cons (o := _) rfl (fun K hK => ?_) AllReadyH.nil
        have hB6 := (bal (bnew w1.drew (.cells #[.int .i64 xa, .int .i64 xb, .int .i64 xr, .int .i64 xm, .int .i64 xk] 45)) (.cells #[.slice none 0 0, .slice none 0 0] 25))
        try simp only [World.size_alloc] at hB6
        obtain ⟨v5, w5, hr5, ho5, hb5, hg5, hn5⟩ := edge_append2 (w := w1) (u := ((w1.drew.alloc (.cells #[.int .i64 xa, .int .i64 xb, .int .i64 xr, .int .i64 xm, .int .i64 xk] 45)).alloc (.cells #[.slice none 0 0, .slice none 0 0] 25))) (B := w1.heap.size) (x := ⟨xa, xb, xr, xm, xk⟩) (l := es0) (vd := vd) (ball (ball (Below.refl w1.heap.size w1).drew (.cells #[.int .i64 xa, .int .i64 xb, .int .i64 xr, .int .i64 xm, .int .i64 xk] 45)) (.cells #[.slice none 0 0, .slice none 0 0] 25)) hB6 (by first | omega | exact Nat.le_refl _ | exact Nat.le_succ _) (by rw [← HM.out]; exact HES.out) (by rw [← HM.out]; exact HBIG.out)
        rw [← HM.out] at hr5
        obtain ⟨a5, c5, rfl⟩ := ho5.shape
        obtain ⟨k5, hk5⟩ : ∃ k5, k5 = (((⟨xa, xb, xr, xm, xk⟩ : Ed) :: es0).length) := ⟨_, rfl⟩
        rw [← hk5] at hr5 ho5 hn5
        have HK5 := Lib.hid hk5
        clear hk5
        have HB5 := Lib.hid hb5
        have HO5 := Lib.hid ho5
        have HG5 := Lib.hid hg5
        have HN5 := Lib.hid hn5
        clear hb5 ho5 hg5 hn5 hB6
        rw [if_pos (by kernel_rfl)]
        first | refine Or.inl ?_ | skip
        refine oper_appE rfl (.tmp 18) (.tmp 20) rfl rfl rfl hr5 ?_
        refine hK.out _ _ ((show (w5.cell? ⟨w.heap.size, 0, none⟩ = some (.slice va n vc) ∧ w5.cell? ⟨w.heap.size, 1, none⟩ = some (.slice vb m vd)) ∧ w5.cell? ⟨w.heap.size + 1, 0, none⟩ = some (.int .i64 xa) ∧ w5.cell? ⟨w.heap.size + 1, 1, none⟩ = some (.int .i64 xb) ∧ w5.cell? ⟨w.heap.size + 1, 2, none⟩ = some (.int .i64 xr) ∧ w5.cell? ⟨w.heap.size + 1, 3, none⟩ = some (.int .i64 xm) ∧ w5.cell? ⟨w.heap.size + 1, 4, none⟩ = some (.int .i64 xk) from ⟨box2 (bon HX.out HB5.out), box5 (bon HXE.out HB5.out)⟩)) (fun hHeld => ?_)
        clear hK K
        (try simp only [Act.put, List.setIfInBounds_toArray, List.set_cons_zero, List.set_cons_succ, List.getElem_toArray, List.getElem_cons_zero, List.getElem_cons_succ])
        refine wpAnyH_take (i := 7) (oi := _) (v := .agg #[.slice va n vc, .slice a5 k5 c5]) rfl (by kernel_rfl) (by kernel_rfl) (by kernel_rfl) (fun _ _ _ h => h) (Or.inl ⟨by rfl, fun wx hSw => ?_⟩) (by assumption) ?_
        · go_simp
          try (first | omega | (rw [IntKind.wrap_i64]; omega))
        (try simp only [Act.put, List.setIfInBounds_toArray, List.set_cons_zero, List.set_cons_succ, List.getElem_toArray, List.getElem_cons_zero, List.getElem_cons_succ])
        refine wpAnyH_ready (rs := [9]) (by kernel_rfl) (by simp) ?_
        refine AllReadyH.cons (o := _) rfl (fun K hK => ?_) AllReadyH.nil
        have hz9 : w5.heap[w1.heap.size + 1]? = some (.cells #[.slice none 0 0, .slice none 0 0] 25 (0, 0)) := (by have h := HG5.out.block (w1.heap.size + 1) (by simp only [World.size_alloc]; have : w1.drew.heap.size = w1.heap.size := rfl; omega) (by intro e; have := Option.some.inj e; omega); rw [h]; have h2 := (bnew (w1.drew.alloc (.cells #[.int .i64 xa, .int .i64 xb, .int .i64 xr, .int .i64 xm, .int .i64 xk] 45)) (.cells #[.slice none 0 0, .slice none 0 0] 25)); (try simp only [World.size_alloc] at h2); exact h2)
        have HEND : Hid (OwE w1.heap.size (w5.setRow (w1.heap.size + 1) #[.slice va n vc, .slice a5 k5 c5]) (.slice a5 k5 c5) (⟨xa, xb, xr, xm, xk⟩ :: es0) ∧ Below w1.heap.size w1 (w5.setRow (w1.heap.size + 1) #[.slice va n vc, .slice a5 k5 c5]) ∧ (w5.setRow (w1.heap.size + 1) #[.slice va n vc, .slice a5 k5 c5]).heap[w1.heap.size + 1]? = some (.cells #[.slice va n vc, .slice a5 k5 c5] 25 (0, 0))) := Lib.hid ⟨(HO5.out.row _ (HN5.out (w1.heap.size + 1) (by simp only [World.size_alloc]; have : w1.drew.heap.size = w1.heap.size := rfl; omega) (by omega))), (bsetRow HB5.out (by have := HB5.out.size; omega) #[.slice va n vc, .slice a5 k5 c5]), setRow_heap _ _ _ _ _ _ hz9⟩
        rw [if_pos (show Region.wanted _ _ = true by rfl)]
        refine wp_store_row 25 (.tmp 7) (.tmp 22) rfl (w1.heap.size + 1) #[.slice va n vc, .slice a5 k5 c5] rfl rfl 25 #[.slice none 0 0, .slice none 0 0] hz9 (by kernel_rfl) rfl (all_oneCell_toArray (cs := [.slice va n vc, .slice a5 k5 c5]) (by intro v hv; simp only [List.mem_cons, List.not_mem_nil, or_false] at hv; rcases hv with rfl | rfl <;> rfl)) ?_
        refine hK.out _ _ ((show ((w5.setRow (w1.heap.size + 1) #[.slice va n vc, .slice a5 k5 c5]).cell? ⟨w.heap.size, 0, none⟩ = some (.slice va n vc) ∧ (w5.setRow (w1.heap.size + 1) #[.slice va n vc, .slice a5 k5 c5]).cell? ⟨w.heap.size, 1, none⟩ = some (.slice vb m vd)) ∧ (w5.setRow (w1.heap.size + 1) #[.slice va n vc, .slice a5 k5 c5]).cell? ⟨w.heap.size + 1, 0, none⟩ = some (.int .i64 xa) ∧ (w5.setRow (w1.heap.size + 1) #[.slice va n vc, .slice a5 k5 c5]).cell? ⟨w.heap.size + 1, 1, none⟩ = some (.int .i64 xb) ∧ (w5.setRow (w1.heap.size + 1) #[.slice va n vc, .slice a5 k5 c5]).cell? ⟨w.heap.size + 1, 2, none⟩ = some (.int .i64 xr) ∧ (w5.setRow (w1.heap.size + 1) #[.slice va n vc, .slice a5 k5 c5]).cell? ⟨w.heap.size + 1, 3, none⟩ = some (.int .i64 xm) ∧ (w5.setRow (w1.heap.size + 1) #[.slice va n vc, .slice a5 k5 c5]).cell? ⟨w.heap.size + 1, 4, none⟩ = some (.int .i64 xk) from ⟨box2 (bon HX.out (bsetRow HB5.out (by have := HB5.out.size; omega) #[.slice va n vc, .slice a5 k5 c5])), box5 (bon HXE.out (bsetRow HB5.out (by have := HB5.out.size; omega) #[.slice va n vc, .slice a5 k5 c5]))⟩)) (fun hHeld => ?_)
        clear hK K
        (try simp only [Act.put, List.setIfInBounds_toArray, List.set_cons_zero, List.set_cons_succ, List.getElem_toArray, List.getElem_cons_zero, List.getElem_cons_succ])
        refine wpAnyH_done (by kernel_rfl) ?_ _
        go_wp2
        go_meet
        exact ⟨_, _, rfl, HEND.out.1, HEND.out.2.1, HEND.out.2.2⟩
    · skip
      go_simp
      refine hK.out _ _ ((show ((w1.drew.alloc (.cells #[.slice none 0 0, .slice none 0 0] 25)).cell? ⟨w.heap.size, 0, none⟩ = some (.slice va n vc) ∧ (w1.drew.alloc (.cells #[.slice none 0 0, .slice none 0 0] 25)).cell? ⟨w.heap.size, 1, none⟩ = some (.slice vb m vd)) ∧ (w1.drew.alloc (.cells #[.slice none 0 0, .slice none 0 0] 25)).cell? ⟨w.heap.size + 1, 0, none⟩ = some (.int .i64 xa) ∧ (w1.drew.alloc (.cells #[.slice none 0 0, .slice none 0 0] 25)).cell? ⟨w.heap.size + 1, 1, none⟩ = some (.int .i64 xb) ∧ (w1.drew.alloc (.cells #[.slice none 0 0, .slice none 0 0] 25)).cell? ⟨w.heap.size + 1, 2, none⟩ = some (.int .i64 xr) ∧ (w1.drew.alloc (.cells #[.slice none 0 0, .slice none 0 0] 25)).cell? ⟨w.heap.size + 1, 3, none⟩ = some (.int .i64 xm) ∧ (w1.drew.alloc (.cells #[.slice none 0 0, .slice none 0 0] 25)).cell? ⟨w.heap.size + 1, 4, none⟩ = some (.int .i64 xk) from ⟨box2 (bon HX.out (ball (Below.refl w1.heap.size w1).drew (.cells #[.slice none 0 0, .slice none 0 0] 25))), box5 (bon HXE.out (ball (Below.refl w1.heap.size w1).drew (.cells #[.slice none 0 0, .slice none 0 0] 25)))⟩)) (fun hHeld => ?_)
      clear hK K
      (try simp only [Act.put, List.setIfInBounds_toArray, List.set_cons_zero, List.set_cons_succ, List.getElem_toArray, List.getElem_cons_zero, List.getElem_cons_succ])
      refine wpAnyH_ready (rs := [3]) (by kernel_rfl) (by simp) ?_
      refine AllReadyH.cons (o := _) rfl (fun K hK => ?_) AllReadyH.nil
      go_simp
      refine hK.out _ _ ((show (((w1.drew.alloc (.cells #[.slice none 0 0, .slice none 0 0] 25)).alloc (.cells #[.int .i64 xa, .int .i64 xb, .int .i64 xr, .int .i64 xm, .int .i64 xk] 45)).cell? ⟨w.heap.size, 0, none⟩ = some (.slice va n vc) ∧ ((w1.drew.alloc (.cells #[.slice none 0 0, .slice none 0 0] 25)).alloc (.cells #[.int .i64 xa, .int .i64 xb, .int .i64 xr, .int .i64 xm, .int .i64 xk] 45)).cell? ⟨w.heap.size, 1, none⟩ = some (.slice vb m vd)) ∧ ((w1.drew.alloc (.cells #[.slice none 0 0, .slice none 0 0] 25)).alloc (.cells #[.int .i64 xa, .int .i64 xb, .int .i64 xr, .int .i64 xm, .int .i64 xk] 45)).cell? ⟨w.heap.size + 1, 0, none⟩ = some (.int .i64 xa) ∧ ((w1.drew.alloc (.cells #[.slice none 0 0, .slice none 0 0] 25)).alloc (.cells #[.int .i64 xa, .int .i64 xb, .int .i64 xr, .int .i64 xm, .int .i64 xk] 45)).cell? ⟨w.heap.size + 1, 1, none⟩ = some (.int .i64 xb) ∧ ((w1.drew.alloc (.cells #[.slice none 0 0, .slice none 0 0] 25)).alloc (.cells #[.int .i64 xa, .int .i64 xb, .int .i64 xr, .int .i64 xm, .int .i64 xk] 45)).cell? ⟨w.heap.size + 1, 2, none⟩ = some (.int .i64 xr) ∧ ((w1.drew.alloc (.cells #[.slice none 0 0, .slice none 0 0] 25)).alloc (.cells #[.int .i64 xa, .int .i64 xb, .int .i64 xr, .int .i64 xm, .int .i64 xk] 45)).cell? ⟨w.heap.size + 1, 3, none⟩ = some (.int .i64 xm) ∧ ((w1.drew.alloc (.cells #[.slice none 0 0, .slice none 0 0] 25)).alloc (.cells #[.int .i64 xa, .int .i64 xb, .int .i64 xr, .int .i64 xm, .int .i64 xk] 45)).cell? ⟨w.heap.size + 1, 4, none⟩ = some (.int .i64 xk) from ⟨box2 (bon HX.out (ball (ball (Below.refl w1.heap.size w1).drew (.cells #[.slice none 0 0, .slice none 0 0] 25)) (.cells #[.int .i64 xa, .int .i64 xb, .int .i64 xr, .int .i64 xm, .int .i64 xk] 45))), box5 (bon HXE.out (ball (ball (Below.refl w1.heap.size w1).drew (.cells #[.slice none 0 0, .slice none 0 0] 25)) (.cells #[.int .i64 xa, .int .i64 xb, .int .i64 xr, .int .i64 xm, .int .i64 xk] 45)))⟩)) (fun hHeld => ?_)
      clear hK K
      (try simp only [Act.put, List.setIfInBounds_toArray, List.set_cons_zero, List.set_cons_succ, List.getElem_toArray, List.getElem_cons_zero, List.getElem_cons_succ])
      refine wpAnyH_ready (rs := [6]) (by kernel_rfl) (by simp) ?_
      refine AllReadyH.cons (o := _) rfl (fun K hK => ?_) AllReadyH.nil
      have hB6 := (bnew (w1.drew.alloc (.cells #[.slice none 0 0, .slice none 0 0] 25)) (.cells #[.int .i64 xa, .int .i64 xb, .int .i64 xr, .int .i64 xm, .int .i64 xk] 45))
      try simp only [World.size_alloc] at hB6
      obtain ⟨v5, w5, hr5, ho5, hb5, hg5, hn5⟩ := edge_append2 (w := w1) (u := ((w1.drew.alloc (.cells #[.slice none 0 0, .slice none 0 0] 25)).alloc (.cells #[.int .i64 xa, .int .i64 xb, .int .i64 xr, .int .i64 xm, .int .i64 xk] 45))) (B := w1.heap.size + 1) (x := ⟨xa, xb, xr, xm, xk⟩) (l := es0) (vd := vd) (ball (ball (Below.refl w1.heap.size w1).drew (.cells #[.slice none 0 0, .slice none 0 0] 25)) (.cells #[.int .i64 xa, .int .i64 xb, .int .i64 xr, .int .i64 xm, .int .i64 xk] 45)) hB6 (by first | omega | exact Nat.le_refl _ | exact Nat.le_succ _) (by rw [← HM.out]; exact HES.out) (by rw [← HM.out]; exact HBIG.out)
      rw [← HM.out] at hr5
      obtain ⟨a5, c5, rfl⟩ := ho5.shape
      obtain ⟨k5, hk5⟩ : ∃ k5, k5 = (((⟨xa, xb, xr, xm, xk⟩ : Ed) :: es0).length) := ⟨_, rfl⟩
      rw [← hk5] at hr5 ho5 hn5
      have HK5 := Lib.hid hk5
      clear hk5
      have HB5 := Lib.hid hb5
      have HO5 := Lib.hid ho5
      have HG5 := Lib.hid hg5
      have HN5 := Lib.hid hn5
      clear hb5 ho5 hg5 hn5 hB6
      rw [if_pos (by kernel_rfl)]
      first | refine Or.inl ?_ | skip
      refine oper_appE rfl (.tmp 18) (.tmp 20) rfl rfl rfl hr5 ?_
      refine hK.out _ _ ((show (w5.cell? ⟨w.heap.size, 0, none⟩ = some (.slice va n vc) ∧ w5.cell? ⟨w.heap.size, 1, none⟩ = some (.slice vb m vd)) ∧ w5.cell? ⟨w.heap.size + 1, 0, none⟩ = some (.int .i64 xa) ∧ w5.cell? ⟨w.heap.size + 1, 1, none⟩ = some (.int .i64 xb) ∧ w5.cell? ⟨w.heap.size + 1, 2, none⟩ = some (.int .i64 xr) ∧ w5.cell? ⟨w.heap.size + 1, 3, none⟩ = some (.int .i64 xm) ∧ w5.cell? ⟨w.heap.size + 1, 4, none⟩ = some (.int .i64 xk) from ⟨box2 (bon HX.out HB5.out), box5 (bon HXE.out HB5.out)⟩)) (fun hHeld => ?_)
      clear hK K
      (try simp only [Act.put, List.setIfInBounds_toArray, List.set_cons_zero, List.set_cons_succ, List.getElem_toArray, List.getElem_cons_zero, List.getElem_cons_succ])
      refine wpAnyH_take (i := 7) (oi := _) (v := .agg #[.slice va n vc, .slice a5 k5 c5]) rfl (by kernel_rfl) (by kernel_rfl) (by kernel_rfl) (fun _ _ _ h => h) (Or.inl ⟨by rfl, fun wx hSw => ?_⟩) (by assumption) ?_
      · go_simp
        try (first | omega | (rw [IntKind.wrap_i64]; omega))
      (try simp only [Act.put, List.setIfInBounds_toArray, List.set_cons_zero, List.set_cons_succ, List.getElem_toArray, List.getElem_cons_zero, List.getElem_cons_succ])
      refine wpAnyH_ready (rs := [9]) (by kernel_rfl) (by simp) ?_
      refine AllReadyH.cons (o := _) rfl (fun K hK => ?_) AllReadyH.nil
      have hz9 : w5.heap[w1.heap.size]? = some (.cells #[.slice none 0 0, .slice none 0 0] 25 (0, 0)) := (by have h := HG5.out.block (w1.heap.size) (by simp only [World.size_alloc]; have : w1.drew.heap.size = w1.heap.size := rfl; omega) (by intro e; have := Option.some.inj e; omega); rw [h]; have h2 := (bal (bnew w1.drew (.cells #[.slice none 0 0, .slice none 0 0] 25)) (.cells #[.int .i64 xa, .int .i64 xb, .int .i64 xr, .int .i64 xm, .int .i64 xk] 45)); (try simp only [World.size_alloc] at h2); exact h2)
      have HEND : Hid (OwE w1.heap.size (w5.setRow (w1.heap.size) #[.slice va n vc, .slice a5 k5 c5]) (.slice a5 k5 c5) (⟨xa, xb, xr, xm, xk⟩ :: es0) ∧ Below w1.heap.size w1 (w5.setRow (w1.heap.size) #[.slice va n vc, .slice a5 k5 c5]) ∧ (w5.setRow (w1.heap.size) #[.slice va n vc, .slice a5 k5 c5]).heap[w1.heap.size]? = some (.cells #[.slice va n vc, .slice a5 k5 c5] 25 (0, 0))) := Lib.hid ⟨(HO5.out.row _ (HN5.out (w1.heap.size) (by simp only [World.size_alloc]; have : w1.drew.heap.size = w1.heap.size := rfl; omega) (by omega))), (bsetRow HB5.out (by have := HB5.out.size; omega) #[.slice va n vc, .slice a5 k5 c5]), setRow_heap _ _ _ _ _ _ hz9⟩
      rw [if_pos (show Region.wanted _ _ = true by rfl)]
      refine wp_store_row 25 (.tmp 7) (.tmp 22) rfl (w1.heap.size) #[.slice va n vc, .slice a5 k5 c5] rfl rfl 25 #[.slice none 0 0, .slice none 0 0] hz9 (by kernel_rfl) rfl (all_oneCell_toArray (cs := [.slice va n vc, .slice a5 k5 c5]) (by intro v hv; simp only [List.mem_cons, List.not_mem_nil, or_false] at hv; rcases hv with rfl | rfl <;> rfl)) ?_
      refine hK.out _ _ ((show ((w5.setRow (w1.heap.size) #[.slice va n vc, .slice a5 k5 c5]).cell? ⟨w.heap.size, 0, none⟩ = some (.slice va n vc) ∧ (w5.setRow (w1.heap.size) #[.slice va n vc, .slice a5 k5 c5]).cell? ⟨w.heap.size, 1, none⟩ = some (.slice vb m vd)) ∧ (w5.setRow (w1.heap.size) #[.slice va n vc, .slice a5 k5 c5]).cell? ⟨w.heap.size + 1, 0, none⟩ = some (.int .i64 xa) ∧ (w5.setRow (w1.heap.size) #[.slice va n vc, .slice a5 k5 c5]).cell? ⟨w.heap.size + 1, 1, none⟩ = some (.int .i64 xb) ∧ (w5.setRow (w1.heap.size) #[.slice va n vc, .slice a5 k5 c5]).cell? ⟨w.heap.size + 1, 2, none⟩ = some (.int .i64 xr) ∧ (w5.setRow (w1.heap.size) #[.slice va n vc, .slice a5 k5 c5]).cell? ⟨w.heap.size + 1, 3, none⟩ = some (.int .i64 xm) ∧ (w5.setRow (w1.heap.size) #[.slice va n vc, .slice a5 k5 c5]).cell? ⟨w.heap.size + 1, 4, none⟩ = some (.int .i64 xk) from ⟨box2 (bon HX.out (bsetRow HB5.out (by have := HB5.out.size; omega) #[.slice va n vc, .slice a5 k5 c5])), box5 (bon HXE.out (bsetRow HB5.out (by have := HB5.out.size; omega) #[.slice va n vc, .slice a5 k5 c5]))⟩)) (fun hHeld => ?_)
      clear hK K
      (try simp only [Act.put, List.setIfInBounds_toArray, List.set_cons_zero, List.set_cons_succ, List.getElem_toArray, List.getElem_cons_zero, List.getElem_cons_succ])
      refine wpAnyH_done (by kernel_rfl) ?_ _
      go_wp2
      go_meet
      exact ⟨_, _, rfl, HEND.out.1, HEND.out.2.1, HEND.out.2.2⟩
  case rest =>
    obtain ⟨M, v', rfl, ho, hbm, hm⟩ := hcut
    obtain ⟨a5, c5, rfl⟩ := ho.shape
    obtain ⟨k5, hk5⟩ : ∃ k5, k5 = ((⟨xa, xb, xr, xm, xk⟩ : Ed) :: es0).length := ⟨_, rfl⟩
    rw [← hk5] at ho hm
    have hI5 : ∀ x ∈ (⟨xa, xb, xr, xm, xk⟩ : Ed) :: es0, ∀ y ∈ x.cs, I64 y := by
      intro x hx
      rcases List.mem_cons.1 hx with rfl | hx
      · exact HI.out
      · exact HES.out.2.1 x hx
    have hes5 := ho.es hI5 (by have := HBIG.out; have := HM.out; simp only [List.length_cons]; omega)
    obtain ⟨vp, ve, hVe, hp1, hp2⟩ := HV.out.on hbm
    simp only [Value.agg.injEq, Array.mk.injEq, List.cons.injEq, and_true] at hVe
    obtain ⟨rfl, rfl⟩ := hVe
    have HV2 : Hid (Nw wc (.agg #[.slice va n vc, .slice a5 k5 c5]) ps0 ((⟨xa, xb, xr, xm, xk⟩ : Ed) :: es0)) := Lib.hid ⟨_, _, rfl, hp1, hes5⟩
    replace HB := Lib.hid (btrans HB.out hbm); replace HV := Lib.hid (HV.out.on hbm); replace HX := Lib.hid (bon HX.out hbm); replace HXE := Lib.hid (bon HXE.out hbm); have HX2 := Lib.hid hm
    clear ho hbm hm hk5 hI5 hes5 hp1 hp2 HST HES
    obtain ⟨b0, b1⟩ := box2 HX.out
    obtain ⟨d0, d1⟩ := box2 HX2.out
    obtain ⟨S, hS⟩ : ∃ S, smB ps0.length ((⟨xa, xb, xr, xm, xk⟩ : Ed) :: es0).length = S := ⟨_, rfl⟩
    obtain ⟨E, hE⟩ : ∃ E, E = chk ps0 ((⟨xa, xb, xr, xm, xk⟩ : Ed) :: es0) := ⟨_, rfl⟩
    obtain ⟨A1, hA1⟩ : ∃ A, rng 0 a2 ((ps0.length : Int) - 1) = A := ⟨_, rfl⟩
    have HS := Lib.hid hS; have HE := Lib.hid hE; have HA1 := Lib.hid hA1
    clear hS hE hA1
    cases S with
    | false =>
      have Hc := Lib.hid (small_any HV2.out)
      rw [HS.out] at Hc
      go_wp2_with fail
      refine Hc.out.mono ?_
      rintro e z1 ⟨rfl, hb⟩
      replace HB := Lib.hid (btrans HB.out hb); replace HV := Lib.hid (HV.out.on hb); replace HX := Lib.hid (bon HX.out hb); replace HXE := Lib.hid (bon HXE.out hb); replace HV2 := Lib.hid (HV2.out.on hb); replace HX2 := Lib.hid (bon HX2.out hb)
      clear hb b0 b1 d0 d1 Hc
      obtain ⟨b0, b1⟩ := box2 HX.out
      obtain ⟨d0, d1⟩ := box2 HX2.out
      go_wp2
      go_ret
      exact ⟨rfl, HB.out⟩
    | true =>
    by_cases c0 : E = 0
    rotate_left
    · have q0 : (E != 0) = true := by simpa using c0
      clear c0
      have Hc := Lib.hid (small_any HV2.out)
      rw [HS.out] at Hc
      go_wp2_with fail
      refine Hc.out.mono ?_
      rintro e z2 ⟨rfl, hb⟩
      replace HB := Lib.hid (btrans HB.out hb); replace HV := Lib.hid (HV.out.on hb); replace HX := Lib.hid (bon HX.out hb); replace HXE := Lib.hid (bon HXE.out hb); replace HV2 := Lib.hid (HV2.out.on hb); replace HX2 := Lib.hid (bon HX2.out hb)
      clear hb b0 b1 d0 d1 Hc
      obtain ⟨b0, b1⟩ := box2 HX.out
      obtain ⟨d0, d1⟩ := box2 HX2.out
      have Hc := Lib.hid (rcheck_any HV2.out E HE.out)
      go_wp2_with fail
      refine Hc.out.mono ?_
      rintro e z3 ⟨rfl, hb⟩
      replace HB := Lib.hid (btrans HB.out hb); replace HV := Lib.hid (HV.out.on hb); replace HX := Lib.hid (bon HX.out hb); replace HXE := Lib.hid (bon HXE.out hb); replace HV2 := Lib.hid (HV2.out.on hb); replace HX2 := Lib.hid (bon HX2.out hb)
      clear hb b0 b1 d0 d1 Hc
      obtain ⟨b0, b1⟩ := box2 HX.out
      obtain ⟨d0, d1⟩ := box2 HX2.out
      go_wp2
      go_ret
      exact ⟨rfl, HB.out⟩
    subst c0
    cases A1 with
    | false =>
      have Hc := Lib.hid (small_any HV2.out)
      rw [HS.out] at Hc
      go_wp2_with fail
      refine Hc.out.mono ?_
      rintro e z4 ⟨rfl, hb⟩
      replace HB := Lib.hid (btrans HB.out hb); replace HV := Lib.hid (HV.out.on hb); replace HX := Lib.hid (bon HX.out hb); replace HXE := Lib.hid (bon HXE.out hb); replace HV2 := Lib.hid (HV2.out.on hb); replace HX2 := Lib.hid (bon HX2.out hb)
      clear hb b0 b1 d0 d1 Hc
      obtain ⟨b0, b1⟩ := box2 HX.out
      obtain ⟨d0, d1⟩ := box2 HX2.out
      have Hc := Lib.hid (rcheck_any HV2.out 0 HE.out)
      go_wp2_with fail
      refine Hc.out.mono ?_
      rintro e z5 ⟨rfl, hb⟩
      replace HB := Lib.hid (btrans HB.out hb); replace HV := Lib.hid (HV.out.on hb); replace HX := Lib.hid (bon HX.out hb); replace HXE := Lib.hid (bon HXE.out hb); replace HV2 := Lib.hid (HV2.out.on hb); replace HX2 := Lib.hid (bon HX2.out hb)
      clear hb b0 b1 d0 d1 Hc
      obtain ⟨b0, b1⟩ := box2 HX.out
      obtain ⟨d0, d1⟩ := box2 HX2.out
      have Hc := Lib.hid (exists_any HV.out a2)
      rw [HA1.out] at Hc
      go_wp2_with fail
      refine Hc.out.mono ?_
      rintro e z6 ⟨rfl, hb⟩
      replace HB := Lib.hid (btrans HB.out hb); replace HV := Lib.hid (HV.out.on hb); replace HX := Lib.hid (bon HX.out hb); replace HXE := Lib.hid (bon HXE.out hb); replace HV2 := Lib.hid (HV2.out.on hb); replace HX2 := Lib.hid (bon HX2.out hb)
      clear hb b0 b1 d0 d1 Hc
      obtain ⟨b0, b1⟩ := box2 HX.out
      obtain ⟨d0, d1⟩ := box2 HX2.out
      go_wp2
      go_ret
      exact ⟨rfl, HB.out⟩
    | true =>
    have Hc := Lib.hid (small_any HV2.out)
    rw [HS.out] at Hc
    go_wp2_with fail
    refine Hc.out.mono ?_
    rintro e z7 ⟨rfl, hb⟩
    replace HB := Lib.hid (btrans HB.out hb); replace HV := Lib.hid (HV.out.on hb); replace HX := Lib.hid (bon HX.out hb); replace HXE := Lib.hid (bon HXE.out hb); replace HV2 := Lib.hid (HV2.out.on hb); replace HX2 := Lib.hid (bon HX2.out hb)
    clear hb b0 b1 d0 d1 Hc
    obtain ⟨b0, b1⟩ := box2 HX.out
    obtain ⟨d0, d1⟩ := box2 HX2.out
    have Hc := Lib.hid (rcheck_any HV2.out 0 HE.out)
    go_wp2_with fail
    refine Hc.out.mono ?_
    rintro e z8 ⟨rfl, hb⟩
    replace HB := Lib.hid (btrans HB.out hb); replace HV := Lib.hid (HV.out.on hb); replace HX := Lib.hid (bon HX.out hb); replace HXE := Lib.hid (bon HXE.out hb); replace HV2 := Lib.hid (HV2.out.on hb); replace HX2 := Lib.hid (bon HX2.out hb)
    clear hb b0 b1 d0 d1 Hc
    obtain ⟨b0, b1⟩ := box2 HX.out
    obtain ⟨d0, d1⟩ := box2 HX2.out
    have Hc := Lib.hid (exists_any HV.out a2)
    rw [HA1.out] at Hc
    go_wp2_with fail
    refine Hc.out.mono ?_
    rintro e z9 ⟨rfl, hb⟩
    replace HB := Lib.hid (btrans HB.out hb); replace HV := Lib.hid (HV.out.on hb); replace HX := Lib.hid (bon HX.out hb); replace HXE := Lib.hid (bon HXE.out hb); replace HV2 := Lib.hid (HV2.out.on hb); replace HX2 := Lib.hid (bon HX2.out hb)
    clear hb b0 b1 d0 d1 Hc
    obtain ⟨b0, b1⟩ := box2 HX.out
    obtain ⟨d0, d1⟩ := box2 HX2.out
    have Hc := Lib.hid (timesP_any HV.out a2 HA2.out)
    go_wp2_with fail
    refine Hc.out.mono ?_
    rintro e z10 ⟨ta, tk, tc, L, E1, rfl, hb, hh, htr, hbd⟩
    replace HB := Lib.hid (btrans HB.out hb); replace HV := Lib.hid (HV.out.on hb); replace HX := Lib.hid (bon HX.out hb); replace HXE := Lib.hid (bon HXE.out hb); replace HV2 := Lib.hid (HV2.out.on hb); replace HX2 := Lib.hid (bon HX2.out hb)
    have HLT := Lib.hid hh
    have KT := Lib.hid htr
    clear hb b0 b1 d0 d1 Hc hh htr
    obtain ⟨b0, b1⟩ := box2 HX.out
    obtain ⟨d0, d1⟩ := box2 HX2.out
    clear hbd
    have Hc := Lib.hid (timesP_any HV2.out a2 HA2.out)
    go_wp2_with fail
    refine Hc.out.mono ?_
    rintro e z11 ⟨ua, uk, uc, U, E2, rfl, hb, hh, htr, hbd⟩
    replace HB := Lib.hid (btrans HB.out hb); replace HV := Lib.hid (HV.out.on hb); replace HX := Lib.hid (bon HX.out hb); replace HXE := Lib.hid (bon HXE.out hb); replace HV2 := Lib.hid (HV2.out.on hb); replace HX2 := Lib.hid (bon HX2.out hb)
    replace HLT := Lib.hid (HLT.out.on hb)
    have HLU := Lib.hid hh
    have KU := Lib.hid htr
    have HBD := Lib.hid hbd
    clear hb b0 b1 d0 d1 Hc hh htr hbd
    obtain ⟨b0, b1⟩ := box2 HX.out
    obtain ⟨d0, d1⟩ := box2 HX2.out
    obtain ⟨fn, rfl, hfn⟩ := val_arg HA1.out
    obtain ⟨esX, hvX⟩ := chk_val HE.out.symm
    have hex := hvX.1
    cases esX with
    | nil => simp at hex
    | cons lx es =>
    simp only [List.map_cons, List.cons.injEq] at hex
    obtain ⟨hx1, hes⟩ := hex
    subst hes
    unfold Ln.ed at hx1
    simp only [Ed.mk.injEq] at hx1
    obtain ⟨rfl, rfl, rfl, rfl, rfl⟩ := hx1
    have hv0 : Val ps0 (es.map Ln.ed) es := ⟨rfl, fun x hx => hvX.2.1 x (List.mem_cons_of_mem _ hx), hvX.2.2.1, by have := hvX.2.2.2; simp only [List.length_cons] at this; omega⟩
    have hc0 : chk ps0 (es.map Ln.ed) = 0 := chk_tail HE.out.symm
    have hE1 : E1 = 0 := by rw [KT.out.1]; exact val_chk (es := es) hc0 [(fn : Int)] (fun p hp => by simp only [List.mem_cons, List.not_mem_nil, or_false] at hp; exact ⟨fn, hp, hfn⟩)
    have hE2 : E2 = 0 := by rw [KU.out.1]; exact val_chk (es := es) HE.out.symm [(fn : Int)] (fun p hp => by simp only [List.mem_cons, List.not_mem_nil, or_false] at hp; exact ⟨fn, hp, hfn⟩)
    subst hE1 hE2
    obtain ⟨es1, f1, v1, e1, l1, htm⟩ := KT.out.2.2 rfl
    obtain rfl := hv0.one v1
    obtain rfl : fn = f1 := by omega
    obtain ⟨es2, f2, v2, e2, l2, htu⟩ := KU.out.2.2 rfl
    obtain rfl := hvX.one v2
    obtain rfl : fn = f2 := by omega
    obtain ⟨q1, q2, hsh⟩ := HLT.out.shape
    simp only [Value.slice.injEq] at hsh
    obtain ⟨y1, htk, y2⟩ := hsh
    clear y1 y2
    obtain ⟨q3, q4, hsh⟩ := HLU.out.shape
    simp only [Value.slice.injEq] at hsh
    obtain ⟨y1, huk, y2⟩ := hsh
    clear y1 y2
    have htk2 : n = tk := by rw [htk, htm.1, HN.out]
    have huk2 : n = uk := by rw [huk, htu.1, HN.out]
    subst htk2
    subst huk2
    have hsub := dist_sub htm.2 htu.2 (fun p q m e => ((wt_wt hv0.2.1).pos e).1) (wt_more lx es)
    have hline := line_of htu (i := 0) (x := lx) rfl
    have hlx := hvX.2.1 lx List.mem_cons_self
    unfold Ln.ok at hlx
    obtain ⟨la, lb, _, _, hm1, hm2, _⟩ := hlx
    rw [← HN.out] at la lb
    have hlow := htu.2.low
    have hn512 : n ≤ 512 := by rw [HN.out]; exact hvX.2.2.1
    have HSUB := Lib.hid hsub; have HLINE := Lib.hid hline; have HTM := Lib.hid htm.1; have HTU := Lib.hid htu.1; have HLA := Lib.hid (And.intro la (And.intro lb (And.intro hm1 hm2))); have HLOW := Lib.hid hlow
    clear hv0 hc0 hvX hfn htk huk hsub hline htm htu la lb hm1 hm2 hlow e1 l1 v1 e2 l2 v2 HE HS HA1 HA2 KT KU
    have qn : ((n : Int) != (n : Int)) = false := by simp
    go_wp2
    clear qn b0 b1 d0 d1
    obtain ⟨wZ, hwZ⟩ : ∃ wZ, wZ = z11 := ⟨_, rfl⟩
    subst hwZ
    go_loopw [12] (fun s12 wr => ∃ p : Nat, p ≤ n ∧ s12 = .int .i64 (p : Int) ∧ Hid (Below wZ.heap.size wZ wr)) (fun s12 _ => n - (intOf s12).toNat)
    case atStart => exact ⟨0, by omega, rfl, Lib.hid (Below.refl _ _)⟩
    case round =>
      obtain ⟨p, hp, rfl, HW⟩ := hrel
      by_cases hlt : p < n
      · have hlt2 : (p : Int) < (n : Int) := by omega
        obtain ⟨g, off, y, rfl, hg, hy, hyi, k0, hcap⟩ := (HLT.out.on HW.out).pick p (by rw [HTM.out, ← HN.out]; exact hlt)
        obtain ⟨g2, off2, z, rfl, hg2, hz, hzi, k2, hcap2⟩ := (HLU.out.on HW.out).pick p (by rw [HTU.out, ← HN.out]; exact hlt)
        have hs := HSUB.out p
        rw [dv_get hy, dv_get hz] at hs
        clear hg hy hyi hcap hg2 hz hzi hcap2
        by_cases c : 0 ≤ y
        · obtain ⟨s1, s2⟩ := hs c
          have f0 : decide (y ≥ 0) = true := decide_eq_true (by omega)
          have f1 : decide (0 ≤ y) = true := decide_eq_true c
          have f2 : decide (z < 0) = false := decide_eq_false (by omega)
          have f3 : decide (z > y) = false := decide_eq_false (by omega)
          have f4 : decide (y < z) = false := decide_eq_false (by omega)
          clear hs c s1 s2 hlt
          go_wp2_with fail
          go_quiet (fail)
          have HWQ := Lib.hid (bdrewN HW.out nq)
          clear k0 k2 f0 f1 f2 f3 f4
          generalize wr.drewN nq = w7 at *
          go_wp2
          go_roundw
          case rel => exact ⟨p + 1, by omega, by go_num, HWQ⟩
          case measure => simp [intOf]; omega
        · have f0 : decide (y ≥ 0) = false := decide_eq_false (by omega)
          have f1 : decide (0 ≤ y) = false := decide_eq_false c
          clear hs c hlt
          go_wp2_with fail
          go_quiet (fail)
          have HWQ := Lib.hid (bdrewN HW.out nq)
          clear k0 k2 f0 f1
          generalize wr.drewN nq = w7 at *
          go_wp2
          go_roundw
          case rel => exact ⟨p + 1, by omega, by go_num, HWQ⟩
          case measure => simp [intOf]; omega
      obtain rfl : p = n := by omega
      have hlt2 : ¬ ((p : Int) < (p : Int)) := by omega
      obtain ⟨e0, e1, _, e3, _⟩ := box5 (bon HXE.out HW.out)
      have hu := HLU.out.on HW.out
      obtain ⟨g2, off2, A, rfl, hg2, hA, hAi, k0, hcap2⟩ := hu.pick lx.a (by rw [HTU.out, ← HN.out]; exact HLA.out.1)
      obtain ⟨B, hB⟩ : ∃ B, U[lx.b]? = some B := ⟨_, List.getElem?_eq_getElem (by rw [HTU.out, ← HN.out]; exact HLA.out.2.1)⟩
      have k1 := (hu.at hB).2.1
      have hl := HLINE.out
      rw [dv_get hA, dv_get hB] at hl
      have lA := HLOW.out lx.a; have lB := HLOW.out lx.b
      rw [dv_get hA] at lA
      rw [dv_get hB] at lB
      have bA := HBD.out lx.a; have bB := HBD.out lx.b
      rw [dv_get hA] at bA
      rw [dv_get hB] at bB
      obtain ⟨pa, hpa⟩ : ∃ q, q = lx.a := ⟨_, rfl⟩
      obtain ⟨pb, hpb⟩ : ∃ q, q = lx.b := ⟨_, rfl⟩
      obtain ⟨pm, hpm⟩ : ∃ q, q = lx.m := ⟨_, rfl⟩
      obtain ⟨la, lb, lm1, lm2⟩ := HLA.out
      rw [← hpa] at e0 k0 la
      rw [← hpb] at e1 k1 lb
      rw [← hpm] at e3 hl lm1 lm2
      have ia : (pa : Int) < (p : Int) := by omega
      have ib : (pb : Int) < (p : Int) := by omega
      have u1 : IntKind.i64.wrap (A + (pm : Int)) = A + (pm : Int) := by rw [IntKind.wrap_i64]; omega
      have u2 : IntKind.i64.wrap (B + (pm : Int)) = B + (pm : Int) := by rw [IntKind.wrap_i64]; omega
      have f1 : decide (B ≤ A + (pm : Int)) = true := decide_eq_true (by omega)
      have f2 : decide (A ≤ B + (pm : Int)) = true := decide_eq_true (by omega)
      have HZZ := Lib.hid (btrans HB.out HW.out)
      by_cases c : A < 0
      · have g1 : decide (A < 0) = true := decide_eq_true c
        have g3 : decide (B < 0) = true := decide_eq_true (by omega)
        clear hu hg2 hA hAi hcap2 hB hl lA lB bA bB hpa hpb hpm la lb lm1 lm2 c
        go_wp2_with fail
        go_quiet (fail)
        have HZQ := Lib.hid (bdrewN HZZ.out nq)
        clear k0 k1 e0 e1 e3
        generalize wr.drewN nq = w7 at *
        go_wp2
        go_ret
        exact ⟨rfl, HZQ.out⟩
      · have g1 : decide (A < 0) = false := decide_eq_false c
        have g3 : decide (B < 0) = false := decide_eq_false (by omega)
        clear hu hg2 hA hAi hcap2 hB hl lA lB bA bB hpa hpb hpm la lb lm1 lm2 c
        go_wp2_with fail
        go_quiet (fail)
        have HZQ := Lib.hid (bdrewN HZZ.out nq)
        clear k0 k1 e0 e1 e3
        generalize wr.drewN nq = w7 at *
        go_wp2
        go_ret
        exact ⟨rfl, HZQ.out⟩

set_option maxRecDepth 100000 in
theorem lifted (os : Os) (started : os.Started) (H : Type) (enc : TypeId × Value → H) :
    ReturnsInHanded {} Try.checked os 11 .any (Rows.networkAdditionalLineSpec.pre6 enc Try.prog Try.f11 Rows.networkAdditionalLineRow.domain false) (Rows.networkAdditionalLineSpec.post enc Try.prog Try.f11 false true false false) := by
  refine returnsInHanded_of_change_sized (C := Try.checked) own started (by kernel_rfl) Try.func11
    (ChangeSpec.witness6 (enc := enc) (C := Try.checked) false ⟨#[], #[.agg #[.slice none 0 0, .slice none 0 0], .agg #[.int .i64 0, .int .i64 0, .int .i64 0, .int .i64 0, .int .i64 0], .int .i64 0], []⟩ 8 (by kernel_rfl) (by kernel_rfl) (by kernel_rfl) (by kernel_rfl)) ?_
  intro W base args ds gs before hval0 hW _ hsz0 _
  have hsz : (DataW.weightsEach Try.prog (Try.f11.params.toList ++ Rows.networkAdditionalLineSpec.plain.varTypes Try.prog) (ds ++ gs)).all (· ≤ reachBytes) = true := hsz0
  have hval : ∀ (j : Nat) t v, Try.f11.params[j]? = some t → args[j]? = some v → Value.okWide Try.prog W .any base t v := hval0
  clear hsz0 hval0
  have hW' := hW
  obtain ⟨p, q, hA0, hV, rfl, _, _⟩ := hW
  have hA : DataW.TrodAll enc Try.prog W 0 (fun _ => true) true Try.f11.params.toList args.toList ds p := hA0
  rw [Try.params11] at hA hval hsz
  obtain ⟨v0, vs0, d0, ds0, p0, q0, hargs, rfl, rfl, h0, r0⟩ := trodAll_cons hA
  obtain ⟨v1, vs1, d1, ds1, p1, q1, rfl, rfl, rfl, h1, r1⟩ := trodAll_cons r0
  obtain ⟨v2, vs2, d2, ds2, p2, q2, rfl, rfl, rfl, h2, r2⟩ := trodAll_cons r1
  obtain ⟨rfl, rfl, rfl⟩ := trodAll_nil r2
  obtain rfl : args = #[v0, v1, v2] := by cases args; simp_all
  obtain ⟨rfl, rfl⟩ := trodVars_none hV
  have hw0 : ∀ n ∈ d0.weights Try.prog 25, n ≤ reachBytes := by
    intro n hn
    have := List.all_eq_true.1 hsz n (DataW.weights_mem_each (t := 25) (d := d0) (j := 0) rfl rfl n hn)
    simpa using this
  obtain ⟨ps0, es0, hn0, hbig0⟩ := openNwB (hval 0 25 v0 rfl rfl) h0 hw0
  obtain ⟨x1, rfl, hx1⟩ := openEdV (hval 1 45 v1 rfl rfl) h1
  obtain ⟨a2, rfl, rfl, rfl, wf2⟩ := open_int Try.underlying3 (hval 2 3 v2 rfl rfl) h2
  clear hA0
  refine (walk v0 ps0 es0 x1 a2 W hn0 hbig0 hx1 (i64_wf wf2)).mono fun e W' ⟨he, hb⟩ => ?_
  subst he
  refine ⟨_, rfl, post_law laidOut ?_ rfl rfl hW' rfl rfl rfl hb⟩
  intro t ht
  rw [Try.params11] at ht
  have hm : t ∈ [3, 25, 45] := (by decide : ∀ t ∈ (#[25, 45, 3] : Array TypeId).toList, t ∈ [3, 25, 45]) t ht
  have hall : ([3, 25, 45].all fun u => Try.prog.readableRec u && decide (u < Try.prog.types.size)) = true := by kernel_rfl
  have := List.all_eq_true.1 hall t hm
  simpa using this

theorem over : Rows.networkAdditionalLineRow.holds Try.pinned (OpenSpec.ofChange Rows.networkAdditionalLineSpec) :=
  OpenClaim.holds_of_wide 11 Try.f11 rfl rfl rfl rfl rfl rfl rfl ⟨rfl, rfl, rfl, rfl, rfl⟩ rfl rfl rfl rfl rfl (by kernel_rfl) Try.func11 (by kernel_rfl)
    (of_decide_eq_true (by kernel_rfl)) (by unfold Func.isWrapper; first | (rw [if_pos (by decide +kernel)]; kernel_rfl) | (rw [if_neg (by decide +kernel)]; exact ⟨rfl, rfl⟩))
    (fun os started H enc _ => lifted os started H enc)

/-- THE STATEMENT. -/
theorem proved : Rows.NetworkAdditionalLineSaid :=
  over
#print axioms proved
end Go.Proofs.Ytbeoldklpklbfaa.networkAdditionalLine
