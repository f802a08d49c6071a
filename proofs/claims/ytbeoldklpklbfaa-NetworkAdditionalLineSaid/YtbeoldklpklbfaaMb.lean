/-
  Walks: the minutes of a list of places.
-/
import Derived.Test.YtbeoldklpklbfaaVa
namespace Go.Proofs.Ytbeoldklpklbfaa
open Go.RowKit
set_option linter.unusedVariables false
set_option linter.unusedSimpArgs false

/-- Pair i of a list is joined; line j is its fastest. -/
def hop (n : Nat) (es : List Ln) (l : List Int) (i j : Nat) : Prop := ∃ a b : Nat, l[i]? = some (a : Int) ∧ l[i + 1]? = some (b : Int) ∧ a < n ∧ b < n ∧ fd es a b = some j
def sm (es : List Ln) (l : List Int) : Nat → Int
  | 0 => 0
  | i + 1 => sm es l i + match fd es (l.getD i 0).toNat (l.getD (i + 1) 0).toNat with
    | some j => ((mi es j : Nat) : Int)
    | none => 0
theorem sm_next {n : Nat} {es : List Ln} {l : List Int} {i j : Nat} (h : hop n es l i j) : sm es l (i + 1) = sm es l i + (mi es j : Nat) := by
  obtain ⟨a, b, h1, h2, _, _, h3⟩ := h
  have e1 : (l.getD i 0).toNat = a := by rw [List.getD_eq_getElem?_getD, h1]; rfl
  have e2 : (l.getD (i + 1) 0).toNat = b := by rw [List.getD_eq_getElem?_getD, h2]; rfl
  conv => lhs; unfold sm
  rw [e1, e2, h3]
def MR (n : Nat) (es : List Ln) (l : List Int) (S : Int) (B : Bool) : Prop := B = true ∧ (∀ i, i + 1 < l.length → ∃ j, hop n es l i j) ∧ S = sm es l (l.length - 1) ∨ B = false ∧ S = 0 ∧ ∃ i, i + 1 < l.length ∧ ∀ j, ¬ hop n es l i j
theorem hop_edge {ps : List Pc} {eds : List Ed} {es : List Ln} {l : List Int} {i : Nat} {x y I E : Int} (hv : Val ps eds es) (hc : chk ps eds = 0) (hx : l[i]? = some x) (hy : l[i + 1]? = some y) (hr : ER ps eds x y I E) : (E ≠ 0 ∧ ∀ j, ¬ hop ps.length es l i j) ∨ (E = 0 ∧ ∃ j : Nat, I = (j : Int) ∧ hop ps.length es l i j) := by
  rcases hr with ⟨h1, h2, _⟩ | ⟨h1, es', an, bn, v', rfl, rfl, l1, l2, hr⟩
  · refine Or.inl ⟨by rw [h2]; exact h1, fun j hj => h1 ?_⟩
    obtain ⟨a, b, g1, g2, g3, g4, _⟩ := hj
    rw [hx] at g1; rw [hy] at g2
    cases g1; cases g2
    refine val_chk (es := es) hc _ (fun p hp => ?_)
    simp only [List.mem_cons, List.not_mem_nil, or_false] at hp
    rcases hp with rfl | rfl
    · exact ⟨a, rfl, g3⟩
    · exact ⟨b, rfl, g4⟩
  · obtain rfl := hv.one v'
    rcases hr with ⟨g, rfl, _⟩ | ⟨j, g, rfl, rfl⟩
    · refine Or.inl ⟨by decide, fun j hj => ?_⟩
      obtain ⟨a, b, g1, g2, g3, g4, g5⟩ := hj
      rw [hx] at g1; rw [hy] at g2
      have e1 : an = a := by have := Option.some.inj g1; omega
      have e2 : bn = b := by have := Option.some.inj g2; omega
      rw [e1, e2, g5] at g
      cases g
    · exact Or.inr ⟨rfl, j, rfl, an, bn, hx, hy, l1, l2, g⟩
theorem hop_line {ps : List Pc} {eds : List Ed} {es : List Ln} {l : List Int} {i j : Nat} (hv : Val ps eds es) (h : hop ps.length es l i j) : ∃ x, es[j]? = some x ∧ x.ok ps.length ∧ j < es.length ∧ mi es j = x.m ∧ lx es j = x := by
  obtain ⟨a, b, _, _, _, _, h3⟩ := h
  obtain ⟨x, hx, _⟩ := fd_line h3
  exact ⟨x, hx, hv.2.1 x (List.mem_of_getElem? hx), fd_lt h3, mi_get hx, lx_get hx⟩
set_option maxRecDepth 100000 in
set_option maxHeartbeats 8000000 in
theorem minutes_any8 {V u : Value} {ps : List Pc} {eds : List Ed} {es : List Ln} {l : List Int} {w : World} (h : Nw w V ps eds) (hval : Val ps eds es) (hchk : chk ps eds = 0) (hu : Hl (fun k => k < w.heap.size) w u l) (hl : l.length ≤ 100) :
    Calls Try.prog 30 #[V, u] w fun e w' => ∃ (S : Int) (B : Bool), e = .returned (.tuple #[.int .i64 S, .bool B]) ∧ Below w.heap.size w w' ∧ MR ps.length es l S B := by
  obtain ⟨va, vc, vb, vd, rfl, h1, h2⟩ := h.shape
  obtain ⟨n, hn⟩ : ∃ n, n = ps.length := ⟨_, rfl⟩
  obtain ⟨m, hm⟩ : ∃ m, m = eds.length := ⟨_, rfl⟩
  rw [← hn, ← hm] at h ⊢
  have HN := Lib.hid hn; have HM := Lib.hid hm
  obtain ⟨W, hW⟩ : ∃ W, W = w.alloc (.cells #[.slice va n vc, .slice vb m vd] 25) := ⟨_, rfl⟩
  have hB : Below w.heap.size w W := by rw [hW]; exact ball (Below.refl w.heap.size w) _
  have e0 : W.heap[w.heap.size]? = some (.cells #[.slice va n vc, .slice vb m vd] 25 (0, 0)) := by rw [hW]; exact bnew _ _
  have hV := h.on hB
  obtain ⟨b0, b1⟩ := box2 e0
  obtain ⟨ua, uc, rfl⟩ := hu.shape
  obtain ⟨rl, hrl2⟩ : ∃ rl, rl = l.length := ⟨_, rfl⟩
  rw [← hrl2] at hu hl ⊢
  have HC := Lib.hid (fun (w' : World) (hb : Below W.heap.size W w') (x y : Int) (hx : I64 x) (hy : I64 y) => edgeP_any (hV.on hb) x y hx hy)
  have HB := Lib.hid hB; have HE0 := Lib.hid e0; have HV := Lib.hid hV; have HU := Lib.hid (hu.on hB); have HRL := Lib.hid hrl2
  have HVAL := Lib.hid hval; have HCHK := Lib.hid hchk
  have hmes : m = es.length := by have := HM.out; rw [this, hval.1, List.length_map]
  have hm2 : m ≤ 2048 := by have := hval.2.2.2; omega
  have HMES := Lib.hid hmes
  clear h h1 h2 hn hm hB e0 hV hu hrl2 hval hchk hmes
  go_enter Try.func30, Try.ntmps30
  go_wp2_with fail
  rw [← hW]
  clear hW b0 b1
  go_loopw [6, 7] (fun s t wr => ∃ (i : Nat) (S : Int), s = .int .i64 S ∧ t = .int .i64 (i : Int) ∧ (i = 0 ∨ i + 1 ≤ rl) ∧ 0 ≤ S ∧ S ≤ 100000 * (i : Int) ∧ Hid (S = sm es l i) ∧ Hid (∀ k, k < i → ∃ j, hop ps.length es l k j) ∧ Hid (Below W.heap.size W wr)) (fun _ t _ => rl - (intOf t).toNat)
  case atStart => exact ⟨0, 0, rfl, rfl, Or.inl rfl, by omega, by omega, Lib.hid rfl, Lib.hid (fun k hk => by omega), Lib.hid (Below.refl _ _)⟩
  case round =>
    obtain ⟨i, S, rfl, rfl, hi, hS0, hS1, HS, HK, HW⟩ := hrel
    have hw1 : IntKind.i64.wrap ((i : Int) + 1) = (i : Int) + 1 := wrap_in (by omega) (by omega)
    by_cases hlt : i + 1 < rl
    · have hlt2 : (i : Int) + 1 < (rl : Int) := by omega
      have hlt3 : (i : Int) < (rl : Int) := by omega
      have hHl := HU.out.on HW.out
      obtain ⟨g, off, x, rfl, hg, hx, hxi, c0, hcap⟩ := hHl.pick i (by rw [← HRL.out]; omega)
      obtain ⟨g', off', y, e9, hg', hy, hyi, c1, _⟩ := hHl.pick (i + 1) (by rw [← HRL.out]; omega)
      simp only [Option.some.injEq, Addr.mk.injEq, and_true] at e9
      obtain ⟨rfl, rfl⟩ := e9
      have hoff : off + ((i : Int) + 1).toNat = off + (i + 1) := by omega
      obtain ⟨b0, b1⟩ := box2 (bon HE0.out HW.out)
      have HST : Hid ((wr.drew.cell? ⟨g, off + i, none⟩ = some (.int .i64 x) ∧ wr.drew.cell? ⟨g, off + (i + 1), none⟩ = some (.int .i64 y)) ∧ wr.drew.cell? ⟨w.heap.size, 0, none⟩ = some (.slice va n vc) ∧ wr.drew.cell? ⟨w.heap.size, 1, none⟩ = some (.slice vb m vd)) := Lib.hid ⟨⟨c0, c1⟩, b0, b1⟩
      have HXI := Lib.hid hxi; have HYI := Lib.hid hyi; have HX := Lib.hid hx; have HY := Lib.hid hy; have HG := Lib.hid hg
      clear hHl hg' hcap hx hy hxi hyi hg b0 b1 c0 c1
      go_upto_region 5 with (fail)
      refine wp_region_held_drew (S := fun w' => (w'.cell? ⟨g, off + i, none⟩ = some (.int .i64 x) ∧ w'.cell? ⟨g, off + (i + 1), none⟩ = some (.int .i64 y)) ∧ w'.cell? ⟨w.heap.size, 0, none⟩ = some (.slice va n vc) ∧ w'.cell? ⟨w.heap.size, 1, none⟩ = some (.slice vb m vd)) (by kernel_rfl) HST.out (fun hHeld => ?_)
      change wpAnyH _ _ _ _ _ 16 #[false, false, false, false, false, false, false, false, false, false, false, false, false, false, false, false] _ _
      refine wpAnyH_take (i := 0) (oi := _) (v := .agg #[.slice va n vc, .slice vb m vd]) rfl (by kernel_rfl) (by kernel_rfl) (by kernel_rfl) (fun _ _ _ h => h) (Or.inl ⟨by rfl, fun wx hSw => ?_⟩) (by assumption) ?_
      · go_simp
        try (first | omega | (rw [IntKind.wrap_i64]; omega))
      (try simp only [Act.put, List.setIfInBounds_toArray, List.set_cons_zero, List.set_cons_succ, List.getElem_toArray, List.getElem_cons_zero, List.getElem_cons_succ])
      refine wpAnyH_take (i := 1) (oi := _) (v := .slice (some ⟨g, off, none⟩) rl uc) rfl (by kernel_rfl) (by kernel_rfl) (by kernel_rfl) (fun _ _ _ h => h) (Or.inl ⟨by rfl, fun wx hSw => ?_⟩) (by assumption) ?_
      · go_simp
        try (first | omega | (rw [IntKind.wrap_i64]; omega))
      (try simp only [Act.put, List.setIfInBounds_toArray, List.set_cons_zero, List.set_cons_succ, List.getElem_toArray, List.getElem_cons_zero, List.getElem_cons_succ])
      refine wpAnyH_take (i := 2) (oi := _) (v := .int .i64 (i : Int)) rfl (by kernel_rfl) (by kernel_rfl) (by kernel_rfl) (fun _ _ _ h => h) (Or.inl ⟨by rfl, fun wx hSw => ?_⟩) (by assumption) ?_
      · go_simp
        try (first | omega | (rw [IntKind.wrap_i64]; omega))
      (try simp only [Act.put, List.setIfInBounds_toArray, List.set_cons_zero, List.set_cons_succ, List.getElem_toArray, List.getElem_cons_zero, List.getElem_cons_succ])
      refine wpAnyH_take (i := 3) (oi := _) (v := .pointer (some ⟨g, off + i, none⟩)) rfl (by kernel_rfl) (by kernel_rfl) (by kernel_rfl) (fun _ _ _ h => h) (Or.inl ⟨by rfl, fun wx hSw => ?_⟩) (by assumption) ?_
      · go_simp
        try (first | omega | (rw [IntKind.wrap_i64]; omega))
      (try simp only [Act.put, List.setIfInBounds_toArray, List.set_cons_zero, List.set_cons_succ, List.getElem_toArray, List.getElem_cons_zero, List.getElem_cons_succ])
      refine wpAnyH_take (i := 4) (oi := _) (v := .int .i64 x) rfl (by kernel_rfl) (by kernel_rfl) (by kernel_rfl) (fun _ _ _ h => h) (Or.inl ⟨by rfl, fun wx hSw => ?_⟩) (by assumption) ?_
      · go_simp
        try (first | omega | (rw [IntKind.wrap_i64]; omega))
      (try simp only [Act.put, List.setIfInBounds_toArray, List.set_cons_zero, List.set_cons_succ, List.getElem_toArray, List.getElem_cons_zero, List.getElem_cons_succ])
      refine wpAnyH_take (i := 5) (oi := _) (v := .slice (some ⟨g, off, none⟩) rl uc) rfl (by kernel_rfl) (by kernel_rfl) (by kernel_rfl) (fun _ _ _ h => h) (Or.inl ⟨by rfl, fun wx hSw => ?_⟩) (by assumption) ?_
      · go_simp
        try (first | omega | (rw [IntKind.wrap_i64]; omega))
      (try simp only [Act.put, List.setIfInBounds_toArray, List.set_cons_zero, List.set_cons_succ, List.getElem_toArray, List.getElem_cons_zero, List.getElem_cons_succ])
      refine wpAnyH_take (i := 6) (oi := _) (v := .int .i64 (i : Int)) rfl (by kernel_rfl) (by kernel_rfl) (by kernel_rfl) (fun _ _ _ h => h) (Or.inl ⟨by rfl, fun wx hSw => ?_⟩) (by assumption) ?_
      · go_simp
        try (first | omega | (rw [IntKind.wrap_i64]; omega))
      (try simp only [Act.put, List.setIfInBounds_toArray, List.set_cons_zero, List.set_cons_succ, List.getElem_toArray, List.getElem_cons_zero, List.getElem_cons_succ])
      refine wpAnyH_take (i := 7) (oi := _) (v := .int .i64 ((i : Int) + 1)) rfl (by kernel_rfl) (by kernel_rfl) (by kernel_rfl) (fun _ _ _ h => h) (Or.inl ⟨by rfl, fun wx hSw => ?_⟩) (by assumption) ?_
      · go_simp
        try (first | omega | (rw [IntKind.wrap_i64]; omega))
      (try simp only [Act.put, List.setIfInBounds_toArray, List.set_cons_zero, List.set_cons_succ, List.getElem_toArray, List.getElem_cons_zero, List.getElem_cons_succ])
      refine wpAnyH_take (i := 8) (oi := _) (v := .pointer (some ⟨g, off + (i + 1), none⟩)) rfl (by kernel_rfl) (by kernel_rfl) (by kernel_rfl) (fun _ _ _ h => h) (Or.inl ⟨by rfl, fun wx hSw => ?_⟩) (by assumption) ?_
      · go_simp
        try (first | omega | (rw [IntKind.wrap_i64]; omega))
      (try simp only [Act.put, List.setIfInBounds_toArray, List.set_cons_zero, List.set_cons_succ, List.getElem_toArray, List.getElem_cons_zero, List.getElem_cons_succ])
      refine wpAnyH_take (i := 9) (oi := _) (v := .int .i64 y) rfl (by kernel_rfl) (by kernel_rfl) (by kernel_rfl) (fun _ _ _ h => h) (Or.inl ⟨by rfl, fun wx hSw => ?_⟩) (by assumption) ?_
      · go_simp
        try (first | omega | (rw [IntKind.wrap_i64]; omega))
      (try simp only [Act.put, List.setIfInBounds_toArray, List.set_cons_zero, List.set_cons_succ, List.getElem_toArray, List.getElem_cons_zero, List.getElem_cons_succ])
      refine wpAnyH_ready (rs := [10]) (by kernel_rfl) (by simp) ?_
      refine AllReadyH.cons (o := _) rfl (fun K hK => ?_) AllReadyH.nil
      go_simp
      refine (HC.out _ HW.out.drew x y HXI.out HYI.out).mono ?_
      rintro e w7 ⟨I, E, rfl, hb7, hr7⟩
      have HB7 : Hid (Below wr.heap.size wr w7) := Lib.hid (btrans (Below.refl wr.heap.size wr).drew hb7)
      have HER := Lib.hid hr7
      have h7 : (w7.cell? ⟨g, off + i, none⟩ = some (.int .i64 x) ∧ w7.cell? ⟨g, off + (i + 1), none⟩ = some (.int .i64 y)) ∧ w7.cell? ⟨w.heap.size, 0, none⟩ = some (.slice va n vc) ∧ w7.cell? ⟨w.heap.size, 1, none⟩ = some (.slice vb m vd) := by
        have hbb := btrans HW.out HB7.out
        obtain ⟨q0, q1⟩ := box2 (bon HE0.out hbb)
        exact ⟨⟨((HU.out.on hbb).at HX.out).2.1, ((HU.out.on hbb).at HY.out).2.1⟩, q0, q1⟩
      clear hb7 hr7
      go_wp2_with fail
      refine hK.out _ _ (h7) (fun hHeld => ?_)
      clear hK K
      (try simp only [Act.put, List.setIfInBounds_toArray, List.set_cons_zero, List.set_cons_succ, List.getElem_toArray, List.getElem_cons_zero, List.getElem_cons_succ])
      refine wpAnyH_take (i := 11) (oi := _) (v := .tuple #[.int .i64 I, .int .i64 E]) rfl (by kernel_rfl) (by kernel_rfl) (by kernel_rfl) (fun _ _ _ h => h) (Or.inl ⟨by rfl, fun wx hSw => ?_⟩) (by assumption) ?_
      · go_simp
        try (first | omega | (rw [IntKind.wrap_i64]; omega))
      (try simp only [Act.put, List.setIfInBounds_toArray, List.set_cons_zero, List.set_cons_succ, List.getElem_toArray, List.getElem_cons_zero, List.getElem_cons_succ])
      refine wpAnyH_take (i := 12) (oi := _) (v := .int .i64 I) rfl (by kernel_rfl) (by kernel_rfl) (by kernel_rfl) (fun _ _ _ h => h) (Or.inl ⟨by rfl, fun wx hSw => ?_⟩) (by assumption) ?_
      · go_simp
        try (first | omega | (rw [IntKind.wrap_i64]; omega))
      (try simp only [Act.put, List.setIfInBounds_toArray, List.set_cons_zero, List.set_cons_succ, List.getElem_toArray, List.getElem_cons_zero, List.getElem_cons_succ])
      refine wpAnyH_take (i := 13) (oi := _) (v := .int .i64 E) rfl (by kernel_rfl) (by kernel_rfl) (by kernel_rfl) (fun _ _ _ h => h) (Or.inl ⟨by rfl, fun wx hSw => ?_⟩) (by assumption) ?_
      · go_simp
        try (first | omega | (rw [IntKind.wrap_i64]; omega))
      (try simp only [Act.put, List.setIfInBounds_toArray, List.set_cons_zero, List.set_cons_succ, List.getElem_toArray, List.getElem_cons_zero, List.getElem_cons_succ])
      refine wpAnyH_take (i := 14) (oi := _) (v := .int .i64 I) rfl (by kernel_rfl) (by kernel_rfl) (by kernel_rfl) (fun _ _ _ h => h) (Or.inl ⟨by rfl, fun wx hSw => ?_⟩) (by assumption) ?_
      · go_simp
        try (first | omega | (rw [IntKind.wrap_i64]; omega))
      (try simp only [Act.put, List.setIfInBounds_toArray, List.set_cons_zero, List.set_cons_succ, List.getElem_toArray, List.getElem_cons_zero, List.getElem_cons_succ])
      refine wpAnyH_take (i := 15) (oi := _) (v := .int .i64 E) rfl (by kernel_rfl) (by kernel_rfl) (by kernel_rfl) (fun _ _ _ h => h) (Or.inl ⟨by rfl, fun wx hSw => ?_⟩) (by assumption) ?_
      · go_simp
        try (first | omega | (rw [IntKind.wrap_i64]; omega))
      (try simp only [Act.put, List.setIfInBounds_toArray, List.set_cons_zero, List.set_cons_succ, List.getElem_toArray, List.getElem_cons_zero, List.getElem_cons_succ])
      refine wpAnyH_done (by kernel_rfl) ?_ _
      clear hHeld h7
      have HE7 := hop_edge HVAL.out HCHK.out HX.out HY.out HER.out
      have HW7 := Lib.hid (btrans HW.out HB7.out)
      rcases HE7 with ⟨hE0, hno⟩ | ⟨rfl, j, rfl, hj⟩
      · have d1 : (E != 0) = true := by simpa using hE0
        have HF : Hid (MR ps.length es l 0 false) := Lib.hid (Or.inr ⟨rfl, rfl, i, by have := HRL.out; omega, hno⟩)
        clear hE0 hno HER
        go_wp2
        go_ret2
        exact ⟨0, false, rfl, btrans HB.out HW7.out, by rw [HN.out]; exact HF.out⟩
      · obtain ⟨z, hz, hzo, hjl, hmi, _⟩ := hop_line HVAL.out hj
        have hjm : j < m := by have := HMES.out; omega
        have hjm2 : (j : Int) < (m : Int) := by omega
        have d2 : decide ((j : Int) < 0) = false := decide_eq_false (by omega)
        have d3 : decide ((j : Int) ≥ (m : Int)) = false := decide_eq_false (by omega)
        obtain ⟨va2, vc2, vb2, vd2, he2, _, hES⟩ := (HV.out.on HW7.out).shape
        simp only [Value.agg.injEq, Array.mk.injEq, List.cons.injEq, Value.slice.injEq, and_true] at he2
        obtain ⟨⟨rfl, _, rfl⟩, rfl, hm9, rfl⟩ := he2
        rw [← hm9] at hES
        obtain ⟨g5, off5, z2, rfl, hg5, hz2, z0, z1, zr, z3, z4, hcap5⟩ := Es.cells hES j (by rw [← HM.out]; exact hjm)
        have hzy : z2 = z.ed := by
          rw [HVAL.out.1, List.getElem?_map, hz] at hz2
          exact (Option.some.inj hz2).symm
        subst hzy
        obtain ⟨xm, hxm⟩ : ∃ xm, xm = z.m := ⟨_, rfl⟩
        have z3' : w7.cell? ⟨g5, off5 + j * 5 + 3, none⟩ = some (.int .i64 (xm : Int)) := by rw [hxm]; exact z3
        have hxmb : xm ≤ 100000 := by unfold Ln.ok at hzo; omega
        have hsn := sm_next hj
        rw [hmi, ← hxm, ← HS.out] at hsn
        obtain ⟨b0, b1⟩ := box2 (bon HE0.out HW7.out)
        have hK2 : Hid (∀ k, k < i + 1 → ∃ j, hop ps.length es l k j) := Lib.hid (fun k hk => by
          by_cases e : k = i
          · subst e; exact ⟨j, hj⟩
          · exact HK.out k (by omega))
        have hw2 : IntKind.i64.wrap (S + (xm : Int)) = S + (xm : Int) := wrap_in (by omega) (by omega)
        have HSN := Lib.hid hsn
        clear hz hzo hjl hmi hES hm9 hg5 hz2 z0 z1 zr z3 z4 hcap5 hxm hj hsn HK HER
        go_wp2
        clear b0 b1 z3'
        go_roundw
        case rel => exact ⟨i + 1, S + (xm : Int), rfl, by go_num, Or.inr (by omega), by omega, by omega, Lib.hid HSN.out.symm, hK2, HW7⟩
        case measure => simp [intOf]; omega
    · have hlt2 : ¬ ((i : Int) + 1 < (rl : Int)) := by omega
      have HF : Hid (MR ps.length es l S true) := Lib.hid (Or.inl ⟨rfl, fun k hk => by have := HRL.out; exact HK.out k (by omega), by rw [HS.out]; congr 1; have := HRL.out; omega⟩)
      clear HK HS
      go_wp2
      go_ret2
      exact ⟨S, Or.inr ⟨rfl, btrans HB.out HW.out, by rw [HN.out]; exact HF.out⟩⟩
end Go.Proofs.Ytbeoldklpklbfaa
