/-
  Walks: the reference's shares.
-/
import Derived.Test.YtbeoldklpklbfaaXa
import Derived.Test.YtbeoldklpklbfaaOd
namespace Go.Proofs.Ytbeoldklpklbfaa
open Go.RowKit
set_option linter.unusedVariables false
set_option linter.unusedSimpArgs false

theorem info4' : (Try.prog.info? 4).map (fun i => (i.zero, i.size, i.bytes)) = some (some (.bool false), 1, 1) := by kernel_rfl
/-- What the rounds keep. -/
structure SR (w2 : World) (es : List Ln) (P : List Nat) (j : Nat) (wr : World) : Prop where
  below : Below w2.heap.size w2 wr
  km : KA wr w2.heap.size 3 (fun r => .int .i64 (kmf es P r j : Nat))
  us : KA wr (w2.heap.size + 1) 4 (fun r => .bool (usf es P r j))
  ok : ∀ i, i < j → rln es P i ≠ none
theorem sr_start (w2 : World) (es : List Ln) (P : List Nat) : SR w2 es P 0 ((w2.alloc (.cells (madeCells #[.int .i64 0] 16) 3)).alloc (.cells (madeCells #[.bool false] 16) 4)) := by
  have hk1 := ka_made w2 3 (.int .i64 0)
  have hk2 := ka_made (w2.alloc (.cells (madeCells #[.int .i64 0] 16) 3)) 4 (.bool false)
  rw [World.size_alloc] at hk2
  exact ⟨ball (ball (Below.refl _ _) _) _, hk1.on (ball (Below.refl _ _) _), hk2, fun i hi => by omega⟩
theorem SR.next {w2 wr : World} {es : List Ln} {P : List Nat} {j jj rr xk : Nat} {y : Ln} {KV : Int} (h : SR w2 es P j wr) (hr : rln es P j = some jj) (hy : es[jj]? = some y) (h1 : rr = y.r) (h2 : xk = y.k) (h16 : rr < 16) (hK : KV = (kmf es P rr j : Nat)) :
    SR w2 es P (j + 1) ((wr.setCell ⟨w2.heap.size, rr, none⟩ (.int .i64 (KV + (xk : Int)))).setCell ⟨w2.heap.size + 1, rr, none⟩ (.bool true)) := by
  have hK3 : KA (wr.setCell ⟨w2.heap.size, rr, none⟩ (.int .i64 (KV + (xk : Int)))) w2.heap.size 3 (fun r => .int .i64 (kmf es P r (j + 1) : Nat)) := (h.km.put h16 (.int .i64 (KV + (xk : Int)))).same (fun r hr' => by
    show (if r = rr then _ else _) = _
    rw [kmf_next hr hy]
    by_cases e : r = rr
    · rw [if_pos e, if_pos (by omega), e, ← h2, hK]; congr 1
    · rw [if_neg e, if_neg (by omega)]; rfl)
  have hU3 := h.us.other ⟨w2.heap.size, rr, none⟩ (.int .i64 (KV + (xk : Int))) (by simp)
  have hU4 : KA ((wr.setCell ⟨w2.heap.size, rr, none⟩ (.int .i64 (KV + (xk : Int)))).setCell ⟨w2.heap.size + 1, rr, none⟩ (.bool true)) (w2.heap.size + 1) 4 (fun r => .bool (usf es P r (j + 1))) := (hU3.put h16 (.bool true)).same (fun r hr' => by
    show (if r = rr then _ else _) = _
    rw [usf_next hr hy]
    by_cases e : r = rr
    · rw [if_pos e, decide_eq_true (by omega), Bool.or_true]
    · rw [if_neg e, decide_eq_false (by omega), Bool.or_false])
  refine ⟨Below.setCell (Below.setCell h.below (show w2.heap.size ≤ w2.heap.size by omega) _) (show w2.heap.size ≤ w2.heap.size + 1 by omega) _, hK3.other ⟨w2.heap.size + 1, rr, none⟩ (.bool true) (by simp), hU4, fun i hi => ?_⟩
  by_cases e : i = j
  · rw [e, hr]; simp
  · exact h.ok i (by omega)
theorem SR.on {w2 wr w' : World} {es : List Ln} {P : List Nat} {j : Nat} (h : SR w2 es P j wr) (hb : Below wr.heap.size wr w') : SR w2 es P j w' :=
  ⟨btrans h.below hb, h.km.on hb, h.us.on hb, h.ok⟩
theorem SR.uc {w2 wr : World} {es : List Ln} {P : List Nat} {j rr : Nat} (h : SR w2 es P j wr) (v : Value) (h16 : rr < 16) : (wr.setCell ⟨w2.heap.size, rr, none⟩ v).cell? ⟨w2.heap.size + 1, rr, none⟩ = some (.bool (usf es P rr j)) ∧ (wr.setCell ⟨w2.heap.size, rr, none⟩ v).frozen? ⟨w2.heap.size + 1, rr, none⟩ = false :=
  ⟨(h.us.other ⟨w2.heap.size, rr, none⟩ v (by simp)).cell h16, (h.us.other ⟨w2.heap.size, rr, none⟩ v (by simp)).free rr⟩
theorem plc_of {n : Nat} {l : List Int} (h : ∀ (j : Nat) (x : Int), j < l.length → l[j]? = some x → rng 0 x ((n : Int) - 1) = true) : plc n l = true := by
  unfold plc
  refine List.all_eq_true.2 fun p hp => ?_
  obtain ⟨j, hj⟩ := List.getElem?_of_mem hp
  exact h j p (List.getElem?_eq_some_iff.1 hj).1 hj
theorem plc_not {n : Nat} {l : List Int} {j : Nat} {x : Int} (hx : l[j]? = some x) (hr : rng 0 x ((n : Int) - 1) = false) : plc n l = false := by
  cases h : plc n l with
  | false => rfl
  | true =>
    obtain ⟨q, rfl, hq⟩ := plc_mem h (List.mem_of_getElem? hx)
    rw [rng_true ⟨by omega, by omega⟩] at hr
    cases hr

set_option maxRecDepth 100000 in
set_option maxHeartbeats 8000000 in
theorem rsharesP_any {V u : Value} {ps : List Pc} {eds : List Ed} {route : List Int} {w : World} (h : Nw w V ps eds) (hu : Hl (fun k => k < w.heap.size) w u route) (hrl : route.length ≤ 100000) :
    Calls Try.prog 26 #[V, u] w fun e w' => ∃ (ad : Option Addr) (k c : Nat) (S : List Sh) (E : Int), e = .returned (.tuple #[.slice ad k c, .int .i64 E]) ∧ Below w.heap.size w w' ∧ Ss (fun k => k < w'.heap.size) w' (.slice ad k c) S ∧ HR ps eds route S E := by
  obtain ⟨va, vc, vb, vd, rfl, h1, h2⟩ := h.shape
  obtain ⟨n, hn⟩ : ∃ n, n = ps.length := ⟨_, rfl⟩
  obtain ⟨m, hm⟩ : ∃ m, m = eds.length := ⟨_, rfl⟩
  rw [← hn, ← hm] at h ⊢
  have HN := Lib.hid hn; have HM := Lib.hid hm
  obtain ⟨W, hW⟩ : ∃ W, W = w.alloc (.cells #[.slice va n vc, .slice vb m vd] 25) := ⟨_, rfl⟩
  have hB : Below w.heap.size w W := by rw [hW]; exact ball (Below.refl w.heap.size w) _
  have e0 : W.heap[w.heap.size]? = some (.cells #[.slice va n vc, .slice vb m vd] 25 (0, 0)) := by rw [hW]; exact bnew _ _
  have hV := h.on hB
  obtain ⟨b0, b1⟩ := box2 e0
  obtain ⟨ua, uc, rfl⟩ := hu.shape
  obtain ⟨rl, hrl2⟩ : ∃ rl, rl = route.length := ⟨_, rfl⟩
  rw [← hrl2] at hu hrl ⊢
  obtain ⟨E, hE⟩ : ∃ E, E = chk ps eds := ⟨_, rfl⟩
  have HC := Lib.hid (rcheck_any hV E hE)
  have HB := Lib.hid hB; have HX := Lib.hid e0; have HV := Lib.hid hV; have HEE := Lib.hid hE; have HU := Lib.hid (hu.on hB); have HRL := Lib.hid hrl2
  clear h h1 h2 hn hm hB e0 hV hE hu hrl2
  by_cases c0 : E = 0
  · subst c0
    obtain ⟨es, hval⟩ := chk_val HEE.out.symm
    obtain rfl := hval.1
    have HVAL := Lib.hid hval
    have hn512 : n ≤ 512 := by have := HN.out; have := hval.2.2.1; omega
    have hmes : m = es.length := by have := HM.out; rw [this, List.length_map]
    have HMES := Lib.hid hmes
    have hm2 : m ≤ 2048 := by have := hval.2.2.2; omega
    clear hval hmes
    go_enter Try.func26, Try.ntmps26
    go_wp2_with fail
    rw [← hW]
    clear hW
    refine HC.out.mono ?_
    rintro e w1 ⟨rfl, hb⟩
    replace HB := Lib.hid (btrans HB.out hb); replace HV := Lib.hid (HV.out.on hb); replace HX := Lib.hid (bon HX.out hb); replace HU := Lib.hid (HU.out.on hb)
    clear hb b0 b1 HC
    go_wp2
    go_loopw [7] (fun s wr => ∃ i : Nat, i ≤ rl ∧ s = .int .i64 (i : Int) ∧ Hid (∀ (j : Nat) (x : Int), j < i → route[j]? = some x → rng 0 x ((ps.length : Int) - 1) = true) ∧ Hid (Below w1.heap.size w1 wr)) (fun s _ => rl - (intOf s).toNat)
    case atStart => exact ⟨0, by omega, rfl, Lib.hid (fun j x hj => by omega), Lib.hid (Below.refl _ _)⟩
    case round =>
      obtain ⟨i, hi, rfl, HJ, HW⟩ := hrel
      by_cases hlt : i < rl
      · have hlt2 : (i : Int) < (rl : Int) := by omega
        obtain ⟨g, off, x, rfl, hg, hx, hxi, c0, hcap⟩ := HU.out.pick i (by rw [← HRL.out]; exact hlt)
        have HX0 := Lib.hid hx
        obtain ⟨b0, b1⟩ := box2 (bon HX.out HW.out)
        have HST : Hid ((wr.drew.cell? ⟨w.heap.size, 0, none⟩ = some (.slice va n vc) ∧ wr.drew.cell? ⟨w.heap.size, 1, none⟩ = some (.slice vb m vd)) ∧ wr.drew.cell? ⟨g, off + i, none⟩ = some (.int .i64 x)) := Lib.hid ⟨⟨b0, b1⟩, ((HU.out.on HW.out).at hx).2.1⟩
        obtain ⟨A, hA⟩ : ∃ A, rng 0 x ((ps.length : Int) - 1) = A := ⟨_, rfl⟩
        have HA := Lib.hid hA
        clear hg hx hxi c0 hcap b0 b1 hA
        cases A with
        | false =>
          go_upto_region 7 with (fail)
          refine wp_region_held_drew (S := fun w' => (w'.cell? ⟨w.heap.size, 0, none⟩ = some (.slice va n vc) ∧ w'.cell? ⟨w.heap.size, 1, none⟩ = some (.slice vb m vd)) ∧ w'.cell? ⟨g, off + i, none⟩ = some (.int .i64 x)) (by kernel_rfl) HST.out (fun hHeld => ?_)
          change wpAnyH _ _ _ _ _ 7 #[false, false, false, false, false, false, false] _ _
          refine wpAnyH_take (i := 0) (oi := _) (v := .agg #[.slice va n vc, .slice vb m vd]) rfl (by kernel_rfl) (by kernel_rfl) (by kernel_rfl) (fun _ _ _ h => h) (Or.inl ⟨by rfl, fun wx hSw => ?_⟩) (by assumption) ?_
          · go_simp
            try (first | omega | (rw [IntKind.wrap_i64]; omega))
          (try simp only [Act.put, List.setIfInBounds_toArray, List.set_cons_zero, List.set_cons_succ, List.getElem_toArray, List.getElem_cons_zero, List.getElem_cons_succ])
          refine wpAnyH_take (i := 1) (oi := _) (v := .slice (some ⟨g, off, none⟩) rl uc) rfl (by kernel_rfl) (by kernel_rfl) (by kernel_rfl) (fun _ _ _ h => h) (Or.inl ⟨by rfl, fun wx hSw => ?_⟩) (by assumption) ?_
          · go_simp
            try (first | omega | (rw [IntKind.wrap_i64]; omega))
          (try simp only [Act.put, List.setIfInBounds_toArray, List.set_cons_zero, List.set_cons_succ, List.getElem_toArray, List.getElem_cons_zero, List.getElem_cons_succ])
          refine wpAnyH_take (i := 2) (oi := _) (v := .int .i64 (i : Int)) rfl (by kernel_rfl) (by kernel_rfl) (by kernel_rfl) (fun _ _ _ h => h) (Or.inl ⟨by rfl, fun wx hSw => ?_⟩) (by assumption) ?_
          · go_simp
            try (first | omega | (rw [IntKind.wrap_i64]; omega))
          (try simp only [Act.put, List.setIfInBounds_toArray, List.set_cons_zero, List.set_cons_succ, List.getElem_toArray, List.getElem_cons_zero, List.getElem_cons_succ])
          refine wpAnyH_take (i := 3) (oi := _) (v := .pointer (some ⟨g, off + i, none⟩)) rfl (by kernel_rfl) (by kernel_rfl) (by kernel_rfl) (fun _ _ _ h => h) (Or.inl ⟨by rfl, fun wx hSw => ?_⟩) (by assumption) ?_
          · go_simp
            try (first | omega | (rw [IntKind.wrap_i64]; omega))
          (try simp only [Act.put, List.setIfInBounds_toArray, List.set_cons_zero, List.set_cons_succ, List.getElem_toArray, List.getElem_cons_zero, List.getElem_cons_succ])
          refine wpAnyH_take (i := 4) (oi := _) (v := .int .i64 x) rfl (by kernel_rfl) (by kernel_rfl) (by kernel_rfl) (fun _ _ _ h => h) (Or.inl ⟨by rfl, fun wx hSw => ?_⟩) (by assumption) ?_
          · go_simp
            try (first | omega | (rw [IntKind.wrap_i64]; omega))
          (try simp only [Act.put, List.setIfInBounds_toArray, List.set_cons_zero, List.set_cons_succ, List.getElem_toArray, List.getElem_cons_zero, List.getElem_cons_succ])
          refine wpAnyH_ready (rs := [5]) (by kernel_rfl) (by simp) ?_
          refine AllReadyH.cons (o := _) rfl (fun K hK => ?_) AllReadyH.nil
          have Hc := Lib.hid (exists_any (HV.out.on HW.out.drew) x)
          rw [HA.out] at Hc
          go_simp
          refine Hc.out.mono ?_
          rintro e w7 ⟨rfl, hb⟩
          have HD : Hid (Below wr.heap.size wr w7) := Lib.hid (btrans (Below.refl wr.heap.size wr).drew hb)
          have h7 : (w7.cell? ⟨w.heap.size, 0, none⟩ = some (.slice va n vc) ∧ w7.cell? ⟨w.heap.size, 1, none⟩ = some (.slice vb m vd)) ∧ w7.cell? ⟨g, off + i, none⟩ = some (.int .i64 x) := by
            have hbb := btrans HW.out HD.out
            obtain ⟨q0, q1⟩ := box2 (bon HX.out hbb)
            exact ⟨⟨q0, q1⟩, ((HU.out.on hbb).at HX0.out).2.1⟩
          clear hb Hc
          go_wp2_with fail
          refine hK.out _ _ (h7) (fun hHeld => ?_)
          clear hK K
          (try simp only [Act.put, List.setIfInBounds_toArray, List.set_cons_zero, List.set_cons_succ, List.getElem_toArray, List.getElem_cons_zero, List.getElem_cons_succ])
          refine wpAnyH_take (i := 6) (oi := _) (v := .bool true) rfl (by kernel_rfl) (by kernel_rfl) (by kernel_rfl) (fun _ _ _ h => h) (Or.inl ⟨by rfl, fun wx hSw => ?_⟩) (by assumption) ?_
          · go_simp
            try (first | omega | (rw [IntKind.wrap_i64]; omega))
          (try simp only [Act.put, List.setIfInBounds_toArray, List.set_cons_zero, List.set_cons_succ, List.getElem_toArray, List.getElem_cons_zero, List.getElem_cons_succ])
          refine wpAnyH_done (by kernel_rfl) ?_ _
          clear hHeld h7
          have HF : Hid (cerr ps (es.map Ln.ed) route = 1) := Lib.hid (by unfold cerr; rw [if_pos HEE.out.symm, plc_not HX0.out HA.out]; rfl)
          go_wp2
          go_ret2
          exact ⟨_, _, _, [], 1, rfl, btrans HB.out (btrans HW.out HD.out), sk_nil _ _ _ _, Or.inl ⟨by rw [HF.out]; decide, HF.out.symm, rfl⟩⟩
        | true =>
          go_upto_region 7 with (fail)
          refine wp_region_held_drew (S := fun w' => (w'.cell? ⟨w.heap.size, 0, none⟩ = some (.slice va n vc) ∧ w'.cell? ⟨w.heap.size, 1, none⟩ = some (.slice vb m vd)) ∧ w'.cell? ⟨g, off + i, none⟩ = some (.int .i64 x)) (by kernel_rfl) HST.out (fun hHeld => ?_)
          change wpAnyH _ _ _ _ _ 7 #[false, false, false, false, false, false, false] _ _
          refine wpAnyH_take (i := 0) (oi := _) (v := .agg #[.slice va n vc, .slice vb m vd]) rfl (by kernel_rfl) (by kernel_rfl) (by kernel_rfl) (fun _ _ _ h => h) (Or.inl ⟨by rfl, fun wx hSw => ?_⟩) (by assumption) ?_
          · go_simp
            try (first | omega | (rw [IntKind.wrap_i64]; omega))
          (try simp only [Act.put, List.setIfInBounds_toArray, List.set_cons_zero, List.set_cons_succ, List.getElem_toArray, List.getElem_cons_zero, List.getElem_cons_succ])
          refine wpAnyH_take (i := 1) (oi := _) (v := .slice (some ⟨g, off, none⟩) rl uc) rfl (by kernel_rfl) (by kernel_rfl) (by kernel_rfl) (fun _ _ _ h => h) (Or.inl ⟨by rfl, fun wx hSw => ?_⟩) (by assumption) ?_
          · go_simp
            try (first | omega | (rw [IntKind.wrap_i64]; omega))
          (try simp only [Act.put, List.setIfInBounds_toArray, List.set_cons_zero, List.set_cons_succ, List.getElem_toArray, List.getElem_cons_zero, List.getElem_cons_succ])
          refine wpAnyH_take (i := 2) (oi := _) (v := .int .i64 (i : Int)) rfl (by kernel_rfl) (by kernel_rfl) (by kernel_rfl) (fun _ _ _ h => h) (Or.inl ⟨by rfl, fun wx hSw => ?_⟩) (by assumption) ?_
          · go_simp
            try (first | omega | (rw [IntKind.wrap_i64]; omega))
          (try simp only [Act.put, List.setIfInBounds_toArray, List.set_cons_zero, List.set_cons_succ, List.getElem_toArray, List.getElem_cons_zero, List.getElem_cons_succ])
          refine wpAnyH_take (i := 3) (oi := _) (v := .pointer (some ⟨g, off + i, none⟩)) rfl (by kernel_rfl) (by kernel_rfl) (by kernel_rfl) (fun _ _ _ h => h) (Or.inl ⟨by rfl, fun wx hSw => ?_⟩) (by assumption) ?_
          · go_simp
            try (first | omega | (rw [IntKind.wrap_i64]; omega))
          (try simp only [Act.put, List.setIfInBounds_toArray, List.set_cons_zero, List.set_cons_succ, List.getElem_toArray, List.getElem_cons_zero, List.getElem_cons_succ])
          refine wpAnyH_take (i := 4) (oi := _) (v := .int .i64 x) rfl (by kernel_rfl) (by kernel_rfl) (by kernel_rfl) (fun _ _ _ h => h) (Or.inl ⟨by rfl, fun wx hSw => ?_⟩) (by assumption) ?_
          · go_simp
            try (first | omega | (rw [IntKind.wrap_i64]; omega))
          (try simp only [Act.put, List.setIfInBounds_toArray, List.set_cons_zero, List.set_cons_succ, List.getElem_toArray, List.getElem_cons_zero, List.getElem_cons_succ])
          refine wpAnyH_ready (rs := [5]) (by kernel_rfl) (by simp) ?_
          refine AllReadyH.cons (o := _) rfl (fun K hK => ?_) AllReadyH.nil
          have Hc := Lib.hid (exists_any (HV.out.on HW.out.drew) x)
          rw [HA.out] at Hc
          go_simp
          refine Hc.out.mono ?_
          rintro e w7 ⟨rfl, hb⟩
          have HD : Hid (Below wr.heap.size wr w7) := Lib.hid (btrans (Below.refl wr.heap.size wr).drew hb)
          have h7 : (w7.cell? ⟨w.heap.size, 0, none⟩ = some (.slice va n vc) ∧ w7.cell? ⟨w.heap.size, 1, none⟩ = some (.slice vb m vd)) ∧ w7.cell? ⟨g, off + i, none⟩ = some (.int .i64 x) := by
            have hbb := btrans HW.out HD.out
            obtain ⟨q0, q1⟩ := box2 (bon HX.out hbb)
            exact ⟨⟨q0, q1⟩, ((HU.out.on hbb).at HX0.out).2.1⟩
          clear hb Hc
          go_wp2_with fail
          refine hK.out _ _ (h7) (fun hHeld => ?_)
          clear hK K
          (try simp only [Act.put, List.setIfInBounds_toArray, List.set_cons_zero, List.set_cons_succ, List.getElem_toArray, List.getElem_cons_zero, List.getElem_cons_succ])
          refine wpAnyH_take (i := 6) (oi := _) (v := .bool false) rfl (by kernel_rfl) (by kernel_rfl) (by kernel_rfl) (fun _ _ _ h => h) (Or.inl ⟨by rfl, fun wx hSw => ?_⟩) (by assumption) ?_
          · go_simp
            try (first | omega | (rw [IntKind.wrap_i64]; omega))
          (try simp only [Act.put, List.setIfInBounds_toArray, List.set_cons_zero, List.set_cons_succ, List.getElem_toArray, List.getElem_cons_zero, List.getElem_cons_succ])
          refine wpAnyH_done (by kernel_rfl) ?_ _
          clear hHeld h7
          have HJ2 : Hid (∀ (j : Nat) (x : Int), j < i + 1 → route[j]? = some x → rng 0 x ((ps.length : Int) - 1) = true) := Lib.hid (fun j y hj hy => by
            by_cases e : j = i
            · subst e; rw [HX0.out] at hy; cases hy; exact HA.out
            · exact HJ.out j y (by omega) hy)
          clear HJ
          go_wp2
          go_roundw
          case rel => exact ⟨i + 1, by omega, by go_num, HJ2, Lib.hid (btrans HW.out HD.out)⟩
          case measure => simp [intOf]; omega
      · obtain rfl : i = rl := by omega
        have hlt2 : ¬ ((i : Int) < (i : Int)) := by omega
        have hplc : plc ps.length route = true := plc_of (fun j x hj hx => HJ.out j x (by have := HRL.out; omega) hx)
        have hce : cerr ps (es.map Ln.ed) route = 0 := by unfold cerr; rw [if_pos HEE.out.symm, if_pos hplc]
        obtain ⟨P, rfl, hPn⟩ := plc_nat hplc
        rw [ints_length] at HRL
        have HCE := Lib.hid hce; have HPN := Lib.hid hPn
        replace HB := Lib.hid (btrans HB.out HW.out); replace HV := Lib.hid (HV.out.on HW.out); replace HX := Lib.hid (bon HX.out HW.out); replace HU := Lib.hid (HU.out.on HW.out)
        obtain ⟨W8, hW8⟩ : ∃ W8, W8 = wr := ⟨_, rfl⟩
        subst hW8
        obtain ⟨rl, hrr⟩ : ∃ rl, rl = i := ⟨_, rfl⟩
        subst hrr
        clear HJ HW hplc hce hPn
        have hmk1 : ∀ w : World, (Instr.makeSlice 29 (.int .i64 16) (.int .i64 16)).run Try.prog w = .ok (.slice (some ⟨w.heap.size, 0, none⟩) 16 16) (w.alloc (.cells (madeCells #[.int .i64 0] 16) 3)) := run_make_row' (P := Try.prog) 29 3 (.int .i64 0) 8 Try.underlying29 info3' rfl .i64 .i64 16 (by omega) (by omega)
        have hmk2 : ∀ w : World, (Instr.makeSlice 73 (.int .i64 16) (.int .i64 16)).run Try.prog w = .ok (.slice (some ⟨w.heap.size, 0, none⟩) 16 16) (w.alloc (.cells (madeCells #[.bool false] 16) 4)) := run_make_row' (P := Try.prog) 73 4 (.bool false) 1 Try.underlying73 info4' rfl .i64 .i64 16 (by omega) (by omega)
        have HS0 := Lib.hid (sr_start W8 es P)
        go_wp2
        clear hmk1 hmk2
        go_loopw [10] (fun s wr => ∃ j : Nat, (j = 0 ∨ j + 1 ≤ rl) ∧ s = .int .i64 (j : Int) ∧ Hid (SR W8 es P j wr)) (fun s _ => rl - (intOf s).toNat)
        case atStart => exact ⟨0, Or.inl rfl, rfl, HS0⟩
        case round =>
          clear HS0
          obtain ⟨j, hj, rfl, HJ⟩ := hrel
          have hw1 : IntKind.i64.wrap ((j : Int) + 1) = (j : Int) + 1 := wrap_in (by omega) (by omega)
          by_cases hlt : j + 1 < rl
          · have hlt2 : (j : Int) + 1 < (rl : Int) := by omega
            have hlt3 : (j : Int) < (rl : Int) := by omega
            obtain ⟨p, hp⟩ : ∃ p, P[j]? = some p := ⟨_, List.getElem?_eq_getElem (by have := HRL.out; omega)⟩
            obtain ⟨q, hq⟩ : ∃ q, P[j + 1]? = some q := ⟨_, List.getElem?_eq_getElem (by have := HRL.out; omega)⟩
            have HXP : Hid ((ints P)[j]? = some (p : Int)) := Lib.hid (by rw [ints_get, hp]; rfl)
            have HXQ : Hid ((ints P)[j + 1]? = some (q : Int)) := Lib.hid (by rw [ints_get, hq]; rfl)
            obtain ⟨g, off, x9, rfl, hg, _, _, _, _⟩ := HU.out.pick j (by rw [ints_length, ← HRL.out]; omega)
            have hoff : off + ((j : Int) + 1).toNat = off + (j + 1) := by omega
            have hpd : P.getD j 0 = p := by rw [List.getD_eq_getElem?_getD, hp]; rfl
            have hqd : P.getD (j + 1) 0 = q := by rw [List.getD_eq_getElem?_getD, hq]; rfl
            have hrl3 : rln es P j = fd es p q := by unfold rln; rw [hpd, hqd]
            have hbW := HJ.out.below
            have HBW := Lib.hid hbW
            obtain ⟨b0, b1⟩ := box2 (bon HX.out hbW)
            have HST : Hid ((wr.drew.cell? ⟨w.heap.size, 0, none⟩ = some (.slice va n vc) ∧ wr.drew.cell? ⟨w.heap.size, 1, none⟩ = some (.slice vb m vd)) ∧ wr.drew.cell? ⟨g, off + j, none⟩ = some (.int .i64 (p : Int)) ∧ wr.drew.cell? ⟨g, off + (j + 1), none⟩ = some (.int .i64 (q : Int))) := Lib.hid ⟨⟨b0, b1⟩, ((HU.out.on hbW).at HXP.out).2.1, ((HU.out.on hbW).at HXQ.out).2.1⟩
            clear hp hq hg hpd hqd hbW b0 b1
            cases hfd : fd es p q with
            | none =>
              rw [hfd] at hrl3
              have HFD := Lib.hid hfd; have HR3 := Lib.hid hrl3
              clear hfd hrl3
              go_upto_region 14 with (fail)
              refine wp_region_held_drew (S := fun w' => (w'.cell? ⟨w.heap.size, 0, none⟩ = some (.slice va n vc) ∧ w'.cell? ⟨w.heap.size, 1, none⟩ = some (.slice vb m vd)) ∧ w'.cell? ⟨g, off + j, none⟩ = some (.int .i64 (p : Int)) ∧ w'.cell? ⟨g, off + (j + 1), none⟩ = some (.int .i64 (q : Int))) (by kernel_rfl) HST.out (fun hHeld => ?_)
              change wpAnyH _ _ _ _ _ 12 #[false, false, false, false, false, false, false, false, false, false, false, false] _ _
              refine wpAnyH_take (i := 0) (oi := _) (v := .agg #[.slice va n vc, .slice vb m vd]) rfl (by kernel_rfl) (by kernel_rfl) (by kernel_rfl) (fun _ _ _ h => h) (Or.inl ⟨by rfl, fun wx hSw => ?_⟩) (by assumption) ?_
              · go_simp
                try (first | omega | (rw [IntKind.wrap_i64]; omega))
              (try simp only [Act.put, List.setIfInBounds_toArray, List.set_cons_zero, List.set_cons_succ, List.getElem_toArray, List.getElem_cons_zero, List.getElem_cons_succ])
              refine wpAnyH_take (i := 1) (oi := _) (v := .slice (some ⟨g, off, none⟩) rl uc) rfl (by kernel_rfl) (by kernel_rfl) (by kernel_rfl) (fun _ _ _ h => h) (Or.inl ⟨by rfl, fun wx hSw => ?_⟩) (by assumption) ?_
              · go_simp
                try (first | omega | (rw [IntKind.wrap_i64]; omega))
              (try simp only [Act.put, List.setIfInBounds_toArray, List.set_cons_zero, List.set_cons_succ, List.getElem_toArray, List.getElem_cons_zero, List.getElem_cons_succ])
              refine wpAnyH_take (i := 2) (oi := _) (v := .int .i64 (j : Int)) rfl (by kernel_rfl) (by kernel_rfl) (by kernel_rfl) (fun _ _ _ h => h) (Or.inl ⟨by rfl, fun wx hSw => ?_⟩) (by assumption) ?_
              · go_simp
                try (first | omega | (rw [IntKind.wrap_i64]; omega))
              (try simp only [Act.put, List.setIfInBounds_toArray, List.set_cons_zero, List.set_cons_succ, List.getElem_toArray, List.getElem_cons_zero, List.getElem_cons_succ])
              refine wpAnyH_take (i := 3) (oi := _) (v := .pointer (some ⟨g, off + j, none⟩)) rfl (by kernel_rfl) (by kernel_rfl) (by kernel_rfl) (fun _ _ _ h => h) (Or.inl ⟨by rfl, fun wx hSw => ?_⟩) (by assumption) ?_
              · go_simp
                try (first | omega | (rw [IntKind.wrap_i64]; omega))
              (try simp only [Act.put, List.setIfInBounds_toArray, List.set_cons_zero, List.set_cons_succ, List.getElem_toArray, List.getElem_cons_zero, List.getElem_cons_succ])
              refine wpAnyH_take (i := 4) (oi := _) (v := .int .i64 (p : Int)) rfl (by kernel_rfl) (by kernel_rfl) (by kernel_rfl) (fun _ _ _ h => h) (Or.inl ⟨by rfl, fun wx hSw => ?_⟩) (by assumption) ?_
              · go_simp
                try (first | omega | (rw [IntKind.wrap_i64]; omega))
              (try simp only [Act.put, List.setIfInBounds_toArray, List.set_cons_zero, List.set_cons_succ, List.getElem_toArray, List.getElem_cons_zero, List.getElem_cons_succ])
              refine wpAnyH_take (i := 5) (oi := _) (v := .slice (some ⟨g, off, none⟩) rl uc) rfl (by kernel_rfl) (by kernel_rfl) (by kernel_rfl) (fun _ _ _ h => h) (Or.inl ⟨by rfl, fun wx hSw => ?_⟩) (by assumption) ?_
              · go_simp
                try (first | omega | (rw [IntKind.wrap_i64]; omega))
              (try simp only [Act.put, List.setIfInBounds_toArray, List.set_cons_zero, List.set_cons_succ, List.getElem_toArray, List.getElem_cons_zero, List.getElem_cons_succ])
              refine wpAnyH_take (i := 6) (oi := _) (v := .int .i64 (j : Int)) rfl (by kernel_rfl) (by kernel_rfl) (by kernel_rfl) (fun _ _ _ h => h) (Or.inl ⟨by rfl, fun wx hSw => ?_⟩) (by assumption) ?_
              · go_simp
                try (first | omega | (rw [IntKind.wrap_i64]; omega))
              (try simp only [Act.put, List.setIfInBounds_toArray, List.set_cons_zero, List.set_cons_succ, List.getElem_toArray, List.getElem_cons_zero, List.getElem_cons_succ])
              refine wpAnyH_take (i := 7) (oi := _) (v := .int .i64 ((j : Int) + 1)) rfl (by kernel_rfl) (by kernel_rfl) (by kernel_rfl) (fun _ _ _ h => h) (Or.inl ⟨by rfl, fun wx hSw => ?_⟩) (by assumption) ?_
              · go_simp
                try (first | omega | (rw [IntKind.wrap_i64]; omega))
              (try simp only [Act.put, List.setIfInBounds_toArray, List.set_cons_zero, List.set_cons_succ, List.getElem_toArray, List.getElem_cons_zero, List.getElem_cons_succ])
              refine wpAnyH_take (i := 8) (oi := _) (v := .pointer (some ⟨g, off + (j + 1), none⟩)) rfl (by kernel_rfl) (by kernel_rfl) (by kernel_rfl) (fun _ _ _ h => h) (Or.inl ⟨by rfl, fun wx hSw => ?_⟩) (by assumption) ?_
              · go_simp
                try (first | omega | (rw [IntKind.wrap_i64]; omega))
              (try simp only [Act.put, List.setIfInBounds_toArray, List.set_cons_zero, List.set_cons_succ, List.getElem_toArray, List.getElem_cons_zero, List.getElem_cons_succ])
              refine wpAnyH_take (i := 9) (oi := _) (v := .int .i64 (q : Int)) rfl (by kernel_rfl) (by kernel_rfl) (by kernel_rfl) (fun _ _ _ h => h) (Or.inl ⟨by rfl, fun wx hSw => ?_⟩) (by assumption) ?_
              · go_simp
                try (first | omega | (rw [IntKind.wrap_i64]; omega))
              (try simp only [Act.put, List.setIfInBounds_toArray, List.set_cons_zero, List.set_cons_succ, List.getElem_toArray, List.getElem_cons_zero, List.getElem_cons_succ])
              refine wpAnyH_ready (rs := [10]) (by kernel_rfl) (by simp) ?_
              refine AllReadyH.cons (o := _) rfl (fun K hK => ?_) AllReadyH.nil
              have Hc := Lib.hid (find_any (HV.out.on HBW.out.drew) HVAL.out.2.1 HVAL.out.2.2.2 p q)
              rw [HFD.out] at Hc
              simp only [av] at Hc
              go_simp
              refine Hc.out.mono ?_
              rintro e w7 ⟨rfl, hb⟩
              have HD : Hid (Below wr.heap.size wr w7) := Lib.hid (btrans (Below.refl wr.heap.size wr).drew hb)
              have h7 : (w7.cell? ⟨w.heap.size, 0, none⟩ = some (.slice va n vc) ∧ w7.cell? ⟨w.heap.size, 1, none⟩ = some (.slice vb m vd)) ∧ w7.cell? ⟨g, off + j, none⟩ = some (.int .i64 (p : Int)) ∧ w7.cell? ⟨g, off + (j + 1), none⟩ = some (.int .i64 (q : Int)) := by
                have hbb := btrans HBW.out HD.out
                obtain ⟨q0, q1⟩ := box2 (bon HX.out hbb)
                exact ⟨⟨q0, q1⟩, ((HU.out.on hbb).at HXP.out).2.1, ((HU.out.on hbb).at HXQ.out).2.1⟩
              clear hb Hc
              go_wp2_with fail
              refine hK.out _ _ (h7) (fun hHeld => ?_)
              clear hK K
              (try simp only [Act.put, List.setIfInBounds_toArray, List.set_cons_zero, List.set_cons_succ, List.getElem_toArray, List.getElem_cons_zero, List.getElem_cons_succ])
              refine wpAnyH_take (i := 11) (oi := _) (v := .int .i64 (-1)) rfl (by kernel_rfl) (by kernel_rfl) (by kernel_rfl) (fun _ _ _ h => h) (Or.inl ⟨by rfl, fun wx hSw => ?_⟩) (by assumption) ?_
              · go_simp
                try (first | omega | (rw [IntKind.wrap_i64]; omega))
              (try simp only [Act.put, List.setIfInBounds_toArray, List.set_cons_zero, List.set_cons_succ, List.getElem_toArray, List.getElem_cons_zero, List.getElem_cons_succ])
              refine wpAnyH_done (by kernel_rfl) ?_ _
              clear hHeld h7
              go_wp2
              go_ret2
              exact ⟨_, _, _, [], 80, rfl, btrans HB.out (btrans HBW.out HD.out), sk_nil _ _ _ _, Or.inr ⟨HCE.out, es, P, HVAL.out, rfl, HPN.out, Or.inl ⟨⟨j, by have := HRL.out; omega, HR3.out⟩, rfl, rfl⟩⟩⟩
            | some jj =>
              rw [hfd] at hrl3
              obtain ⟨y, hy⟩ : ∃ y, es[jj]? = some y := ⟨_, List.getElem?_eq_getElem (fd_lt hfd)⟩
              have hjl := fd_lt hfd
              have HFD := Lib.hid hfd; have HR3 := Lib.hid hrl3; have HY := Lib.hid hy
              have hyo := HVAL.out.2.1 y (List.mem_of_getElem? hy)
              have hjm : jj < m := by have := HMES.out; omega
              have hjm2 : (jj : Int) < (m : Int) := by omega
              have dj : decide ((jj : Int) < 0) = false := decide_eq_false (by omega)
              clear hfd hrl3 hjl hy
              go_upto_region 14 with (fail)
              refine wp_region_held_drew (S := fun w' => (w'.cell? ⟨w.heap.size, 0, none⟩ = some (.slice va n vc) ∧ w'.cell? ⟨w.heap.size, 1, none⟩ = some (.slice vb m vd)) ∧ w'.cell? ⟨g, off + j, none⟩ = some (.int .i64 (p : Int)) ∧ w'.cell? ⟨g, off + (j + 1), none⟩ = some (.int .i64 (q : Int))) (by kernel_rfl) HST.out (fun hHeld => ?_)
              change wpAnyH _ _ _ _ _ 12 #[false, false, false, false, false, false, false, false, false, false, false, false] _ _
              refine wpAnyH_take (i := 0) (oi := _) (v := .agg #[.slice va n vc, .slice vb m vd]) rfl (by kernel_rfl) (by kernel_rfl) (by kernel_rfl) (fun _ _ _ h => h) (Or.inl ⟨by rfl, fun wx hSw => ?_⟩) (by assumption) ?_
              · go_simp
                try (first | omega | (rw [IntKind.wrap_i64]; omega))
              (try simp only [Act.put, List.setIfInBounds_toArray, List.set_cons_zero, List.set_cons_succ, List.getElem_toArray, List.getElem_cons_zero, List.getElem_cons_succ])
              refine wpAnyH_take (i := 1) (oi := _) (v := .slice (some ⟨g, off, none⟩) rl uc) rfl (by kernel_rfl) (by kernel_rfl) (by kernel_rfl) (fun _ _ _ h => h) (Or.inl ⟨by rfl, fun wx hSw => ?_⟩) (by assumption) ?_
              · go_simp
                try (first | omega | (rw [IntKind.wrap_i64]; omega))
              (try simp only [Act.put, List.setIfInBounds_toArray, List.set_cons_zero, List.set_cons_succ, List.getElem_toArray, List.getElem_cons_zero, List.getElem_cons_succ])
              refine wpAnyH_take (i := 2) (oi := _) (v := .int .i64 (j : Int)) rfl (by kernel_rfl) (by kernel_rfl) (by kernel_rfl) (fun _ _ _ h => h) (Or.inl ⟨by rfl, fun wx hSw => ?_⟩) (by assumption) ?_
              · go_simp
                try (first | omega | (rw [IntKind.wrap_i64]; omega))
              (try simp only [Act.put, List.setIfInBounds_toArray, List.set_cons_zero, List.set_cons_succ, List.getElem_toArray, List.getElem_cons_zero, List.getElem_cons_succ])
              refine wpAnyH_take (i := 3) (oi := _) (v := .pointer (some ⟨g, off + j, none⟩)) rfl (by kernel_rfl) (by kernel_rfl) (by kernel_rfl) (fun _ _ _ h => h) (Or.inl ⟨by rfl, fun wx hSw => ?_⟩) (by assumption) ?_
              · go_simp
                try (first | omega | (rw [IntKind.wrap_i64]; omega))
              (try simp only [Act.put, List.setIfInBounds_toArray, List.set_cons_zero, List.set_cons_succ, List.getElem_toArray, List.getElem_cons_zero, List.getElem_cons_succ])
              refine wpAnyH_take (i := 4) (oi := _) (v := .int .i64 (p : Int)) rfl (by kernel_rfl) (by kernel_rfl) (by kernel_rfl) (fun _ _ _ h => h) (Or.inl ⟨by rfl, fun wx hSw => ?_⟩) (by assumption) ?_
              · go_simp
                try (first | omega | (rw [IntKind.wrap_i64]; omega))
              (try simp only [Act.put, List.setIfInBounds_toArray, List.set_cons_zero, List.set_cons_succ, List.getElem_toArray, List.getElem_cons_zero, List.getElem_cons_succ])
              refine wpAnyH_take (i := 5) (oi := _) (v := .slice (some ⟨g, off, none⟩) rl uc) rfl (by kernel_rfl) (by kernel_rfl) (by kernel_rfl) (fun _ _ _ h => h) (Or.inl ⟨by rfl, fun wx hSw => ?_⟩) (by assumption) ?_
              · go_simp
                try (first | omega | (rw [IntKind.wrap_i64]; omega))
              (try simp only [Act.put, List.setIfInBounds_toArray, List.set_cons_zero, List.set_cons_succ, List.getElem_toArray, List.getElem_cons_zero, List.getElem_cons_succ])
              refine wpAnyH_take (i := 6) (oi := _) (v := .int .i64 (j : Int)) rfl (by kernel_rfl) (by kernel_rfl) (by kernel_rfl) (fun _ _ _ h => h) (Or.inl ⟨by rfl, fun wx hSw => ?_⟩) (by assumption) ?_
              · go_simp
                try (first | omega | (rw [IntKind.wrap_i64]; omega))
              (try simp only [Act.put, List.setIfInBounds_toArray, List.set_cons_zero, List.set_cons_succ, List.getElem_toArray, List.getElem_cons_zero, List.getElem_cons_succ])
              refine wpAnyH_take (i := 7) (oi := _) (v := .int .i64 ((j : Int) + 1)) rfl (by kernel_rfl) (by kernel_rfl) (by kernel_rfl) (fun _ _ _ h => h) (Or.inl ⟨by rfl, fun wx hSw => ?_⟩) (by assumption) ?_
              · go_simp
                try (first | omega | (rw [IntKind.wrap_i64]; omega))
              (try simp only [Act.put, List.setIfInBounds_toArray, List.set_cons_zero, List.set_cons_succ, List.getElem_toArray, List.getElem_cons_zero, List.getElem_cons_succ])
              refine wpAnyH_take (i := 8) (oi := _) (v := .pointer (some ⟨g, off + (j + 1), none⟩)) rfl (by kernel_rfl) (by kernel_rfl) (by kernel_rfl) (fun _ _ _ h => h) (Or.inl ⟨by rfl, fun wx hSw => ?_⟩) (by assumption) ?_
              · go_simp
                try (first | omega | (rw [IntKind.wrap_i64]; omega))
              (try simp only [Act.put, List.setIfInBounds_toArray, List.set_cons_zero, List.set_cons_succ, List.getElem_toArray, List.getElem_cons_zero, List.getElem_cons_succ])
              refine wpAnyH_take (i := 9) (oi := _) (v := .int .i64 (q : Int)) rfl (by kernel_rfl) (by kernel_rfl) (by kernel_rfl) (fun _ _ _ h => h) (Or.inl ⟨by rfl, fun wx hSw => ?_⟩) (by assumption) ?_
              · go_simp
                try (first | omega | (rw [IntKind.wrap_i64]; omega))
              (try simp only [Act.put, List.setIfInBounds_toArray, List.set_cons_zero, List.set_cons_succ, List.getElem_toArray, List.getElem_cons_zero, List.getElem_cons_succ])
              refine wpAnyH_ready (rs := [10]) (by kernel_rfl) (by simp) ?_
              refine AllReadyH.cons (o := _) rfl (fun K hK => ?_) AllReadyH.nil
              have Hc := Lib.hid (find_any (HV.out.on HBW.out.drew) HVAL.out.2.1 HVAL.out.2.2.2 p q)
              rw [HFD.out] at Hc
              simp only [av] at Hc
              go_simp
              refine Hc.out.mono ?_
              rintro e w7 ⟨rfl, hb⟩
              have HD : Hid (Below wr.heap.size wr w7) := Lib.hid (btrans (Below.refl wr.heap.size wr).drew hb)
              have h7 : (w7.cell? ⟨w.heap.size, 0, none⟩ = some (.slice va n vc) ∧ w7.cell? ⟨w.heap.size, 1, none⟩ = some (.slice vb m vd)) ∧ w7.cell? ⟨g, off + j, none⟩ = some (.int .i64 (p : Int)) ∧ w7.cell? ⟨g, off + (j + 1), none⟩ = some (.int .i64 (q : Int)) := by
                have hbb := btrans HBW.out HD.out
                obtain ⟨q0, q1⟩ := box2 (bon HX.out hbb)
                exact ⟨⟨q0, q1⟩, ((HU.out.on hbb).at HXP.out).2.1, ((HU.out.on hbb).at HXQ.out).2.1⟩
              clear hb Hc
              go_wp2_with fail
              refine hK.out _ _ (h7) (fun hHeld => ?_)
              clear hK K
              (try simp only [Act.put, List.setIfInBounds_toArray, List.set_cons_zero, List.set_cons_succ, List.getElem_toArray, List.getElem_cons_zero, List.getElem_cons_succ])
              refine wpAnyH_take (i := 11) (oi := _) (v := .int .i64 (jj : Int)) rfl (by kernel_rfl) (by kernel_rfl) (by kernel_rfl) (fun _ _ _ h => h) (Or.inl ⟨by rfl, fun wx hSw => ?_⟩) (by assumption) ?_
              · go_simp
                try (first | omega | (rw [IntKind.wrap_i64]; omega))
              (try simp only [Act.put, List.setIfInBounds_toArray, List.set_cons_zero, List.set_cons_succ, List.getElem_toArray, List.getElem_cons_zero, List.getElem_cons_succ])
              refine wpAnyH_done (by kernel_rfl) ?_ _
              clear hHeld h7
              obtain ⟨va2, vc2, vb2, vd2, he2, _, hES⟩ := (HV.out.on (btrans HBW.out HD.out)).shape
              simp only [Value.agg.injEq, Array.mk.injEq, List.cons.injEq, Value.slice.injEq, and_true] at he2
              obtain ⟨⟨rfl, hn9, rfl⟩, rfl, hm9, rfl⟩ := he2
              clear hn9
              rw [← hm9] at hES
              obtain ⟨g5, off5, z, rfl, hg5, hz, z0, z1, z2, z3, z4, hcap5⟩ := Es.cells hES jj (by rw [← HM.out]; exact hjm)
              have hzy : z = y.ed := by
                rw [List.getElem?_map, HY.out] at hz
                exact (Option.some.inj hz).symm
              subst hzy
              obtain ⟨xa, hxa⟩ : ∃ z, z = y.a := ⟨_, rfl⟩
              obtain ⟨xb, hxb⟩ : ∃ z, z = y.b := ⟨_, rfl⟩
              obtain ⟨xm, hxm⟩ : ∃ z, z = y.m := ⟨_, rfl⟩
              obtain ⟨rr, hrr⟩ : ∃ z, z = y.r := ⟨_, rfl⟩
              obtain ⟨xk, hxk⟩ : ∃ z, z = y.k := ⟨_, rfl⟩
              have f0 : w7.cell? ⟨g5, off5 + jj * 5, none⟩ = some (.int .i64 (xa : Int)) := by rw [hxa]; exact z0
              have f1 : w7.cell? ⟨g5, off5 + jj * 5 + 1, none⟩ = some (.int .i64 (xb : Int)) := by rw [hxb]; exact z1
              have f2 : w7.cell? ⟨g5, off5 + jj * 5 + 2, none⟩ = some (.int .i64 (rr : Int)) := by rw [hrr]; exact z2
              have f3 : w7.cell? ⟨g5, off5 + jj * 5 + 3, none⟩ = some (.int .i64 (xm : Int)) := by rw [hxm]; exact z3
              have f4 : w7.cell? ⟨g5, off5 + jj * 5 + 4, none⟩ = some (.int .i64 (xk : Int)) := by rw [hxk]; exact z4
              have hrr16 : rr < 16 := by unfold Ln.ok at hyo; omega
              have hxkb : xk ≤ 10000 := by unfold Ln.ok at hyo; omega
              obtain ⟨b0, b1⟩ := box2 (bon HX.out (btrans HBW.out HD.out))
              have hsq := (HJ.out.on HD.out).on (ball (Below.refl w7.heap.size w7) (.cells #[.int .i64 (xa : Int), .int .i64 (xb : Int), .int .i64 (rr : Int), .int .i64 (xm : Int), .int .i64 (xk : Int)] 45))
              have kc := hsq.km.cell hrr16
              have kf := hsq.km.free rr
              have hkb := kmf_le HVAL.out.2.1 P rr j
              obtain ⟨KV, hKV⟩ : ∃ KV : Int, KV = (kmf es P rr j : Nat) := ⟨_, rfl⟩
              rw [← hKV] at kc
              have hwk : IntKind.i64.wrap (KV + (xk : Int)) = KV + (xk : Int) := wrap_in (by omega) (by omega)
              have hrr2 : (rr : Int) < 16 := by omega
              obtain ⟨ucl, uf⟩ := hsq.uc (.int .i64 (KV + (xk : Int))) hrr16
              obtain ⟨ub, hub⟩ : ∃ ub, ub = usf es P rr j := ⟨_, rfl⟩
              rw [← hub] at ucl
              have HF := Lib.hid ((hsq.next HR3.out HY.out hrr hxk hrr16 hKV).on (Below.refl _ _).drew)
              have y0 : (w7.alloc (.cells #[.int .i64 (xa : Int), .int .i64 (xb : Int), .int .i64 (rr : Int), .int .i64 (xm : Int), .int .i64 (xk : Int)] 45)).drew.cell? ⟨w7.heap.size, 2, none⟩ = some (.int .i64 (rr : Int)) := by rw [show (w7.alloc (.cells #[.int .i64 (xa : Int), .int .i64 (xb : Int), .int .i64 (rr : Int), .int .i64 (xm : Int), .int .i64 (xk : Int)] 45)).drew.cell? ⟨w7.heap.size, 2, none⟩ = (w7.alloc (.cells #[.int .i64 (xa : Int), .int .i64 (xb : Int), .int .i64 (rr : Int), .int .i64 (xm : Int), .int .i64 (xk : Int)] 45)).cell? ⟨w7.heap.size, 2, none⟩ from rfl, cell_of_row _ w7.heap.size 2 _ 45 (0, 0) (heap_alloc_new _ _)]; rfl
              have y1 : (w7.alloc (.cells #[.int .i64 (xa : Int), .int .i64 (xb : Int), .int .i64 (rr : Int), .int .i64 (xm : Int), .int .i64 (xk : Int)] 45)).drew.cell? ⟨w7.heap.size, 4, none⟩ = some (.int .i64 (xk : Int)) := by rw [show (w7.alloc (.cells #[.int .i64 (xa : Int), .int .i64 (xb : Int), .int .i64 (rr : Int), .int .i64 (xm : Int), .int .i64 (xk : Int)] 45)).drew.cell? ⟨w7.heap.size, 4, none⟩ = (w7.alloc (.cells #[.int .i64 (xa : Int), .int .i64 (xb : Int), .int .i64 (rr : Int), .int .i64 (xm : Int), .int .i64 (xk : Int)] 45)).cell? ⟨w7.heap.size, 4, none⟩ from rfl, cell_of_row _ w7.heap.size 4 _ 45 (0, 0) (heap_alloc_new _ _)]; rfl
              have hlt8 : W8.heap.size < w7.heap.size := Nat.lt_of_lt_of_le HJ.out.km.lt HD.out.size
              have HST8 : Hid ((w7.alloc (.cells #[.int .i64 (xa : Int), .int .i64 (xb : Int), .int .i64 (rr : Int), .int .i64 (xm : Int), .int .i64 (xk : Int)] 45)).drew.cell? ⟨w7.heap.size, 2, none⟩ = some (.int .i64 (rr : Int)) ∧ (w7.alloc (.cells #[.int .i64 (xa : Int), .int .i64 (xb : Int), .int .i64 (rr : Int), .int .i64 (xm : Int), .int .i64 (xk : Int)] 45)).drew.cell? ⟨w7.heap.size, 4, none⟩ = some (.int .i64 (xk : Int))) := Lib.hid ⟨y0, y1⟩
              have HS18 : Hid (((w7.alloc (.cells #[.int .i64 (xa : Int), .int .i64 (xb : Int), .int .i64 (rr : Int), .int .i64 (xm : Int), .int .i64 (xk : Int)] 45)).setCell ⟨W8.heap.size, rr, none⟩ (.int .i64 (KV + (xk : Int)))).drew.cell? ⟨w7.heap.size, 2, none⟩ = some (.int .i64 (rr : Int)) ∧ ((w7.alloc (.cells #[.int .i64 (xa : Int), .int .i64 (xb : Int), .int .i64 (rr : Int), .int .i64 (xm : Int), .int .i64 (xk : Int)] 45)).setCell ⟨W8.heap.size, rr, none⟩ (.int .i64 (KV + (xk : Int)))).drew.cell? ⟨w7.heap.size, 4, none⟩ = some (.int .i64 (xk : Int))) := Lib.hid
                ⟨(World.cell?_of_block (w := (w7.alloc (.cells #[.int .i64 (xa : Int), .int .i64 (xb : Int), .int .i64 (rr : Int), .int .i64 (xm : Int), .int .i64 (xk : Int)] 45))) (heap_setCell_other (w7.alloc (.cells #[.int .i64 (xa : Int), .int .i64 (xb : Int), .int .i64 (rr : Int), .int .i64 (xm : Int), .int .i64 (xk : Int)] 45)) ⟨W8.heap.size, rr, none⟩ _ _ (by show w7.heap.size ≠ W8.heap.size; omega))).trans y0, (World.cell?_of_block (w := (w7.alloc (.cells #[.int .i64 (xa : Int), .int .i64 (xb : Int), .int .i64 (rr : Int), .int .i64 (xm : Int), .int .i64 (xk : Int)] 45))) (heap_setCell_other (w7.alloc (.cells #[.int .i64 (xa : Int), .int .i64 (xb : Int), .int .i64 (rr : Int), .int .i64 (xm : Int), .int .i64 (xk : Int)] 45)) ⟨W8.heap.size, rr, none⟩ _ _ (by show w7.heap.size ≠ W8.heap.size; omega))).trans y1⟩
              have hsh : (w7.alloc (.cells #[.int .i64 (xa : Int), .int .i64 (xb : Int), .int .i64 (rr : Int), .int .i64 (xm : Int), .int .i64 (xk : Int)] 45)).drew.cell? ⟨W8.heap.size, rr, none⟩ = some (.int .i64 KV) := kc
              clear hyo hES hm9 hg5 hz z0 z1 z2 z3 z4 hcap5 hxa hxb hxm hrr hxk hsq hkb hKV hub y0 y1 hlt8 kc
              go_upto_region 18 with (fail)
              refine wp_region_held_drew (S := fun w' => w'.cell? ⟨w7.heap.size, 2, none⟩ = some (.int .i64 (rr : Int)) ∧ w'.cell? ⟨w7.heap.size, 4, none⟩ = some (.int .i64 (xk : Int))) (by kernel_rfl) HST8.out (fun hHeld => ?_)
              change wpAnyH _ _ _ _ _ 13 #[false, false, false, false, false, false, false, false, false, false, false, false, false] _ _
              refine wpAnyH_take (i := 0) (oi := _) (v := .slice (some ⟨W8.heap.size, 0, none⟩) 16 16) rfl (by kernel_rfl) (by kernel_rfl) (by kernel_rfl) (fun _ _ _ h => h) (Or.inl ⟨by rfl, fun wx hSw => ?_⟩) (by assumption) ?_
              · go_simp
                try (first | omega | (rw [IntKind.wrap_i64]; omega))
              (try simp only [Act.put, List.setIfInBounds_toArray, List.set_cons_zero, List.set_cons_succ, List.getElem_toArray, List.getElem_cons_zero, List.getElem_cons_succ])
              refine wpAnyH_take (i := 1) (oi := _) (v := .pointer (some ⟨w7.heap.size, 2, none⟩)) rfl (by kernel_rfl) (by kernel_rfl) (by kernel_rfl) (fun _ _ _ h => h) (Or.inl ⟨by rfl, fun wx hSw => ?_⟩) (by assumption) ?_
              · go_simp
                try (first | omega | (rw [IntKind.wrap_i64]; omega))
              (try simp only [Act.put, List.setIfInBounds_toArray, List.set_cons_zero, List.set_cons_succ, List.getElem_toArray, List.getElem_cons_zero, List.getElem_cons_succ])
              refine wpAnyH_take (i := 2) (oi := _) (v := .int .i64 (rr : Int)) rfl (by kernel_rfl) (by kernel_rfl) (by kernel_rfl) (fun _ _ _ h => h) (Or.inl ⟨by rfl, fun wx hSw => ?_⟩) (by assumption) ?_
              · go_simp
                try (first | omega | (rw [IntKind.wrap_i64]; omega))
              (try simp only [Act.put, List.setIfInBounds_toArray, List.set_cons_zero, List.set_cons_succ, List.getElem_toArray, List.getElem_cons_zero, List.getElem_cons_succ])
              refine wpAnyH_take (i := 3) (oi := _) (v := .slice (some ⟨W8.heap.size, 0, none⟩) 16 16) rfl (by kernel_rfl) (by kernel_rfl) (by kernel_rfl) (fun _ _ _ h => h) (Or.inl ⟨by rfl, fun wx hSw => ?_⟩) (by assumption) ?_
              · go_simp
                try (first | omega | (rw [IntKind.wrap_i64]; omega))
              (try simp only [Act.put, List.setIfInBounds_toArray, List.set_cons_zero, List.set_cons_succ, List.getElem_toArray, List.getElem_cons_zero, List.getElem_cons_succ])
              refine wpAnyH_take (i := 4) (oi := _) (v := .pointer (some ⟨w7.heap.size, 2, none⟩)) rfl (by kernel_rfl) (by kernel_rfl) (by kernel_rfl) (fun _ _ _ h => h) (Or.inl ⟨by rfl, fun wx hSw => ?_⟩) (by assumption) ?_
              · go_simp
                try (first | omega | (rw [IntKind.wrap_i64]; omega))
              (try simp only [Act.put, List.setIfInBounds_toArray, List.set_cons_zero, List.set_cons_succ, List.getElem_toArray, List.getElem_cons_zero, List.getElem_cons_succ])
              refine wpAnyH_take (i := 5) (oi := _) (v := .int .i64 (rr : Int)) rfl (by kernel_rfl) (by kernel_rfl) (by kernel_rfl) (fun _ _ _ h => h) (Or.inl ⟨by rfl, fun wx hSw => ?_⟩) (by assumption) ?_
              · go_simp
                try (first | omega | (rw [IntKind.wrap_i64]; omega))
              (try simp only [Act.put, List.setIfInBounds_toArray, List.set_cons_zero, List.set_cons_succ, List.getElem_toArray, List.getElem_cons_zero, List.getElem_cons_succ])
              refine wpAnyH_take (i := 6) (oi := _) (v := .pointer (some ⟨W8.heap.size, rr, none⟩)) rfl (by kernel_rfl) (by kernel_rfl) (by kernel_rfl) (fun _ _ _ h => h) (Or.inl ⟨by rfl, fun wx hSw => ?_⟩) (by assumption) ?_
              · go_simp
                try (first | omega | (rw [IntKind.wrap_i64]; omega))
              (try simp only [Act.put, List.setIfInBounds_toArray, List.set_cons_zero, List.set_cons_succ, List.getElem_toArray, List.getElem_cons_zero, List.getElem_cons_succ])
              refine wpAnyH_take (i := 8) (oi := _) (v := .pointer (some ⟨w7.heap.size, 4, none⟩)) rfl (by kernel_rfl) (by kernel_rfl) (by kernel_rfl) (fun _ _ _ h => h) (Or.inl ⟨by rfl, fun wx hSw => ?_⟩) (by assumption) ?_
              · go_simp
                try (first | omega | (rw [IntKind.wrap_i64]; omega))
              (try simp only [Act.put, List.setIfInBounds_toArray, List.set_cons_zero, List.set_cons_succ, List.getElem_toArray, List.getElem_cons_zero, List.getElem_cons_succ])
              refine wpAnyH_take (i := 9) (oi := _) (v := .int .i64 (xk : Int)) rfl (by kernel_rfl) (by kernel_rfl) (by kernel_rfl) (fun _ _ _ h => h) (Or.inl ⟨by rfl, fun wx hSw => ?_⟩) (by assumption) ?_
              · go_simp
                try (first | omega | (rw [IntKind.wrap_i64]; omega))
              (try simp only [Act.put, List.setIfInBounds_toArray, List.set_cons_zero, List.set_cons_succ, List.getElem_toArray, List.getElem_cons_zero, List.getElem_cons_succ])
              refine wpAnyH_ready (rs := [7]) (by kernel_rfl) (by simp) ?_
              refine AllReadyH.cons (o := _) rfl (fun K hK => ?_) AllReadyH.nil
              go_simp
              refine hK.out _ _ (hHeld) (fun hHeld => ?_)
              clear hK K
              (try simp only [Act.put, List.setIfInBounds_toArray, List.set_cons_zero, List.set_cons_succ, List.getElem_toArray, List.getElem_cons_zero, List.getElem_cons_succ])
              refine wpAnyH_take (i := 10) (oi := _) (v := .int .i64 (KV + (xk : Int))) rfl (by kernel_rfl) (by kernel_rfl) (by kernel_rfl) (fun _ _ _ h => h) (Or.inl ⟨by rfl, fun wx hSw => ?_⟩) (by assumption) ?_
              · go_simp
                try (first | omega | (rw [IntKind.wrap_i64]; omega))
              (try simp only [Act.put, List.setIfInBounds_toArray, List.set_cons_zero, List.set_cons_succ, List.getElem_toArray, List.getElem_cons_zero, List.getElem_cons_succ])
              refine wpAnyH_take (i := 11) (oi := _) (v := .pointer (some ⟨W8.heap.size, rr, none⟩)) rfl (by kernel_rfl) (by kernel_rfl) (by kernel_rfl) (fun _ _ _ h => h) (Or.inl ⟨by rfl, fun wx hSw => ?_⟩) (by assumption) ?_
              · go_simp
                try (first | omega | (rw [IntKind.wrap_i64]; omega))
              (try simp only [Act.put, List.setIfInBounds_toArray, List.set_cons_zero, List.set_cons_succ, List.getElem_toArray, List.getElem_cons_zero, List.getElem_cons_succ])
              refine wpAnyH_ready (rs := [12]) (by kernel_rfl) (by simp) ?_
              refine AllReadyH.cons (o := _) rfl (fun K hK => ?_) AllReadyH.nil
              go_simp
              refine hK.out _ _ (HS18.out) (fun hHeld => ?_)
              clear hK K
              (try simp only [Act.put, List.setIfInBounds_toArray, List.set_cons_zero, List.set_cons_succ, List.getElem_toArray, List.getElem_cons_zero, List.getElem_cons_succ])
              refine wpAnyH_done (by kernel_rfl) ?_ _
              obtain ⟨y0, y1⟩ := hHeld
              clear hsh kf f0 f1 f2 f3 f4 b0 b1
              go_wp2
              clear ucl uf y0 y1
              go_roundw
              case rel => exact ⟨j + 1, Or.inr (by omega), by go_num, HF⟩
              case measure => simp [intOf]; omega
          · have hlt2 : ¬ ((j : Int) + 1 < (rl : Int)) := by omega
            have hsq := HJ.out
            obtain ⟨mm, hmm⟩ : ∃ mm, mm = P.length - 1 := ⟨_, rfl⟩
            have hjm : j = mm := by have := HRL.out; omega
            subst hjm
            have HSQ := Lib.hid hsq; have HMM2 := Lib.hid hmm
            have hbW := Lib.hid (btrans HB.out hsq.below)
            have hjb : j ≤ 100000 := by have := HRL.out; omega
            clear hsq HJ hmm
            obtain ⟨W7, hW7⟩ : ∃ W7, W7 = wr := ⟨_, rfl⟩
            subst hW7
            have HS0 : Hid (0 = (shr es P j 0).length ∧ OwS W7.heap.size (W7.alloc (.cells #[] 51)) (.slice (some ⟨W7.heap.size, 0, none⟩) 0 0) (shr es P j 0) ∧ Below W7.heap.size W7 (W7.alloc (.cells #[] 51))) := Lib.hid ⟨rfl, ows_new _ _ (Nat.le_refl _), ball (Below.refl _ _) _⟩
            go_wp2
            go_loopg [13, 14] 16 (fun M s4 s65 wr => ∃ (r kk cc : Nat) (aa : Option Addr), s4 = .slice aa kk cc ∧ s65 = .int .i64 (r : Int) ∧ Hid (M = 16 - r ∧ r ≤ 16 ∧ kk = (shr es P j r).length ∧ OwS W7.heap.size wr (.slice aa kk cc) (shr es P j r) ∧ Below W7.heap.size W7 wr))
            case atStart => exact ⟨0, _, _, _, rfl, rfl, Lib.hid ⟨rfl, by omega, HS0.out⟩⟩
            case round =>
              clear HS0
              obtain ⟨r, kk, cc, aa, rfl, rfl, HR⟩ := hrel
              by_cases hr : r < 16
              · have hr2 : (r : Int) < 16 := by omega
                obtain ⟨hM, _, hkk, how, hbl⟩ := HR.out
                have kc := (HSQ.out.km.on hbl).cell hr
                have uc := (HSQ.out.us.on hbl).cell hr
                have hlen := shr_len es P j r
                have hms : 16 - (r + 1) < gk := by omega
                cases hu : usf es P r j with
                | false =>
                  rw [hu] at uc
                  have he : shr es P j (r + 1) = shr es P j r := by conv => lhs; unfold shr; rw [hu]; simp
                  have HF := Lib.hid (And.intro hkk (And.intro how hbl))
                  rw [← he] at HF
                  clear hM hkk how hbl hu he HR hlen
                  go_wp2
                  clear kc uc
                  go_roundg (16 - (r + 1))
                  case measure => exact hms
                  case rel => exact ⟨r + 1, _, _, _, rfl, by go_num, Lib.hid ⟨rfl, by omega, HF.out⟩⟩
                | true =>
                  rw [hu] at uc
                  have he : shr es P j (r + 1) = shr es P j r ++ [⟨r, kmf es P r j⟩] := by conv => lhs; unfold shr; rw [hu]; simp
                  obtain ⟨v', w8, hr8, ho8, hg8⟩ := how.push hbl.size ⟨r, (kmf es P r j : Nat)⟩ (by omega)
                  rw [← he] at ho8
                  obtain ⟨a8, c8, rfl⟩ := ho8.shape
                  have hk8 : (shr es P j (r + 1)).length = kk + 1 := by rw [he, List.length_append, ← hkk]; rfl
                  have hb8 : Below W7.heap.size W7 w8 := hbl.grown hg8 hbl.size (fun k hk => (World.ownsRow.lt how k hk).1)
                  rw [hk8] at ho8 hr8
                  obtain ⟨KV, hKV⟩ : ∃ KV : Int, KV = (kmf es P r j : Nat) := ⟨_, rfl⟩
                  rw [← hKV] at kc hr8
                  have HF := Lib.hid (And.intro hk8.symm (And.intro ho8 hb8))
                  have HR8 := Lib.hid hr8
                  clear hM hkk how hbl hu he HR hlen ho8 hg8 hk8 hb8 hr8 hKV
                  go_wp2_with (first | (at_builtin; refine wp_appS rfl rfl rfl (.tmp 85) (.tmp 92) rfl rfl rfl HR8.out ?_))
                  clear kc uc
                  go_roundg (16 - (r + 1))
                  case measure => exact hms
                  case rel => exact ⟨r + 1, _, _, _, rfl, by go_num, Lib.hid ⟨rfl, by omega, HF.out⟩⟩
              · obtain ⟨hM, hr16, hkk, how, hbl⟩ := HR.out
                obtain rfl : r = 16 := by omega
                have hr2 : ¬ (((16 : Nat) : Int) < 16) := by omega
                have hmem := shr_mem HVAL.out.2.1 P j 16
                have hss := how.ss (fun s hs => by
                  have := hmem s hs
                  exact ⟨⟨by omega, by omega⟩, ⟨by omega, by omega⟩⟩) (by have := shr_len es P j 16; omega)
                have HF := Lib.hid (And.intro (btrans hbW.out hbl) hss)
                have HKK := Lib.hid hkk
                clear hM hkk how hbl HR hmem hss
                go_wp2
                go_ret2
                exact ⟨_, _, _, _, 0, rfl, HF.out.1, HF.out.2, Or.inr ⟨HCE.out, es, P, HVAL.out, rfl, HPN.out, Or.inr ⟨fun i hi => HSQ.out.ok i (by have := HMM2.out; omega), rfl, by rw [HMM2.out]⟩⟩⟩
  · have d0 : (E != 0) = true := by simpa using c0
    have HC0 := Lib.hid c0
    clear c0
    go_enter Try.func26, Try.ntmps26
    go_wp2_with fail
    rw [← hW]
    clear hW
    refine HC.out.mono ?_
    rintro e w1 ⟨rfl, hb⟩
    have HB1 := Lib.hid (btrans HB.out hb)
    clear hb b0 b1 HC HV
    go_wp2
    go_ret2
    exact ⟨_, _, _, [], E, rfl, HB1.out, sk_nil _ _ _ _, Or.inl ⟨by unfold cerr; rw [if_neg (by rw [← HEE.out]; exact HC0.out), ← HEE.out]; exact HC0.out, by unfold cerr; rw [if_neg (by rw [← HEE.out]; exact HC0.out), ← HEE.out], rfl⟩⟩
end Go.Proofs.Ytbeoldklpklbfaa
