/-
  Walks: combine of the reference.
-/
import Derived.Test.YtboojinokljelaaPo
import Derived.Test.YtboojinokljelaaRa
import Derived.Test.YtboojinokljelaaRd
import Derived.Great.BuildSlice
namespace Go.Proofs.Ytboojinokljelaa
open Go.RowKit

theorem wp_slice1 {o : Oper} {a : Act} {w : World} {K : Act → World → Prop} {Q : Exit → Act → World → Prop} (x y : Int) (z : Operand) (ho : o.op = .buildSlice 22 1 #[(0, z)]) (hx : a.eval z = .agg #[.int .i64 x, .int .i64 y])
    (h : K (a.put o.dst (.slice (some ⟨w.heap.size, 0, none⟩) 1 1)) (w.alloc (.cells #[.int .i64 x, .int .i64 y] 36))) : o.wp Try.prog a w K Q := by
  obtain ⟨i0, hi, hz0, hz1, hz2⟩ := info_parts Try.info36
  refine wp_buildSlice 22 36 1 #[(0, z)] ho _ i0 _ Try.underlying22 hi hz0 (by rw [hz1]; omega) (by rw [hz1]; omega) ?_ h
  rw [hz1]
  have er : Array.range (1 * 2) = #[0, 1] := by decide
  simp [hx, Instr.fill, Value.cells, er]
theorem wp_appO {o : Oper} {a : Act} {w : World} {K : Act → World → Prop} {Q : Exit → Act → World → Prop} (hty : o.type = 22) (s x : Operand)
    (ho : o.op = .call { callee := .builtin .append, args := #[s, x], argTypes := #[22, 22] }) {v u v' : Value} {w' : World} (hs : a.eval s = v) (hx : a.eval x = u)
    (hr : (Builtin.append_ #[22, 22] 22 #[v, u]).run Try.prog w = .ok v' w') (hk : K (a.put o.dst v') w') : o.wp Try.prog a w K Q := by
  unfold Oper.wp execOp
  simp only [ho, hty, resolve, invoke, builtin, Sem.run_bind, Sem.run_pure, Result.andThen_ok, List.map_toArray, List.map_cons, List.map_nil, hs, hx, hr]
  exact hk

set_option maxRecDepth 100000 in
set_option maxHeartbeats 4000000 in
theorem combine_any (g : Prop → Prop → Prop) (G : Bool → Bool → Bool) (hG : ∀ a b m, G (inB a m) (inB b m) = true ↔ g (mem a m) (mem b m)) (K0 : Int)
    (hK0 : ∀ x y w, Calls Try.prog 47 #[.int .i64 K0, .bool x, .bool y] w fun e w' => e = .returned (.bool (G x y)) ∧ w' = w)
    (a b : List (Int × Int)) (oa ob : Option Addr) (ca cb : Nat) (w : World) (ha : Sl (fun k => k < w.heap.size) w (.slice oa a.length ca) a) (hb : Sl (fun k => k < w.heap.size) w (.slice ob b.length cb) b) (hl : a.length + b.length ≤ 400) :
    Calls Try.prog 34 #[.slice oa a.length ca, .slice ob b.length cb, .int .i64 K0] w fun e w' => ∃ v, e = .returned v ∧ ApT w (cmb g a b) v w' := by
  have hpt := points_any a b oa ob ca cb w ha hb (by omega)
  have hplen := pts_length a b
  obtain ⟨p, hp⟩ : ∃ p, p = pts a b := ⟨_, rfl⟩
  have hcm : cmb g a b = fld (fun m => g (mem a m) (mem b m)) [] p := by rw [hp]; rfl
  rw [← hp] at hpt hplen
  rw [hcm]
  obtain ⟨f, hf⟩ : ∃ f : Int → Prop, f = fun m => g (mem a m) (mem b m) := ⟨_, rfl⟩
  rw [← hf]
  have HPT := Lib.hid hpt; have HK := Lib.hid hK0; have HA := Lib.hid ha; have HB := Lib.hid hb
  have hca : ∀ P w', Below w.heap.size w w' → Calls Try.prog 28 #[.slice oa a.length ca, .int .i64 P] w' fun e w'' => e = .returned (.bool (inB a P)) ∧ w'' = w' := fun P w' hw => rcontains_any a P oa ca w' (ha.on hw)
  have hcb : ∀ P w', Below w.heap.size w w' → Calls Try.prog 28 #[.slice ob b.length cb, .int .i64 P] w' fun e w'' => e = .returned (.bool (inB b P)) ∧ w'' = w' := fun P w' hw => rcontains_any b P ob cb w' (hb.on hw)
  have hV : ∀ P, G (inB a P) (inB b P) = true ↔ f P := fun P => by rw [hf]; exact hG a b P
  have HCA := Lib.hid hca; have HCB := Lib.hid hcb; have HV := Lib.hid hV
  clear hpt hK0 ha hb hca hcb hV hp hcm hf
  go_enter Try.func34, Try.ntmps34
  go_wp2_with fail
  refine HPT.out.mono ?_
  rintro e w1 ⟨v1, rfl, hb1, hI1⟩
  obtain ⟨g', off, c, rfl, hc, hg⟩ := hI1.shape
  have HI := Lib.hid hI1
  obtain ⟨N, hN⟩ : ∃ N, N = p.length := ⟨_, rfl⟩
  have HN := Lib.hid hN
  have hN2 : N ≤ 800 := by omega
  have hs1 := hb1.size
  have HB1 := Lib.hid hb1
  rw [← hN] at hc HI ⊢
  clear hN hb1 hI1 hplen HPT
  go_wp2
  go_loopw [8, 9] (fun v t wr => ∃ (k : Nat), k ≤ N ∧ t = .int .i64 k ∧ Hid (ApT w1 (fld f [] (p.take (k + 1))) v wr)) (fun _ t _ => N - (intOf t).toNat)
  case atStart =>
    refine ⟨0, by omega, rfl, Lib.hid ?_⟩
    rw [fld_start]
    exact ⟨World.ownsRow_made w1 #[] 0 (Nat.le_refl _) (by decide) rfl, ball (Below.refl _ _) _⟩
  case round =>
    obtain ⟨k, hk, rfl, H⟩ := hrel
    obtain ⟨ao, co, rfl, hco⟩ := H.out.shape
    by_cases hlt : k + 1 < N
    · have hlt2 : (k : Int) + 1 < (N : Int) := by omega
      obtain ⟨P, hP, hPi, cP⟩ := HI.out.pick k (by have := HN.out; omega)
      obtain ⟨Q, hQ, hQi, cQ⟩ := HI.out.pick (k + 1) (by have := HN.out; omega)
      have hstep := fld_step f p k P Q hP hQ (G (inB a P) (inB b P)) (HV.out P)
      have hfl := fld_length f _ (p.take (k + 1)) [] (Nat.le_refl _)
      have hfl2 : (fld f [] (p.take (k + 1))).length ≤ 800 := by
        rw [List.length_take] at hfl
        simp at hfl
        omega
      have hP3 : wr.cell? ⟨g', off + k, none⟩ = some (.int .i64 P) := (H.out.below.cell (p := ⟨g', off + k, none⟩) hg).trans cP
      have hQ3 : wr.cell? ⟨g', off + (k + 1), none⟩ = some (.int .i64 Q) := (H.out.below.cell (p := ⟨g', off + (k + 1), none⟩) hg).trans cQ
      have hww : ∀ n, Below w.heap.size w (wr.drewN n) := fun n => bdrewN (HB1.out.trans (H.out.below.mono hs1)) n
      have h1 : ∀ n, Calls Try.prog 28 #[.slice oa a.length ca, .int .i64 P] (wr.drewN n) fun e w'' => e = .returned (.bool (inB a P)) ∧ w'' = wr.drewN n := fun n => HCA.out P _ (hww n)
      have h2 : ∀ n, Calls Try.prog 28 #[.slice ob b.length cb, .int .i64 P] (wr.drewN n) fun e w'' => e = .returned (.bool (inB b P)) ∧ w'' = wr.drewN n := fun n => HCB.out P _ (hww n)
      obtain ⟨X, hX⟩ : ∃ X, X = inB a P := ⟨_, rfl⟩
      obtain ⟨Y, hY⟩ : ∃ Y, Y = inB b P := ⟨_, rfl⟩
      rw [← hX, ← hY] at hstep
      rw [← hX] at h1
      rw [← hY] at h2
      have h3 := fun w => HK.out X Y w
      obtain ⟨V, hVV⟩ : ∃ V, V = G X Y := ⟨_, rfl⟩
      rw [← hVV] at hstep h3
      obtain ⟨L, hL⟩ : ∃ L, L = fld f [] (p.take (k + 1)) := ⟨_, rfl⟩
      rw [← hL] at hstep hfl2 H hco ⊢
      obtain ⟨n, hn⟩ : ∃ n, n = L.length := ⟨_, rfl⟩
      have H1 := Lib.hid h1; have H2 := Lib.hid h2; have H3 := Lib.hid h3; have HS := Lib.hid hstep; have HP3 := Lib.hid hP3; have HQ3 := Lib.hid hQ3; have HNL := Lib.hid hn; have HFL := Lib.hid hfl2; have HQI := Lib.hid hQi
      rw [← hn] at H hco ⊢
      clear h1 h2 h3 hstep hP hQ hPi hQi cP cQ hfl hww hX hY hVV hL hn hQ3 hfl2
      go_wp2_with fail
      go_quiet (first | (go_at_call_of 28 (Value.slice oa a.length ca); exact Calls.quiet_of_same (H1.out _)) | (go_at_call_of 28 (Value.slice ob b.length cb); exact Calls.quiet_of_same (H2.out _)) | (go_at_call 47; exact Calls.quiet_of_same (H3.out _)))
      clear hP3 H1 H2 H3
      have HH := Lib.hid (H.out.drewN nq)
      have hP3 : (wr.drewN nq).cell? ⟨g', off + k, none⟩ = some (.int .i64 P) := HP3.out
      have hQ3 : (wr.drewN nq).cell? ⟨g', off + (k + 1), none⟩ = some (.int .i64 Q) := HQ3.out
      clear HP3 HQ3 H
      generalize wr.drewN nq = w2 at *
      cases V with
      | false =>
        rw [if_neg (by decide)] at HS
        go_wp2_with fail
        go_quiet (fail)
        have HH3 := Lib.hid (HH.out.drewN nq)
        clear HH hP3 hQ3
        generalize w2.drewN nq = w3 at *
        go_wp2
        go_roundw
        case rel => exact ⟨k + 1, by omega, by go_num, by rw [HS.out]; exact HH3⟩
        case measure => simp [intOf]; omega
      | true =>
        rw [if_pos rfl] at HS
        rcases List.eq_nil_or_concat L with rfl | ⟨M, t, rfl⟩
        · have hn0 : n = 0 := HNL.out
          subst hn0
          have gn : decide ((0 : Int) < 0) = false := by decide
          rw [pc_nil] at HS
          go_wp2_with fail
          go_quiet (fail)
          have HH3 := Lib.hid (HH.out.drewN nq)
          replace hP3 : (w2.drewN nq).cell? ⟨g', off + k, none⟩ = some (.int .i64 P) := hP3
          replace hQ3 : (w2.drewN nq).cell? ⟨g', off + (k + 1), none⟩ = some (.int .i64 Q) := hQ3
          clear HH
          generalize w2.drewN nq = w3 at *
          have hP4 : w3.drew.cell? ⟨g', off + k, none⟩ = some (.int .i64 P) := hP3
          have hQ4 : w3.drew.cell? ⟨g', off + (k + 1), none⟩ = some (.int .i64 Q) := hQ3
          have HH4 := Lib.hid HH3.out.drew
          clear HH3 hP3 hQ3
          go_wp2_with fail
          refine wp_region_held_drew (S := fun w' => w'.cell? ⟨g', off + k, none⟩ = some (.int .i64 P) ∧ w'.cell? ⟨g', off + (k + 1), none⟩ = some (.int .i64 Q)) (by kernel_rfl) ⟨hP4, hQ4⟩ (fun hHeld => ?_)
          generalize w3.drew = w4 at *
          obtain ⟨v', w', hr, hA, hkp⟩ := HH4.out.push P Q (by have := HFL.out; omega)
          have hg4 : g' < w4.heap.size := Nat.lt_of_lt_of_le hg HH4.out.below.size
          have hne : ∀ k, (Value.slice ao 0 co).ownBlock ≠ some k ∨ w1.heap.size ≤ k := fun k => by
            rcases Decidable.em ((Value.slice ao 0 co).ownBlock = some k) with h | h
            · exact .inr (HH4.out.own.lt k h).1
            · exact .inl h
          have hP5 : w'.cell? ⟨g', off + k, none⟩ = some (.int .i64 P) := (World.cell?_of_block (a := ⟨g', off + k, none⟩) (hkp g' hg4 ((hne g').resolve_right (by omega)))).trans hP4
          have hQ5 : w'.cell? ⟨g', off + (k + 1), none⟩ = some (.int .i64 Q) := (World.cell?_of_block (a := ⟨g', off + (k + 1), none⟩) (hkp g' hg4 ((hne g').resolve_right (by omega)))).trans hQ4
          have HR := Lib.hid hr; have HA := Lib.hid hA
          clear hr hA hkp hne HH4
          change wpAnyH _ _ _ _ _ 14 #[false, false, false, false, false, false, false, false, false, false, false, false, false, false] _ _
          refine wpAnyH_take (i := 0) (oi := _) (v := .slice ao 0 co) rfl (by kernel_rfl) (by kernel_rfl) (by kernel_rfl) (fun _ _ _ h => h) (Or.inl ⟨by rfl, fun wx hSw => ?_⟩) (by assumption) ?_
          · go_simp
            try (first | omega | (rw [IntKind.wrap_i64]; omega))
          (try simp only [Act.put, List.setIfInBounds_toArray, List.set_cons_zero, List.set_cons_succ, List.getElem_toArray, List.getElem_cons_zero, List.getElem_cons_succ])
          refine wpAnyH_take (i := 1) (oi := _) (v := .slice (some ⟨g', off, none⟩) N c) rfl (by kernel_rfl) (by kernel_rfl) (by kernel_rfl) (fun _ _ _ h => h) (Or.inl ⟨by rfl, fun wx hSw => ?_⟩) (by assumption) ?_
          · go_simp
            try (first | omega | (rw [IntKind.wrap_i64]; omega))
          (try simp only [Act.put, List.setIfInBounds_toArray, List.set_cons_zero, List.set_cons_succ, List.getElem_toArray, List.getElem_cons_zero, List.getElem_cons_succ])
          refine wpAnyH_take (i := 2) (oi := _) (v := .int .i64 (k : Int)) rfl (by kernel_rfl) (by kernel_rfl) (by kernel_rfl) (fun _ _ _ h => h) (Or.inl ⟨by rfl, fun wx hSw => ?_⟩) (by assumption) ?_
          · go_simp
            try (first | omega | (rw [IntKind.wrap_i64]; omega))
          (try simp only [Act.put, List.setIfInBounds_toArray, List.set_cons_zero, List.set_cons_succ, List.getElem_toArray, List.getElem_cons_zero, List.getElem_cons_succ])
          refine wpAnyH_take (i := 3) (oi := _) (v := .pointer (some ⟨g', off + k, none⟩)) rfl (by kernel_rfl) (by kernel_rfl) (by kernel_rfl) (fun _ _ _ h => h) (Or.inl ⟨by rfl, fun wx hSw => ?_⟩) (by assumption) ?_
          · go_simp
            try (first | omega | (rw [IntKind.wrap_i64]; omega))
          (try simp only [Act.put, List.setIfInBounds_toArray, List.set_cons_zero, List.set_cons_succ, List.getElem_toArray, List.getElem_cons_zero, List.getElem_cons_succ])
          refine wpAnyH_take (i := 4) (oi := _) (v := .int .i64 P) rfl (by kernel_rfl) (by kernel_rfl) (by kernel_rfl) (fun _ _ _ h => h) (Or.inl ⟨by rfl, fun wx hSw => ?_⟩) (by assumption) ?_
          · have hh := hSw.1; go_simp
            try (first | omega | (rw [IntKind.wrap_i64]; omega))
          (try simp only [Act.put, List.setIfInBounds_toArray, List.set_cons_zero, List.set_cons_succ, List.getElem_toArray, List.getElem_cons_zero, List.getElem_cons_succ])
          refine wpAnyH_take (i := 5) (oi := _) (v := .slice (some ⟨g', off, none⟩) N c) rfl (by kernel_rfl) (by kernel_rfl) (by kernel_rfl) (fun _ _ _ h => h) (Or.inl ⟨by rfl, fun wx hSw => ?_⟩) (by assumption) ?_
          · go_simp
            try (first | omega | (rw [IntKind.wrap_i64]; omega))
          (try simp only [Act.put, List.setIfInBounds_toArray, List.set_cons_zero, List.set_cons_succ, List.getElem_toArray, List.getElem_cons_zero, List.getElem_cons_succ])
          refine wpAnyH_take (i := 6) (oi := _) (v := .int .i64 (k : Int)) rfl (by kernel_rfl) (by kernel_rfl) (by kernel_rfl) (fun _ _ _ h => h) (Or.inl ⟨by rfl, fun wx hSw => ?_⟩) (by assumption) ?_
          · go_simp
            try (first | omega | (rw [IntKind.wrap_i64]; omega))
          (try simp only [Act.put, List.setIfInBounds_toArray, List.set_cons_zero, List.set_cons_succ, List.getElem_toArray, List.getElem_cons_zero, List.getElem_cons_succ])
          refine wpAnyH_take (i := 7) (oi := _) (v := .int .i64 ((k : Int) + 1)) rfl (by kernel_rfl) (by kernel_rfl) (by kernel_rfl) (fun _ _ _ h => h) (Or.inl ⟨by rfl, fun wx hSw => ?_⟩) (by assumption) ?_
          · go_simp
            try (first | omega | (rw [IntKind.wrap_i64]; omega))
          (try simp only [Act.put, List.setIfInBounds_toArray, List.set_cons_zero, List.set_cons_succ, List.getElem_toArray, List.getElem_cons_zero, List.getElem_cons_succ])
          refine wpAnyH_take (i := 8) (oi := _) (v := .pointer (some ⟨g', off + (k + 1), none⟩)) rfl (by kernel_rfl) (by kernel_rfl) (by kernel_rfl) (fun _ _ _ h => h) (Or.inl ⟨by rfl, fun wx hSw => ?_⟩) (by assumption) ?_
          · go_simp
            try (first | omega | (rw [IntKind.wrap_i64]; omega))
          (try simp only [Act.put, List.setIfInBounds_toArray, List.set_cons_zero, List.set_cons_succ, List.getElem_toArray, List.getElem_cons_zero, List.getElem_cons_succ])
          refine wpAnyH_take (i := 9) (oi := _) (v := .int .i64 Q) rfl (by kernel_rfl) (by kernel_rfl) (by kernel_rfl) (fun _ _ _ h => h) (Or.inl ⟨by rfl, fun wx hSw => ?_⟩) (by assumption) ?_
          · have hh := hSw.2; go_simp
            try (first | omega | (rw [IntKind.wrap_i64]; omega))
          (try simp only [Act.put, List.setIfInBounds_toArray, List.set_cons_zero, List.set_cons_succ, List.getElem_toArray, List.getElem_cons_zero, List.getElem_cons_succ])
          refine wpAnyH_take (i := 10) (oi := _) (v := .agg #[.int .i64 P, .int .i64 Q]) rfl (by kernel_rfl) (by kernel_rfl) (by kernel_rfl) (fun _ _ _ h => h) (Or.inl ⟨by rfl, fun wx hSw => ?_⟩) (by assumption) ?_
          · go_simp
            try (first | omega | (rw [IntKind.wrap_i64]; omega))
          (try simp only [Act.put, List.setIfInBounds_toArray, List.set_cons_zero, List.set_cons_succ, List.getElem_toArray, List.getElem_cons_zero, List.getElem_cons_succ])
          refine wpAnyH_ready (rs := [11]) (by kernel_rfl) (by simp) ?_
          refine AllReadyH.cons (o := _) rfl (fun K hK => ?_) AllReadyH.nil
          rw [if_pos (show Region.wanted _ _ = true by rfl)]
          refine wp_slice1 P Q (.tmp 78) rfl rfl ?_
          refine hK _ _ ⟨(World.cell?_alloc_some _ _ _ (by rw [hP4]; rfl)).trans hP4, (World.cell?_alloc_some _ _ _ (by rw [hQ4]; rfl)).trans hQ4⟩ (fun hHeld => ?_)
          clear hK K
          (try simp only [Act.put, List.setIfInBounds_toArray, List.set_cons_zero, List.set_cons_succ, List.getElem_toArray, List.getElem_cons_zero, List.getElem_cons_succ])
          refine wpAnyH_ready (rs := [12]) (by kernel_rfl) (by simp) ?_
          refine AllReadyH.cons (o := _) rfl (fun K hK => ?_) AllReadyH.nil
          rw [if_pos (show Region.wanted _ _ = true by rfl)]
          refine wp_appO rfl (.tmp 68) (.tmp 79) rfl rfl rfl HR.out ?_
          refine hK _ _ ⟨hP5, hQ5⟩ (fun hHeld => ?_)
          clear hK K
          (try simp only [Act.put, List.setIfInBounds_toArray, List.set_cons_zero, List.set_cons_succ, List.getElem_toArray, List.getElem_cons_zero, List.getElem_cons_succ])
          refine wpAnyH_take (i := 13) (oi := _) (v := v') rfl (by kernel_rfl) (by kernel_rfl) (by kernel_rfl) (fun _ _ _ h => h) (Or.inl ⟨by rfl, fun wx hSw => ?_⟩) (by assumption) ?_
          · go_simp
            try (first | omega | (rw [IntKind.wrap_i64]; omega))
          (try simp only [Act.put, List.setIfInBounds_toArray, List.set_cons_zero, List.set_cons_succ, List.getElem_toArray, List.getElem_cons_zero, List.getElem_cons_succ])
          refine wpAnyH_done (by kernel_rfl) ?_ _
          clear hP4 hQ4 hP5 hQ5 hHeld
          go_wp2
          go_roundw
          case rel => exact ⟨k + 1, by omega, by go_num, by rw [HS.out]; exact HA⟩
          case measure => simp [intOf]; omega
        · rw [List.concat_eq_append] at *
          obtain ⟨s0, t0⟩ := t
          rw [pc_snoc] at HS
          obtain ⟨gv, rfl, hgv, hnn, e0, e1, e2, e3, e4⟩ := HH.out.last
          obtain ⟨m, hm⟩ : ∃ m, m = M.length := ⟨_, rfl⟩
          rw [← hm] at e0 e1 e2 e4 hnn
          subst hnn
          have E4 := Lib.hid e4
          have gn : decide (0 < m + 1) = true := decide_eq_true (by omega)
          have hk1 : IntKind.i64.wrap (m : Int) = (m : Int) := by rw [IntKind.wrap_i64]; have := HFL.out; simp only [List.length_append, List.length_cons, List.length_nil] at this; omega
          clear e4 hm
          by_cases heq : t0 = P
          · subst heq
            rw [if_pos rfl] at HS
            have heq2 : (t0 == t0) = true := by simp
            go_wp2_with fail
            go_quiet (fail)
            have HH3 := HH.out.drewN nq
            replace hQ3 : (w2.drewN nq).cell? ⟨g', off + (k + 1), none⟩ = some (.int .i64 Q) := hQ3
            clear HH e0 e1 e2 E4 gn hP3
            generalize w2.drewN nq = w3 at *
            obtain ⟨gv2, hgv2, _, hm2, e0, e1, e2, e3, e4⟩ := HH3.last
            simp only [Option.some.injEq, Addr.mk.injEq, and_true] at hgv2
            subst hgv2
            have hm3 : M.length = m := by omega
            rw [hm3] at e0 e1 e2 e4
            have E4 := Lib.hid (e4 Q)
            clear e4 hm2 hm3 HH3 e0 heq2
            go_wp2
            go_roundw
            case rel => exact ⟨k + 1, by omega, by go_num, by rw [HS.out]; exact E4⟩
            case measure => simp [intOf]; omega
          · rw [if_neg heq] at HS
            have heq2 : (t0 == P) = false := by simpa using heq
            go_wp2_with fail
            go_quiet (fail)
            have HH3 := Lib.hid (HH.out.drewN nq)
            replace hP3 : (w2.drewN nq).cell? ⟨g', off + k, none⟩ = some (.int .i64 P) := hP3
            replace hQ3 : (w2.drewN nq).cell? ⟨g', off + (k + 1), none⟩ = some (.int .i64 Q) := hQ3
            clear HH e0 e1 e2 E4 gn
            generalize w2.drewN nq = w3 at *
            have hP4 : w3.drew.cell? ⟨g', off + k, none⟩ = some (.int .i64 P) := hP3
            have hQ4 : w3.drew.cell? ⟨g', off + (k + 1), none⟩ = some (.int .i64 Q) := hQ3
            have HH4 := Lib.hid HH3.out.drew
            clear HH3 hP3 hQ3
            go_wp2_with fail
            refine wp_region_held_drew (S := fun w' => w'.cell? ⟨g', off + k, none⟩ = some (.int .i64 P) ∧ w'.cell? ⟨g', off + (k + 1), none⟩ = some (.int .i64 Q)) (by kernel_rfl) ⟨hP4, hQ4⟩ (fun hHeld => ?_)
            generalize w3.drew = w4 at *
            obtain ⟨v', w', hr, hA, hkp⟩ := HH4.out.push P Q (by have := HFL.out; omega)
            have hg4 : g' < w4.heap.size := Nat.lt_of_lt_of_le hg HH4.out.below.size
            have hne : ∀ k, (Value.slice (some ⟨gv, 0, none⟩) (m + 1) co).ownBlock ≠ some k ∨ w1.heap.size ≤ k := fun k => by
              rcases Decidable.em ((Value.slice (some ⟨gv, 0, none⟩) (m + 1) co).ownBlock = some k) with h | h
              · exact .inr (HH4.out.own.lt k h).1
              · exact .inl h
            have hP5 : w'.cell? ⟨g', off + k, none⟩ = some (.int .i64 P) := (World.cell?_of_block (a := ⟨g', off + k, none⟩) (hkp g' hg4 ((hne g').resolve_right (by omega)))).trans hP4
            have hQ5 : w'.cell? ⟨g', off + (k + 1), none⟩ = some (.int .i64 Q) := (World.cell?_of_block (a := ⟨g', off + (k + 1), none⟩) (hkp g' hg4 ((hne g').resolve_right (by omega)))).trans hQ4
            have HR := Lib.hid hr; have HA := Lib.hid hA
            clear hr hA hkp hne HH4
            change wpAnyH _ _ _ _ _ 14 #[false, false, false, false, false, false, false, false, false, false, false, false, false, false] _ _
            refine wpAnyH_take (i := 0) (oi := _) (v := .slice (some ⟨gv, 0, none⟩) (m + 1) co) rfl (by kernel_rfl) (by kernel_rfl) (by kernel_rfl) (fun _ _ _ h => h) (Or.inl ⟨by rfl, fun wx hSw => ?_⟩) (by assumption) ?_
            · go_simp
              try (first | omega | (rw [IntKind.wrap_i64]; omega))
            (try simp only [Act.put, List.setIfInBounds_toArray, List.set_cons_zero, List.set_cons_succ, List.getElem_toArray, List.getElem_cons_zero, List.getElem_cons_succ])
            refine wpAnyH_take (i := 1) (oi := _) (v := .slice (some ⟨g', off, none⟩) N c) rfl (by kernel_rfl) (by kernel_rfl) (by kernel_rfl) (fun _ _ _ h => h) (Or.inl ⟨by rfl, fun wx hSw => ?_⟩) (by assumption) ?_
            · go_simp
              try (first | omega | (rw [IntKind.wrap_i64]; omega))
            (try simp only [Act.put, List.setIfInBounds_toArray, List.set_cons_zero, List.set_cons_succ, List.getElem_toArray, List.getElem_cons_zero, List.getElem_cons_succ])
            refine wpAnyH_take (i := 2) (oi := _) (v := .int .i64 (k : Int)) rfl (by kernel_rfl) (by kernel_rfl) (by kernel_rfl) (fun _ _ _ h => h) (Or.inl ⟨by rfl, fun wx hSw => ?_⟩) (by assumption) ?_
            · go_simp
              try (first | omega | (rw [IntKind.wrap_i64]; omega))
            (try simp only [Act.put, List.setIfInBounds_toArray, List.set_cons_zero, List.set_cons_succ, List.getElem_toArray, List.getElem_cons_zero, List.getElem_cons_succ])
            refine wpAnyH_take (i := 3) (oi := _) (v := .pointer (some ⟨g', off + k, none⟩)) rfl (by kernel_rfl) (by kernel_rfl) (by kernel_rfl) (fun _ _ _ h => h) (Or.inl ⟨by rfl, fun wx hSw => ?_⟩) (by assumption) ?_
            · go_simp
              try (first | omega | (rw [IntKind.wrap_i64]; omega))
            (try simp only [Act.put, List.setIfInBounds_toArray, List.set_cons_zero, List.set_cons_succ, List.getElem_toArray, List.getElem_cons_zero, List.getElem_cons_succ])
            refine wpAnyH_take (i := 4) (oi := _) (v := .int .i64 P) rfl (by kernel_rfl) (by kernel_rfl) (by kernel_rfl) (fun _ _ _ h => h) (Or.inl ⟨by rfl, fun wx hSw => ?_⟩) (by assumption) ?_
            · have hh := hSw.1; go_simp
              try (first | omega | (rw [IntKind.wrap_i64]; omega))
            (try simp only [Act.put, List.setIfInBounds_toArray, List.set_cons_zero, List.set_cons_succ, List.getElem_toArray, List.getElem_cons_zero, List.getElem_cons_succ])
            refine wpAnyH_take (i := 5) (oi := _) (v := .slice (some ⟨g', off, none⟩) N c) rfl (by kernel_rfl) (by kernel_rfl) (by kernel_rfl) (fun _ _ _ h => h) (Or.inl ⟨by rfl, fun wx hSw => ?_⟩) (by assumption) ?_
            · go_simp
              try (first | omega | (rw [IntKind.wrap_i64]; omega))
            (try simp only [Act.put, List.setIfInBounds_toArray, List.set_cons_zero, List.set_cons_succ, List.getElem_toArray, List.getElem_cons_zero, List.getElem_cons_succ])
            refine wpAnyH_take (i := 6) (oi := _) (v := .int .i64 (k : Int)) rfl (by kernel_rfl) (by kernel_rfl) (by kernel_rfl) (fun _ _ _ h => h) (Or.inl ⟨by rfl, fun wx hSw => ?_⟩) (by assumption) ?_
            · go_simp
              try (first | omega | (rw [IntKind.wrap_i64]; omega))
            (try simp only [Act.put, List.setIfInBounds_toArray, List.set_cons_zero, List.set_cons_succ, List.getElem_toArray, List.getElem_cons_zero, List.getElem_cons_succ])
            refine wpAnyH_take (i := 7) (oi := _) (v := .int .i64 ((k : Int) + 1)) rfl (by kernel_rfl) (by kernel_rfl) (by kernel_rfl) (fun _ _ _ h => h) (Or.inl ⟨by rfl, fun wx hSw => ?_⟩) (by assumption) ?_
            · go_simp
              try (first | omega | (rw [IntKind.wrap_i64]; omega))
            (try simp only [Act.put, List.setIfInBounds_toArray, List.set_cons_zero, List.set_cons_succ, List.getElem_toArray, List.getElem_cons_zero, List.getElem_cons_succ])
            refine wpAnyH_take (i := 8) (oi := _) (v := .pointer (some ⟨g', off + (k + 1), none⟩)) rfl (by kernel_rfl) (by kernel_rfl) (by kernel_rfl) (fun _ _ _ h => h) (Or.inl ⟨by rfl, fun wx hSw => ?_⟩) (by assumption) ?_
            · go_simp
              try (first | omega | (rw [IntKind.wrap_i64]; omega))
            (try simp only [Act.put, List.setIfInBounds_toArray, List.set_cons_zero, List.set_cons_succ, List.getElem_toArray, List.getElem_cons_zero, List.getElem_cons_succ])
            refine wpAnyH_take (i := 9) (oi := _) (v := .int .i64 Q) rfl (by kernel_rfl) (by kernel_rfl) (by kernel_rfl) (fun _ _ _ h => h) (Or.inl ⟨by rfl, fun wx hSw => ?_⟩) (by assumption) ?_
            · have hh := hSw.2; go_simp
              try (first | omega | (rw [IntKind.wrap_i64]; omega))
            (try simp only [Act.put, List.setIfInBounds_toArray, List.set_cons_zero, List.set_cons_succ, List.getElem_toArray, List.getElem_cons_zero, List.getElem_cons_succ])
            refine wpAnyH_take (i := 10) (oi := _) (v := .agg #[.int .i64 P, .int .i64 Q]) rfl (by kernel_rfl) (by kernel_rfl) (by kernel_rfl) (fun _ _ _ h => h) (Or.inl ⟨by rfl, fun wx hSw => ?_⟩) (by assumption) ?_
            · go_simp
              try (first | omega | (rw [IntKind.wrap_i64]; omega))
            (try simp only [Act.put, List.setIfInBounds_toArray, List.set_cons_zero, List.set_cons_succ, List.getElem_toArray, List.getElem_cons_zero, List.getElem_cons_succ])
            refine wpAnyH_ready (rs := [11]) (by kernel_rfl) (by simp) ?_
            refine AllReadyH.cons (o := _) rfl (fun K hK => ?_) AllReadyH.nil
            rw [if_pos (show Region.wanted _ _ = true by rfl)]
            refine wp_slice1 P Q (.tmp 78) rfl rfl ?_
            refine hK _ _ ⟨(World.cell?_alloc_some _ _ _ (by rw [hP4]; rfl)).trans hP4, (World.cell?_alloc_some _ _ _ (by rw [hQ4]; rfl)).trans hQ4⟩ (fun hHeld => ?_)
            clear hK K
            (try simp only [Act.put, List.setIfInBounds_toArray, List.set_cons_zero, List.set_cons_succ, List.getElem_toArray, List.getElem_cons_zero, List.getElem_cons_succ])
            refine wpAnyH_ready (rs := [12]) (by kernel_rfl) (by simp) ?_
            refine AllReadyH.cons (o := _) rfl (fun K hK => ?_) AllReadyH.nil
            rw [if_pos (show Region.wanted _ _ = true by rfl)]
            refine wp_appO rfl (.tmp 68) (.tmp 79) rfl rfl rfl HR.out ?_
            refine hK _ _ ⟨hP5, hQ5⟩ (fun hHeld => ?_)
            clear hK K
            (try simp only [Act.put, List.setIfInBounds_toArray, List.set_cons_zero, List.set_cons_succ, List.getElem_toArray, List.getElem_cons_zero, List.getElem_cons_succ])
            refine wpAnyH_take (i := 13) (oi := _) (v := v') rfl (by kernel_rfl) (by kernel_rfl) (by kernel_rfl) (fun _ _ _ h => h) (Or.inl ⟨by rfl, fun wx hSw => ?_⟩) (by assumption) ?_
            · go_simp
              try (first | omega | (rw [IntKind.wrap_i64]; omega))
            (try simp only [Act.put, List.setIfInBounds_toArray, List.set_cons_zero, List.set_cons_succ, List.getElem_toArray, List.getElem_cons_zero, List.getElem_cons_succ])
            refine wpAnyH_done (by kernel_rfl) ?_ _
            clear hP4 hQ4 hP5 hQ5 hHeld
            go_wp2
            go_roundw
            case rel => exact ⟨k + 1, by omega, by go_num, by rw [HS.out]; exact HA⟩
            case measure => simp [intOf]; omega
    · have hkN : N ≤ k + 1 := by omega
      have hT := fld_end f p k (by rw [← HN.out]; exact hkN)
      have HT := Lib.hid hT
      have hlt2 : ¬ ((k : Int) + 1 < (N : Int)) := by omega
      clear hlt hT
      go_wp2
      go_ret
      exact ⟨_, rfl, by rw [← HT.out]; exact H.out.weaken HB1.out⟩
end Go.Proofs.Ytboojinokljelaa
