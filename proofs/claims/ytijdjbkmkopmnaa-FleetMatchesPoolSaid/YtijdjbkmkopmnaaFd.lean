/-
  Walks: find: a wagon and its type.
-/
import Derived.Test.YtijdjbkmkopmnaaLc
namespace Go.Proofs.Ytijdjbkmkopmnaa
open Go.RowKit
set_option linter.unusedVariables false
set_option linter.unusedSimpArgs false

theorem exec_load_row {P : Program} {o : Oper} {a : Act} {w : World} (ty : TypeId) (x : Operand) (ho : o.op = .load ty x)
    (g : Nat) (hx : a.eval x = .pointer (some ⟨g, 0, none⟩)) (t : TypeId) (cs : Array Value) (fr : Nat × Nat) (d : TypeDesc) (hg : w.heap[g]? = some (.cells cs t fr))
    (hu : P.underlying ty = some d) (hd : (match d with | .struct _ | .array _ _ => true | _ => false) = true) (hi : (P.info? ty).map (·.size) = some cs.size) :
    (execOp a.eval o).run P w = .ok (.value (.agg cs)) w := by
  unfold execOp
  simp only [ho, hx, Instr.loadAt, Instr.sureAddr, Sem.run_bind, Sem.run_pure, Result.andThen_ok, run_loadVar_row w g t ty cs fr d hg hu hd hi]
theorem exec_load_mid {P : Program} {o : Oper} {a : Act} {w : World} (ty : TypeId) (x : Operand) (ho : o.op = .load ty x)
    (b off : Nat) (hx : a.eval x = .pointer (some ⟨b, off, none⟩)) (cs : List Value) (d : TypeDesc) (hc : w.rangeAt b off cs)
    (hu : P.underlying ty = some d) (hd : d.isRow = true) (hi : (P.info? ty).map (·.size) = some cs.length) :
    (execOp a.eval o).run P w = .ok (.value (.agg cs.toArray)) w := by
  unfold execOp
  simp only [ho, hx, Instr.loadAt, Instr.sureAddr, Sem.run_bind, Sem.run_pure, Result.andThen_ok, run_loadVar_mid w b off ty cs d hc hu hd hi]
theorem cell_setRow {w : World} {B k j : Nat} {cs : Array Value} {v : Value} (h : w.cell? ⟨B, j, none⟩ = some v) (hne : B ≠ k) : (w.setRow k cs).cell? ⟨B, j, none⟩ = some v :=
  (World.cell?_of_block (w := w) (a := ⟨B, j, none⟩) (setRow_other _ _ _ _ hne)).trans h
theorem results3 {fn : Func} {p q r : Tmp} (h : fn.results = #[.cell p 66, .cell q 68, .tmp r]) (tmps : Array Value) (w : World) (g1 g2 : Nat) (cs ds : Array Value) (v : Value)
    (hp : tmps.getD p undef = .pointer (some ⟨g1, 0, none⟩)) (hq : tmps.getD q undef = .pointer (some ⟨g2, 0, none⟩)) (hv : tmps.getD r undef = v)
    (h1 : w.heap[g1]? = some (.cells cs 66 (0, 0))) (h2 : w.heap[g2]? = some (.cells ds 68 (0, 0))) (hc : cs.size = 5) (hd : ds.size = 8) :
    (results fn tmps).run Try.prog w = .ok (.tuple #[.agg cs, .agg ds, v]) w := by
  have hp' : tmps[p]?.getD undef = .pointer (some ⟨g1, 0, none⟩) := by simpa using hp
  have hq' : tmps[q]?.getD undef = .pointer (some ⟨g2, 0, none⟩) := by simpa using hq
  have hv' : tmps[r]?.getD undef = v := by simpa using hv
  have e1 : (Try.prog.info? 66).map (·.size) = some cs.size := by rw [hc]; kernel_rfl
  have e2 : (Try.prog.info? 68).map (·.size) = some ds.size := by rw [hd]; kernel_rfl
  simp [results, h, hp', hq', hv', asAddr, run_loadVar_row w g1 66 66 cs (0, 0) _ h1 Try.underlying66 rfl e1, run_loadVar_row w g2 68 68 ds (0, 0) _ h2 Try.underlying68 rfl e2]
def Z66 : Array Value := #[.int .i64 0, .int .i64 0, .int .i64 0, .int .i64 0, .int .i64 0]
def Z68 : Array Value := #[.int .i64 0, .int .i64 0, .int .i64 0, .int .i64 0, .int .i64 0, .int .u64 0, .int .i64 0, .int .i64 0]
theorem all66z : Z66.all (·.oneCell') = true := by kernel_rfl
theorem all68z : Z68.all (·.oneCell') = true := by kernel_rfl
theorem i66z : (Try.prog.info? 66).map (·.size) = some Z66.size := by kernel_rfl
theorem i68z : (Try.prog.info? 68).map (·.size) = some Z68.size := by kernel_rfl
/-- What find answers. -/
def FR (ts : List Ty) (ws : List Wn) (ss : List Sw) (hs : List Wh) (wagon : Int) (cs ds : Array Value) (E : Int) : Prop :=
  (chk ts ws ss hs ≠ 0 ∧ E = chk ts ws ss hs ∧ cs = Z66 ∧ ds = Z68) ∨
  (chk ts ws ss hs = 0 ∧ rng 0 wagon ((ws.length : Int) - 1) = false ∧ E = 90 ∧ cs = Z66 ∧ ds = Z68) ∨
  (chk ts ws ss hs = 0 ∧ E = 0 ∧ ∃ (i j : Nat) (x : Wn) (y : Ty), wagon = (i : Int) ∧ ws[i]? = some x ∧ x.ty = (j : Int) ∧ ts[j]? = some y ∧ cs = x.cs.toArray ∧ ds = y.cs.toArray)
theorem FR.size {ts : List Ty} {ws : List Wn} {ss : List Sw} {hs : List Wh} {wagon : Int} {cs ds : Array Value} {E : Int} (h : FR ts ws ss hs wagon cs ds E) : cs.size = 5 ∧ ds.size = 8 := by
  rcases h with ⟨_, _, rfl, rfl⟩ | ⟨_, _, _, rfl, rfl⟩ | ⟨_, _, _, _, x, y, _, _, _, _, rfl, rfl⟩
  · exact ⟨rfl, rfl⟩
  · exact ⟨rfl, rfl⟩
  · exact ⟨rfl, rfl⟩

set_option maxRecDepth 100000 in
set_option maxHeartbeats 8000000 in
theorem find_any {V : Value} {ts : List Ty} {ws : List Wn} {ss : List Sw} {hs : List Wh} {w : World} (hf : Fl w V ts ws ss hs) (wagon : Int) :
    Calls Try.prog 33 #[V, .int .i64 wagon] w fun e w' => ∃ cs ds E, e = .returned (.tuple #[.agg cs, .agg ds, .int .i64 E]) ∧ Below w.heap.size w w' ∧ FR ts ws ss hs wagon cs ds E := by
  obtain ⟨a1, c1, a2, c2, a3, c3, a4, c4, rfl, g1, g2, g3, g4⟩ := hf.shape
  have hlm := g2.1
  obtain ⟨n, hn⟩ : ∃ n, n = ts.length := ⟨_, rfl⟩
  obtain ⟨m, hm⟩ : ∃ m, m = ws.length := ⟨_, rfl⟩
  obtain ⟨k, hk⟩ : ∃ k, k = ss.length := ⟨_, rfl⟩
  obtain ⟨h, hh⟩ : ∃ h, h = hs.length := ⟨_, rfl⟩
  rw [← hm] at hlm
  rw [← hn, ← hm, ← hk, ← hh] at hf ⊢
  rw [← hn] at g1
  rw [← hm] at g2
  obtain ⟨W, hW⟩ : ∃ W, W = ((w.alloc (.cells #[.slice a1 n c1, .slice a2 m c2, .slice a3 k c3, .slice a4 h c4] 27)).alloc (.cells Z66 66)).alloc (.cells Z68 68) := ⟨_, rfl⟩
  have hB : Below w.heap.size w W := by rw [hW]; exact ball (ball (ball (Below.refl w.heap.size w) _) _) _
  have hr : W.heap[w.heap.size]? = some (.cells #[.slice a1 n c1, .slice a2 m c2, .slice a3 k c3, .slice a4 h c4] 27 (0, 0)) := by rw [hW]; exact bold (bold (bnew _ _))
  have hr4 : W.heap[w.heap.size + 1]? = some (.cells Z66 66 (0, 0)) := by
    rw [hW]
    refine bold ?_
    have h := bnew (w.alloc (.cells #[.slice a1 n c1, .slice a2 m c2, .slice a3 k c3, .slice a4 h c4] 27)) (.cells Z66 66)
    simpa using h
  have hr5 : W.heap[w.heap.size + 2]? = some (.cells Z68 68 (0, 0)) := by
    rw [hW]
    have h := bnew ((w.alloc (.cells #[.slice a1 n c1, .slice a2 m c2, .slice a3 k c3, .slice a4 h c4] 27)).alloc (.cells Z66 66)) (.cells Z68 68)
    simpa using h
  obtain ⟨E, hE⟩ : ∃ E, E = chk ts ws ss hs := ⟨_, rfl⟩
  have HC := Lib.hid (check_any (hf.on hB) E hE)
  have HW := Lib.hid hW; have HB := Lib.hid hB; have HX := Lib.hid hr; have HX4 := Lib.hid hr4; have HX5 := Lib.hid hr5; have HN := Lib.hid hn; have HM := Lib.hid hm; have HE := Lib.hid hE
  have HTS0 := Lib.hid g1; have HTS := Lib.hid (g1.on hB); have HWS := Lib.hid (g2.on hB)
  obtain ⟨b0, b1, b2, b3⟩ := box4 hr
  clear hf hW hB hr hr4 hr5 hn hm hk hh g1 g2 g3 g4 hE
  have HI := Lib.hid (fun w => index_any wagon (m : Int) w (by omega))
  by_cases hE0 : E = 0
  rotate_left
  · have d0 : (E != 0) = true := by simpa using hE0
    have HE0 := Lib.hid hE0
    clear hE0
    go_enter Try.func33, Try.ntmps33
    go_upto_region 1 with (fail)
    change Code.wp _ _ _ _ (((w.alloc (.cells #[.slice a1 n c1, .slice a2 m c2, .slice a3 k c3, .slice a4 h c4] 27)).alloc (.cells Z66 66)).alloc (.cells Z68 68))
    rw [← HW.out]
    clear HW
    go_wp2_with fail
    refine HC.out.mono ?_
    rintro e w1 ⟨rfl, hb⟩
    have hS0 : w1.drew.heap[w.heap.size + 1]? = some (.cells Z66 66 (0, 0)) ∧ w1.drew.heap[w.heap.size + 2]? = some (.cells Z68 68 (0, 0)) ∧ Below w.heap.size w w1.drew := ⟨bon HX4.out hb.drew, bon HX5.out hb.drew, (btrans HB.out hb).drew⟩
    clear hb b0 b1 b2 b3
    go_upto_region 3 with (fail)
    refine wp_region_held_drew (S := fun w' => w'.heap[w.heap.size + 1]? = some (.cells Z66 66 (0, 0)) ∧ w'.heap[w.heap.size + 2]? = some (.cells Z68 68 (0, 0)) ∧ Below w.heap.size w w') (by kernel_rfl) hS0 (fun hHeld => ?_)
    change wpAnyH _ _ _ _ _ 6 #[false, false, false, false, false, false] _ _
    refine wpAnyH_take (i := 0) (oi := _) (v := .agg Z66) rfl (by kernel_rfl) (by kernel_rfl) (by kernel_rfl) (fun _ _ _ h => h) (Or.inl ⟨by rfl, fun wx hSw => ?_⟩) (by assumption) ?_
    · exact exec_load_row 66 (.tmp 4) rfl (w.heap.size + 1) rfl 66 Z66 (0, 0) _ hSw.1 Try.underlying66 rfl i66z
    (try simp only [Act.put, List.setIfInBounds_toArray, List.set_cons_zero, List.set_cons_succ, List.getElem_toArray, List.getElem_cons_zero, List.getElem_cons_succ])
    refine wpAnyH_take (i := 1) (oi := _) (v := .agg Z68) rfl (by kernel_rfl) (by kernel_rfl) (by kernel_rfl) (fun _ _ _ h => h) (Or.inl ⟨by rfl, fun wx hSw => ?_⟩) (by assumption) ?_
    · exact exec_load_row 68 (.tmp 5) rfl (w.heap.size + 2) rfl 68 Z68 (0, 0) _ hSw.2.1 Try.underlying68 rfl i68z
    (try simp only [Act.put, List.setIfInBounds_toArray, List.set_cons_zero, List.set_cons_succ, List.getElem_toArray, List.getElem_cons_zero, List.getElem_cons_succ])
    refine wpAnyH_take (i := 2) (oi := _) (v := .int .i64 E) rfl (by kernel_rfl) (by kernel_rfl) (by kernel_rfl) (fun _ _ _ h => h) (Or.inl ⟨by rfl, fun wx hSw => ?_⟩) (by assumption) ?_
    · go_simp
      try (first | omega | (rw [IntKind.wrap_i64]; omega))
    (try simp only [Act.put, List.setIfInBounds_toArray, List.set_cons_zero, List.set_cons_succ, List.getElem_toArray, List.getElem_cons_zero, List.getElem_cons_succ])
    refine wpAnyH_ready (rs := [3]) (by kernel_rfl) (by simp) ?_
    refine AllReadyH.cons (o := _) rfl (fun K hK => ?_) AllReadyH.nil
    have hHeld0 : (w1.drew.setRow (w.heap.size + 1) Z66).heap[w.heap.size + 1]? = some (.cells Z66 66 (0, 0)) ∧ (w1.drew.setRow (w.heap.size + 1) Z66).heap[w.heap.size + 2]? = some (.cells Z68 68 (0, 0)) ∧ Below w.heap.size w (w1.drew.setRow (w.heap.size + 1) Z66) := ⟨setRow_heap _ _ Z66 Z66 66 (0, 0) hS0.1, (setRow_other _ _ _ _ (by omega)).trans hS0.2.1, bsetRow hS0.2.2 (by omega) Z66⟩
    rw [if_pos (show Region.wanted _ _ = true by rfl)]
    refine wp_store_row 66 (.tmp 4) (.tmp 11) rfl (w.heap.size + 1) Z66 rfl rfl 66 Z66 hS0.1 i66z rfl all66z ?_
    refine hK.out _ _ (hHeld0) (fun hHeld => ?_)
    clear hK K
    (try simp only [Act.put, List.setIfInBounds_toArray, List.set_cons_zero, List.set_cons_succ, List.getElem_toArray, List.getElem_cons_zero, List.getElem_cons_succ])
    refine wpAnyH_ready (rs := [4]) (by kernel_rfl) (by simp) ?_
    refine AllReadyH.cons (o := _) rfl (fun K hK => ?_) AllReadyH.nil
    have hHeld1 : ((w1.drew.setRow (w.heap.size + 1) Z66).setRow (w.heap.size + 2) Z68).heap[w.heap.size + 1]? = some (.cells Z66 66 (0, 0)) ∧ ((w1.drew.setRow (w.heap.size + 1) Z66).setRow (w.heap.size + 2) Z68).heap[w.heap.size + 2]? = some (.cells Z68 68 (0, 0)) ∧ Below w.heap.size w ((w1.drew.setRow (w.heap.size + 1) Z66).setRow (w.heap.size + 2) Z68) := ⟨(setRow_other _ _ _ _ (by omega)).trans hHeld0.1, setRow_heap _ _ Z68 Z68 68 (0, 0) hHeld0.2.1, bsetRow hHeld0.2.2 (by omega) Z68⟩
    rw [if_pos (show Region.wanted _ _ = true by rfl)]
    refine wp_store_row 68 (.tmp 5) (.tmp 12) rfl (w.heap.size + 2) Z68 rfl rfl 68 Z68 hHeld0.2.1 i68z rfl all68z ?_
    refine hK.out _ _ (hHeld1) (fun hHeld => ?_)
    clear hK K
    (try simp only [Act.put, List.setIfInBounds_toArray, List.set_cons_zero, List.set_cons_succ, List.getElem_toArray, List.getElem_cons_zero, List.getElem_cons_succ])
    refine wpAnyH_take (i := 5) (oi := _) (v := .int .i64 E) rfl (by kernel_rfl) (by kernel_rfl) (by kernel_rfl) (fun _ _ _ h => h) (Or.inl ⟨by rfl, fun wx hSw => ?_⟩) (by assumption) ?_
    · go_simp
      try (first | omega | (rw [IntKind.wrap_i64]; omega))
    (try simp only [Act.put, List.setIfInBounds_toArray, List.set_cons_zero, List.set_cons_succ, List.getElem_toArray, List.getElem_cons_zero, List.getElem_cons_succ])
    refine wpAnyH_done (by kernel_rfl) ?_ _
    clear hHeld
    have HFIN := Lib.hid hHeld1
    clear hS0 hHeld0 hHeld1
    go_wp2
    refine bodyPost_ret (results3 rfl _ _ (w.heap.size + 1) (w.heap.size + 2) Z66 Z68 (.int .i64 E) rfl rfl rfl HFIN.out.1 HFIN.out.2.1 rfl rfl) rfl ?_
    exact ⟨Z66, Z68, E, rfl, HFIN.out.2.2, Or.inl ⟨by rw [← HE.out]; exact HE0.out, HE.out, rfl, rfl⟩⟩
  subst hE0
  cases hR : rng 0 wagon ((m : Int) - 1) with
  | false =>
    rw [hR] at HI
    have HR := Lib.hid hR
    clear hR
    go_enter Try.func33, Try.ntmps33
    go_upto_region 1 with (fail)
    change Code.wp _ _ _ _ (((w.alloc (.cells #[.slice a1 n c1, .slice a2 m c2, .slice a3 k c3, .slice a4 h c4] 27)).alloc (.cells Z66 66)).alloc (.cells Z68 68))
    rw [← HW.out]
    clear HW
    go_wp2_with fail
    refine HC.out.mono ?_
    rintro e w1 ⟨rfl, hb⟩
    have hS0 : w1.drew.heap[w.heap.size + 1]? = some (.cells Z66 66 (0, 0)) ∧ w1.drew.heap[w.heap.size + 2]? = some (.cells Z68 68 (0, 0)) ∧ Below w.heap.size w w1.drew := ⟨bon HX4.out hb.drew, bon HX5.out hb.drew, (btrans HB.out hb).drew⟩
    clear b0 b1 b2 b3
    obtain ⟨b0, b1, b2, b3⟩ := box4 (bon HX.out hb)
    clear hb
    go_wp2_with fail
    refine (HI.out _).mono ?_
    rintro e w2 ⟨rfl, rfl⟩
    clear b0 b1 b2 b3
    go_upto_region 5 with (fail)
    refine wp_region_held_drew (S := fun w' => w'.heap[w.heap.size + 1]? = some (.cells Z66 66 (0, 0)) ∧ w'.heap[w.heap.size + 2]? = some (.cells Z68 68 (0, 0)) ∧ Below w.heap.size w w') (by kernel_rfl) hS0 (fun hHeld => ?_)
    change wpAnyH _ _ _ _ _ 5 #[false, false, false, false, false] _ _
    refine wpAnyH_take (i := 0) (oi := _) (v := .agg Z66) rfl (by kernel_rfl) (by kernel_rfl) (by kernel_rfl) (fun _ _ _ h => h) (Or.inl ⟨by rfl, fun wx hSw => ?_⟩) (by assumption) ?_
    · exact exec_load_row 66 (.tmp 4) rfl (w.heap.size + 1) rfl 66 Z66 (0, 0) _ hSw.1 Try.underlying66 rfl i66z
    (try simp only [Act.put, List.setIfInBounds_toArray, List.set_cons_zero, List.set_cons_succ, List.getElem_toArray, List.getElem_cons_zero, List.getElem_cons_succ])
    refine wpAnyH_take (i := 1) (oi := _) (v := .agg Z68) rfl (by kernel_rfl) (by kernel_rfl) (by kernel_rfl) (fun _ _ _ h => h) (Or.inl ⟨by rfl, fun wx hSw => ?_⟩) (by assumption) ?_
    · exact exec_load_row 68 (.tmp 5) rfl (w.heap.size + 2) rfl 68 Z68 (0, 0) _ hSw.2.1 Try.underlying68 rfl i68z
    (try simp only [Act.put, List.setIfInBounds_toArray, List.set_cons_zero, List.set_cons_succ, List.getElem_toArray, List.getElem_cons_zero, List.getElem_cons_succ])
    refine wpAnyH_ready (rs := [2]) (by kernel_rfl) (by simp) ?_
    refine AllReadyH.cons (o := _) rfl (fun K hK => ?_) AllReadyH.nil
    have hHeld0 : (w1.drew.setRow (w.heap.size + 1) Z66).heap[w.heap.size + 1]? = some (.cells Z66 66 (0, 0)) ∧ (w1.drew.setRow (w.heap.size + 1) Z66).heap[w.heap.size + 2]? = some (.cells Z68 68 (0, 0)) ∧ Below w.heap.size w (w1.drew.setRow (w.heap.size + 1) Z66) := ⟨setRow_heap _ _ Z66 Z66 66 (0, 0) hS0.1, (setRow_other _ _ _ _ (by omega)).trans hS0.2.1, bsetRow hS0.2.2 (by omega) Z66⟩
    rw [if_pos (show Region.wanted _ _ = true by rfl)]
    refine wp_store_row 66 (.tmp 4) (.tmp 20) rfl (w.heap.size + 1) Z66 rfl rfl 66 Z66 hS0.1 i66z rfl all66z ?_
    refine hK.out _ _ (hHeld0) (fun hHeld => ?_)
    clear hK K
    (try simp only [Act.put, List.setIfInBounds_toArray, List.set_cons_zero, List.set_cons_succ, List.getElem_toArray, List.getElem_cons_zero, List.getElem_cons_succ])
    refine wpAnyH_ready (rs := [3]) (by kernel_rfl) (by simp) ?_
    refine AllReadyH.cons (o := _) rfl (fun K hK => ?_) AllReadyH.nil
    have hHeld1 : ((w1.drew.setRow (w.heap.size + 1) Z66).setRow (w.heap.size + 2) Z68).heap[w.heap.size + 1]? = some (.cells Z66 66 (0, 0)) ∧ ((w1.drew.setRow (w.heap.size + 1) Z66).setRow (w.heap.size + 2) Z68).heap[w.heap.size + 2]? = some (.cells Z68 68 (0, 0)) ∧ Below w.heap.size w ((w1.drew.setRow (w.heap.size + 1) Z66).setRow (w.heap.size + 2) Z68) := ⟨(setRow_other _ _ _ _ (by omega)).trans hHeld0.1, setRow_heap _ _ Z68 Z68 68 (0, 0) hHeld0.2.1, bsetRow hHeld0.2.2 (by omega) Z68⟩
    rw [if_pos (show Region.wanted _ _ = true by rfl)]
    refine wp_store_row 68 (.tmp 5) (.tmp 21) rfl (w.heap.size + 2) Z68 rfl rfl 68 Z68 hHeld0.2.1 i68z rfl all68z ?_
    refine hK.out _ _ (hHeld1) (fun hHeld => ?_)
    clear hK K
    (try simp only [Act.put, List.setIfInBounds_toArray, List.set_cons_zero, List.set_cons_succ, List.getElem_toArray, List.getElem_cons_zero, List.getElem_cons_succ])
    refine wpAnyH_take (i := 4) (oi := _) (v := .int .i64 90) rfl (by kernel_rfl) (by kernel_rfl) (by kernel_rfl) (fun _ _ _ h => h) (Or.inl ⟨by rfl, fun wx hSw => ?_⟩) (by assumption) ?_
    · go_simp
      try (first | omega | (rw [IntKind.wrap_i64]; omega))
    (try simp only [Act.put, List.setIfInBounds_toArray, List.set_cons_zero, List.set_cons_succ, List.getElem_toArray, List.getElem_cons_zero, List.getElem_cons_succ])
    refine wpAnyH_done (by kernel_rfl) ?_ _
    clear hHeld
    have HFIN := Lib.hid hHeld1
    clear hS0 hHeld0 hHeld1
    go_wp2
    refine bodyPost_ret (results3 rfl _ _ (w.heap.size + 1) (w.heap.size + 2) Z66 Z68 (.int .i64 90) rfl rfl rfl HFIN.out.1 HFIN.out.2.1 rfl rfl) rfl ?_
    exact ⟨Z66, Z68, 90, rfl, HFIN.out.2.2, Or.inr (Or.inl ⟨HE.out.symm, by rw [← HM.out]; exact HR.out, rfl, rfl, rfl⟩)⟩
  | true =>
    rw [hR] at HI
    obtain ⟨i, rfl, him⟩ := rng_nat hR
    have hv := chk_val HE.out.symm
    obtain ⟨gw, ow, x, rfl, hgw, hx, _, hrx, _⟩ := HWS.out.pick i (by rw [← HM.out]; exact him)
    have hwok := hv.wok x (List.mem_of_getElem? hx)
    unfold wOk at hwok
    simp only [Bool.and_eq_true] at hwok
    obtain ⟨j, hj, hjn⟩ := rng_nat hwok.1
    obtain ⟨gt, ot, y, rfl, hgt, hy, _, hry, _⟩ := HTS.out.pick j hjn
    have HGTW : Hid (gt ≠ w.heap.size + 1 ∧ gt ≠ w.heap.size + 2) := Lib.hid (by obtain ⟨g', _, _, e, h, _⟩ := HTS0.out.pick j hjn; simp only [Option.some.injEq, Addr.mk.injEq] at e; omega)
    have hjn2 : j < n := by rw [HN.out]; exact hjn
    have HIM := Lib.hid him; have HXX := Lib.hid hx; have HYY := Lib.hid hy; have HJ := Lib.hid hj; have HRX := Lib.hid hrx; have HRY := Lib.hid hry; have HGW := Lib.hid hgw; have HGT := Lib.hid hgt
    have HNE : Hid (gt ≠ w.heap.size + 1) := Lib.hid HGTW.out.1
    have HNE2 : Hid (gt ≠ w.heap.size + 2) := Lib.hid HGTW.out.2
    have him2 : (i : Int) < (m : Int) := by omega
    have hjn3 : (j : Int) < (n : Int) := by omega
    clear hR hv hgw hx hrx hwok hj hjn hgt hy hry
    go_enter Try.func33, Try.ntmps33
    go_upto_region 1 with (fail)
    change Code.wp _ _ _ _ (((w.alloc (.cells #[.slice (some ⟨gt, ot, none⟩) n c1, .slice (some ⟨gw, ow, none⟩) m c2, .slice a3 k c3, .slice a4 h c4] 27)).alloc (.cells Z66 66)).alloc (.cells Z68 68))
    rw [← HW.out]
    clear HW
    go_wp2_with fail
    refine HC.out.mono ?_
    rintro e w1 ⟨rfl, hb⟩
    have HBL := Lib.hid (btrans HB.out hb)
    have HB1 := Lib.hid hb
    clear b0 b1 b2 b3
    obtain ⟨b0, b1, b2, b3⟩ := box4 (bon HX.out hb)
    have hrx1 : w1.rangeAt gw (ow + i * 5) x.cs := rangeAt_kept HRX.out (hb.block gw HGW.out)
    have HRX1 := Lib.hid hrx1
    have h41 := bon HX4.out hb
    have HX41 := Lib.hid h41
    clear hb hrx1 h41
    go_wp2_with fail
    refine (HI.out _).mono ?_
    rintro e w2 ⟨rfl, rfl⟩
    go_wp2_with (first | (refine wpList_load_mid rfl 66 (.tmp 25) rfl gw (ow + i * 5) rfl x.cs _ HRX1.out Try.underlying66 rfl (sz66 x) ?_) | (refine wpList_store_row rfl 66 (.tmp 4) (.tmp 26) rfl (w.heap.size + 1) _ rfl rfl 66 _ HX41.out (sz66' x) rfl (all66 x) ?_))
    have h4 : (w1.setRow (w.heap.size + 1) x.cs.toArray).heap[w.heap.size + 1]? = some (.cells x.cs.toArray 66 (0, 0)) := setRow_heap _ _ _ _ _ _ HX41.out
    have h5 : (w1.setRow (w.heap.size + 1) x.cs.toArray).heap[w.heap.size + 2]? = some (.cells Z68 68 (0, 0)) := (setRow_other _ _ _ _ (by omega)).trans (bon HX5.out HB1.out)
    have hbx : (w1.setRow (w.heap.size + 1) x.cs.toArray).heap[w.heap.size]? = w1.heap[w.heap.size]? := setRow_other _ _ _ _ (by omega)
    have b0' : (w1.setRow (w.heap.size + 1) x.cs.toArray).cell? ⟨w.heap.size, 0, none⟩ = some (.slice (some ⟨gt, ot, none⟩) n c1) := (World.cell?_of_block (w := w1) (a := ⟨w.heap.size, 0, none⟩) hbx).trans b0
    have hW2 : Below w.heap.size w (w1.setRow (w.heap.size + 1) x.cs.toArray) := bsetRow HBL.out (by omega) _
    have hry2 : (w1.setRow (w.heap.size + 1) x.cs.toArray).rangeAt gt (ot + j * 8) y.cs := by
      have hne : gt ≠ w.heap.size + 1 := HNE.out
      exact rangeAt_kept (rangeAt_kept HRY.out (HB1.out.block gt HGT.out)) (setRow_other _ _ _ _ hne)
    have hty : (w1.setRow (w.heap.size + 1) x.cs.toArray).cell? ⟨w.heap.size + 1, 0, none⟩ = some (.int .i64 (j : Int)) := by rw [cell_of_row _ _ 0 _ 66 (0, 0) h4, ← HJ.out]; rfl
    generalize w1.setRow (w.heap.size + 1) x.cs.toArray = w3 at *
    have hS0 : w3.drew.heap[w.heap.size + 1]? = some (.cells x.cs.toArray 66 (0, 0)) ∧ w3.drew.cell? ⟨w.heap.size, 0, none⟩ = some (.slice (some ⟨gt, ot, none⟩) n c1) ∧ w3.drew.cell? ⟨w.heap.size + 1, 0, none⟩ = some (.int .i64 (j : Int)) ∧ w3.drew.rangeAt gt (ot + j * 8) y.cs := ⟨h4, b0', hty, hry2⟩
    have h5' : w3.drew.heap[w.heap.size + 2]? = some (.cells Z68 68 (0, 0)) := h5
    have hW3 : Below w.heap.size w w3.drew := hW2.drew
    clear h4 h5 hbx b0' hW2 hry2 hty b0 b1 b2 b3
    go_upto_region 7 with (fail)
    refine wp_region_held_drew (S := fun w' => w'.heap[w.heap.size + 1]? = some (.cells x.cs.toArray 66 (0, 0)) ∧ w'.cell? ⟨w.heap.size, 0, none⟩ = some (.slice (some ⟨gt, ot, none⟩) n c1) ∧ w'.cell? ⟨w.heap.size + 1, 0, none⟩ = some (.int .i64 (j : Int)) ∧ w'.rangeAt gt (ot + j * 8) y.cs) (by kernel_rfl) hS0 (fun hHeld => ?_)
    change wpAnyH _ _ _ _ _ 10 #[false, false, false, false, false, false, false, false, false, false] _ _
    refine wpAnyH_take (i := 0) (oi := _) (v := .agg x.cs.toArray) rfl (by kernel_rfl) (by kernel_rfl) (by kernel_rfl) (fun _ _ _ h => h) (Or.inl ⟨by rfl, fun wx hSw => ?_⟩) (by assumption) ?_
    · exact exec_load_row 66 (.tmp 4) rfl (w.heap.size + 1) rfl 66 x.cs.toArray (0, 0) _ hSw.1 Try.underlying66 rfl (sz66' x)
    (try simp only [Act.put, List.setIfInBounds_toArray, List.set_cons_zero, List.set_cons_succ, List.getElem_toArray, List.getElem_cons_zero, List.getElem_cons_succ])
    refine wpAnyH_take (i := 1) (oi := _) (v := .pointer (some ⟨w.heap.size, 0, none⟩)) rfl (by kernel_rfl) (by kernel_rfl) (by kernel_rfl) (fun _ _ _ h => h) (Or.inl ⟨by rfl, fun wx hSw => ?_⟩) (by assumption) ?_
    · go_simp
      try (first | omega | (rw [IntKind.wrap_i64]; omega))
    (try simp only [Act.put, List.setIfInBounds_toArray, List.set_cons_zero, List.set_cons_succ, List.getElem_toArray, List.getElem_cons_zero, List.getElem_cons_succ])
    refine wpAnyH_take (i := 2) (oi := _) (v := .slice (some ⟨gt, ot, none⟩) n c1) rfl (by kernel_rfl) (by kernel_rfl) (by kernel_rfl) (fun _ _ _ h => h) (Or.inl ⟨by rfl, fun wx hSw => ?_⟩) (by assumption) ?_
    · go_simp
      try (first | omega | (rw [IntKind.wrap_i64]; omega))
    (try simp only [Act.put, List.setIfInBounds_toArray, List.set_cons_zero, List.set_cons_succ, List.getElem_toArray, List.getElem_cons_zero, List.getElem_cons_succ])
    refine wpAnyH_take (i := 3) (oi := _) (v := .pointer (some ⟨w.heap.size + 1, 0, none⟩)) rfl (by kernel_rfl) (by kernel_rfl) (by kernel_rfl) (fun _ _ _ h => h) (Or.inl ⟨by rfl, fun wx hSw => ?_⟩) (by assumption) ?_
    · go_simp
      try (first | omega | (rw [IntKind.wrap_i64]; omega))
    (try simp only [Act.put, List.setIfInBounds_toArray, List.set_cons_zero, List.set_cons_succ, List.getElem_toArray, List.getElem_cons_zero, List.getElem_cons_succ])
    refine wpAnyH_take (i := 4) (oi := _) (v := .int .i64 (j : Int)) rfl (by kernel_rfl) (by kernel_rfl) (by kernel_rfl) (fun _ _ _ h => h) (Or.inl ⟨by rfl, fun wx hSw => ?_⟩) (by assumption) ?_
    · go_simp
      try (first | omega | (rw [IntKind.wrap_i64]; omega))
    (try simp only [Act.put, List.setIfInBounds_toArray, List.set_cons_zero, List.set_cons_succ, List.getElem_toArray, List.getElem_cons_zero, List.getElem_cons_succ])
    refine wpAnyH_take (i := 5) (oi := _) (v := .pointer (some ⟨gt, ot + j * 8, none⟩)) rfl (by kernel_rfl) (by kernel_rfl) (by kernel_rfl) (fun _ _ _ h => h) (Or.inl ⟨by rfl, fun wx hSw => ?_⟩) (by assumption) ?_
    · go_simp
      try (first | omega | (rw [IntKind.wrap_i64]; omega))
    (try simp only [Act.put, List.setIfInBounds_toArray, List.set_cons_zero, List.set_cons_succ, List.getElem_toArray, List.getElem_cons_zero, List.getElem_cons_succ])
    refine wpAnyH_take (i := 6) (oi := _) (v := .agg y.cs.toArray) rfl (by kernel_rfl) (by kernel_rfl) (by kernel_rfl) (fun _ _ _ h => h) (Or.inl ⟨by rfl, fun wx hSw => ?_⟩) (by assumption) ?_
    · exact exec_load_mid 68 (.tmp 32) rfl gt (ot + j * 8) rfl y.cs _ hSw.2.2.2 Try.underlying68 rfl (sz68 y)
    (try simp only [Act.put, List.setIfInBounds_toArray, List.set_cons_zero, List.set_cons_succ, List.getElem_toArray, List.getElem_cons_zero, List.getElem_cons_succ])
    refine wpAnyH_ready (rs := [7]) (by kernel_rfl) (by simp) ?_
    refine AllReadyH.cons (o := _) rfl (fun K hK => ?_) AllReadyH.nil
    have hHeld0 : (w3.drew.setRow (w.heap.size + 1) x.cs.toArray).heap[w.heap.size + 1]? = some (.cells x.cs.toArray 66 (0, 0)) ∧ (w3.drew.setRow (w.heap.size + 1) x.cs.toArray).cell? ⟨w.heap.size, 0, none⟩ = some (.slice (some ⟨gt, ot, none⟩) n c1) ∧ (w3.drew.setRow (w.heap.size + 1) x.cs.toArray).cell? ⟨w.heap.size + 1, 0, none⟩ = some (.int .i64 (j : Int)) ∧ (w3.drew.setRow (w.heap.size + 1) x.cs.toArray).rangeAt gt (ot + j * 8) y.cs := ⟨setRow_heap _ _ x.cs.toArray x.cs.toArray 66 (0, 0) hS0.1, cell_setRow hS0.2.1 (by omega), by rw [cell_of_row _ _ 0 _ 66 (0, 0) (setRow_heap _ _ x.cs.toArray x.cs.toArray 66 (0, 0) hS0.1), ← HJ.out]; rfl, rangeAt_kept hS0.2.2.2 (setRow_other _ _ _ _ HNE.out)⟩
    rw [if_pos (show Region.wanted _ _ = true by rfl)]
    refine wp_store_row 66 (.tmp 4) (.tmp 27) rfl (w.heap.size + 1) x.cs.toArray rfl rfl 66 x.cs.toArray hS0.1 (sz66' x) rfl (all66 x) ?_
    refine hK.out _ _ (hHeld0) (fun hHeld => ?_)
    clear hK K
    (try simp only [Act.put, List.setIfInBounds_toArray, List.set_cons_zero, List.set_cons_succ, List.getElem_toArray, List.getElem_cons_zero, List.getElem_cons_succ])
    refine wpAnyH_ready (rs := [8]) (by kernel_rfl) (by simp) ?_
    refine AllReadyH.cons (o := _) rfl (fun K hK => ?_) AllReadyH.nil
    have hHeld1 : ((w3.drew.setRow (w.heap.size + 1) x.cs.toArray).setRow (w.heap.size + 2) y.cs.toArray).heap[w.heap.size + 1]? = some (.cells x.cs.toArray 66 (0, 0)) ∧ ((w3.drew.setRow (w.heap.size + 1) x.cs.toArray).setRow (w.heap.size + 2) y.cs.toArray).cell? ⟨w.heap.size, 0, none⟩ = some (.slice (some ⟨gt, ot, none⟩) n c1) ∧ ((w3.drew.setRow (w.heap.size + 1) x.cs.toArray).setRow (w.heap.size + 2) y.cs.toArray).cell? ⟨w.heap.size + 1, 0, none⟩ = some (.int .i64 (j : Int)) ∧ ((w3.drew.setRow (w.heap.size + 1) x.cs.toArray).setRow (w.heap.size + 2) y.cs.toArray).rangeAt gt (ot + j * 8) y.cs := ⟨(setRow_other _ _ _ _ (by omega)).trans hHeld0.1, cell_setRow hHeld0.2.1 (by omega), cell_setRow hHeld0.2.2.1 (by omega), rangeAt_kept hHeld0.2.2.2 (setRow_other _ _ _ _ HNE2.out)⟩
    have h5_1 : (w3.drew.setRow (w.heap.size + 1) x.cs.toArray).heap[w.heap.size + 2]? = some (.cells Z68 68 (0, 0)) := ((setRow_other _ _ _ _ (by omega)).trans h5')
    rw [if_pos (show Region.wanted _ _ = true by rfl)]
    refine wp_store_row 68 (.tmp 5) (.tmp 33) rfl (w.heap.size + 2) y.cs.toArray rfl rfl 68 Z68 h5_1 (sz68' y) rfl (all68 y) ?_
    refine hK.out _ _ (hHeld1) (fun hHeld => ?_)
    clear hK K
    (try simp only [Act.put, List.setIfInBounds_toArray, List.set_cons_zero, List.set_cons_succ, List.getElem_toArray, List.getElem_cons_zero, List.getElem_cons_succ])
    refine wpAnyH_take (i := 9) (oi := _) (v := .int .i64 0) rfl (by kernel_rfl) (by kernel_rfl) (by kernel_rfl) (fun _ _ _ h => h) (Or.inl ⟨by rfl, fun wx hSw => ?_⟩) (by assumption) ?_
    · go_simp
      try (first | omega | (rw [IntKind.wrap_i64]; omega))
    (try simp only [Act.put, List.setIfInBounds_toArray, List.set_cons_zero, List.set_cons_succ, List.getElem_toArray, List.getElem_cons_zero, List.getElem_cons_succ])
    refine wpAnyH_done (by kernel_rfl) ?_ _
    clear hHeld
    have HFIN : Hid (((w3.drew.setRow (w.heap.size + 1) x.cs.toArray).setRow (w.heap.size + 2) y.cs.toArray).heap[w.heap.size + 1]? = some (.cells x.cs.toArray 66 (0, 0)) ∧ ((w3.drew.setRow (w.heap.size + 1) x.cs.toArray).setRow (w.heap.size + 2) y.cs.toArray).heap[w.heap.size + 2]? = some (.cells y.cs.toArray 68 (0, 0)) ∧ Below w.heap.size w ((w3.drew.setRow (w.heap.size + 1) x.cs.toArray).setRow (w.heap.size + 2) y.cs.toArray)) := Lib.hid ⟨hHeld1.1, setRow_heap _ _ Z68 y.cs.toArray 68 (0, 0) h5_1, (bsetRow (bsetRow hW3 (by omega) _) (by omega) _)⟩
    clear hS0 hHeld0 hHeld1 h5' hW3 h5_1
    go_wp2
    refine bodyPost_ret (results3 rfl _ _ (w.heap.size + 1) (w.heap.size + 2) x.cs.toArray y.cs.toArray (.int .i64 0) rfl rfl rfl HFIN.out.1 HFIN.out.2.1 rfl rfl) rfl ?_
    exact ⟨_, _, 0, rfl, HFIN.out.2.2, Or.inr (Or.inr ⟨HE.out.symm, rfl, i, j, x, y, rfl, HXX.out, HJ.out, HYY.out, rfl, rfl⟩)⟩
end Go.Proofs.Ytijdjbkmkopmnaa
