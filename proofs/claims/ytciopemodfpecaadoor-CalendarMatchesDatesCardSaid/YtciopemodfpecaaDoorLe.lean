/-
  Walks: the program's Working.
-/
import Derived.Test.YtciopemodfpecaaDoorLd
import Derived.Test.YtciopemodfpecaaDoorAd
namespace Go.Proofs.YtciopemodfpecaaDoor
open Go.RowKit Go.Shelf
set_option linter.unusedVariables false
set_option linter.unusedSimpArgs false
attribute [local go_sem] Oper.semAt_some

theorem results_cell_tmp1 {P : Program} {fn : Func} {p q : Tmp} {ty : TypeId} (h : fn.results = #[.cell p ty, .tmp q]) (tmps : Array Value) (w : World) (g : Nat) (v x : Value)
    (hp : tmps.getD p undef = .pointer (some ⟨g, 0, none⟩)) (hq : tmps.getD q undef = x) (hg : w.cell? ⟨g, 0, none⟩ = some v) (hi : (isAgg ty).run P w = .ok false w) :
    (results fn tmps).run P w = .ok (.tuple #[v, x]) w := by
  have hp' : tmps[p]?.getD undef = .pointer (some ⟨g, 0, none⟩) := by simpa using hp
  have hq' : tmps[q]?.getD undef = x := by simpa using hq
  simp [results, h, go_sem, hp', hq', hg, hi]

set_option maxRecDepth 100000 in
set_option maxHeartbeats 4000000 in
theorem working_ok (cs : Array Value) (op : List (Int × Int)) (hol : List Int) (f t : Int) (w : World) (h : Cal (fun k => k < w.heap.size) w cs op hol) (hok : okR op hol f t = true) (N : Int) (hN : N = tot (wlist op hol f t)) :
    Calls Tryd.prog 15 #[.agg cs, .int .i64 f, .int .i64 t] w fun e w' => e = .returned (.tuple #[.int .i64 N, .int .i64 0]) ∧ Below w.heap.size w w' := by
  obtain ⟨ho, hh, h1, h2, h3⟩ := (okR_iff h.len).1 hok
  have hW : Below w.heap.size w ((w.alloc (.cells cs 27)).alloc (.cells #[.int .i64 0] 3)) := ball (ball (Below.refl _ _) _) _
  have hbox : ((w.alloc (.cells cs 27)).alloc (.cells #[.int .i64 0] 3)).heap[w.heap.size]? = some (.cells cs 27 (0, 0)) := (heap_alloc_old _ _ (by simp)).trans (heap_alloc_new w _)
  have hb0 : Boxed ((w.alloc (.cells cs 27)).alloc (.cells #[.int .i64 0] 3)) (w.heap.size + 1) 3 (.int .i64 0) := by
    have := Boxed.new (w.alloc (.cells cs 27)) 3 (.int .i64 0)
    rw [World.size_alloc] at this
    exact this
  have hsz : ((w.alloc (.cells cs 27)).alloc (.cells #[.int .i64 0] 3)).heap.size = w.heap.size + 2 := by simp
  have hc := checkRange_any cs op hol f t _ (h.on hW) (by unfold I64; omega) (by unfold I64; omega) 0 (by unfold eR; rw [if_pos hok])
  have hR : tot (rlist op hol f t) = N := by rw [rlist_tot, hN]
  have hNb : 0 ≤ N ∧ N ≤ 1073741824 := by rw [hN]; exact tot_range (wlist_ok ho h1 h2 h3).1
  obtain ⟨hN0, hN1⟩ := hNb
  have hRpos := rlist_of (hol := hol) ho h1 h3
  have hRm := rlist_norm (hol := hol) ho h1 h2 h3
  have HC := Lib.hid hc; have HB := Lib.hid hbox; have HS := Lib.hid h.size; have HW := Lib.hid hW; have HCAL := Lib.hid h; have HO := Lib.hid ho; have HH := Lib.hid hh; have HB0 := Lib.hid hb0; have HR := Lib.hid hR; have HRP := Lib.hid hRpos
  clear hc hbox hW h ho hh hb0 hR hRpos hok hN hRm
  generalize hWW : (w.alloc (.cells cs 27)).alloc (.cells #[.int .i64 0] 3) = W at *
  refine (callsIn_wide (n := 4)).1 ?_
  refine callsIn_of_wp_marks Tryd.func15 rfl trivial ?_ rfl
  simp only [Tryd.ntmps15, List.size_toArray, List.length_cons, List.length_nil, Nat.reduceAdd, Nat.reduceSub, Array.replicate_succ, Array.replicate_zero, List.push_toArray, List.append_toArray, List.nil_append, List.cons_append]
  refine wpIn_wide.2 ?_
  go_wp2_with (first | (refine wpList_load_row rfl 27 (.tmp 3) rfl w.heap.size rfl 27 cs (0, 0) _ HB.out Tryd.underlying27 rfl (size27 HS.out) ?_) | (go_at_call 40; refine HC.out.mono ?_; rintro e w1 ⟨rfl, hb1⟩; have HB1 := Lib.hid ((hb1.block w.heap.size (by omega)).trans HB.out); have HW1 := Lib.hid (HW.out.trans (hb1.mono HW.out.size)); have HX1 := Lib.hid ((hb1.block (w.heap.size + 1) (by omega)).trans HB0.out); have hsz1 : w.heap.size + 2 ≤ w1.heap.size := (by have := hb1.size; omega); clear HB HW HC HB0 hb1 hWW hsz) | (refine wpList_load_row rfl 27 (.tmp 3) rfl w.heap.size rfl 27 cs (0, 0) _ HB1.out Tryd.underlying27 rfl (size27 HS.out) ?_))
  refine (shifts_ws cs f t w1).mono ?_
  rintro e w2 ⟨rfl, hw2⟩
  have hb2 : Below w1.heap.size w1 w2 := hw2 ▸ ws_below w1 cs f t
  have hz2 : w2.heap.size = w1.heap.size + 3 := by rw [hw2]; exact ws_size _ _ _ _
  have hX2 : Boxed w2 (w.heap.size + 1) 3 (.int .i64 0) := (hb2.block (w.heap.size + 1) (by omega)).trans HX1.out
  have hcal1 := (HCAL.out.on HW1.out).on hb2
  have HW2 := Lib.hid (HW1.out.trans (hb2.mono HW1.out.size))
  have hst := shift_stops (fun k => k < w2.heap.size ∧ k ≠ w.heap.size + 1) (w1.heap.size + 1) w1.heap.size (w1.heap.size + 1 + 1) cs op hol f t w2 ⟨by omega, by omega⟩ ⟨by omega, by omega⟩ ⟨by omega, by omega⟩ (fun k hk => hk.1) (by rw [hw2]; exact ws_f _ _ _ _) (by rw [hw2]; exact ws_t _ _ _ _) (by rw [hw2]; exact ws_c _ _ _ _)
    ((HCAL.out.kept (F' := fun k => k < w2.heap.size ∧ k ≠ w.heap.size + 1) (fun k hk => (hb2.block k (Nat.lt_of_lt_of_le hk HW1.out.size)).trans (HW1.out.block k hk)) (fun k hk => ⟨Nat.lt_of_lt_of_le hk HW2.out.size, by omega⟩))) HO.out HH.out h1 h2 h3
  obtain ⟨R, hRR⟩ : ∃ R, R = rlist op hol f t := ⟨_, rfl⟩
  rw [← hRR] at hst HR HRP
  clear hcal1 hw2 hb2 hRR
  go_wp2_with fail
  refine (wpIn_wide (n := 4)).1 ?_
  refine wpIn_rangeFunc_ownH rfl (by decide) (gf := 62) (lb := #[.pointer (some ⟨w1.heap.size + 1, 0, none⟩), .pointer (some ⟨w1.heap.size, 0, none⟩), .pointer (some ⟨w1.heap.size + 1 + 1, 0, none⟩)]) rfl trivial (enters_of Tryd.func62 (by kernel_rfl) rfl)
    hst (fun h k => h.trans k) (keptK_b (fun k hk => hk.1)) (Below.refl _ _) (fun _ => rfl)
    (fun pre W => (∃ v, (pre <+: R → v = tot pre) ∧ Boxed W (w.heap.size + 1) 3 (.int .i64 v)) ∧ Below w.heap.size w W ∧ w2.heap.size ≤ W.heap.size)
    (fun _ _ _ => False)
    (fun pre X Y row hs hg hr => by
      obtain ⟨⟨v, e1, e2⟩, e5, e6⟩ := hs
      exact ⟨⟨v, e1, boxed_own _ _ (fun (_ : Unit) => Value.int .i64 v) () X Y row e2 hg (fun r e => (hr r e).2)⟩,
        ownFrom_below (β := Unit) (Nat.le_refl _) (by omega) () X Y row e5 hg hr, Nat.le_trans e6 hg.size⟩)
    (fun _ _ _ _ _ hs _ _ => hs)
    ⟨⟨0, fun _ => rfl, hX2⟩, HW2.out, Nat.le_refl _⟩
    (fun s a' W => ∃ Bx, w.heap.size + 1 < Bx ∧ Box2 W Bx s ∧ a' = { tmps := #[.agg cs, .int .i64 f, .int .i64 t, .pointer (some ⟨w.heap.size, 0, none⟩), undef, undef, .pointer (some ⟨w.heap.size + 1, 0, none⟩), .int .i64 0, .pointer (some ⟨Bx, 0, none⟩), .agg cs, .int .i64 f, .int .i64 t, .int .i64 0, .int .i64 0, .bool false, undef, .agg cs, .int .i64 f, .int .i64 t, .func (.func 62) #[] #[.pointer (some ⟨w1.heap.size + 1, 0, none⟩), .pointer (some ⟨w1.heap.size, 0, none⟩), .pointer (some ⟨w1.heap.size + 1 + 1, 0, none⟩)], .agg #[.int .i64 s.1, .int .i64 s.2], undef, undef, undef, undef, undef, undef, undef, undef], defers := [] })
    (fun s a' _ X Y row hs hg hr => by obtain ⟨Bx, h1, h2, h3⟩ := hs; exact ⟨Bx, h1, box2_own () X Y row h2 hg (fun r e => (hr r e).2), h3⟩)
    ?assign ?body ?done ?stop
  case assign =>
    rintro l pre s W K ⟨⟨v, e1, b0⟩, hB1, hW4⟩ hK
    dsimp only [encY]
    gi_wp2
    exact hK _ _ ((KeepsOthers.alloc _ _).from _) ((Kept.refl _ W).trans ⟨by simp, fun k hk => heap_alloc_old _ _ (by have := hk.1; omega)⟩) ⟨⟨v, e1, b0.alloc _⟩, hB1.alloc hB1.size _, by simp; omega⟩ ⟨W.heap.size, b0.lt, Box2.new W s, rfl⟩
  case body =>
    rintro l pre s a' W hl1 hr ⟨⟨v, e1, b0⟩, hB1, hW4⟩ ⟨Bx, hBx, hbx, rfl⟩ hlt
    obtain ⟨f0, f1⟩ := hbx.cells
    have hc0 := b0.cell
    have hf0 := b0.frozen
    clear hr hl1
    have key : pre ++ [s] <+: R → (0 ≤ s.1 ∧ s.1 < s.2 ∧ s.2 ≤ 1073741824) ∧ v = tot pre ∧ 0 ≤ tot pre ∧ tot pre + (s.2 - s.1) ≤ N := by
      intro hp
      have hm : s ∈ R := hp.subset (by simp)
      obtain ⟨suf, hs⟩ := hp
      have ht := HR.out
      rw [← hs, tot_append, tot_append] at ht
      have p1 := tot_pos pre (fun u hu => (HRP.out u (by rw [← hs]; simp [hu])).2.1)
      have p2 := tot_pos suf (fun u hu => (HRP.out u (by rw [← hs]; simp [hu])).2.1)
      simp only [tot] at ht
      exact ⟨HRP.out s hm, e1 ((List.prefix_append pre [s]).trans ⟨suf, hs⟩), p1, by omega⟩
    have KEY := Lib.hid key
    clear key e1
    gi_wp2
    refine ⟨(KeepsOthers.setCell _ _ _).from _, ⟨by simp, fun k hk => heap_setCell_other _ _ _ _ (fun e => hk.2 e)⟩, ⟨_, fun hp => ?_, b0.set _⟩, hB1.setCell (p := ⟨w.heap.size + 1, 0, none⟩) (by simp) _, by simp; omega⟩
    obtain ⟨⟨g1, g2, g3⟩, g4, g5, g6⟩ := KEY.out hp
    have q1 : wrap64 (s.2 - s.1) = s.2 - s.1 := IntWalk.wrap64_in _ (by omega)
    rw [q1]
    have q2 : wrap64 (v + (s.2 - s.1)) = v + (s.2 - s.1) := IntWalk.wrap64_in _ (by omega)
    rw [q2, tot_append]
    simp only [tot]
    omega
  case done =>
    rintro D ys W hD rfl ⟨⟨v, e1, b0⟩, hB1, hW4⟩ hK
    have hv := e1 (List.prefix_refl _)
    rw [HR.out] at hv
    subst hv
    have hc0 := b0.cell
    have hf0 := b0.frozen
    clear e1
    go_wp2
    have dd := b0.set (.int .i64 v)
    have hBl := hB1.setCell (p := ⟨w.heap.size + 1, 0, none⟩) (by simp) (.int .i64 v)
    have hK' := (KeepsOthers.setCell W ⟨w.heap.size + 1, 0, none⟩ (.int .i64 v)).same D _ hK rfl
    refine ⟨by simp, .inl ⟨_, _, rfl, run_takeDeferred hK', ?_⟩⟩
    have c1 := cell_kept dd.cell (grownBy_putObj' _ D (.deferred none)) (fun r e => by cases e; exact ⟨_, hK', rfl⟩)
    exact ⟨_, results_cell_tmp1 rfl _ _ (w.heap.size + 1) (.int .i64 v) (.int .i64 0) rfl rfl c1 (Tryd.isAgg3 _), rfl, hBl.trans (belowK_b (w := w) (Nat.le_refl _) _ D _ _ (by have := HW2.out.size; omega) hK' rfl rfl)⟩
  case stop =>
    rintro D c pre W _ _ h _
    exact h.elim

set_option maxRecDepth 100000 in
set_option maxHeartbeats 4000000 in
theorem working_any (cs : Array Value) (op : List (Int × Int)) (hol : List Int) (f t : Int) (w : World) (h : Cal (fun k => k < w.heap.size) w cs op hol) (hf : I64 f) (ht : I64 t) (E N : Int) (hE : E = eR op hol f t) (hN : N = wV op hol f t) :
    Calls Tryd.prog 15 #[.agg cs, .int .i64 f, .int .i64 t] w fun e w' => e = .returned (.tuple #[.int .i64 N, .int .i64 E]) ∧ Below w.heap.size w w' := by
  rcases eR_cases op hol f t with ⟨e0, hok⟩ | ⟨e1, hok⟩
  · obtain rfl : E = 0 := by rw [hE, e0]
    exact working_ok cs op hol f t w h hok N (by rw [hN]; unfold wV; rw [if_pos hok])
  · obtain rfl : N = 0 := by rw [hN]; unfold wV; rw [if_neg (by rw [hok]; simp)]
    have hW : Below w.heap.size w ((w.alloc (.cells cs 27)).alloc (.cells #[.int .i64 0] 3)) := ball (ball (Below.refl _ _) _) _
    have hbox : ((w.alloc (.cells cs 27)).alloc (.cells #[.int .i64 0] 3)).heap[w.heap.size]? = some (.cells cs 27 (0, 0)) := (heap_alloc_old _ _ (by simp)).trans (heap_alloc_new w _)
    have hb0 : Boxed ((w.alloc (.cells cs 27)).alloc (.cells #[.int .i64 0] 3)) (w.heap.size + 1) 3 (.int .i64 0) := by
      have := Boxed.new (w.alloc (.cells cs 27)) 3 (.int .i64 0)
      rw [World.size_alloc] at this
      exact this
    have hsz : ((w.alloc (.cells cs 27)).alloc (.cells #[.int .i64 0] 3)).heap.size = w.heap.size + 2 := by simp
    have hc := checkRange_any cs op hol f t _ (h.on hW) hf ht E hE
    obtain rfl : E = 1 := by rw [hE, e1]
    have HC := Lib.hid hc; have HB := Lib.hid hbox; have HS := Lib.hid h.size; have HW := Lib.hid hW; have HB0 := Lib.hid hb0
    clear hc hbox hW hb0 hE hN e1 hok hf ht h
    generalize hWW : (w.alloc (.cells cs 27)).alloc (.cells #[.int .i64 0] 3) = W at *
    go_enter Tryd.func15, Tryd.ntmps15
    go_wp2_with (first | (refine wpList_load_row rfl 27 (.tmp 3) rfl w.heap.size rfl 27 cs (0, 0) _ HB.out Tryd.underlying27 rfl (size27 HS.out) ?_) | (go_at_call 40; refine HC.out.mono ?_; rintro e w1 ⟨rfl, hb1⟩; have HW1 := Lib.hid (HW.out.trans (hb1.mono HW.out.size)); have HX1 : Boxed w1 (w.heap.size + 1) 3 (.int .i64 0) := (hb1.block (w.heap.size + 1) (by omega)).trans HB0.out; have hc0 := HX1.cell; have hf0 := HX1.frozen; clear HB HW HC HB0 hb1 hWW hsz))
    refine bodyPost_ret (results_cell_tmp1 rfl _ _ (w.heap.size + 1) (.int .i64 0) (.int .i64 1) rfl rfl (HX1.set (.int .i64 0)).cell (Tryd.isAgg3 _)) rfl ?_
    exact ⟨rfl, HW1.out.setCell (p := ⟨w.heap.size + 1, 0, none⟩) (by simp) _⟩
end Go.Proofs.YtciopemodfpecaaDoor
