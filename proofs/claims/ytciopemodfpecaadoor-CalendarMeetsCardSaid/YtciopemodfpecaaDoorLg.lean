/-
  Walks: the program's After.
-/
import Derived.Test.YtciopemodfpecaaDoorLf
namespace Go.Proofs.YtciopemodfpecaaDoor
open Go.RowKit Go.Shelf
set_option linter.unusedVariables false
set_option linter.unusedSimpArgs false
attribute [local go_sem] Oper.semAt_some

theorem bset2 {w W : World} {b : Nat} (h : Below w.heap.size w W) (hb : w.heap.size ≤ b) (v : Value) : Below w.heap.size w (W.setCell ⟨b, 0, none⟩ v) := h.setCell (p := ⟨b, 0, none⟩) hb v

set_option maxRecDepth 100000 in
set_option maxHeartbeats 8000000 in
theorem after_pos (cs : Array Value) (op : List (Int × Int)) (hol : List Int) (f n : Int) (w : World) (h : Cal (fun k => k < w.heap.size) w cs op hol) (hok : okR op hol f 1073741824 = true) (hn : I64 n) (hn0 : 0 < n) (A E : Int)
    (hA : A = (adv (wlist op hol f 1073741824) n).getD 0) (hE : E = if (adv (wlist op hol f 1073741824) n).isSome then 0 else 2) :
    Calls Tryd.prog 17 #[.agg cs, .int .i64 f, .int .i64 n] w fun e w' => e = .returned (.tuple #[.int .i64 A, .int .i64 E]) ∧ Below w.heap.size w w' := by
  obtain ⟨ho, hh, h1, h2, h3⟩ := (okR_iff h.len).1 hok
  have hc := checkRange_any cs op hol f 1073741824 _ (h.on (w4_below w cs n)) (by unfold I64; omega) (by unfold I64; omega) 0 (by unfold eR; rw [if_pos hok])
  obtain ⟨b1, b2, b3⟩ := w4_boxes w cs n
  rw [← rlist_adv ho h1 h3 hn0] at hA hE
  have hRpos := rlist_of (hol := hol) ho h1 h3
  have hRt : tot (rlist op hol f 1073741824) ≤ 1073741824 := by rw [rlist_tot]; exact (tot_range (wlist_ok ho h1 h2 h3).1).2
  have HB := Lib.hid (w4_c w cs n); have HW := Lib.hid (w4_below w cs n); have hz := w4_size w cs n; have HS := Lib.hid h.size
  have HC := Lib.hid hc; have HB1 := Lib.hid b1; have HB2 := Lib.hid b2; have HB3 := Lib.hid b3; have HCAL := Lib.hid h; have HO := Lib.hid ho; have HH := Lib.hid hh; have HA := Lib.hid hA; have HE := Lib.hid hE; have HRP := Lib.hid hRpos; have HRT := Lib.hid hRt
  have hn1 : n ≤ 9223372036854775807 := hn.2
  have dn1 : decide (n < 0) = false := decide_eq_false (by omega)
  have dn2 : (n == 0) = false := by simp; omega
  clear hc b1 b2 b3 h ho hh hA hE hRpos hRt hok hn
  generalize hWW : W4 w cs n = W at *
  unfold W4 at hWW
  refine (callsIn_wide (n := 4)).1 ?_
  refine callsIn_of_wp_marks Tryd.func17 rfl trivial ?_ rfl
  simp only [Tryd.ntmps17, List.size_toArray, List.length_cons, List.length_nil, Nat.reduceAdd, Nat.reduceSub, Array.replicate_succ, Array.replicate_zero, List.push_toArray, List.append_toArray, List.nil_append, List.cons_append]
  refine wpIn_wide.2 ?_
  go_wp2
  go_step3
  go_wp2_with (first | (refine wpList_load_row rfl 27 (.tmp 3) rfl w.heap.size rfl 27 cs (0, 0) _ HB.out Tryd.underlying27 rfl (size27 HS.out) ?_) | (go_at_call 40; refine HC.out.mono ?_; rintro e w0 ⟨rfl, hb1⟩; have HW1 := Lib.hid (HW.out.trans (hb1.mono HW.out.size)); have X1 : Boxed w0 (w.heap.size + 1) 3 (.int .i64 n) := (hb1.block _ (by omega)).trans HB1.out; have X2 : Boxed w0 (w.heap.size + 1 + 1) 3 (.int .i64 0) := (hb1.block _ (by omega)).trans HB2.out; have X3 : Boxed w0 (w.heap.size + 1 + 1 + 1) 31 (.int .i64 0) := (hb1.block _ (by omega)).trans HB3.out; have hc1 := X1.cell; have hf1 := X1.frozen; have hc2 := X2.cell; have hf2 := X2.frozen; have hc3 := X3.cell; have hf3 := X3.frozen; have HB0 := Lib.hid ((hb1.block w.heap.size (by omega)).trans HB.out); have hsz1 : w.heap.size + 4 ≤ w0.heap.size := (by have := hb1.size; omega); clear HB HW HC HB1 HB2 HB3 hb1 hWW hz))
  go_step3
  have Z1 := (X1.other (B' := w.heap.size + 1 + 1 + 1) (by omega) (.int .i64 0)).other (B' := w.heap.size + 1 + 1 + 1) (by omega) (.int .i64 2)
  have Z2 := (X2.other (B' := w.heap.size + 1 + 1 + 1) (by omega) (.int .i64 0)).other (B' := w.heap.size + 1 + 1 + 1) (by omega) (.int .i64 2)
  have Z3 := (X3.set (.int .i64 0)).set (.int .i64 2)
  have HZW := Lib.hid (bset2 (bset2 HW1.out (b := w.heap.size + 1 + 1 + 1) (by omega) (.int .i64 0)) (b := w.heap.size + 1 + 1 + 1) (by omega) (.int .i64 2))
  have hz1 : ((w0.setCell ⟨w.heap.size + 1 + 1 + 1, 0, none⟩ (.int .i64 0)).setCell ⟨w.heap.size + 1 + 1 + 1, 0, none⟩ (.int .i64 2)).heap.size = w0.heap.size := by simp
  have HZB : Hid (((w0.setCell ⟨w.heap.size + 1 + 1 + 1, 0, none⟩ (.int .i64 0)).setCell ⟨w.heap.size + 1 + 1 + 1, 0, none⟩ (.int .i64 2)).heap[w.heap.size]? = some (.cells cs 27 (0, 0))) := Lib.hid ((heap_setCell_other _ _ _ _ (by simp; omega)).trans ((heap_setCell_other _ _ _ _ (by simp; omega)).trans HB0.out))
  generalize (w0.setCell ⟨w.heap.size + 1 + 1 + 1, 0, none⟩ (.int .i64 0)).setCell ⟨w.heap.size + 1 + 1 + 1, 0, none⟩ (.int .i64 2) = w1 at *
  clear X1 X2 X3 hc1 hf1 hc2 hf2 hc3 hf3 HW1 HB0
  rw [← hz1] at hsz1
  clear hz1
  go_wp2_with (first | (refine wpList_load_row rfl 27 (.tmp 3) rfl w.heap.size rfl 27 cs (0, 0) _ HZB.out Tryd.underlying27 rfl (size27 HS.out) ?_))
  refine (shifts_ws cs f 1073741824 w1).mono ?_
  rintro e w2 ⟨rfl, hw2⟩
  have hb2 : Below w1.heap.size w1 w2 := hw2 ▸ ws_below w1 cs f 1073741824
  have hz2 : w2.heap.size = w1.heap.size + 3 := by rw [hw2]; exact ws_size _ _ _ _
  have k1 : Boxed w2 (w.heap.size + 1) 3 (.int .i64 n) := (hb2.block _ (by omega)).trans Z1
  have k2 : Boxed w2 (w.heap.size + 1 + 1) 3 (.int .i64 0) := (hb2.block _ (by omega)).trans Z2
  have k3 : Boxed w2 (w.heap.size + 1 + 1 + 1) 31 (.int .i64 2) := (hb2.block _ (by omega)).trans Z3
  have HW2 := Lib.hid (HZW.out.trans (hb2.mono HZW.out.size))
  have hst := shift_stops (fun k => k < w2.heap.size ∧ k ≠ w.heap.size + 1 ∧ k ≠ w.heap.size + 1 + 1 ∧ k ≠ w.heap.size + 1 + 1 + 1) (w1.heap.size + 1) w1.heap.size (w1.heap.size + 1 + 1) cs op hol f 1073741824 w2 ⟨by omega, by omega, by omega, by omega⟩ ⟨by omega, by omega, by omega, by omega⟩ ⟨by omega, by omega, by omega, by omega⟩ (fun k hk => hk.1) (by rw [hw2]; exact ws_f _ _ _ _) (by rw [hw2]; exact ws_t _ _ _ _) (by rw [hw2]; exact ws_c _ _ _ _)
    ((HCAL.out.kept (F' := fun k => k < w2.heap.size ∧ k ≠ w.heap.size + 1 ∧ k ≠ w.heap.size + 1 + 1 ∧ k ≠ w.heap.size + 1 + 1 + 1) (fun k hk => (hb2.block k (Nat.lt_of_lt_of_le hk HZW.out.size)).trans (HZW.out.block k hk)) (fun k hk => ⟨Nat.lt_of_lt_of_le hk HW2.out.size, by omega, by omega, by omega⟩))) HO.out HH.out h1 h2 h3
  obtain ⟨R, hRR⟩ : ∃ R, R = rlist op hol f 1073741824 := ⟨_, rfl⟩
  rw [← hRR] at hst HRP HRT HA HE
  clear hw2 hb2 hRR Z1 Z2 Z3
  go_wp2_with fail
  refine (wpIn_wide (n := 4)).1 ?_
  refine wpIn_rangeFunc_ownH rfl (by decide) (gf := 62) (lb := #[.pointer (some ⟨w1.heap.size + 1, 0, none⟩), .pointer (some ⟨w1.heap.size, 0, none⟩), .pointer (some ⟨w1.heap.size + 1 + 1, 0, none⟩)]) rfl trivial (enters_of Tryd.func62 (by kernel_rfl) rfl)
    hst (fun h k => h.trans k) (keptK_b (fun k hk => hk.1)) (Below.refl _ _) (fun _ => rfl)
    (fun pre W => (∃ v, (pre <+: R → v = n - tot pre ∧ 0 < v ∧ ∀ suf, adv (pre ++ suf) n = adv suf v) ∧ Boxed W (w.heap.size + 1) 3 (.int .i64 v)) ∧ Boxed W (w.heap.size + 1 + 1) 3 (.int .i64 0) ∧ Boxed W (w.heap.size + 1 + 1 + 1) 31 (.int .i64 2) ∧ Below w.heap.size w W ∧ w2.heap.size ≤ W.heap.size)
    (fun c pre W => (c = .exit 1 ∧ ∃ m, (pre <+: R → ∀ suf, adv (pre ++ suf) n = some m) ∧ Boxed W (w.heap.size + 1 + 1) 3 (.int .i64 m) ∧ Boxed W (w.heap.size + 1 + 1 + 1) 31 (.int .i64 0)) ∧ Below w.heap.size w W)
    (fun pre X Y row hs hg hr => by
      obtain ⟨⟨v, q1, q2⟩, q3, q4, q5, q6⟩ := hs
      exact ⟨⟨v, q1, boxed_own _ _ (fun (_ : Unit) => Value.int .i64 v) () X Y row q2 hg (fun r e => (hr r e).2)⟩, boxed_own _ _ (fun (_ : Unit) => Value.int .i64 0) () X Y row q3 hg (fun r e => (hr r e).2), boxed_own _ _ (fun (_ : Unit) => Value.int .i64 2) () X Y row q4 hg (fun r e => (hr r e).2),
        ownFrom_below (β := Unit) (Nat.le_refl _) (by omega) () X Y row q5 hg hr, Nat.le_trans q6 hg.size⟩)
    (fun c pre X Y row hs hg hr => by
      obtain ⟨⟨q1, m, q2, q3, q4⟩, q5⟩ := hs
      exact ⟨⟨q1, m, q2, boxed_own _ _ (fun (_ : Unit) => Value.int .i64 m) () X Y row q3 hg (fun r e => (hr r e).2), boxed_own _ _ (fun (_ : Unit) => Value.int .i64 0) () X Y row q4 hg (fun r e => (hr r e).2)⟩,
        ownFrom_below (β := Unit) (Nat.le_refl _) (by omega) () X Y row q5 hg hr⟩)
    ⟨⟨n, fun _ => ⟨by simp [tot], hn0, fun suf => rfl⟩, k1⟩, k2, k3, HW2.out, Nat.le_refl _⟩
    (fun s a' W => ∃ Bx, w.heap.size + 1 + 1 + 1 < Bx ∧ Box2 W Bx s ∧ a' = { tmps := #[.agg cs, .int .i64 f, .int .i64 n, .pointer (some ⟨w.heap.size, 0, none⟩), undef, .pointer (some ⟨w.heap.size + 1, 0, none⟩), .pointer (some ⟨w.heap.size + 1 + 1, 0, none⟩), .pointer (some ⟨w.heap.size + 1 + 1 + 1, 0, none⟩), .pointer (some ⟨Bx, 0, none⟩), undef, .agg cs, .int .i64 f, .int .i64 0, .bool false, .int .i64 0, .bool false, undef, .bool false, .int .i64 n, .bool false, .bool false, .int .i64 n, .bool false, undef, .agg cs, .int .i64 f, .func (.func 62) #[] #[.pointer (some ⟨w1.heap.size + 1, 0, none⟩), .pointer (some ⟨w1.heap.size, 0, none⟩), .pointer (some ⟨w1.heap.size + 1 + 1, 0, none⟩)], .agg #[.int .i64 s.1, .int .i64 s.2], undef, undef, undef, undef, undef, undef, undef, undef, undef, undef, undef, undef, undef, undef, undef, undef, undef, undef], defers := [] })
    (fun s a' _ X Y row hs hg hr => by obtain ⟨Bx, h1, h2, h3⟩ := hs; exact ⟨Bx, h1, box2_own () X Y row h2 hg (fun r e => (hr r e).2), h3⟩)
    ?assign ?body ?done ?stop
  case assign =>
    rintro l pre s W K ⟨⟨v, q1, b0⟩, b1, b2, hB1, hW4⟩ hK
    dsimp only [encY]
    gi_wp2
    exact hK _ _ ((KeepsOthers.alloc _ _).from _) ((Kept.refl _ W).trans ⟨by simp, fun k hk => heap_alloc_old _ _ (by have := hk.1; omega)⟩) ⟨⟨v, q1, b0.alloc _⟩, b1.alloc _, b2.alloc _, hB1.alloc hB1.size _, by simp; omega⟩ ⟨W.heap.size, b2.lt, Box2.new W s, rfl⟩
  case body =>
    rintro l pre s a' W hl1 hr ⟨⟨v, q1, b0⟩, b1, b2, hB1, hW4⟩ ⟨Bx, hBx, hbx, rfl⟩ hlt
    obtain ⟨f0, f1⟩ := hbx.cells
    have hc0 := b0.cell
    have hf0 := b0.frozen
    have hc1 := b1.cell
    have hf1 := b1.frozen
    have hc2 := b2.cell
    have hf2 := b2.frozen
    clear hr hl1
    have key : pre ++ [s] <+: R → (0 ≤ s.1 ∧ s.1 < s.2 ∧ s.2 ≤ 1073741824) ∧ v = n - tot pre ∧ 0 < v ∧ 0 ≤ tot pre ∧ ∀ suf, adv (pre ++ suf) n = adv suf v := by
      intro hp
      have hm : s ∈ R := hp.subset (by simp)
      obtain ⟨suf, hs⟩ := hp
      have p1 := tot_pos pre (fun u hu => (HRP.out u (by rw [← hs]; simp [hu])).2.1)
      obtain ⟨g1, g2, g3⟩ := q1 ((List.prefix_append pre [s]).trans ⟨suf, hs⟩)
      exact ⟨HRP.out s hm, g1, g2, p1, g3⟩
    have KEY := Lib.hid key
    clear key q1
    gi_wp2
    · rename_i hle
      refine ⟨((KeepsOthers.setCell _ _ _).trans (KeepsOthers.setCell _ _ _)).from _, ⟨rfl, _, fun hp suf => ?_, (b1.set _).other (by omega) _, (b2.other (by omega) _).set _⟩, bset2 (bset2 hB1 (by omega) _) (by omega) _⟩
      obtain ⟨⟨g1, g2, g3⟩, g4, g5, g6, g7⟩ := KEY.out hp
      have p1 : wrap64 (s.2 - s.1) = s.2 - s.1 := IntWalk.wrap64_in _ (by omega)
      rw [p1] at hle
      have p2 : wrap64 (s.1 + v) = s.1 + v := IntWalk.wrap64_in _ (by omega)
      rw [p2]
      exact adv_stop pre n v s g7 hle suf
    · rename_i hle
      refine ⟨(KeepsOthers.setCell _ _ _).from _, ⟨by simp, fun k hk => heap_setCell_other _ _ _ _ (fun e => hk.2.1 e)⟩, ⟨_, fun hp => ?_, b0.set _⟩, b1.other (by omega) _, b2.other (by omega) _, bset2 hB1 (by omega) _, by simp; omega⟩
      obtain ⟨⟨g1, g2, g3⟩, g4, g5, g6, g7⟩ := KEY.out hp
      have p1 : wrap64 (s.2 - s.1) = s.2 - s.1 := IntWalk.wrap64_in _ (by omega)
      rw [p1] at hle
      have p2 : wrap64 (v - (s.2 - s.1)) = v - (s.2 - s.1) := IntWalk.wrap64_in _ (by omega)
      rw [p1, p2]
      refine ⟨by rw [tot_append]; simp only [tot]; omega, by omega, adv_go pre n v s g7 (by omega)⟩
  case done =>
    rintro D ys W hD rfl ⟨⟨v, q1, b0⟩, b1, b2, hB1, hW4⟩ hK
    obtain ⟨g4, g5, g6⟩ := q1 (List.prefix_refl _)
    have hnone : adv ys n = none := by
      have := g6 []
      rw [List.append_nil] at this
      rw [this]; rfl
    obtain rfl : A = 0 := by rw [HA.out, hnone]; rfl
    obtain rfl : E = 2 := by rw [HE.out, hnone]; rfl
    have hc1 := b1.cell
    have hf1 := b1.frozen
    have hc2 := b2.cell
    have hf2 := b2.frozen
    clear q1 g4 g5 g6 hnone HA HE
    go_wp2
    go_region
    go_wp2
    rw [Exit.noGoto_ret]
    have d1 := (b1.set (.int .i64 0)).other (B' := w.heap.size + 1 + 1 + 1) (by omega) (.int .i64 2)
    have d2 := (b2.other (B' := w.heap.size + 1 + 1) (by omega) (.int .i64 0)).set (.int .i64 2)
    have hBl := (bset2 (bset2 hB1 (b := w.heap.size + 1 + 1) (by omega) (.int .i64 0)) (b := w.heap.size + 1 + 1 + 1) (by omega) (.int .i64 2)).drew
    have hK' : ((W.setCell ⟨w.heap.size + 1 + 1, 0, none⟩ (.int .i64 0)).setCell ⟨w.heap.size + 1 + 1 + 1, 0, none⟩ (.int .i64 2)).drew.heap[D]? = some (.deferred (some [])) := ((KeepsOthers.setCell W ⟨w.heap.size + 1 + 1, 0, none⟩ (.int .i64 0)).trans (KeepsOthers.setCell _ ⟨w.heap.size + 1 + 1 + 1, 0, none⟩ (.int .i64 2))).same D _ hK rfl
    refine ⟨by simp, .inl ⟨_, _, rfl, run_takeDeferred hK', ?_⟩⟩
    have c1 := cell_kept (cellDrew d1.cell) (grownBy_putObj' _ D (.deferred none)) (fun r e => by cases e; exact ⟨_, hK', rfl⟩)
    have c2 := cell_kept (cellDrew d2.cell) (grownBy_putObj' _ D (.deferred none)) (fun r e => by cases e; exact ⟨_, hK', rfl⟩)
    exact ⟨_, results17 _ _ (w.heap.size + 1 + 1) (w.heap.size + 1 + 1 + 1) 0 2 rfl rfl c1 c2, rfl, hBl.trans (belowK_b (w := w) (Nat.le_refl _) _ D _ _ (by have := HW2.out.size; omega) hK' rfl rfl)⟩
  case stop =>
    rintro D c pre W hD hpre ⟨⟨rfl, m, q2, b1, b2⟩, hB1⟩ hK
    obtain ⟨suf, hsuf⟩ := hpre
    have hsome := q2 ⟨suf, hsuf⟩ suf
    rw [hsuf] at hsome
    obtain rfl : A = m := by rw [HA.out, hsome]; rfl
    obtain rfl : E = 0 := by rw [HE.out, hsome]; rfl
    have hc1 := b1.cell
    have hf1 := b1.frozen
    have hc2 := b2.cell
    have hf2 := b2.frozen
    clear q2 hsome HA HE hsuf
    refine wpIn_wide.2 ?_
    go_wp2
    go_region
    go_wp2
    rw [Exit.noGoto_ret]
    have d1 := (b1.set (.int .i64 A)).other (B' := w.heap.size + 1 + 1 + 1) (by omega) (.int .i64 0)
    have d2 := (b2.other (B' := w.heap.size + 1 + 1) (by omega) (.int .i64 A)).set (.int .i64 0)
    have hBl := (bset2 (bset2 hB1 (b := w.heap.size + 1 + 1) (by omega) (.int .i64 A)) (b := w.heap.size + 1 + 1 + 1) (by omega) (.int .i64 0)).drew
    have hK' : ((W.setCell ⟨w.heap.size + 1 + 1, 0, none⟩ (.int .i64 A)).setCell ⟨w.heap.size + 1 + 1 + 1, 0, none⟩ (.int .i64 0)).drew.heap[D]? = some (.deferred (some [])) := ((KeepsOthers.setCell W ⟨w.heap.size + 1 + 1, 0, none⟩ (.int .i64 A)).trans (KeepsOthers.setCell _ ⟨w.heap.size + 1 + 1 + 1, 0, none⟩ (.int .i64 0))).same D _ hK rfl
    refine ⟨by simp, .inl ⟨_, _, rfl, run_takeDeferred hK', ?_⟩⟩
    have c1 := cell_kept (cellDrew d1.cell) (grownBy_putObj' _ D (.deferred none)) (fun r e => by cases e; exact ⟨_, hK', rfl⟩)
    have c2 := cell_kept (cellDrew d2.cell) (grownBy_putObj' _ D (.deferred none)) (fun r e => by cases e; exact ⟨_, hK', rfl⟩)
    exact ⟨_, results17 _ _ (w.heap.size + 1 + 1) (w.heap.size + 1 + 1 + 1) A 0 rfl rfl c1 c2, rfl, hBl.trans (belowK_b (w := w) (Nat.le_refl _) _ D _ _ (by have := HW2.out.size; omega) hK' rfl rfl)⟩

/-- After's contract. -/
theorem after_any (cs : Array Value) (op : List (Int × Int)) (hol : List Int) (f n : Int) (w : World) (h : Cal (fun k => k < w.heap.size) w cs op hol) (hf : I64 f) (hn : I64 n) (A E : Int) (hA : A = aV op hol f n) (hE : E = aE op hol f n) :
    Calls Tryd.prog 17 #[.agg cs, .int .i64 f, .int .i64 n] w fun e w' => e = .returned (.tuple #[.int .i64 A, .int .i64 E]) ∧ Below w.heap.size w w' := by
  by_cases hok : okR op hol f 1073741824 = true
  · by_cases hpos : 0 < n
    · obtain ⟨e1, e2⟩ := aft_pos hok hpos
      exact after_pos cs op hol f n w h hok hn hpos A E (by rw [hA, e1]) (by rw [hE, e2])
    · exact after_small cs op hol f n w h hf hn (.inr (by omega)) A E hA hE
  · exact after_small cs op hol f n w h hf hn (.inl (by simpa using hok)) A E hA hE
end Go.Proofs.YtciopemodfpecaaDoor
