/-
  The iterator's contract; its spans collected.
-/
import Derived.Test.YtciopemodfpecaaDoorLb
import Derived.Test.YtciopemodfpecaaDoorIb
namespace Go.Proofs.YtciopemodfpecaaDoor
open Go.RowKit Go.Shelf
set_option linter.unusedVariables false
set_option linter.unusedSimpArgs false
attribute [local go_sem] Oper.semAt_some

theorem shift_stops (P : Nat → Prop) (Fb Cb Tb : Nat) (cs : Array Value) (op : List (Int × Int)) (hol : List Int) (f t : Int) (w : World)
    (hF : P Fb) (hC : P Cb) (hT : P Tb) (hn : ∀ k, P k → k < w.heap.size) (hcF : w.cell? ⟨Fb, 0, none⟩ = some (.int .i64 f)) (hcT : w.cell? ⟨Tb, 0, none⟩ = some (.int .i64 t)) (hcC : w.heap[Cb]? = some (.cells cs 27 (0, 0)))
    (hcal : Cal P w cs op hol) (ho : opOk op) (hs : holB (-1) hol = true) (hf : 0 ≤ f) (hft : f ≤ t) (ht : t ≤ 1073741824) :
    SeqStopsK Fence.wide 3 Tryd.prog 62 #[.pointer (some ⟨Fb, 0, none⟩), .pointer (some ⟨Cb, 0, none⟩), .pointer (some ⟨Tb, 0, none⟩)] encY (Kept P) (fun ys => ys = rlist op hol f t) (fun pre => pre <+: rlist op hol f t) (rlist op hol f t).length w := fun l J Jx W hW hJ _ hY h0 => by
  have hk : ∀ k, P k → W.heap[k]? = w.heap[k]? := fun k hk => hW.block k (hn k hk)
  exact shift_in P l Fb Cb Tb cs op hol f t J Jx (fun pre W W' => abides_below hJ pre W W') hY W hF hC hT (fun k hk => Nat.lt_of_lt_of_le (hn k hk) hW.size)
    ((hW.cell (p := ⟨Fb, 0, none⟩) (hn Fb hF)).trans hcF) ((hW.cell (p := ⟨Tb, 0, none⟩) (hn Tb hT)).trans hcT) ((hk Cb hC).trans hcC) (hcal.kept hk (fun _ h => h)) ho hs hf hft ht h0

set_option maxRecDepth 100000 in
set_option maxHeartbeats 2000000 in
theorem sappendSeq_in (Fb Cb Tb : Nat) (cs : Array Value) (op : List (Int × Int)) (hol : List Int) (f t : Int) (w : World)
    (hF : Fb < w.heap.size) (hC : Cb < w.heap.size) (hT : Tb < w.heap.size) (hcF : w.cell? ⟨Fb, 0, none⟩ = some (.int .i64 f)) (hcT : w.cell? ⟨Tb, 0, none⟩ = some (.int .i64 t)) (hcC : w.heap[Cb]? = some (.cells cs 27 (0, 0)))
    (hcal : Cal (fun k => k < w.heap.size) w cs op hol) (ho : opOk op) (hs : holB (-1) hol = true) (hf : 0 ≤ f) (hft : f ≤ t) (ht : t ≤ 1073741824) :
    CallsIn Fence.wide 4 Tryd.prog 61 #[.slice none 0 0, .func (.func 62) #[] #[.pointer (some ⟨Fb, 0, none⟩), .pointer (some ⟨Cb, 0, none⟩), .pointer (some ⟨Tb, 0, none⟩)]] w fun e W' => ∃ v, e = .returned v ∧ ApT w (rlist op hol f t) v W' := by
  obtain ⟨i0, hi, hz0, hz1, hz2⟩ := info_parts Tryd.info23
  have hW0 : Below w.heap.size w (w.alloc (.cells #[.slice none 0 0] 30)) := ball (Below.refl _ _) _
  have hst := shift_stops (fun k => k < w.heap.size) Fb Cb Tb cs op hol f t (w.alloc (.cells #[.slice none 0 0] 30)) hF hC hT (fun k hk => Nat.lt_of_lt_of_le hk hW0.size) ((hW0.cell (p := ⟨Fb, 0, none⟩) hF).trans hcF) ((hW0.cell (p := ⟨Tb, 0, none⟩) hT).trans hcT) ((hW0.block Cb hC).trans hcC)
    (hcal.kept (fun k hk => hW0.block k hk) (fun _ h => h)) ho hs hf hft ht
  have hl := rlist_len op hol f t hf ht
  obtain ⟨R, hR⟩ : ∃ R, R = rlist op hol f t := ⟨_, rfl⟩
  rw [← hR] at hst hl ⊢
  clear hcal hcF hcT hcC hR ho hs hf hft ht
  refine callsIn_of_wp_marks Tryd.func61 rfl trivial ?_ rfl
  simp only [Tryd.ntmps61, List.size_toArray, List.length_cons, List.length_nil, Nat.reduceAdd, Nat.reduceSub, Array.replicate_succ, Array.replicate_zero, List.push_toArray, List.append_toArray, List.nil_append, List.cons_append]
  gi_wp2
  have bO := Boxed.new w 30 (.slice none 0 0)
  refine wpIn_rangeFunc_ownH rfl (by decide) (gf := 62) (lb := #[.pointer (some ⟨Fb, 0, none⟩), .pointer (some ⟨Cb, 0, none⟩), .pointer (some ⟨Tb, 0, none⟩)]) rfl trivial (enters_of Tryd.func62 (by kernel_rfl) rfl)
    hst (fun h k => h.trans k) (keptK_b (fun k hk => Nat.lt_of_lt_of_le hk hW0.size)) (Below.refl _ _) (fun _ => rfl)
    (fun pre W => (∃ v, Boxed W w.heap.size 30 v ∧ W.ownsRow w.heap.size 23 2 v pre.length (cells pre) ∧ True) ∧ Below w.heap.size w W)
    (fun _ _ _ => False)
    (OwnFrom.and (Own.from (holdsRow_own w.heap.size w.heap.size 30 23 2 (fun pre => pre.length) (fun pre => cells pre) (fun _ _ => True)) _) (ownFrom_below (Nat.le_refl _) (by simp)))
    (fun _ _ _ _ _ hs _ _ => hs)
    ⟨⟨_, bO, World.ownsRow_nil _ _ _ _, trivial⟩, hW0⟩
    (fun x a' W => ∃ Bx, w.heap.size < Bx ∧ Box2 W Bx x ∧ a' = { tmps := #[.slice none 0 0, .func (.func 62) #[] #[.pointer (some ⟨Fb, 0, none⟩), .pointer (some ⟨Cb, 0, none⟩), .pointer (some ⟨Tb, 0, none⟩)], .pointer (some ⟨w.heap.size, 0, none⟩), undef, .slice none 0 0, .pointer (some ⟨Bx, 0, none⟩), .func (.func 62) #[] #[.pointer (some ⟨Fb, 0, none⟩), .pointer (some ⟨Cb, 0, none⟩), .pointer (some ⟨Tb, 0, none⟩)], .agg #[.int .i64 x.1, .int .i64 x.2], undef, undef, undef, undef, undef], defers := [] })
    (fun x a' _ X Y row hs hg hr => by obtain ⟨Bx, h1, h2, h3⟩ := hs; exact ⟨Bx, h1, box2_own () X Y row h2 hg (fun r e => (hr r e).2), h3⟩)
    ?assign ?body ?done ?stop
  case assign =>
    rintro l pre x W K ⟨⟨v, hv, hrow, _⟩, hB1⟩ hK
    dsimp only [encY]
    gi_wp2
    exact hK _ _ ((KeepsOthers.alloc _ _).from _) (Kept.below ((Below.refl _ W).alloc hB1.size _) (fun _ h => h)) ⟨⟨v, hv.alloc _, hrow.alloc _, trivial⟩, hB1.alloc hB1.size _⟩ ⟨W.heap.size, hv.lt, Box2.new W x, rfl⟩
  case body =>
    rintro l pre x a' W hl1 hr ⟨⟨v, hv, hrow, _⟩, hB1⟩ ⟨Bx, hBx, hbx, rfl⟩ hlt
    have hc := hv.cell
    obtain ⟨f0, f1⟩ := hbx.cells
    clear hr hl1
    gi_wp2_with (gi_at_builtin; refine wpListIn_append_own _ rfl _ _ 30 rfl w.heap.size 23 i0 (.agg #[.int .i64 0, .int .i64 0]) 2 16 Tryd.underlying30 hi hz0 hz1 hz2 rfl (by decide) _ _ _ rfl (hrow.alloc _) ⟨W.heap.size, 0, none⟩ 1 1 (cells [x]) rfl rfl (cells_new W (cells [x]) 23) (cells_one _) (by unfold maxLen; omega) (by omega) (by have := hB1.size; simp; omega) ?_; intro v' w1 hown' hgrow _; obtain ⟨g', cap', rfl⟩ := ownsRow_succ hown'; obtain ⟨hv1, hv2, hr2, hk2, hb2⟩ := hv.appended (by decide) hrow hB1.size (Nat.le_refl _) hown' hgrow; have hc1 := hv1.cell; have hf1 := hv1.frozen)
    exact ⟨hk2.from _, Kept.below hb2 (fun _ h => h), ⟨_, hv2, by rw [cells_append, List.length_append]; simpa using hr2, trivial⟩, hB1.trans hb2⟩
  case done =>
    rintro D ys W hD rfl ⟨⟨v, hv, hrow, _⟩, hB1⟩ hK
    have hc := hv.cell
    gi_wp2
    refine ⟨by simp, .inl ⟨_, _, rfl, run_takeDeferred hK, ?_⟩⟩
    exact ⟨_, results_tmp rfl _ _ _, v, rfl, ⟨ownsRow_putObj hrow _ hK rfl, hB1.trans (belowK_b (w := w) (Nat.le_refl _) W D _ _ (by simp at hD; omega) hK rfl rfl)⟩⟩
  case stop =>
    rintro D c pre W _ _ h _
    exact h.elim

set_option maxHeartbeats 1000000 in
theorem scollect_any (Fb Cb Tb : Nat) (cs : Array Value) (op : List (Int × Int)) (hol : List Int) (f t : Int) (w : World)
    (hF : Fb < w.heap.size) (hC : Cb < w.heap.size) (hT : Tb < w.heap.size) (hcF : w.cell? ⟨Fb, 0, none⟩ = some (.int .i64 f)) (hcT : w.cell? ⟨Tb, 0, none⟩ = some (.int .i64 t)) (hcC : w.heap[Cb]? = some (.cells cs 27 (0, 0)))
    (hcal : Cal (fun k => k < w.heap.size) w cs op hol) (ho : opOk op) (hs : holB (-1) hol = true) (hf : 0 ≤ f) (hft : f ≤ t) (ht : t ≤ 1073741824) :
    Calls Tryd.prog 42 #[.func (.func 62) #[] #[.pointer (some ⟨Fb, 0, none⟩), .pointer (some ⟨Cb, 0, none⟩), .pointer (some ⟨Tb, 0, none⟩)]] w fun e W' => ∃ v, e = .returned v ∧ ApT w (rlist op hol f t) v W' := by
  have h := callsIn_wide.1 (sappendSeq_in Fb Cb Tb cs op hol f t w hF hC hT hcF hcT hcC hcal ho hs hf hft ht)
  have H := Lib.hid h
  clear h hcal hcF hcT hcC ho hs hf hft ht
  go_enter Tryd.func42, Tryd.ntmps42
  go_wp2_with fail
  refine H.out.mono ?_
  rintro e w1 ⟨v, rfl, h1⟩
  have H1 := Lib.hid h1
  clear h1 H
  go_wp2
  go_ret
  exact ⟨_, rfl, H1.out⟩

end Go.Proofs.YtciopemodfpecaaDoor
