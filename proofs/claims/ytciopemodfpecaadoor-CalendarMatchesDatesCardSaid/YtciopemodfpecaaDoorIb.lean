/-
  The iterator's contract; AppendSeq, Collect, common; Intersect, Minus.
-/
import Derived.Test.YtciopemodfpecaaDoorIa
namespace Go.Proofs.YtciopemodfpecaaDoor
open Go.RowKit Go.Shelf
set_option linter.unusedVariables false
set_option linter.unusedSimpArgs false
attribute [local go_sem] Oper.semAt_some

theorem abides_below {β : Type} {B : Nat} {J : β → World → Prop} (h : AbidesFrom B J) (s : β) (W W' : World) (hs : J s W) (hb : Below W.heap.size W W') : J s W' :=
  h s W W' none hs ⟨hb.os, hb.tape, hb.output, hb.size, fun i hi _ => hb.block i hi⟩ (fun r e => by cases e)

theorem iter_stops (P : Nat → Prop) (A B : Nat) (a b : List (Int × Int)) (oa ob : Option Addr) (ca cb : Nat) (w : World)
    (hA : P A) (hB : P B) (hn : ∀ k, P k → k < w.heap.size) (hcA : w.cell? ⟨A, 0, none⟩ = some (.slice oa a.length ca)) (hcB : w.cell? ⟨B, 0, none⟩ = some (.slice ob b.length cb))
    (ha : Sl P w (.slice oa a.length ca) a) (hb : Sl P w (.slice ob b.length cb) b) :
    SeqStopsK Fence.wide 3 Tryd.prog 67 #[.pointer (some ⟨A, 0, none⟩), .pointer (some ⟨B, 0, none⟩)] encY (Kept P) (fun ys => ys = cmn a b) (fun pre => pre <+: cmn a b) (cmn a b).length w := fun l J Jx W hW hJ _ hY h0 => by
  have hk : ∀ k, P k → W.heap[k]? = w.heap[k]? := fun k hk => hW.block k (hn k hk)
  exact iter_in P l A B a b oa ob ca cb J Jx (fun pre W W' => abides_below hJ pre W W') hY W hA hB (fun k hk => Nat.lt_of_lt_of_le (hn k hk) hW.size)
    ((hW.cell (p := ⟨A, 0, none⟩) (hn A hA)).trans hcA) ((hW.cell (p := ⟨B, 0, none⟩) (hn B hB)).trans hcB) (ha.kept hk (fun _ h => h)) (hb.kept hk (fun _ h => h)) h0

/-- A block that is a boxed span. -/
def Box2 (W : World) (B : Nat) (s : Int × Int) : Prop := W.heap[B]? = some (.cells #[.int .i64 s.1, .int .i64 s.2] 23 (0, 0))
theorem Box2.lt {W : World} {B : Nat} {s : Int × Int} (h : Box2 W B s) : B < W.heap.size := (Array.getElem?_eq_some_iff.1 h).1
theorem Box2.kept {W W' : World} {row : Option Nat} {B : Nat} {s : Int × Int} (h : Box2 W B s) (hg : W.grownBy W' row) (hne : some B ≠ row) : Box2 W' B s := (hg.block B h.lt hne).trans h
theorem Box2.new (W : World) (s : Int × Int) : Box2 (W.alloc (.cells #[.int .i64 s.1, .int .i64 s.2] 23)) W.heap.size s := World.alloc_heap_new W _
theorem Box2.cells {W : World} {B : Nat} {s : Int × Int} (h : Box2 W B s) : W.cell? ⟨B, 0, none⟩ = some (.int .i64 s.1) ∧ W.cell? ⟨B, 1, none⟩ = some (.int .i64 s.2) := by
  rw [cell_of_row W B 0 _ 23 (0, 0) h, cell_of_row W B 1 _ 23 (0, 0) h]
  exact ⟨rfl, rfl⟩
theorem box2_own {B : Nat} {s : Int × Int} : Own (fun (_ : Unit) W => Box2 W B s) := fun _ X Y row hs hg hrow =>
  hs.kept hg (fun e' => by obtain ⟨o, ho, hc⟩ := hrow B e'.symm; rw [show X.heap[B]? = _ from hs] at ho; cases ho; cases hc)

set_option maxRecDepth 100000 in
set_option maxHeartbeats 2000000 in
theorem appendSeq_in (A B : Nat) (a b : List (Int × Int)) (oa ob : Option Addr) (ca cb : Nat) (w : World)
    (hA : A < w.heap.size) (hB : B < w.heap.size) (hcA : w.cell? ⟨A, 0, none⟩ = some (.slice oa a.length ca)) (hcB : w.cell? ⟨B, 0, none⟩ = some (.slice ob b.length cb))
    (ha : Sl (fun k => k < w.heap.size) w (.slice oa a.length ca) a) (hb : Sl (fun k => k < w.heap.size) w (.slice ob b.length cb) b) (hl : (cmn a b).length ≤ 4000000) :
    CallsIn Fence.wide 4 Tryd.prog 61 #[.slice none 0 0, .func (.func 67) #[] #[.pointer (some ⟨A, 0, none⟩), .pointer (some ⟨B, 0, none⟩)]] w fun e W' => ∃ v, e = .returned v ∧ ApT w (cmn a b) v W' := by
  obtain ⟨i0, hi, hz0, hz1, hz2⟩ := info_parts Tryd.info23
  have hW0 : Below w.heap.size w (w.alloc (.cells #[.slice none 0 0] 30)) := ball (Below.refl _ _) _
  have hst := iter_stops (fun k => k < w.heap.size) A B a b oa ob ca cb (w.alloc (.cells #[.slice none 0 0] 30)) hA hB (fun k hk => Nat.lt_of_lt_of_le hk hW0.size) ((hW0.cell (p := ⟨A, 0, none⟩) hA).trans hcA) ((hW0.cell (p := ⟨B, 0, none⟩) hB).trans hcB)
    (ha.kept (fun k hk => hW0.block k hk) (fun _ h => h)) (hb.kept (fun k hk => hW0.block k hk) (fun _ h => h))
  obtain ⟨R, hR⟩ : ∃ R, R = cmn a b := ⟨_, rfl⟩
  rw [← hR] at hst hl ⊢
  clear ha hb hcA hcB hR
  refine callsIn_of_wp_marks Tryd.func61 rfl trivial ?_ rfl
  simp only [Tryd.ntmps61, List.size_toArray, List.length_cons, List.length_nil, Nat.reduceAdd, Nat.reduceSub, Array.replicate_succ, Array.replicate_zero, List.push_toArray, List.append_toArray, List.nil_append, List.cons_append]
  gi_wp2
  have bO := Boxed.new w 30 (.slice none 0 0)
  refine wpIn_rangeFunc_ownH rfl (by decide) (gf := 67) (lb := #[.pointer (some ⟨A, 0, none⟩), .pointer (some ⟨B, 0, none⟩)]) rfl trivial (enters_of Tryd.func67 (by kernel_rfl) rfl)
    hst (fun h k => h.trans k) (keptK_b (fun k hk => Nat.lt_of_lt_of_le hk hW0.size)) (Below.refl _ _) (fun _ => rfl)
    (fun pre W => (∃ v, Boxed W w.heap.size 30 v ∧ W.ownsRow w.heap.size 23 2 v pre.length (cells pre) ∧ True) ∧ Below w.heap.size w W)
    (fun _ _ _ => False)
    (OwnFrom.and (Own.from (holdsRow_own w.heap.size w.heap.size 30 23 2 (fun pre => pre.length) (fun pre => cells pre) (fun _ _ => True)) _) (ownFrom_below (Nat.le_refl _) (by simp)))
    (fun _ _ _ _ _ hs _ _ => hs)
    ⟨⟨_, bO, World.ownsRow_nil _ _ _ _, trivial⟩, hW0⟩
    (fun x a' W => ∃ Bx, w.heap.size < Bx ∧ Box2 W Bx x ∧ a' = { tmps := #[.slice none 0 0, .func (.func 67) #[] #[.pointer (some ⟨A, 0, none⟩), .pointer (some ⟨B, 0, none⟩)], .pointer (some ⟨w.heap.size, 0, none⟩), undef, .slice none 0 0, .pointer (some ⟨Bx, 0, none⟩), .func (.func 67) #[] #[.pointer (some ⟨A, 0, none⟩), .pointer (some ⟨B, 0, none⟩)], .agg #[.int .i64 x.1, .int .i64 x.2], undef, undef, undef, undef, undef], defers := [] })
    (fun x a' _ X Y row hs hg hr => by obtain ⟨Bx, h1, h2, h3⟩ := hs; exact ⟨Bx, h1, box2_own () X Y row h2 hg (fun r e => (hr r e).2), h3⟩)
    ?assign ?body ?done ?stop
  case assign =>
    rintro l pre x W K ⟨⟨v, hv, hrow, _⟩, hB1⟩ hK
    dsimp only [encY]
    gi_wp2
    exact hK _ _ ((KeepsOthers.alloc _ _).from _) (Kept.below ((Below.refl _ W).alloc hB1.size _) (fun _ h => h)) ⟨⟨v, hv.alloc _, hrow.alloc _, trivial⟩, hB1.alloc hB1.size _⟩ ⟨W.heap.size, hv.lt, Box2.new W x, rfl⟩
  case body =>
    rintro l pre x a' W hl1 hr ⟨⟨v, hv, hrow, _⟩, hB1⟩ ⟨Bx, hBx, hbx, rfl⟩ hlt
    have hc := hv.cell
    obtain ⟨f0, f1⟩ := hbx.cells
    clear hr hl1
    gi_wp2_with (gi_at_builtin; refine wpListIn_append_own _ rfl _ _ 30 rfl w.heap.size 23 i0 (.agg #[.int .i64 0, .int .i64 0]) 2 16 Tryd.underlying30 hi hz0 hz1 hz2 rfl (by decide) _ _ _ rfl (hrow.alloc _) ⟨W.heap.size, 0, none⟩ 1 1 (cells [x]) rfl rfl (cells_new W (cells [x]) 23) (cells_one _) (by unfold maxLen; omega) (by omega) (by have := hB1.size; simp; omega) ?_; intro v' w1 hown' hgrow _; obtain ⟨g', cap', rfl⟩ := ownsRow_succ hown'; obtain ⟨hv1, hv2, hr2, hk2, hb2⟩ := hv.appended (by decide) hrow hB1.size (Nat.le_refl _) hown' hgrow; have hc1 := hv1.cell; have hf1 := hv1.frozen)
    exact ⟨hk2.from _, Kept.below hb2 (fun _ h => h), ⟨_, hv2, by rw [cells_append, List.length_append]; simpa using hr2, trivial⟩, hB1.trans hb2⟩
  case done =>
    rintro D ys W hD rfl ⟨⟨v, hv, hrow, _⟩, hB1⟩ hK
    have hc := hv.cell
    gi_wp2
    refine ⟨by simp, .inl ⟨_, _, rfl, run_takeDeferred hK, ?_⟩⟩
    exact ⟨_, results_tmp rfl _ _ _, v, rfl, ⟨ownsRow_putObj hrow _ hK rfl, hB1.trans (belowK_b (w := w) (Nat.le_refl _) W D _ _ (by simp at hD; omega) hK rfl rfl)⟩⟩
  case stop =>
    rintro D c pre W _ _ h _
    exact h.elim

set_option maxHeartbeats 1000000 in
theorem collect_any (A B : Nat) (a b : List (Int × Int)) (oa ob : Option Addr) (ca cb : Nat) (w : World)
    (hA : A < w.heap.size) (hB : B < w.heap.size) (hcA : w.cell? ⟨A, 0, none⟩ = some (.slice oa a.length ca)) (hcB : w.cell? ⟨B, 0, none⟩ = some (.slice ob b.length cb))
    (ha : Sl (fun k => k < w.heap.size) w (.slice oa a.length ca) a) (hb : Sl (fun k => k < w.heap.size) w (.slice ob b.length cb) b) (hl : (cmn a b).length ≤ 4000000) :
    Calls Tryd.prog 42 #[.func (.func 67) #[] #[.pointer (some ⟨A, 0, none⟩), .pointer (some ⟨B, 0, none⟩)]] w fun e W' => ∃ v, e = .returned v ∧ ApT w (cmn a b) v W' := by
  have h := callsIn_wide.1 (appendSeq_in A B a b oa ob ca cb w hA hB hcA hcB ha hb hl)
  have H := Lib.hid h
  clear h ha hb hcA hcB hl
  go_enter Tryd.func42, Tryd.ntmps42
  go_wp2_with fail
  refine H.out.mono ?_
  rintro e w1 ⟨v, rfl, h1⟩
  have H1 := Lib.hid h1
  clear h1 H
  go_wp2
  go_ret
  exact ⟨_, rfl, H1.out⟩

set_option maxHeartbeats 1000000 in
theorem common_any (u v : Value) (w : World) (hu : ∃ a n c, u = .slice a n c) (hv : ∃ a n c, v = .slice a n c) :
    Calls Tryd.prog 52 #[u, v] w fun e w' => e = .returned (.func (.func 67) #[] #[.pointer (some ⟨w.heap.size, 0, none⟩), .pointer (some ⟨w.heap.size + 1, 0, none⟩)]) ∧ w' = (w.alloc (.cells #[u] 30)).alloc (.cells #[v] 30) := by
  obtain ⟨a, n, c, rfl⟩ := hu
  obtain ⟨a', n', c', rfl⟩ := hv
  go_enter Tryd.func52, Tryd.ntmps52
  go_wp2
  go_ret
  exact ⟨rfl, rfl⟩

theorem nr_i64 {x : List (Int × Int)} (h : Nr (-1) x) : ∀ s ∈ x, I64 s.1 ∧ I64 s.2 := by
  intro s hs
  have := nr_of x (-1) h s hs
  unfold I64
  omega

/-- The last two steps of Intersect and Minus. -/
theorem parts_any (x y : List (Int × Int)) (u v : Value) (w : World) (hx : Sl (fun k => k < w.heap.size) w u x) (hy : Sl (fun k => k < w.heap.size) w v y) (hl : (cmn x y).length ≤ 4000000) :
    Calls Tryd.prog 42 #[.func (.func 67) #[] #[.pointer (some ⟨w.heap.size, 0, none⟩), .pointer (some ⟨w.heap.size + 1, 0, none⟩)]] ((w.alloc (.cells #[u] 30)).alloc (.cells #[v] 30)) fun e W' => ∃ z, e = .returned z ∧ ApT w (cmn x y) z W' := by
  have hb : Below w.heap.size w ((w.alloc (.cells #[u] 30)).alloc (.cells #[v] 30)) := ball (ball (Below.refl _ _) _) _
  obtain ⟨ou, cu, rfl⟩ := hx.shape
  obtain ⟨ov, cv, rfl⟩ := hy.shape
  refine (collect_any w.heap.size (w.heap.size + 1) x y ou ov cu cv _ (by simp; omega) (by simp) ?_ ?_ (hx.on hb) (hy.on hb) hl).mono ?_
  · rw [World.cell?_alloc_some _ _ _ (by rw [cell_of_row _ w.heap.size 0 _ 30 (0, 0) (heap_alloc_new w _)]; rfl), cell_of_row _ w.heap.size 0 _ 30 (0, 0) (heap_alloc_new w _)]; rfl
  · have h := heap_alloc_new (w.alloc (.cells #[.slice ou x.length cu] 30)) (.cells #[.slice ov y.length cv] 30)
    rw [World.size_alloc] at h
    rw [cell_of_row _ (w.heap.size + 1) 0 _ 30 (0, 0) h]; rfl
  · rintro e W' ⟨z, rfl, hz⟩
    exact ⟨z, rfl, hz.weaken hb⟩

set_option maxRecDepth 100000 in
set_option maxHeartbeats 1000000 in
theorem intersect_any (a b : List (Int × Int)) (oa ob : Option Addr) (ca cb : Nat) (w : World) (ha : Sl (fun k => k < w.heap.size) w (.slice oa a.length ca) a) (hb : Sl (fun k => k < w.heap.size) w (.slice ob b.length cb) b) (hl : a.length ≤ 1000000 ∧ b.length ≤ 1000000) :
    Calls Tryd.prog 38 #[.slice oa a.length ca, .slice ob b.length cb] w fun e w' => ∃ v, e = .returned v ∧ ApT w (cmn (norm a) (norm b)) v w' := by
  have h1 := normal_any a oa ca w ha (by omega)
  have h2 : ∀ w1, Below w.heap.size w w1 → Calls Tryd.prog 41 #[.slice ob b.length cb] w1 fun e w' => ∃ v, e = .returned v ∧ ApT w1 (norm b) v w' := fun w1 hw => normal_any b ob cb w1 (hb.on hw) (by omega)
  have hna := norm_length a
  have hnb := norm_length b
  have hcl := cmn_length (norm_nr a) (norm_nr b)
  have hi := nr_i64 (norm_nr a)
  have hi2 := nr_i64 (norm_nr b)
  have H1 := Lib.hid h1; have H2 := Lib.hid h2; have HI := Lib.hid hi; have HI2 := Lib.hid hi2
  obtain ⟨x, hx⟩ : ∃ x, x = norm a := ⟨_, rfl⟩
  obtain ⟨y, hy⟩ : ∃ y, y = norm b := ⟨_, rfl⟩
  rw [← hx] at H1 HI hna hcl ⊢
  rw [← hy] at H2 HI2 hnb hcl ⊢
  clear h1 h2 hi hi2 ha hb hx hy
  go_enter Tryd.func38, Tryd.ntmps38
  go_wp2_with fail
  refine H1.out.mono ?_
  rintro e w1 ⟨v1, rfl, hA1⟩
  have HA1 := Lib.hid hA1
  have H3 := Lib.hid (H2.out w1 hA1.below)
  clear hA1 H1 H2
  go_wp2_with fail
  refine H3.out.mono ?_
  rintro e w2 ⟨v2, rfl, hA2⟩
  have hs1 := (HA1.out.sl2 HI.out (by omega)).on hA2.below
  have hs2 := hA2.sl2 HI2.out (by omega)
  have hb2 := HA1.out.below.trans (hA2.below.mono HA1.out.below.size)
  have H4 := Lib.hid (common_any v1 v2 w2 ⟨_, _, _, hs1.shape.choose_spec.choose_spec⟩ ⟨_, _, _, hs2.shape.choose_spec.choose_spec⟩)
  have H5 := Lib.hid (parts_any x y v1 v2 w2 hs1 hs2 (by omega))
  have HB2 := Lib.hid hb2
  clear hA2 H3 HA1 hs1 hs2 hb2
  go_wp2_with fail
  refine H4.out.mono ?_
  rintro e w3 ⟨rfl, rfl⟩
  clear H4
  go_wp2_with fail
  refine H5.out.mono ?_
  rintro e w4 ⟨v4, rfl, hA4⟩
  have HA4 := Lib.hid (hA4.weaken HB2.out)
  clear hA4 H5 HB2
  go_wp2
  go_ret
  exact ⟨_, rfl, HA4.out⟩

end Go.Proofs.YtciopemodfpecaaDoor
