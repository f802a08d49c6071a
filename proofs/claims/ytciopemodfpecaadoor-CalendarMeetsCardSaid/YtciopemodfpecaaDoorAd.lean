/-
  Walks: Advance.
-/
import Derived.Test.YtciopemodfpecaaDoorIb
namespace Go.Proofs.YtciopemodfpecaaDoor
open Go.RowKit Go.Shelf
set_option linter.unusedVariables false
set_option linter.unusedSimpArgs false
attribute [local go_sem] Oper.semAt_some

/-- What Advance returns, of the common parts R. -/
def advM (R : List (Int × Int)) (from' n : Int) : Int := if n < 0 then 0 else if n = 0 then from' else (adv R n).getD 0
def advB (R : List (Int × Int)) (n : Int) : Bool := if n < 0 then false else if n = 0 then true else (adv R n).isSome

theorem adv_go (pre : List (Int × Int)) (n v : Int) (x : Int × Int) (h : ∀ suf, adv (pre ++ suf) n = adv suf v) (hx : ¬ v ≤ x.2 - x.1) : ∀ suf, adv (pre ++ [x] ++ suf) n = adv suf (v - (x.2 - x.1)) := by
  intro suf
  rw [List.append_assoc, h]
  simp only [List.singleton_append, adv]
  rw [if_neg hx]
theorem adv_stop (pre : List (Int × Int)) (n v : Int) (x : Int × Int) (h : ∀ suf, adv (pre ++ suf) n = adv suf v) (hx : v ≤ x.2 - x.1) : ∀ suf, adv (pre ++ [x] ++ suf) n = some (x.1 + v) := by
  intro suf
  rw [List.append_assoc, h]
  simp only [List.singleton_append, adv]
  rw [if_pos hx]

theorem results25 (tmps : Array Value) (w : World) (b1 b2 : Nat) (m : Int) (ok : Bool) (h1 : tmps.getD 6 undef = .pointer (some ⟨b1, 0, none⟩)) (h2 : tmps.getD 7 undef = .pointer (some ⟨b2, 0, none⟩))
    (c1 : w.cell? ⟨b1, 0, none⟩ = some (.int .i64 m)) (c2 : w.cell? ⟨b2, 0, none⟩ = some (.bool ok)) : (results Tryd.f32 tmps).run Tryd.prog w = .ok (.tuple #[.int .i64 m, .bool ok]) w := by
  have h1' : tmps[6]?.getD undef = .pointer (some ⟨b1, 0, none⟩) := by simpa using h1
  have h2' : tmps[7]?.getD undef = .pointer (some ⟨b2, 0, none⟩) := by simpa using h2
  simp [results, Tryd.f32, go_sem, h1', h2', c1, c2]

/-- The world with the three boxes. -/
def W3 (w : World) (n m : Int) (ok : Bool) : World := ((w.alloc (.cells #[.int .i64 n] 3)).alloc (.cells #[.int .i64 m] 3)).alloc (.cells #[.bool ok] 4)
theorem w3_boxes (w : World) (n m : Int) (ok : Bool) : Boxed (W3 w n m ok) w.heap.size 3 (.int .i64 n) ∧ Boxed (W3 w n m ok) (w.heap.size + 1) 3 (.int .i64 m) ∧ Boxed (W3 w n m ok) (w.heap.size + 1 + 1) 4 (.bool ok) := by
  refine ⟨((Boxed.new w 3 _).alloc _).alloc _, ?_, ?_⟩
  · have := (Boxed.new (w.alloc (.cells #[.int .i64 n] 3)) 3 (.int .i64 m)).alloc (.cells #[.bool ok] 4)
    rw [World.size_alloc] at this
    exact this
  · have := Boxed.new ((w.alloc (.cells #[.int .i64 n] 3)).alloc (.cells #[.int .i64 m] 3)) 4 (.bool ok)
    rw [World.size_alloc, World.size_alloc] at this
    exact this
theorem w3_below (w : World) (n m : Int) (ok : Bool) : Below w.heap.size w (W3 w n m ok) := ball (ball (ball (Below.refl _ _) _) _) _
theorem w3_size (w : World) (n m : Int) (ok : Bool) : (W3 w n m ok).heap.size = w.heap.size + 3 := by simp [W3]

set_option maxRecDepth 100000 in
set_option maxHeartbeats 1000000 in
theorem advance_small (R : List (Int × Int)) (u : Value) (f n : Int) (w : World) (hu : ∃ a n c, u = .slice a n c) (h : n ≤ 0) :
    Calls Tryd.prog 32 #[u, .int .i64 f, .int .i64 n] w fun e w' => e = .returned (.tuple #[.int .i64 (advM R f n), .bool (advB R n)]) ∧ Below w.heap.size w w' := by
  obtain ⟨a, m, c, rfl⟩ := hu
  by_cases h0 : n < 0
  · unfold advM advB
    rw [if_pos h0, if_pos h0]
    obtain ⟨_, b1, b2⟩ := w3_boxes w n 0 false
    go_enter Tryd.func32, Tryd.ntmps32
    go_wp2
    refine bodyPost_ret (results25 _ (W3 w n 0 false) (w.heap.size + 1) (w.heap.size + 1 + 1) 0 false rfl rfl b1.cell b2.cell) rfl ?_
    exact ⟨rfl, w3_below w n 0 false⟩
  · have hn : n = 0 := by omega
    subst hn
    unfold advM advB
    rw [if_neg h0, if_neg h0, if_pos rfl, if_pos rfl]
    obtain ⟨_, b1, b2⟩ := w3_boxes w 0 f true
    go_enter Tryd.func32, Tryd.ntmps32
    go_wp2
    refine bodyPost_ret (results25 _ (W3 w 0 f true) (w.heap.size + 1) (w.heap.size + 1 + 1) f true rfl rfl b1.cell b2.cell) rfl ?_
    exact ⟨rfl, w3_below w 0 f true⟩

set_option maxRecDepth 100000 in
set_option maxHeartbeats 2000000 in
theorem advance_pos (l : List (Int × Int)) (oa : Option Addr) (ca : Nat) (f n : Int) (w : World) (hv : Sl (fun k => k < w.heap.size) w (.slice oa l.length ca) l) (hl : l.length ≤ 1000000) (hf : I64 f) (hn : I64 n) (h : 0 < n) :
    CallsIn Fence.wide 4 Tryd.prog 32 #[.slice oa l.length ca, .int .i64 f, .int .i64 n] w fun e w' =>
      e = .returned (.tuple #[.int .i64 (advM (cmn (norm l) (norm [(f, 1073741824)])) f n), .bool (advB (cmn (norm l) (norm [(f, 1073741824)])) n)]) ∧ Below w.heap.size w w' := by
  obtain ⟨x, hx⟩ : ∃ x, x = norm l := ⟨_, rfl⟩
  obtain ⟨y, hy⟩ : ∃ y, y = norm [(f, 1073741824)] := ⟨_, rfl⟩
  have hnx := norm_nr l
  have hny := norm_nr [(f, 1073741824)]
  have hlx := norm_length l
  have hly := norm_length [(f, 1073741824)]
  have hnorm1 : ∀ w1 v, Below w.heap.size w w1 → Sl (fun k => k < w1.heap.size) w1 v [(f, 1073741824)] → Calls Tryd.prog 41 #[v] w1 fun e w' => ∃ v', e = .returned v' ∧ ApT w1 y v' w' := by
    intro w1 v _ hs
    obtain ⟨a, c, rfl⟩ := hs.shape
    rw [hy]
    exact normal_any _ a c w1 hs (by simp)
  have hnorm2 : ∀ w1, Below w.heap.size w w1 → Calls Tryd.prog 41 #[.slice oa l.length ca] w1 fun e w' => ∃ v', e = .returned v' ∧ ApT w1 x v' w' := by
    intro w1 hw
    rw [hx]
    exact normal_any l oa ca w1 (hv.on hw) (by omega)
  rw [← hx] at hnx hlx ⊢
  rw [← hy] at hny hly ⊢
  have hR := cmn_nr hnx hny
  have hRl := cmn_length hnx hny
  have HX := Lib.hid (nr_i64 hnx); have HY := Lib.hid (nr_i64 hny); have HN1 := Lib.hid hnorm1; have HN2 := Lib.hid hnorm2; have HR := Lib.hid hR
  have hlx2 : x.length ≤ 1000000 := by omega
  have hly2 : y.length ≤ 1 := by simpa using hly
  obtain ⟨na, hna⟩ : ∃ na, na = l.length := ⟨_, rfl⟩
  rw [← hna] at HN2 ⊢
  obtain ⟨R, hRR⟩ : ∃ R, R = cmn x y := ⟨_, rfl⟩
  rw [← hRR] at HR ⊢
  have HRR := Lib.hid hRR
  clear hnorm1 hnorm2 hx hy hnx hny hlx hly hR hv hl hna hRR
  have hd1 : decide (n < 0) = false := decide_eq_false (by omega)
  have hd2 : (n == 0) = false := by simp; omega
  refine callsIn_of_wp_marks Tryd.func32 rfl trivial ?_ rfl
  simp only [Tryd.ntmps32, List.size_toArray, List.length_cons, List.length_nil, Nat.reduceAdd, Nat.reduceSub, Array.replicate_succ, Array.replicate_zero, List.push_toArray, List.append_toArray, List.nil_append, List.cons_append]
  gi_wp2_with fail
  obtain ⟨b0, b1, b2⟩ := w3_boxes w n 0 false
  have hsz := w3_size w n 0 false
  have hbw := w3_below w n 0 false
  change _ ∧ CallsIn _ _ _ _ _ ((W3 w n 0 false).alloc _) _
  generalize W3 w n 0 false = W0 at *
  have hs8 : Sl (fun k => k < (W0.alloc (.cells #[.int .i64 f, .int .i64 1073741824] 23)).heap.size) (W0.alloc (.cells #[.int .i64 f, .int .i64 1073741824] 23)) (.slice (some ⟨w.heap.size + 1 + 1 + 1, 0, none⟩) 1 1) [(f, 1073741824)] := by
    have := sl_lit W0 [(f, 1073741824)] 1 #[.int .i64 f, .int .i64 1073741824] 23 rfl (by simp) (by simp [hf]; unfold I64; omega) rfl
    rw [hsz] at this
    exact this.kept (fun _ _ => rfl) (fun k hk => hk.2)
  have hbw1 : Below w.heap.size w (W0.alloc (.cells #[.int .i64 f, .int .i64 1073741824] 23)) := hbw.alloc hbw.size _
  refine ⟨trivial, ?_⟩
  refine (callsIn_wide.2 (HN1.out _ _ hbw1 hs8)).mono ?_
  rintro e w2 ⟨v8, rfl, h8⟩
  have hbw2 : Below w.heap.size w w2 := hbw1.trans (h8.below.mono hbw1.size)
  have h8' : ApT W0 y v8 w2 := h8.weaken (ball (Below.refl _ _) _)
  have hn2 := HN2.out w2 hbw2
  have H8 := Lib.hid h8'
  clear h8 h8' hs8 hbw1 HN1 HN2
  gi_wp2_with fail
  refine ⟨trivial, ?_⟩
  refine (callsIn_wide.2 hn2).mono ?_
  rintro e w3 ⟨v21, rfl, h21⟩
  have h21' : ApT W0 x v21 w3 := h21.weaken H8.out.below
  have hs21 := h21'.sl HX.out (by omega)
  have hs8 := (H8.out.call h21.below).sl HY.out (by omega)
  have hbw3 : Below w.heap.size w w3 := hbw2.trans (h21.below.mono hbw2.size)
  have hbW3 : Below W0.heap.size W0 w3 := h21'.below
  clear h21 h21' H8 hn2 hbw2
  obtain ⟨o1, c1, rfl⟩ := hs21.shape
  obtain ⟨o2, c2, rfl⟩ := hs8.shape
  gi_wp2_with fail
  refine ⟨trivial, ?_⟩
  refine (callsIn_wide.2 (common_any _ _ w3 ⟨_, _, _, rfl⟩ ⟨_, _, _, rfl⟩)).mono ?_
  rintro e w4 ⟨rfl, rfl⟩
  have hb4 : Below w3.heap.size w3 ((w3.alloc (.cells #[.slice o1 x.length c1] 30)).alloc (.cells #[.slice o2 y.length c2] 30)) := ball (ball (Below.refl _ _) _) _
  have hs4 : ((w3.alloc (.cells #[.slice o1 x.length c1] 30)).alloc (.cells #[.slice o2 y.length c2] 30)).heap.size = w3.heap.size + 2 := by simp
  have hA : ((w3.alloc (.cells #[.slice o1 x.length c1] 30)).alloc (.cells #[.slice o2 y.length c2] 30)).cell? ⟨w3.heap.size, 0, none⟩ = some (.slice o1 x.length c1) := ((Boxed.new w3 30 _).alloc _).cell
  have hB : ((w3.alloc (.cells #[.slice o1 x.length c1] 30)).alloc (.cells #[.slice o2 y.length c2] 30)).cell? ⟨w3.heap.size + 1, 0, none⟩ = some (.slice o2 y.length c2) := by
    have := (Boxed.new (w3.alloc (.cells #[.slice o1 x.length c1] 30)) 30 (.slice o2 y.length c2)).cell
    rw [World.size_alloc] at this
    exact this
  have hs3 := hbW3.size
  have k0 : Boxed _ w.heap.size 3 (.int .i64 n) := (hb4.block _ (by omega)).trans ((hbW3.block _ b0.lt).trans b0)
  have k1 : Boxed _ (w.heap.size + 1) 3 (.int .i64 0) := (hb4.block _ (by omega)).trans ((hbW3.block _ b1.lt).trans b1)
  have k2 : Boxed _ (w.heap.size + 1 + 1) 4 (.bool false) := (hb4.block _ (by omega)).trans ((hbW3.block _ b2.lt).trans b2)
  have hst := iter_stops (fun k => w.heap.size + 3 ≤ k ∧ k < w3.heap.size + 2) w3.heap.size (w3.heap.size + 1) x y o1 o2 c1 c2 _ ⟨by omega, by omega⟩ ⟨by omega, by omega⟩ (fun k hk => by rw [hs4]; exact hk.2) hA hB
    (hs21.kept (fun k hk => hb4.block k hk.2) (fun k hk => ⟨by have := hk.1; omega, by have := hk.2; omega⟩)) (hs8.kept (fun k hk => hb4.block k hk.2) (fun k hk => ⟨by have := hk.1; omega, by have := hk.2; omega⟩))
  have hbw4 := hbw3.trans (hb4.mono hbw3.size)
  generalize ((w3.alloc (.cells #[.slice o1 x.length c1] 30)).alloc (.cells #[.slice o2 y.length c2] 30)) = w4 at *
  rw [← HRR.out] at hst
  clear hA hB hb4 hbw3 hbW3 b0 b1 b2 hs21 hs8 hbw HX HY HRR
  gi_wp2_with fail
  have hw43 : w.heap.size + 4 ≤ w4.heap.size := by omega
  refine wpIn_rangeFunc_ownH rfl (by decide) (gf := 67) (lb := #[.pointer (some ⟨w3.heap.size, 0, none⟩), .pointer (some ⟨w3.heap.size + 1, 0, none⟩)]) rfl trivial (enters_of Tryd.func67 (by kernel_rfl) rfl)
    hst (fun h k => h.trans k) (keptK_b (fun k hk => by rw [hs4]; exact hk.2)) (Below.refl _ _) (fun _ => rfl)
    (fun pre W => (∃ v, (pre <+: R → v = n - tot pre ∧ 0 < v ∧ ∀ suf, adv (pre ++ suf) n = adv suf v) ∧ Boxed W w.heap.size 3 (.int .i64 v)) ∧ Boxed W (w.heap.size + 1) 3 (.int .i64 0) ∧ Boxed W (w.heap.size + 1 + 1) 4 (.bool false) ∧ Below w.heap.size w W ∧ w4.heap.size ≤ W.heap.size)
    (fun c pre W => (c = .ret ∧ ∃ m, (pre <+: R → ∀ suf, adv (pre ++ suf) n = some m) ∧ Boxed W (w.heap.size + 1) 3 (.int .i64 m) ∧ Boxed W (w.heap.size + 1 + 1) 4 (.bool true)) ∧ Below w.heap.size w W)
    (fun pre X Y row hs hg hr => by
      obtain ⟨⟨v, h1, h2⟩, h3, h4, h5, h6⟩ := hs
      exact ⟨⟨v, h1, boxed_own _ _ (fun (_ : Unit) => Value.int .i64 v) () X Y row h2 hg (fun r e => (hr r e).2)⟩, boxed_own _ _ (fun (_ : Unit) => Value.int .i64 0) () X Y row h3 hg (fun r e => (hr r e).2), boxed_own _ _ (fun (_ : Unit) => Value.bool false) () X Y row h4 hg (fun r e => (hr r e).2),
        ownFrom_below (β := Unit) (Nat.le_refl _) (by omega) () X Y row h5 hg hr, Nat.le_trans h6 hg.size⟩)
    (fun c pre X Y row hs hg hr => by
      obtain ⟨⟨h1, m, h2, h3, h4⟩, h5⟩ := hs
      exact ⟨⟨h1, m, h2, boxed_own _ _ (fun (_ : Unit) => Value.int .i64 m) () X Y row h3 hg (fun r e => (hr r e).2), boxed_own _ _ (fun (_ : Unit) => Value.bool true) () X Y row h4 hg (fun r e => (hr r e).2)⟩,
        ownFrom_below (β := Unit) (Nat.le_refl _) (by omega) () X Y row h5 hg hr⟩)
    ⟨⟨n, fun _ => ⟨by simp [tot], h, fun suf => rfl⟩, k0⟩, k1, k2, hbw4, Nat.le_refl _⟩
    (fun s a' W => ∃ Bx, w.heap.size + 1 + 1 < Bx ∧ Box2 W Bx s ∧ a' = { tmps := #[.slice oa na ca, .int .i64 f, .int .i64 n, undef, undef, .pointer (some ⟨w.heap.size, 0, none⟩), .pointer (some ⟨w.heap.size + 1, 0, none⟩), .pointer (some ⟨w.heap.size + 1 + 1, 0, none⟩), .slice o2 y.length c2, .pointer (some ⟨Bx, 0, none⟩), undef, .int .i64 n, .bool false, .int .i64 n, .bool false, undef, .int .i64 f, .agg #[.int .i64 f, .int .i64 1073741824], .slice (some ⟨w.heap.size + 1 + 1 + 1, 0, none⟩) 1 1, .slice o2 y.length c2, .slice oa na ca, .slice o1 x.length c1, .slice o2 y.length c2, .func (.func 67) #[] #[.pointer (some ⟨w3.heap.size, 0, none⟩), .pointer (some ⟨w3.heap.size + 1, 0, none⟩)], .agg #[.int .i64 s.1, .int .i64 s.2], undef, undef, undef, undef, undef, undef, undef, undef, undef, undef, undef, undef, undef, undef, undef], defers := [] })
    (fun s a' _ X Y row hs hg hr => by obtain ⟨Bx, h1, h2, h3⟩ := hs; exact ⟨Bx, h1, box2_own () X Y row h2 hg (fun r e => (hr r e).2), h3⟩)
    ?assign ?body ?done ?stop
  case assign =>
    rintro l pre s W K ⟨⟨v, h1, b0⟩, b1, b2, hB1, hW4⟩ hK
    dsimp only [encY]
    gi_wp2
    exact hK _ _ ((KeepsOthers.alloc _ _).from _) ((Kept.refl _ W).trans ⟨by simp, fun k hk => heap_alloc_old _ _ k (by omega)⟩) ⟨⟨v, h1, b0.alloc _⟩, b1.alloc _, b2.alloc _, hB1.alloc hB1.size _, by simp; omega⟩ ⟨W.heap.size, b2.lt, Box2.new W s, rfl⟩
  case body =>
    rintro l pre s a' W hl1 hr ⟨⟨v, h1, b0⟩, b1, b2, hB1, hW4⟩ ⟨Bx, hBx, hbx, rfl⟩ hlt
    obtain ⟨f0, f1⟩ := hbx.cells
    have hc0 := b0.cell
    have hf0 := b0.frozen
    have hc1 := b1.cell
    have hf1 := b1.frozen
    have hc2 := b2.cell
    have hf2 := b2.frozen
    clear hr hl1
    have key : pre ++ [s] <+: R → (0 ≤ s.1 ∧ s.1 < s.2 ∧ s.2 ≤ 1073741824) ∧ v = n - tot pre ∧ 0 < v ∧ ∀ suf, adv (pre ++ suf) n = adv suf v := by
      intro hp
      have hm : s ∈ R := hp.subset (by simp)
      have h2 := nr_of R (-1) HR.out s hm
      exact ⟨⟨by omega, h2.2.1, h2.2.2⟩, h1 ((List.prefix_append pre [s]).trans hp)⟩
    have KEY := Lib.hid key
    clear key h1
    gi_wp2
    · rename_i hle
      refine ⟨((KeepsOthers.setCell _ _ _).trans (KeepsOthers.setCell _ _ _)).from _, ⟨rfl, _, fun hp suf => ?_, (b1.set _).other (by omega) _, (b2.other (by omega) _).set _⟩, (hB1.setCell (p := ⟨w.heap.size + 1, 0, none⟩) (by simp) _).setCell (p := ⟨w.heap.size + 1 + 1, 0, none⟩) (by simp; omega) _⟩
      obtain ⟨⟨g1, g2, g3⟩, g4, g5, g6⟩ := KEY.out hp
      have e1 : wrap64 (s.2 - s.1) = s.2 - s.1 := IntWalk.wrap64_in _ (by omega)
      rw [e1] at hle
      have e2 : wrap64 (s.1 + v) = s.1 + v := IntWalk.wrap64_in _ (by omega)
      rw [e2]
      exact adv_stop pre n v s g6 hle suf
    · rename_i hle
      refine ⟨(KeepsOthers.setCell _ _ _).from _, ⟨by simp, fun k hk => heap_setCell_other _ _ _ _ (by simp only; omega)⟩, ⟨_, fun hp => ?_, b0.set _⟩, b1.other (by omega) _, b2.other (by omega) _, hB1.setCell (p := ⟨w.heap.size, 0, none⟩) (Nat.le_refl _) _, by simp; omega⟩
      obtain ⟨⟨g1, g2, g3⟩, g4, g5, g6⟩ := KEY.out hp
      have e1 : wrap64 (s.2 - s.1) = s.2 - s.1 := IntWalk.wrap64_in _ (by omega)
      rw [e1] at hle
      have hn2 : n ≤ 9223372036854775807 := hn.2
      have ht : 0 ≤ tot pre := by
        obtain ⟨suf, hs⟩ := (List.prefix_append pre [s]).trans hp
        have := HR.out
        rw [← hs, nr_append] at this
        exact (tot_range this.1).1
      have e2 : wrap64 (v - (s.2 - s.1)) = v - (s.2 - s.1) := IntWalk.wrap64_in _ (by omega)
      rw [e1, e2]
      refine ⟨by rw [tot_append]; simp only [tot]; omega, by omega, adv_go pre n v s g6 (by omega)⟩
  case done =>
    rintro D ys W hD rfl ⟨⟨v, h1, b0⟩, b1, b2, hB1, hW4⟩ hK
    obtain ⟨g4, g5, g6⟩ := h1 (List.prefix_refl _)
    have hnone : adv ys n = none := by
      have := g6 []
      rw [List.append_nil] at this
      rw [this]; rfl
    have hM : advM ys f n = 0 := by unfold advM; rw [if_neg (by omega), if_neg (by omega), hnone]; rfl
    have hBo : advB ys n = false := by unfold advB; rw [if_neg (by omega), if_neg (by omega), hnone]; rfl
    have hc1 := b1.cell
    have hf1 := b1.frozen
    have hc2 := b2.cell
    have hf2 := b2.frozen
    have HM := Lib.hid hM; have HBo := Lib.hid hBo
    clear h1 g4 g5 g6 hnone hM hBo
    gi_wp2
    have d1 := (b1.set (.int .i64 0)).other (B' := w.heap.size + 1 + 1) (by omega) (.bool false)
    have d2 := (b2.other (B' := w.heap.size + 1) (by omega) (.int .i64 0)).set (.bool false)
    have hBl := (hB1.setCell (p := ⟨w.heap.size + 1, 0, none⟩) (by simp) (.int .i64 0)).setCell (p := ⟨w.heap.size + 1 + 1, 0, none⟩) (by simp; omega) (.bool false)
    have hK' := ((KeepsOthers.setCell W ⟨w.heap.size + 1, 0, none⟩ (.int .i64 0)).trans (KeepsOthers.setCell _ ⟨w.heap.size + 1 + 1, 0, none⟩ (.bool false))).same D _ hK rfl
    refine ⟨by simp, .inl ⟨_, _, rfl, run_takeDeferred hK', ?_⟩⟩
    have e1 := cell_kept d1.cell (grownBy_putObj' _ D (.deferred none)) (fun r e => by cases e; exact ⟨_, hK', rfl⟩)
    have e2 := cell_kept d2.cell (grownBy_putObj' _ D (.deferred none)) (fun r e => by cases e; exact ⟨_, hK', rfl⟩)
    exact ⟨_, results25 _ _ (w.heap.size + 1) (w.heap.size + 1 + 1) 0 false rfl rfl e1 e2, by rw [HM.out, HBo.out], hBl.trans (belowK_b (w := w) (Nat.le_refl _) _ D _ _ (by omega) hK' rfl rfl)⟩
  case stop =>
    rintro D c pre W hD hpre ⟨⟨rfl, m, h2, b1, b2⟩, hB1⟩ hK
    obtain ⟨suf, hsuf⟩ := hpre
    have hsome := h2 ⟨suf, hsuf⟩ suf
    rw [hsuf] at hsome
    have hM : advM R f n = m := by unfold advM; rw [if_neg (by omega), if_neg (by omega), hsome]; rfl
    have hBo : advB R n = true := by unfold advB; rw [if_neg (by omega), if_neg (by omega), hsome]; rfl
    gi_wp2
    refine ⟨by simp, .inl ⟨_, _, rfl, run_takeDeferred hK, ?_⟩⟩
    have e1 := cell_kept b1.cell (grownBy_putObj' _ D (.deferred none)) (fun r e => by cases e; exact ⟨_, hK, rfl⟩)
    have e2 := cell_kept b2.cell (grownBy_putObj' _ D (.deferred none)) (fun r e => by cases e; exact ⟨_, hK, rfl⟩)
    exact ⟨_, results25 _ _ (w.heap.size + 1) (w.heap.size + 1 + 1) m true rfl rfl e1 e2, by rw [hM, hBo], hB1.trans (belowK_b (w := w) (Nat.le_refl _) W D _ _ (by omega) hK rfl rfl)⟩

/-- Advance's contract. -/
theorem advance_any (l : List (Int × Int)) (oa : Option Addr) (ca : Nat) (f n : Int) (w : World) (hv : Sl (fun k => k < w.heap.size) w (.slice oa l.length ca) l) (hl : l.length ≤ 1000000) (hf : I64 f) (hn : I64 n) :
    Calls Tryd.prog 32 #[.slice oa l.length ca, .int .i64 f, .int .i64 n] w fun e w' =>
      e = .returned (.tuple #[.int .i64 (advM (cmn (norm l) (norm [(f, 1073741824)])) f n), .bool (advB (cmn (norm l) (norm [(f, 1073741824)])) n)]) ∧ Below w.heap.size w w' := by
  rcases Int.lt_or_le 0 n with h | h
  · exact callsIn_wide.1 (advance_pos l oa ca f n w hv hl hf hn h)
  · exact advance_small _ _ f n w ⟨_, _, _, rfl⟩ h
end Go.Proofs.YtciopemodfpecaaDoor
