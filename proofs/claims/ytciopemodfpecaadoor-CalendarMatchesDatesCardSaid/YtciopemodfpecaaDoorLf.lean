/-
  Walks: the program's After where nothing is searched.
-/
import Derived.Test.YtciopemodfpecaaDoorLe
import Derived.Test.YtciopemodfpecaaDoorKg
namespace Go.Proofs.YtciopemodfpecaaDoor
open Go.RowKit Go.Shelf
set_option linter.unusedVariables false
set_option linter.unusedSimpArgs false
attribute [local go_sem] Oper.semAt_some

theorem results17 (tmps : Array Value) (w : World) (b1 b2 : Nat) (m e : Int) (h1 : tmps.getD 6 undef = .pointer (some ⟨b1, 0, none⟩)) (h2 : tmps.getD 7 undef = .pointer (some ⟨b2, 0, none⟩))
    (c1 : w.cell? ⟨b1, 0, none⟩ = some (.int .i64 m)) (c2 : w.cell? ⟨b2, 0, none⟩ = some (.int .i64 e)) : (results Tryd.f17 tmps).run Tryd.prog w = .ok (.tuple #[.int .i64 m, .int .i64 e]) w := by
  have h1' : tmps[6]?.getD undef = .pointer (some ⟨b1, 0, none⟩) := by simpa using h1
  have h2' : tmps[7]?.getD undef = .pointer (some ⟨b2, 0, none⟩) := by simpa using h2
  simp [results, Tryd.f17, go_sem, h1', h2', c1, c2]

/-- The world with the four boxes. -/
def W4 (w : World) (cs : Array Value) (n : Int) : World := (((w.alloc (.cells cs 27)).alloc (.cells #[.int .i64 n] 3)).alloc (.cells #[.int .i64 0] 3)).alloc (.cells #[.int .i64 0] 31)
theorem w4_below (w : World) (cs : Array Value) (n : Int) : Below w.heap.size w (W4 w cs n) := ball (ball (ball (ball (Below.refl _ _) _) _) _) _
theorem w4_size (w : World) (cs : Array Value) (n : Int) : (W4 w cs n).heap.size = w.heap.size + 4 := by simp [W4]
theorem w4_c (w : World) (cs : Array Value) (n : Int) : (W4 w cs n).heap[w.heap.size]? = some (.cells cs 27 (0, 0)) :=
  (heap_alloc_old _ _ (by simp; omega)).trans ((heap_alloc_old _ _ (by simp; omega)).trans ((heap_alloc_old _ _ (by simp)).trans (heap_alloc_new w _)))
theorem w4_boxes (w : World) (cs : Array Value) (n : Int) : Boxed (W4 w cs n) (w.heap.size + 1) 3 (.int .i64 n) ∧ Boxed (W4 w cs n) (w.heap.size + 1 + 1) 3 (.int .i64 0) ∧ Boxed (W4 w cs n) (w.heap.size + 1 + 1 + 1) 31 (.int .i64 0) := by
  refine ⟨?_, ?_, ?_⟩
  · have := ((Boxed.new (w.alloc (.cells cs 27)) 3 (.int .i64 n)).alloc (.cells #[.int .i64 0] 3)).alloc (.cells #[.int .i64 0] 31)
    rw [World.size_alloc] at this
    exact this
  · have := (Boxed.new ((w.alloc (.cells cs 27)).alloc (.cells #[.int .i64 n] 3)) 3 (.int .i64 0)).alloc (.cells #[.int .i64 0] 31)
    rw [World.size_alloc, World.size_alloc] at this
    exact this
  · have := Boxed.new (((w.alloc (.cells cs 27)).alloc (.cells #[.int .i64 n] 3)).alloc (.cells #[.int .i64 0] 3)) 31 (.int .i64 0)
    rw [World.size_alloc, World.size_alloc, World.size_alloc] at this
    exact this

set_option maxRecDepth 100000 in
set_option maxHeartbeats 4000000 in
theorem after_small (cs : Array Value) (op : List (Int × Int)) (hol : List Int) (f n : Int) (w : World) (h : Cal (fun k => k < w.heap.size) w cs op hol) (hf : I64 f) (hn : I64 n) (hs : okR op hol f 1073741824 = false ∨ n ≤ 0) (A E : Int) (hA : A = aV op hol f n) (hE : E = aE op hol f n) :
    Calls Tryd.prog 17 #[.agg cs, .int .i64 f, .int .i64 n] w fun e w' => e = .returned (.tuple #[.int .i64 A, .int .i64 E]) ∧ Below w.heap.size w w' := by
  obtain ⟨R, hR⟩ : ∃ R, R = eR op hol f 1073741824 := ⟨_, rfl⟩
  have hc := checkRange_any cs op hol f 1073741824 _ (h.on (w4_below w cs n)) hf (by unfold I64; omega) R hR
  obtain ⟨b1, b2, b3⟩ := w4_boxes w cs n
  have HB := Lib.hid (w4_c w cs n); have HW := Lib.hid (w4_below w cs n); have hz := w4_size w cs n; have HS := Lib.hid h.size
  have HC := Lib.hid hc; have HB1 := Lib.hid b1; have HB2 := Lib.hid b2; have HB3 := Lib.hid b3
  clear hc b1 b2 b3 h
  rcases eR_cases op hol f 1073741824 with ⟨e0, hok⟩ | ⟨e1, hok⟩
  · obtain rfl : R = 0 := by rw [hR, e0]
    have hn0 : n ≤ 0 := by
      rcases hs with h | h
      · rw [hok] at h; cases h
      · exact h
    by_cases hneg : n < 0
    · obtain ⟨q1, q2⟩ := aft_bad (op := op) (hol := hol) (f := f) (n := n) (.inr hneg)
      obtain rfl : A = 0 := by rw [hA, q1]
      obtain rfl : E = 1 := by rw [hE, q2]
      clear hA hE hR hs q1 q2 e0 hok hf hn hn0
      generalize hWW : W4 w cs n = W at *
      unfold W4 at hWW
      go_enter Tryd.func17, Tryd.ntmps17
      go_wp2
      go_step3
      go_wp2_with (first | (refine wpList_load_row rfl 27 (.tmp 3) rfl w.heap.size rfl 27 cs (0, 0) _ HB.out Tryd.underlying27 rfl (size27 HS.out) ?_) | (go_at_call 40; refine HC.out.mono ?_; rintro e w1 ⟨rfl, hb1⟩; have HW1 := Lib.hid (HW.out.trans (hb1.mono HW.out.size)); have X1 : Boxed w1 (w.heap.size + 1) 3 (.int .i64 n) := (hb1.block _ (by omega)).trans HB1.out; have X2 : Boxed w1 (w.heap.size + 1 + 1) 3 (.int .i64 0) := (hb1.block _ (by omega)).trans HB2.out; have X3 : Boxed w1 (w.heap.size + 1 + 1 + 1) 31 (.int .i64 0) := (hb1.block _ (by omega)).trans HB3.out; have hc1 := X1.cell; have hf1 := X1.frozen; have hc2 := X2.cell; have hf2 := X2.frozen; have hc3 := X3.cell; have hf3 := X3.frozen; clear HB HW HC HB1 HB2 HB3 hb1 hWW hz))
      rw [Exit.noGoto_ret]
      have Y2 := ((X2.other (B' := w.heap.size + 1 + 1 + 1) (by omega) (.int .i64 0)).set (.int .i64 0)).other (B' := w.heap.size + 1 + 1 + 1) (by omega) (.int .i64 1)
      have Y3 := ((X3.set (.int .i64 0)).other (B' := w.heap.size + 1 + 1) (by omega) (.int .i64 0)).set (.int .i64 1)
      refine bodyPost_ret (results17 _ _ (w.heap.size + 1 + 1) (w.heap.size + 1 + 1 + 1) 0 1 rfl rfl Y2.cell Y3.cell) rfl ?_
      exact ⟨rfl, ((HW1.out.setCell (p := ⟨w.heap.size + 1 + 1 + 1, 0, none⟩) (by simp; omega) _).setCell (p := ⟨w.heap.size + 1 + 1, 0, none⟩) (by simp; omega) _).setCell (p := ⟨w.heap.size + 1 + 1 + 1, 0, none⟩) (by simp; omega) _⟩
    · obtain rfl : n = 0 := by omega
      obtain ⟨q1, q2⟩ := aft_zero (op := op) (hol := hol) (f := f) hok
      obtain rfl : A = f := by rw [hA, q1]
      obtain rfl : E = 0 := by rw [hE, q2]
      clear hA hE hR hs q1 q2 e0 hok hf hn hn0 hneg
      generalize hWW : W4 w cs 0 = W at *
      unfold W4 at hWW
      go_enter Tryd.func17, Tryd.ntmps17
      go_wp2
      go_step3
      go_wp2_with (first | (refine wpList_load_row rfl 27 (.tmp 3) rfl w.heap.size rfl 27 cs (0, 0) _ HB.out Tryd.underlying27 rfl (size27 HS.out) ?_) | (go_at_call 40; refine HC.out.mono ?_; rintro e w1 ⟨rfl, hb1⟩; have HW1 := Lib.hid (HW.out.trans (hb1.mono HW.out.size)); have X1 : Boxed w1 (w.heap.size + 1) 3 (.int .i64 0) := (hb1.block _ (by omega)).trans HB1.out; have X2 : Boxed w1 (w.heap.size + 1 + 1) 3 (.int .i64 0) := (hb1.block _ (by omega)).trans HB2.out; have X3 : Boxed w1 (w.heap.size + 1 + 1 + 1) 31 (.int .i64 0) := (hb1.block _ (by omega)).trans HB3.out; have hc1 := X1.cell; have hf1 := X1.frozen; have hc2 := X2.cell; have hf2 := X2.frozen; have hc3 := X3.cell; have hf3 := X3.frozen; clear HB HW HC HB1 HB2 HB3 hb1 hWW hz))
      rw [Exit.noGoto_ret]
      have Y2 := ((X2.other (B' := w.heap.size + 1 + 1 + 1) (by omega) (.int .i64 0)).set (.int .i64 A)).other (B' := w.heap.size + 1 + 1 + 1) (by omega) (.int .i64 0)
      have Y3 := ((X3.set (.int .i64 0)).other (B' := w.heap.size + 1 + 1) (by omega) (.int .i64 A)).set (.int .i64 0)
      refine bodyPost_ret (results17 _ _ (w.heap.size + 1 + 1) (w.heap.size + 1 + 1 + 1) A 0 rfl rfl Y2.cell Y3.cell) rfl ?_
      exact ⟨rfl, ((HW1.out.setCell (p := ⟨w.heap.size + 1 + 1 + 1, 0, none⟩) (by simp; omega) _).setCell (p := ⟨w.heap.size + 1 + 1, 0, none⟩) (by simp; omega) _).setCell (p := ⟨w.heap.size + 1 + 1 + 1, 0, none⟩) (by simp; omega) _⟩
  · obtain ⟨q1, q2⟩ := aft_bad (op := op) (hol := hol) (f := f) (n := n) (.inl hok)
    obtain rfl : A = 0 := by rw [hA, q1]
    obtain rfl : E = 1 := by rw [hE, q2]
    obtain rfl : R = 1 := by rw [hR, e1]
    clear hA hE hR hs q1 q2 e1 hok hf hn
    generalize hWW : W4 w cs n = W at *
    unfold W4 at hWW
    go_enter Tryd.func17, Tryd.ntmps17
    go_wp2
    go_step3
    go_wp2_with (first | (refine wpList_load_row rfl 27 (.tmp 3) rfl w.heap.size rfl 27 cs (0, 0) _ HB.out Tryd.underlying27 rfl (size27 HS.out) ?_) | (go_at_call 40; refine HC.out.mono ?_; rintro e w1 ⟨rfl, hb1⟩; have HW1 := Lib.hid (HW.out.trans (hb1.mono HW.out.size)); have X1 : Boxed w1 (w.heap.size + 1) 3 (.int .i64 n) := (hb1.block _ (by omega)).trans HB1.out; have X2 : Boxed w1 (w.heap.size + 1 + 1) 3 (.int .i64 0) := (hb1.block _ (by omega)).trans HB2.out; have X3 : Boxed w1 (w.heap.size + 1 + 1 + 1) 31 (.int .i64 0) := (hb1.block _ (by omega)).trans HB3.out; have hc1 := X1.cell; have hf1 := X1.frozen; have hc2 := X2.cell; have hf2 := X2.frozen; have hc3 := X3.cell; have hf3 := X3.frozen; clear HB HW HC HB1 HB2 HB3 hb1 hWW hz))
    go_region
    go_wp2
    rw [Exit.noGoto_ret]
    have Y2 := ((X2.other (B' := w.heap.size + 1 + 1 + 1) (by omega) (.int .i64 1)).set (.int .i64 0)).other (B' := w.heap.size + 1 + 1 + 1) (by omega) (.int .i64 1)
    have Y3 := ((X3.set (.int .i64 1)).other (B' := w.heap.size + 1 + 1) (by omega) (.int .i64 0)).set (.int .i64 1)
    refine bodyPost_ret (results17 _ _ (w.heap.size + 1 + 1) (w.heap.size + 1 + 1 + 1) 0 1 rfl rfl (cellDrew Y2.cell) (cellDrew Y3.cell)) rfl ?_
    exact ⟨rfl, (((HW1.out.setCell (p := ⟨w.heap.size + 1 + 1 + 1, 0, none⟩) (by simp; omega) _).setCell (p := ⟨w.heap.size + 1 + 1, 0, none⟩) (by simp; omega) _).setCell (p := ⟨w.heap.size + 1 + 1 + 1, 0, none⟩) (by simp; omega) _).drew⟩
end Go.Proofs.YtciopemodfpecaaDoor
