/-
  Walks: the program's Open and Working.
-/
import Derived.Test.YtciopemodfpecaaDoorLc
import Derived.Test.YtciopemodfpecaaDoorNb
namespace Go.Proofs.YtciopemodfpecaaDoor
open Go.RowKit Go.Shelf
set_option linter.unusedVariables false
set_option linter.unusedSimpArgs false
attribute [local go_sem] Oper.semAt_some

/-- The world with the three boxes of shifts. -/
def WS (w : World) (cs : Array Value) (f t : Int) : World := ((w.alloc (.cells cs 27)).alloc (.cells #[.int .i64 f] 3)).alloc (.cells #[.int .i64 t] 3)
theorem ws_below (w : World) (cs : Array Value) (f t : Int) : Below w.heap.size w (WS w cs f t) := ball (ball (ball (Below.refl _ _) _) _) _
theorem ws_size (w : World) (cs : Array Value) (f t : Int) : (WS w cs f t).heap.size = w.heap.size + 3 := by simp [WS]
theorem ws_c (w : World) (cs : Array Value) (f t : Int) : (WS w cs f t).heap[w.heap.size]? = some (.cells cs 27 (0, 0)) :=
  (heap_alloc_old _ _ (by simp; omega)).trans ((heap_alloc_old _ _ (by simp)).trans (heap_alloc_new w _))
theorem ws_f (w : World) (cs : Array Value) (f t : Int) : (WS w cs f t).cell? ⟨w.heap.size + 1, 0, none⟩ = some (.int .i64 f) := by
  have h := heap_alloc_new (w.alloc (.cells cs 27)) (.cells #[.int .i64 f] 3)
  rw [World.size_alloc] at h
  have h2 : (WS w cs f t).heap[w.heap.size + 1]? = some (.cells #[.int .i64 f] 3 (0, 0)) := (heap_alloc_old _ _ (by simp)).trans h
  rw [cell_of_row _ _ 0 _ 3 (0, 0) h2]; rfl
theorem ws_t (w : World) (cs : Array Value) (f t : Int) : (WS w cs f t).cell? ⟨w.heap.size + 1 + 1, 0, none⟩ = some (.int .i64 t) := by
  have h := heap_alloc_new ((w.alloc (.cells cs 27)).alloc (.cells #[.int .i64 f] 3)) (.cells #[.int .i64 t] 3)
  rw [World.size_alloc, World.size_alloc] at h
  unfold WS
  rw [cell_of_row _ _ 0 _ 3 (0, 0) h]; rfl
theorem shifts_ws (cs : Array Value) (f t : Int) (w : World) :
    Calls Tryd.prog 43 #[.agg cs, .int .i64 f, .int .i64 t] w fun e w' => e = .returned (.func (.func 62) #[] #[.pointer (some ⟨w.heap.size + 1, 0, none⟩), .pointer (some ⟨w.heap.size, 0, none⟩), .pointer (some ⟨w.heap.size + 1 + 1, 0, none⟩)]) ∧ w' = WS w cs f t := shifts_any cs f t w

theorem eR_cases (op : List (Int × Int)) (hol : List Int) (f t : Int) : (eR op hol f t = 0 ∧ okR op hol f t = true) ∨ (eR op hol f t = 1 ∧ okR op hol f t = false) := by
  unfold eR
  cases okR op hol f t
  · exact .inr ⟨rfl, rfl⟩
  · exact .inl ⟨rfl, rfl⟩

theorem rlist_i64 {op : List (Int × Int)} {hol : List Int} {f t : Int} (ho : opOk op) (hf : 0 ≤ f) (ht : t ≤ 1073741824) : ∀ s ∈ rlist op hol f t, I64 s.1 ∧ I64 s.2 := by
  intro s hs
  have := rlist_of ho hf ht s hs
  unfold I64; omega

set_option maxRecDepth 100000 in
set_option maxHeartbeats 4000000 in
theorem open_any (cs : Array Value) (op : List (Int × Int)) (hol : List Int) (f t : Int) (w : World) (h : Cal (fun k => k < w.heap.size) w cs op hol) (hf : I64 f) (ht : I64 t) (E : Int) (L : List (Int × Int)) (hE : E = eR op hol f t) (hL : L = oV op hol f t) :
    Calls Tryd.prog 13 #[.agg cs, .int .i64 f, .int .i64 t] w fun e w' => ∃ v, e = .returned (.tuple #[v, .int .i64 E]) ∧ Below w.heap.size w w' ∧ SW w' v L := by
  have hW : Below w.heap.size w (w.alloc (.cells cs 27)) := ball (Below.refl _ _) _
  have hbox := heap_alloc_new w (.cells cs 27)
  have hsB : w.heap.size < (w.alloc (.cells cs 27)).heap.size := by simp
  have hc := checkRange_any cs op hol f t _ (h.on hW) hf ht E hE
  have HC := Lib.hid hc; have HB := Lib.hid hbox; have HS := Lib.hid h.size; have HW := Lib.hid hW; have HCAL := Lib.hid h
  have hlen := h.len
  clear hc hbox hW h
  generalize hWW : w.alloc (.cells cs 27) = W at *
  rcases eR_cases op hol f t with ⟨e0, hok⟩ | ⟨e1, hok⟩
  · obtain rfl : E = 0 := by rw [hE, e0]
    have hL0 : L = wlist op hol f t := by rw [hL]; unfold oV; rw [if_pos hok]
    obtain ⟨ho, hh, h1, h2, h3⟩ := (okR_iff hlen).1 hok
    have HL := Lib.hid hL0; have HO := Lib.hid ho; have HH := Lib.hid hh
    clear hE hL hL0 e0 hok ho hh hf ht hlen
    go_enter Tryd.func13, Tryd.ntmps13
    go_wp2_with (first | (refine wpList_load_row rfl 27 (.tmp 3) rfl w.heap.size rfl 27 cs (0, 0) _ HB.out Tryd.underlying27 rfl (size27 HS.out) ?_) | (go_at_call 40; refine HC.out.mono ?_; rintro e w1 ⟨rfl, hb1⟩; have HB1 := Lib.hid ((hb1.block w.heap.size hsB).trans HB.out); have HW1 := Lib.hid (HW.out.trans (hb1.mono HW.out.size)); have hb1' := Lib.hid hb1; clear HB HW HC hb1 hWW) | (refine wpList_load_row rfl 27 (.tmp 3) rfl w.heap.size rfl 27 cs (0, 0) _ HB1.out Tryd.underlying27 rfl (size27 HS.out) ?_))
    refine (shifts_ws cs f t w1).mono ?_
    rintro e w2 ⟨rfl, hw2⟩
    have hb2 : Below w1.heap.size w1 w2 := hw2 ▸ ws_below w1 cs f t
    have hz2 : w2.heap.size = w1.heap.size + 3 := by rw [hw2]; exact ws_size _ _ _ _
    have hcal1 := (HCAL.out.on HW1.out).on hb2
    have hcol := scollect_any (w1.heap.size + 1) w1.heap.size (w1.heap.size + 1 + 1) cs op hol f t w2 (by omega) (by omega) (by omega) (by rw [hw2]; exact ws_f _ _ _ _) (by rw [hw2]; exact ws_t _ _ _ _) (by rw [hw2]; exact ws_c _ _ _ _) hcal1 HO.out HH.out h1 h2 h3
    have HW2 := Lib.hid (HW1.out.trans (hb2.mono HW1.out.size))
    have HCOL := Lib.hid hcol
    clear hcal1 hcol hw2 hb2 hz2
    go_wp2_with fail
    refine HCOL.out.mono ?_
    rintro e w3 ⟨v3, rfl, ha3⟩
    have hs3 := ha3.sl2 (rlist_i64 HO.out h1 h3) (by have := rlist_len op hol f t h1 h3; omega)
    obtain ⟨o3, c3, rfl⟩ := hs3.shape
    have hnm := normal_any (rlist op hol f t) o3 c3 w3 hs3 (by have := rlist_len op hol f t h1 h3; omega)
    rw [rlist_norm HO.out h1 h2 h3, ← HL.out] at hnm
    have HNM := Lib.hid hnm
    have HW3 := Lib.hid (HW2.out.trans (ha3.below.mono HW2.out.size))
    have hnr : Nr (-1) L ∧ L.length ≤ 800000 := by rw [HL.out]; exact ⟨(wlist_ok HO.out h1 h2 h3).1, wlist_len op hol f t h1 h3⟩
    have HNR := Lib.hid hnr
    clear ha3 hs3 hnm HCOL hnr
    generalize (rlist op hol f t).length = nR at *
    go_wp2_with fail
    refine HNM.out.mono ?_
    rintro e w4 ⟨v4, rfl, ha4⟩
    have HA4 := Lib.hid ha4
    clear ha4 HNM
    go_wp2
    go_ret2
    exact ⟨_, rfl, HW3.out.trans (HA4.out.below.mono HW3.out.size), HA4.out.sl2 (nr_i64 HNR.out.1) (by have := HNR.out.2; omega)⟩
  · obtain rfl : E = 1 := by rw [hE, e1]
    have hL0 : L = [] := by rw [hL]; unfold oV; rw [if_neg (by rw [hok]; simp)]
    subst hL0
    clear hE hL e1 hok hf ht hlen
    go_enter Tryd.func13, Tryd.ntmps13
    go_wp2_with (first | (refine wpList_load_row rfl 27 (.tmp 3) rfl w.heap.size rfl 27 cs (0, 0) _ HB.out Tryd.underlying27 rfl (size27 HS.out) ?_) | (go_at_call 40; refine HC.out.mono ?_; rintro e w1 ⟨rfl, hb1⟩))
    go_ret2
    exact ⟨_, rfl, HW.out.trans (hb1.mono HW.out.size), sl_nil _ _⟩
end Go.Proofs.YtciopemodfpecaaDoor
