/-
  What a law knows of the world that has grown from its own: calendars, lists of spans, the table.
-/
import Derived.Test.YtciopemodfpecaaDoorSo
import Derived.Test.YtciopemodfpecaaDoorMa
namespace Go.Proofs.YtciopemodfpecaaDoor
open Go.RowKit
set_option linter.unusedVariables false
set_option linter.unusedSimpArgs false

/-- Known calendars and lists of a world that has grown from w. -/
structure Kw (w : World) (C : List (Array Value × List (Int × Int) × List Int)) (M : List (Value × List (Int × Int))) (w' : World) : Prop where
  below : Below w.heap.size w w'
  mok : MOk w'
  cal : ∀ y ∈ C, Cal (fun k => k < w'.heap.size) w' y.1 y.2.1 y.2.2
  all : ∀ y ∈ M, SW w' y.1 y.2
theorem Kw.call {w w' w2 : World} {C : List (Array Value × List (Int × Int) × List Int)} {M : List (Value × List (Int × Int))} (h : Kw w C M w') (hb : Below w'.heap.size w' w2) : Kw w C M w2 :=
  ⟨h.below.trans (hb.mono h.below.size), h.mok.below hb, fun y hy => (h.cal y hy).on hb, fun y hy => (h.all y hy).on hb⟩
theorem Kw.laid {w w' : World} {C : List (Array Value × List (Int × Int) × List Int)} {M : List (Value × List (Int × Int))} (h : Kw w C M w') (o : Obj) : Kw w C M (w'.alloc o) := h.call (ball (Below.refl _ _) _)
theorem Kw.also {w w' w2 : World} {C : List (Array Value × List (Int × Int) × List Int)} {M : List (Value × List (Int × Int))} {v : Value} {l : List (Int × Int)} (h : Kw w C M w') (hb : Below w'.heap.size w' w2) (hs : SW w2 v l) : Kw w C ((v, l) :: M) w2 := by
  have h2 := h.call hb
  refine ⟨h2.below, h2.mok, h2.cal, fun y hy => ?_⟩
  rcases List.mem_cons.1 hy with rfl | hy
  · exact hs
  · exact h2.all y hy
theorem Kw.alsoC {w w' w2 : World} {C : List (Array Value × List (Int × Int) × List Int)} {M : List (Value × List (Int × Int))} {cs : Array Value} {op : List (Int × Int)} {hol : List Int} (h : Kw w C M w') (hb : Below w'.heap.size w' w2) (hs : Cal (fun k => k < w2.heap.size) w2 cs op hol) : Kw w ((cs, op, hol) :: C) M w2 := by
  have h2 := h.call hb
  refine ⟨h2.below, h2.mok, fun y hy => ?_, h2.all⟩
  rcases List.mem_cons.1 hy with rfl | hy
  · exact hs
  · exact h2.cal y hy
theorem Kw.get {w w' : World} {C : List (Array Value × List (Int × Int) × List Int)} {M : List (Value × List (Int × Int))} (h : Kw w C M w') (v : Value) (l : List (Int × Int)) (hm : (v, l) ∈ M) : SW w' v l := h.all (v, l) hm
theorem Kw.getC {w w' : World} {C : List (Array Value × List (Int × Int) × List Int)} {M : List (Value × List (Int × Int))} (h : Kw w C M w') (cs : Array Value) (op : List (Int × Int)) (hol : List Int) (hm : (cs, op, hol) ∈ C) : Cal (fun k => k < w'.heap.size) w' cs op hol := h.cal (cs, op, hol) hm
theorem Kw.nil {w : World} (hk : MOk w) : Kw w [] [] w := ⟨Below.refl _ _, hk, by simp, by simp⟩

theorem cellA {W : World} {p : Addr} {v : Value} (o : Obj) (h : W.cell? p = some v) : (W.alloc o).cell? p = some v := by rw [World.cell?_alloc_some _ _ _ (by rw [h]; rfl), h]
theorem rowA {W : World} {b : Nat} {x : Obj} (o : Obj) (h : W.heap[b]? = some x) : (W.alloc o).heap[b]? = some x := (heap_alloc_old _ _ ((Array.getElem?_eq_some_iff.1 h).1)).trans h
theorem ltA {W : World} {b : Nat} (o : Obj) (h : b < W.heap.size) : b < (W.alloc o).heap.size := by rw [World.size_alloc]; omega

section
variable {w : World} {u v : Value} {a b : List (Int × Int)}
theorem union_s (ha : SW w u a) (hb : SW w v b) (hl : a.length + b.length ≤ 1900) : Calls Tryd.prog 35 #[u, v] w fun e w' => ∃ x, e = .returned x ∧ Below w.heap.size w w' ∧ SW w' x (uniL a b) := by
  obtain ⟨o, c, rfl⟩ := ha.shape
  obtain ⟨o', c', rfl⟩ := hb.shape
  exact (union_any a b o o' c c' w ha hb hl).mono fun e w' ⟨x, he, h⟩ => ⟨x, he, h.out (uni_nr a b) (by have := uni_length a b; unfold uniL at this; omega)⟩
theorem intersect_s (ha : SW w u a) (hb : SW w v b) (hl : a.length ≤ 1000 ∧ b.length ≤ 1000) : Calls Tryd.prog 38 #[u, v] w fun e w' => ∃ x, e = .returned x ∧ Below w.heap.size w w' ∧ SW w' x (intL a b) := by
  obtain ⟨o, c, rfl⟩ := ha.shape
  obtain ⟨o', c', rfl⟩ := hb.shape
  exact (intersect_any a b o o' c c' w ha hb (by omega)).mono fun e w' ⟨x, he, h⟩ => ⟨x, he, ApT.out (l := intL a b) h (int_nr a b) (by have := int_length a b; omega)⟩
theorem lists_s (ha : SW w u a) (hb : SW w v b) (r : Bool) (hr : r = decide (a = b)) : Calls Tryd.prog 21 #[u, v] w fun e w' => e = .returned (.bool r) ∧ Below w.heap.size w w' := by
  obtain ⟨o, c, rfl⟩ := ha.shape
  obtain ⟨o', c', rfl⟩ := hb.shape
  subst hr
  exact same_any a b o o' c c' w ha hb
theorem schk_s (ha : SW w u a) (r : Int) (hr : r = chk (-1) a) : Calls Tryd.prog 34 #[u] w fun e w' => e = .returned (.int .i64 r) ∧ Below w.heap.size w w' := by
  obtain ⟨o, c, rfl⟩ := ha.shape
  subst hr
  exact check_any a o c w ha
theorem minutes_s (ha : SW w u a) (hl : a.length ≤ 1000) (r : Int) (hr : r = tot (norm a)) : Calls Tryd.prog 33 #[u] w fun e w' => e = .returned (.int .i64 r) ∧ Below w.heap.size w w' := by
  obtain ⟨o, c, rfl⟩ := ha.shape
  subst hr
  exact minutes_any a o c w ha (by omega)
theorem advance_s (ha : SW w u a) (hl : a.length ≤ 1000) (f n : Int) (hf : I64 f) (hn : I64 n) (m : Int) (ok : Bool) (hm : m = advM (ahead a f) f n) (ho : ok = advB (ahead a f) n) : Calls Tryd.prog 32 #[u, .int .i64 f, .int .i64 n] w fun e w' => e = .returned (.tuple #[.int .i64 m, .bool ok]) ∧ Below w.heap.size w w' := by
  obtain ⟨o, c, rfl⟩ := ha.shape
  subst hm ho
  exact advance_any a o c f n w ha (by omega) hf hn
theorem contains_s (ha : SW w u a) (m : Int) (r : Bool) (hr : r = inB a m) : Calls Tryd.prog 36 #[u, .int .i64 m] w fun e w' => e = .returned (.bool r) ∧ Below w.heap.size w w' := by
  obtain ⟨o, c, rfl⟩ := ha.shape
  subst hr
  exact contains_any a m o c w ha
end
end Go.Proofs.YtciopemodfpecaaDoor
