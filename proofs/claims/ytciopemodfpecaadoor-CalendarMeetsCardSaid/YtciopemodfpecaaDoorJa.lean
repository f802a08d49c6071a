/-
  The memory of 'both', under way: the two calendars, the result, the calendar that is built and its holidays' row.
-/
import Derived.Test.YtciopemodfpecaaDoorKw
import Derived.Deep.CutRange
namespace Go.Proofs.YtciopemodfpecaaDoor
open Go.RowKit
set_option linter.unusedVariables false
set_option linter.unusedSimpArgs false

def ints (l : List Int) : List Value := l.map fun x => Value.int .i64 x
theorem Tryd.info3 : (Tryd.prog.info? 3).map (fun i => (i.zero, i.size, i.bytes)) = some (some (.int .i64 0), 1, 8) := by kernel_rfl

theorem row_set {w : World} {g : Nat} {cs : Array Value} {t : TypeId} {fr : Nat × Nat} (h : w.heap[g]? = some (.cells cs t fr)) (off : Nat) (v : Value) : (w.setCell ⟨g, off, none⟩ v).heap[g]? = some (.cells (cs.setIfInBounds off v) t fr) := by
  unfold World.setCell
  simp [Array.getElem?_modify, h]
theorem row_other {w : World} {g b : Nat} (off : Nat) (v : Value) (hne : g ≠ b) : (w.setCell ⟨b, off, none⟩ v).heap[g]? = w.heap[g]? := by
  unfold World.setCell
  simp only [Array.getElem?_modify]
  rw [if_neg (fun e => hne e.symm)]
theorem size_set (w : World) (a : Addr) (v : Value) : (w.setCell a v).heap.size = w.heap.size := by simp [World.setCell]
theorem grown_set (w : World) (b off : Nat) (v : Value) : w.grownBy (w.setCell ⟨b, off, none⟩ v) (some b) :=
  ⟨rfl, rfl, rfl, by rw [size_set]; exact Nat.le_refl _, fun i hi hne => row_other off v (fun e => hne (by rw [e]))⟩
theorem frozen_row {w : World} {g : Nat} {cs : Array Value} {t : TypeId} (h : w.heap[g]? = some (.cells cs t (0, 0))) (off : Nat) : w.frozen? ⟨g, off, none⟩ = false := by
  unfold World.frozen?
  simp [h]

/-- Under way in 'both'. -/
structure Bo (w : World) (cs cs' z : Array Value) (opx : List (Int × Int)) (l : List Int) (v : Value) (wr : World) : Prop where
  below : Below w.heap.size w wr
  size : w.heap.size + 4 ≤ wr.heap.size
  c : wr.heap[w.heap.size]? = some (.cells cs 27 (0, 0))
  d : wr.heap[w.heap.size + 1]? = some (.cells cs' 27 (0, 0))
  r : wr.heap[w.heap.size + 1 + 1]? = some (.cells z 27 (0, 0))
  x : wr.heap[w.heap.size + 1 + 1 + 1]? = some (.cells (cells opx ++ [v]).toArray 27 (0, 0))
  own : wr.ownsRow (w.heap.size + 4) 3 1 v l.length (ints l)
section
variable {w wr : World} {cs cs' z : Array Value} {opx : List (Int × Int)} {l : List Int} {v : Value}
theorem Bo.call {w2 : World} (h : Bo w cs cs' z opx l v wr) (hb : Below wr.heap.size wr w2) : Bo w cs cs' z opx l v w2 := by
  have hs := h.size
  exact ⟨h.below.trans (hb.mono h.below.size), Nat.le_trans h.size hb.size, (hb.block _ (by omega)).trans h.c, (hb.block _ (by omega)).trans h.d, (hb.block _ (by omega)).trans h.r, (hb.block _ (by omega)).trans h.x,
    h.own.kept (row := none) ⟨hb.os, hb.tape, hb.output, hb.size, fun i hi _ => hb.block i hi⟩ (by cases hx : v.ownBlock <;> simp)⟩
theorem Bo.x14 (h : Bo w cs cs' z opx l v wr) (hl : opx.length = 7) : wr.cell? ⟨w.heap.size + 1 + 1 + 1, 14, none⟩ = some v := by
  rw [cell_of_row wr _ _ _ 27 (0, 0) h.x]
  have : (cells opx).length = 14 := by rw [cells_length, hl]
  simp [this]
theorem Bo.setX (h : Bo w cs cs' z opx l v wr) (off : Nat) (u : Value) (opx' : List (Int × Int)) (l' : List Int) (v' : Value) (hx : (cells opx ++ [v]).toArray.setIfInBounds off u = (cells opx' ++ [v']).toArray)
    (ho : wr.ownsRow (w.heap.size + 4) 3 1 v' l'.length (ints l')) : Bo w cs cs' z opx' l' v' (wr.setCell ⟨w.heap.size + 1 + 1 + 1, off, none⟩ u) := by
  have hs := h.size
  refine ⟨h.below.setCell (p := ⟨w.heap.size + 1 + 1 + 1, off, none⟩) (by simp only; omega) u, by rw [size_set]; exact h.size, (row_other _ _ (by omega)).trans h.c, (row_other _ _ (by omega)).trans h.d, (row_other _ _ (by omega)).trans h.r, ?_, ?_⟩
  · rw [row_set h.x, hx]
  · refine ho.kept (grown_set wr _ off u) ?_
    cases hv : v'.ownBlock with
    | none => exact .inl rfl
    | some k => exact .inr (fun e => by have := (ho.lt k hv).1; simp at e; omega)
set_option maxRecDepth 100000 in
/-- append(x.Holidays, day), and the store. -/
theorem Bo.push (h : Bo w cs cs' z opx l v wr) (hlen : opx.length = 7) (day : Int) (hn : l.length ≤ 2000) :
    ∃ v' w', (Builtin.append_ #[25, 25] 25 #[v, .slice (some ⟨wr.heap.size, 0, none⟩) 1 1]).run Tryd.prog (wr.alloc (.cells #[.int .i64 day] 3)) = .ok v' w' ∧ w'.cell? ⟨w.heap.size + 1 + 1 + 1, 14, none⟩ = some v ∧ w'.frozen? ⟨w.heap.size + 1 + 1 + 1, 14, none⟩ = false ∧
      Bo w cs cs' z opx (l ++ [day]) v' (w'.setCell ⟨w.heap.size + 1 + 1 + 1, 14, none⟩ v') := by
  obtain ⟨i0, hi, hz0, hz1, hz2⟩ := info_parts Tryd.info3
  have hs := h.size
  have ho := h.own.alloc (.cells #[.int .i64 day] 3)
  obtain ⟨v', w', hr, h2, h3, h4⟩ := run_append_own (P := Tryd.prog) (wr.alloc (.cells #[.int .i64 day] 3)) (w.heap.size + 4) 25 25 3 i0 _ 1 8 Tryd.underlying25 hi hz0 hz1 hz2 rfl (by decide) v l.length (ints l) ho
    ⟨wr.heap.size, 0, none⟩ 1 1 [.int .i64 day] rfl (cells_new wr [.int .i64 day] 3) (by intro u hu; simp at hu; subst hu; rfl) (by unfold maxLen; omega) (by omega) (by rw [World.size_alloc]; omega)
  have hg := grow2 (World.grownBy_alloc wr (.cells #[.int .i64 day] 3) v.ownBlock) h3 (Or.inl rfl)
  have hne : ∀ k, k < w.heap.size + 4 → some k ≠ v.ownBlock := fun k hk e => by have := (h.own.lt k e.symm).1; omega
  have hlc : (cells opx).length = 14 := by rw [cells_length, hlen]
  have hx' : w'.heap[w.heap.size + 1 + 1 + 1]? = some (.cells (cells opx ++ [v]).toArray 27 (0, 0)) := (hg.block _ (by omega) (hne _ (by omega))).trans h.x
  have hb' : Below w.heap.size w w' := h.below.grown hg h.below.size (fun k hk => Nat.le_trans (by omega) (h.own.lt k hk).1)
  have hmid : Bo w cs cs' z opx (l ++ [day]) v' (w'.setCell ⟨w.heap.size + 1 + 1 + 1, 14, none⟩ v') := by
    have ho2 : w'.ownsRow (w.heap.size + 4) 3 1 v' (l ++ [day]).length (ints (l ++ [day])) := by
      unfold ints
      rw [List.map_append, List.length_append]
      exact h2
    have hsz := hg.size
    refine ⟨hb'.setCell (p := ⟨w.heap.size + 1 + 1 + 1, 14, none⟩) (by simp only; omega) v', by rw [size_set]; omega, (row_other _ _ (by omega)).trans ((hg.block _ (by omega) (hne _ (by omega))).trans h.c), (row_other _ _ (by omega)).trans ((hg.block _ (by omega) (hne _ (by omega))).trans h.d), (row_other _ _ (by omega)).trans ((hg.block _ (by omega) (hne _ (by omega))).trans h.r), ?_, ?_⟩
    · rw [row_set hx']
      congr 2
      simp [hlc]
    · refine ho2.kept (grown_set w' _ 14 v') ?_
      cases hv : v'.ownBlock with
      | none => exact .inl rfl
      | some k => exact .inr (fun e => by have := (ho2.lt k hv).1; simp at e; omega)
  refine ⟨v', w', hr, ?_, frozen_row hx' 14, hmid⟩
  rw [cell_of_row w' _ _ _ 27 (0, 0) hx']
  simp [hlc]
theorem cells_set : ∀ (l : List (Int × Int)) (k : Nat) (a b : Int), k < l.length → ((cells l).set (k * 2) (.int .i64 a)).set (k * 2 + 1) (.int .i64 b) = cells (l.set k (a, b))
  | [], k, a, b, h => by simp at h
  | s :: t, 0, a, b, h => by simp [cells]
  | s :: t, k + 1, a, b, h => by
    have e : (k + 1) * 2 = k * 2 + 1 + 1 := by omega
    have ih := cells_set t k a b (by simpa using h)
    rw [e]
    simp only [cells, List.set_cons_succ]
    rw [ih]
/-- x.Open[k] = {a, b}. -/
theorem Bo.span (h : Bo w cs cs' z opx l v wr) (hlen : opx.length = 7) (k : Nat) (hk : k < 7) (a b : Int) :
    wr.there (w.heap.size + 1 + 1 + 1) (k * 2) 2 ∧ Bo w cs cs' z (opx.set k (a, b)) l v (wr.setCells (w.heap.size + 1 + 1 + 1) (k * 2) [.int .i64 a, .int .i64 b]) := by
  have hlc : (cells opx).length = 14 := by rw [cells_length, hlen]
  constructor
  · intro j hj
    refine ⟨?_, frozen_row h.x _⟩
    rw [cell_of_row wr _ _ _ 27 (0, 0) h.x]
    have : k * 2 + j < (cells opx ++ [v]).toArray.size := by simp [hlc]; omega
    simp only [Array.getElem?_eq_getElem this, Option.isSome_some]
  · have hs := h.size
    have hrow : (wr.setCells (w.heap.size + 1 + 1 + 1) (k * 2) [.int .i64 a, .int .i64 b]).heap[w.heap.size + 1 + 1 + 1]? = some (.cells (cells (opx.set k (a, b)) ++ [v]).toArray 27 (0, 0)) := by
      show ((wr.setCell ⟨w.heap.size + 1 + 1 + 1, k * 2, none⟩ _).setCell ⟨w.heap.size + 1 + 1 + 1, k * 2 + 1, none⟩ _).heap[_]? = _
      rw [row_set (row_set h.x _ _), ← cells_set opx k a b (by omega)]
      congr 2
      rw [List.setIfInBounds_toArray, List.setIfInBounds_toArray, List.set_append_left _ _ (by omega), List.set_append_left _ _ (by simp; omega)]
    refine ⟨(h.below.setCell (p := ⟨w.heap.size + 1 + 1 + 1, k * 2, none⟩) (by simp only; omega) _).setCell (p := ⟨w.heap.size + 1 + 1 + 1, k * 2 + 1, none⟩) (by simp only; omega) _, ?_, ?_, ?_, ?_, hrow, ?_⟩
    · show _ ≤ ((wr.setCell _ _).setCell _ _).heap.size
      rw [size_set, size_set]; exact h.size
    · exact (row_other _ _ (by omega)).trans ((row_other _ _ (by omega)).trans h.c)
    · exact (row_other _ _ (by omega)).trans ((row_other _ _ (by omega)).trans h.d)
    · exact (row_other _ _ (by omega)).trans ((row_other _ _ (by omega)).trans h.r)
    · have hne : v.ownBlock = none ∨ v.ownBlock ≠ some (w.heap.size + 1 + 1 + 1) := by
        cases hv : v.ownBlock with
        | none => exact .inl rfl
        | some k => exact .inr (fun e => by have := (h.own.lt k hv).1; simp at e; omega)
      exact (h.own.kept (grown_set wr _ _ _) hne).kept (grown_set _ _ _ _) hne
theorem Bo.shape (h : Bo w cs cs' z opx l v wr) : ∃ a c, v = .slice a l.length c := by
  rcases h.own.2 with ⟨h00, h0⟩ | ⟨g, cap, cr, rfl, _⟩
  · exact ⟨none, 0, by rw [h00, h0]⟩
  · exact ⟨_, cap, rfl⟩
/-- The holidays as a list. -/
theorem Bo.hl (h : Bo w cs cs' z opx l v wr) (hI : ∀ x ∈ l, I64 x) (hn : l.length ≤ 2000) : Hl (fun k => w.heap.size + 4 ≤ k ∧ k < wr.heap.size) wr v l := by
  rcases h.own.2 with ⟨h00, h0⟩ | ⟨g, cap, cr, rfl, hb, hh, hn2, hm, hs, ht⟩
  · refine ⟨by omega, hI, none, 0, ?_, by omega, fun hp => by omega⟩
    rw [h00, h0]
  · refine ⟨by omega, hI, some ⟨g, 0, none⟩, cap, rfl, hn2, fun _ => ⟨g, 0, rfl, ⟨hb, (Array.getElem?_eq_some_iff.1 hh).1⟩, fun j s hj => ?_⟩⟩
    have e1 : (ints l)[j]? = some (.int .i64 s) := by unfold ints; rw [List.getElem?_map, hj]; rfl
    rw [← ht, List.getElem?_take] at e1
    rw [cell_of_row wr g _ cr 3 (0, 0) hh, Nat.zero_add]
    split at e1
    · simpa using e1
    · cases e1
theorem Bo.holC {op : List (Int × Int)} {hol : List Int} (h : Bo w cs cs' z opx l v wr) (hc : Cal (fun k => k < w.heap.size) w cs op hol) :
    ∃ a cap, wr.cell? ⟨w.heap.size, 14, none⟩ = some (.slice a hol.length cap) ∧ Hl (fun k => k < wr.heap.size) wr (.slice a hol.length cap) hol := by
  obtain ⟨_, _, a, cap, h1, h2⟩ := hc.box h.c
  exact ⟨a, cap, h1, h2.kept (fun k hk => h.below.block k hk) (fun k hk => Nat.lt_of_lt_of_le hk h.below.size)⟩
theorem Bo.holD {op : List (Int × Int)} {hol : List Int} (h : Bo w cs cs' z opx l v wr) (hc : Cal (fun k => k < w.heap.size) w cs' op hol) :
    ∃ a cap, wr.cell? ⟨w.heap.size + 1, 14, none⟩ = some (.slice a hol.length cap) ∧ Hl (fun k => k < wr.heap.size) wr (.slice a hol.length cap) hol := by
  obtain ⟨_, _, a, cap, h1, h2⟩ := hc.box h.d
  exact ⟨a, cap, h1, h2.kept (fun k hk => h.below.block k hk) (fun k hk => Nat.lt_of_lt_of_le hk h.below.size)⟩
/-- The end: the calendar that is built, behind its store into the result. -/
theorem Bo.done (h : Bo w cs cs' z opx l v wr) (hlen : opx.length = 7) (ho : ∀ s ∈ opx, I64 s.1 ∧ I64 s.2) (hI : ∀ x ∈ l, I64 x) (hn : l.length ≤ 2000) (row : Array Value) :
    Below w.heap.size w (wr.setRow (w.heap.size + 1 + 1) row) ∧ Cal (fun k => k < (wr.setRow (w.heap.size + 1 + 1) row).heap.size) (wr.setRow (w.heap.size + 1 + 1) row) (cells opx ++ [v]).toArray opx l := by
  have hs : (wr.setRow (w.heap.size + 1 + 1) row).heap.size = wr.heap.size := by simp
  refine ⟨bsetRow h.below (by omega) row, hlen, ho, v, rfl, ?_⟩
  refine (h.hl hI hn).kept (fun k hk => setRow_other wr _ k _ (by omega)) (fun k hk => by rw [hs]; exact hk.2)
end
end Go.Proofs.YtciopemodfpecaaDoor
