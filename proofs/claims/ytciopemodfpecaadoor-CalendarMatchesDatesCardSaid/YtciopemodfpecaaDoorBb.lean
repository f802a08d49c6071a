/-
  Slices of spans of the call's own: appends, a store into an element.
-/
import Derived.Test.YtciopemodfpecaaDoorBa
namespace Go.Proofs.YtciopemodfpecaaDoor
open Go.RowKit
set_option linter.unusedVariables false
set_option linter.unusedSimpArgs false

theorem cells_new (w : World) (cs : List Value) (t : TypeId) : ∀ j u, cs[j]? = some u → (w.alloc (.cells cs.toArray t)).cell? ((⟨w.heap.size, 0, none⟩ : Addr).add j) = some u := by
  intro j u hj
  have e : (⟨w.heap.size, 0, none⟩ : Addr).add j = ⟨w.heap.size, j, none⟩ := by unfold Addr.add; split <;> simp_all
  rw [e, World.cell?, heap_alloc_new w]
  simpa using hj

theorem grow2 {a b c : World} {r r' : Option Nat} (h : a.grownBy b r) (k : b.grownBy c r') (hr : r' = r ∨ ∃ g, r' = some g ∧ a.heap.size ≤ g) : a.grownBy c r := by
  refine ⟨k.os.trans h.os, k.tape.trans h.tape, k.output.trans h.output, Nat.le_trans h.size k.size, fun i hi hne => ?_⟩
  refine (k.block i (Nat.lt_of_lt_of_le hi h.size) ?_).trans (h.block i hi hne)
  rcases hr with rfl | ⟨g, rfl, hg⟩
  · exact hne
  · intro e; simp at e; omega

/-- Under way: the slice v holds the spans l, of the call's own, in blocks from base on. -/
structure ApT (w : World) (l : List (Int × Int)) (v : Value) (wr : World) : Prop where
  own : wr.ownsRow w.heap.size 23 2 v l.length (cells l)
  below : Below w.heap.size w wr
theorem ApT.nil (w : World) : ApT w [] (.slice none 0 0) w := ⟨World.ownsRow_nil _ _ _ _, Below.refl _ _⟩
theorem ApT.call {w wr w2 : World} {l : List (Int × Int)} {v : Value} (h : ApT w l v wr) (hb : Below wr.heap.size wr w2) : ApT w l v w2 := by
  refine ⟨h.own.kept (row := none) ⟨hb.os, hb.tape, hb.output, hb.size, fun i hi _ => hb.block i hi⟩ (by cases hx : v.ownBlock <;> simp), h.below.trans (hb.mono h.below.size)⟩
theorem ApT.alloc {w wr : World} {l : List (Int × Int)} {v : Value} (h : ApT w l v wr) (o : Obj) : ApT w l v (wr.alloc o) := h.call (ball (Below.refl _ _) o)
theorem ApT.drew {w wr : World} {l : List (Int × Int)} {v : Value} (h : ApT w l v wr) : ApT w l v wr.drew := h.call (Below.drew (Below.refl _ _))
theorem ApT.drewN {w wr : World} {l : List (Int × Int)} {v : Value} (h : ApT w l v wr) (n : Nat) : ApT w l v (wr.drewN n) := h.call (bdrewN (Below.refl _ _) n)
theorem ApT.weaken {w w1 wr : World} {l : List (Int × Int)} {v : Value} (h : ApT w1 l v wr) (hb : Below w.heap.size w w1) : ApT w l v wr := by
  refine ⟨⟨h.own.1, ?_⟩, hb.trans (h.below.mono hb.size)⟩
  rcases h.own.2 with h0 | ⟨g, cap, cr, hv, hg, rest⟩
  · exact .inl h0
  · exact .inr ⟨g, cap, cr, hv, Nat.le_trans hb.size hg, rest⟩
theorem ApT.shape {w wr : World} {l : List (Int × Int)} {v : Value} (h : ApT w l v wr) : ∃ a c, v = .slice a l.length c ∧ l.length ≤ c := by
  rcases h.own.2 with ⟨h00, h0⟩ | ⟨g, cap, cr, rfl, hb, hh, hn2, hm, hs, ht⟩
  · exact ⟨none, 0, by rw [h00, h0], by omega⟩
  · exact ⟨_, cap, rfl, hn2⟩

theorem ApT.ne {w wr : World} {l : List (Int × Int)} {v : Value} (h : ApT w l v wr) (k : Nat) (hk : wr.heap.size ≤ k) : v.ownBlock ≠ some k := by
  intro e
  have := (h.own.lt k e).2
  omega

/-- append(v, s), the new element in a block of its own. -/
theorem ApT.push {w wr : World} {l : List (Int × Int)} {v : Value} (h : ApT w l v wr) (x y : Int) (hn : l.length ≤ 4000000) :
    ∃ v' w', (Builtin.append_ #[30, 30] 30 #[v, .slice (some ⟨wr.heap.size, 0, none⟩) 1 1]).run Tryd.prog (wr.alloc (.cells #[.int .i64 x, .int .i64 y] 23)) = .ok v' w' ∧ ApT w (l ++ [(x, y)]) v' w' ∧
      ∀ k, k < wr.heap.size → v.ownBlock ≠ some k → w'.heap[k]? = wr.heap[k]? := by
  obtain ⟨i0, hi, hz0, hz1, hz2⟩ := info_parts Tryd.info23
  have ho := h.own.alloc (.cells #[.int .i64 x, .int .i64 y] 23)
  obtain ⟨v', w', hr, h2, h3, h4⟩ := run_append_own (P := Tryd.prog) (wr.alloc (.cells #[.int .i64 x, .int .i64 y] 23)) w.heap.size 30 30 23 i0 _ 2 16 Tryd.underlying30 hi hz0 hz1 hz2 rfl (by decide) v l.length (cells l) ho
    ⟨wr.heap.size, 0, none⟩ 1 1 (cells [(x, y)]) rfl (cells_new wr (cells [(x, y)]) 23) (cells_one _) (by unfold maxLen; omega) (by omega) (by have := h.below.size; simp; omega)
  refine ⟨v', w', hr, ⟨?_, ?_⟩, fun k hk hne => (grow2 (World.grownBy_alloc wr _ v.ownBlock) h3 (Or.inl rfl)).block k hk hne.symm⟩
  · rw [cells_append, List.length_append]
    exact h2
  · exact h.below.grown (grow2 (World.grownBy_alloc wr _ v.ownBlock) h3 (Or.inl rfl)) h.below.size (fun k hk => (h.own.lt k hk).1)

/-- What the call owns, as a list of spans. -/
theorem ApT.sl {w wr : World} {l : List (Int × Int)} {v : Value} (h : ApT w l v wr) (hI : ∀ s ∈ l, I64 s.1 ∧ I64 s.2) (hn : l.length ≤ 4000000) : Sl (fun k => w.heap.size ≤ k ∧ k < wr.heap.size) wr v l := by
  rcases h.own.2 with ⟨h00, h0⟩ | ⟨g, cap, cr, rfl, hb, hh, hn2, hm, hs, ht⟩
  · refine ⟨by omega, hI, none, 0, ?_, by omega, fun hp => by omega⟩
    rw [h00, h0]
  · refine ⟨by omega, hI, some ⟨g, 0, none⟩, cap, rfl, hn2, fun _ => ⟨g, 0, rfl, ⟨hb, (Array.getElem?_eq_some_iff.1 hh).1⟩, fun j s hj => ?_⟩⟩
    obtain ⟨e1, e2⟩ := cells_get l j s hj
    rw [← ht, List.getElem?_take] at e1 e2
    rw [cell_of_row wr g _ cr 23 (0, 0) hh, cell_of_row wr g _ cr 23 (0, 0) hh, Nat.zero_add]
    constructor
    · split at e1
      · simpa using e1
      · cases e1
    · split at e2
      · simpa using e2
      · cases e2
theorem ApT.sl2 {w wr : World} {l : List (Int × Int)} {v : Value} (h : ApT w l v wr) (hI : ∀ s ∈ l, I64 s.1 ∧ I64 s.2) (hn : l.length ≤ 4000000) : Sl (fun k => k < wr.heap.size) wr v l := (h.sl hI hn).kept (fun _ _ => rfl) (fun _ hk => hk.2)

/-- The last element of the slice: its cells; and what a store of its end makes. -/
theorem ApT.last {w wr : World} {l : List (Int × Int)} {a : Option Addr} {n c : Nat} {x y : Int} (h : ApT w (l ++ [(x, y)]) (.slice a n c) wr) :
    ∃ g, a = some ⟨g, 0, none⟩ ∧ g < wr.heap.size ∧ n = l.length + 1 ∧ wr.cell? ⟨g, l.length * 2, none⟩ = some (.int .i64 x) ∧ wr.cell? ⟨g, l.length * 2 + 1, none⟩ = some (.int .i64 y) ∧ wr.frozen? ⟨g, l.length * 2 + 1, none⟩ = false ∧ n ≤ c ∧
      ∀ z, ApT w (l ++ [(x, z)]) (.slice a n c) (wr.setCell ⟨g, l.length * 2 + 1, none⟩ (.int .i64 z)) := by
  rcases h.own.2 with ⟨h00, h0⟩ | ⟨g, cap, cr, hv, hb, hh, hn2, hm, hs, ht⟩
  · simp at h0
  · simp only [Value.slice.injEq] at hv
    obtain ⟨rfl, rfl, rfl⟩ := hv
    simp only [List.length_append, List.length_cons, List.length_nil, Nat.zero_add] at *
    have hcl := cells_length l
    have hsz : (l.length + 1) * 2 ≤ cr.size := by rw [hs]; exact Nat.mul_le_mul_right 2 hn2
    have e0 : cells (l ++ [(x, y)]) = cells l ++ [.int .i64 x, .int .i64 y] := by rw [cells_append]; rfl
    have c0 : (cr.toList.take ((l.length + 1) * 2))[l.length * 2]? = some (.int .i64 x) := by
      rw [ht, e0, List.getElem?_append_right (by omega), hcl]; simp
    have c1 : (cr.toList.take ((l.length + 1) * 2))[l.length * 2 + 1]? = some (.int .i64 y) := by
      rw [ht, e0, List.getElem?_append_right (by omega), hcl]; simp
    rw [List.getElem?_take_of_lt (by omega)] at c0 c1
    have k1 := cell_of_row wr g (l.length * 2 + 1) cr 23 (0, 0) hh
    refine ⟨g, by simp, (Array.getElem?_eq_some_iff.1 hh).1, by simp, ?_, ?_, ?_, hn2, fun z => ?_⟩
    · rw [cell_of_row wr g _ cr 23 (0, 0) hh]; simpa using c0
    · rw [k1]; simpa using c1
    · simp [World.frozen?, hh]
    · refine ⟨⟨by rw [cells_length], .inr ⟨g, c, _, by simp, hb, heap_setCell_same wr g (l.length * 2 + 1) cr 23 _ hh, by simpa using hn2, hm, by simpa using hs, ?_⟩⟩, h.below.setCell hb _⟩
      simp only [List.length_append, List.length_cons, List.length_nil, Nat.zero_add, Array.toList_setIfInBounds]
      rw [List.take_set, ht, e0, cells_append, List.set_append_right _ _ (by omega), hcl]
      simp [cells]
end Go.Proofs.YtciopemodfpecaaDoor
