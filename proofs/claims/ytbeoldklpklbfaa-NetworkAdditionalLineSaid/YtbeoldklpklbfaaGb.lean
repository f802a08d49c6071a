/-
  Slices of ints of the call's own; the lists of neighbours in memory.
-/
import Derived.Test.YtbeoldklpklbfaaGa
namespace Go.Proofs.Ytbeoldklpklbfaa
open Go.RowKit
set_option linter.unusedVariables false
set_option linter.unusedSimpArgs false

/-- The values of ints. -/
def cI (l : List Int) : List Value := l.map (Value.int .i64)
theorem cI_length (l : List Int) : (cI l).length = l.length := List.length_map ..
theorem cI_append (x y : List Int) : cI (x ++ y) = cI x ++ cI y := List.map_append ..
theorem cI_get (l : List Int) (j : Nat) : (cI l)[j]? = (l[j]?).map (Value.int .i64) := List.getElem?_map ..
theorem cI_one (l : List Int) : ∀ u ∈ cI l, u.oneCell' = true := by
  intro u hu
  obtain ⟨x, _, rfl⟩ := List.mem_map.1 hu
  rfl
theorem info3' : (Try.prog.info? 3).map (fun i => (i.zero, i.size, i.bytes)) = some (some (.int .i64 0), 1, 8) := by kernel_rfl
theorem cells_new1 (w : World) (cs : List Value) (t : TypeId) (j : Nat) (u : Value) (h : cs[j]? = some u) : (w.alloc (.cells cs.toArray t)).cell? ⟨w.heap.size, j, none⟩ = some u := by
  rw [cell_of_row _ w.heap.size j cs.toArray t (0, 0) (heap_alloc_new _ _)]
  simpa using h

/-- The walk's step of an append of ints. -/
theorem wp_appi {P : Program} {ops : Array Oper} {rest : List Oper} {o : Oper} {a : Act} {Q : Exit → Act → World → Prop} (hP : P = Try.prog) (hgd : o.guard = none) (hty : o.type = 29) (s x : Operand)
    (ho : o.op = .call { callee := .builtin .append, args := #[s, x], argTypes := #[29, 29] }) {w : World} {v u v' : Value} {w' : World} (hs : a.eval s = v) (hx : a.eval x = u)
    (hr : (Builtin.append_ #[29, 29] 29 #[v, u]).run Try.prog w = .ok v' w') (hk : wpList P ops Q rest (a.put o.dst v') w') : wpList P ops Q (o :: rest) a w := by
  subst hP
  refine wpList_plain hgd fun K hK => ?_
  unfold Oper.wp execOp
  simp only [ho, hty, resolve, invoke, builtin, Sem.run_bind, Sem.run_pure, Result.andThen_ok, List.map_toArray, List.map_cons, List.map_nil, hs, hx, hr]
  exact hK _ _ hk
theorem wp_appO {o : Oper} {a : Act} {w : World} {K : Act → World → Prop} {Q : Exit → Act → World → Prop} (hty : o.type = 29) (s x : Operand)
    (ho : o.op = .call { callee := .builtin .append, args := #[s, x], argTypes := #[29, 29] }) {v u v' : Value} {w' : World} (hs : a.eval s = v) (hx : a.eval x = u)
    (hr : (Builtin.append_ #[29, 29] 29 #[v, u]).run Try.prog w = .ok v' w') (hk : K (a.put o.dst v') w') : o.wp Try.prog a w K Q := by
  unfold Oper.wp execOp
  simp only [ho, hty, resolve, invoke, builtin, Sem.run_bind, Sem.run_pure, Result.andThen_ok, List.map_toArray, List.map_cons, List.map_nil, hs, hx, hr]
  exact hk
theorem grow2 {a b c : World} {r r' : Option Nat} (h : a.grownBy b r) (k : b.grownBy c r') (hr : r' = r ∨ ∃ g, r' = some g ∧ a.heap.size ≤ g) : a.grownBy c r := by
  refine ⟨k.os.trans h.os, k.tape.trans h.tape, k.output.trans h.output, Nat.le_trans h.size k.size, fun i hi hne => ?_⟩
  refine (k.block i (Nat.lt_of_lt_of_le hi h.size) ?_).trans (h.block i hi hne)
  rcases hr with rfl | ⟨g, rfl, hg⟩
  · exact hne
  · intro e; simp at e; omega

/-- The slice v holds the ints l, in a block of its own from base on. -/
def Own (base : Nat) (w : World) (v : Value) (l : List Int) : Prop := w.ownsRow base 3 1 v l.length (cI l)
theorem Own.on {base : Nat} {w w' : World} {v : Value} {l : List Int} (h : Own base w v l) (hb : Below w.heap.size w w') : Own base w' v l :=
  World.ownsRow.kept h (row := none) ⟨hb.os, hb.tape, hb.output, hb.size, fun i hi _ => hb.block i hi⟩ (by cases hx : v.ownBlock <;> simp)
theorem Own.shape {base : Nat} {w : World} {v : Value} {l : List Int} (h : Own base w v l) : ∃ a c, v = .slice a l.length c := by
  rcases h.2 with ⟨h00, h0⟩ | ⟨g, cap, cr, rfl, _⟩
  · exact ⟨none, 0, by rw [h00, h0]⟩
  · exact ⟨_, cap, rfl⟩
theorem own_nil (base : Nat) (w : World) : Own base w (.slice none 0 0) [] := ⟨rfl, Or.inl ⟨rfl, rfl⟩⟩
/-- append(v, x), the new element in a block of its own. -/
theorem Own.push {base : Nat} {wr : World} {l : List Int} {v : Value} (h : Own base wr v l) (hbase : base ≤ wr.heap.size) (x : Int) (hn : l.length ≤ 100000000) :
    ∃ v' w', (Builtin.append_ #[29, 29] 29 #[v, .slice (some ⟨wr.heap.size, 0, none⟩) 1 1]).run Try.prog (wr.alloc (.cells #[.int .i64 x] 3)) = .ok v' w' ∧ Own base w' v' (l ++ [x]) ∧
      wr.grownBy w' v.ownBlock ∧ (v'.ownBlock = v.ownBlock ∨ ∃ g, v'.ownBlock = some g ∧ wr.heap.size ≤ g) := by
  obtain ⟨i0, hi, hzz⟩ := Option.map_eq_some_iff.1 info3'
  simp only [Prod.mk.injEq] at hzz
  obtain ⟨hz0, hz1, hz2⟩ := hzz
  have ho := World.ownsRow.alloc h (.cells #[.int .i64 x] 3)
  obtain ⟨v', w', hr, h2, h3, _, h4⟩ := run_append_own_at (P := Try.prog) (wr.alloc (.cells #[.int .i64 x] 3)) base 29 29 3 i0 _ 1 8 Try.underlying29 hi hz0 hz1 hz2 rfl (by decide) v l.length (cI l) ho
    ⟨wr.heap.size, 0, none⟩ 1 1 (cI [x]) rfl (fun j u hj => by
      have e : (⟨wr.heap.size, 0, none⟩ : Addr).add j = ⟨wr.heap.size, j, none⟩ := by unfold Addr.add; split <;> simp_all
      rw [e]
      exact cells_new1 wr [.int .i64 x] 3 j u hj) (cI_one _) (by unfold maxLen; omega) (by omega) (by rw [World.size_alloc]; omega)
  refine ⟨v', w', hr, ?_, grow2 (World.grownBy_alloc wr _ v.ownBlock) h3 (Or.inl rfl), ?_⟩
  · unfold Own
    rw [cI_append, List.length_append]
    exact h2
  · rcases h4 with h4 | h4
    · exact Or.inl h4
    · exact Or.inr ⟨_, h4, by rw [World.size_alloc]; omega⟩
theorem own_new (base : Nat) (w : World) (hb : base ≤ w.heap.size) : Own base (w.alloc (.cells #[] 3)) (.slice (some ⟨w.heap.size, 0, none⟩) 0 0) [] :=
  ⟨rfl, Or.inr ⟨w.heap.size, 0, #[], rfl, hb, heap_alloc_new w _, Nat.le_refl _, by unfold maxLen; omega, rfl, rfl⟩⟩
/-- As a slice of known ints. -/
theorem Own.hl {base : Nat} {w : World} {v : Value} {l : List Int} (h : Own base w v l) (hI : ∀ x ∈ l, I64 x) (hn : l.length ≤ 70368744177664) : Hl (fun k => k < w.heap.size) w v l := by
  rcases h.2 with ⟨h00, h0⟩ | ⟨g, cap, cr, rfl, hb, hh, hn2, hm, hs, ht⟩
  · exact ⟨hn, hI, none, 0, by rw [h00, h0], by omega, fun hp => by omega⟩
  · refine ⟨hn, hI, some ⟨g, 0, none⟩, cap, rfl, hn2, fun _ => ⟨g, 0, rfl, (Array.getElem?_eq_some_iff.1 hh).1, fun j x hj => ?_⟩⟩
    have e1 : (cI l)[j]? = some (.int .i64 x) := by rw [cI_get, hj]; rfl
    rw [← ht, List.getElem?_take] at e1
    rw [cell_of_row w g _ cr 3 (0, 0) hh, Nat.zero_add]
    split at e1
    · simpa using e1
    · cases e1

/-- Places as ints. -/
def ints (L : List Nat) : List Int := L.map fun q : Nat => (q : Int)
theorem ints_append (L M : List Nat) : ints (L ++ M) = ints L ++ ints M := List.map_append ..
theorem ints_length (L : List Nat) : (ints L).length = L.length := List.length_map ..
theorem ints_get (L : List Nat) (j : Nat) : (ints L)[j]? = (L[j]?).map fun q : Nat => (q : Int) := List.getElem?_map ..

/-- The lists of neighbours: block G holds the slices vs, which hold the lists ls; Fo: blocks that are not theirs. -/
structure NrS (base B G n M : Nat) (Fo : Nat → Prop) (nf : Nat → Nat → Prop) (w : World) (vs : Array Value) (ls : List (List Nat)) : Prop where
  hp : w.heap[G]? = some (.cells vs 29 (0, 0))
  sz : vs.size = n
  len : ls.length = n
  row : ∀ (p : Nat) (v : Value) (L : List Nat), vs[p]? = some v → ls[p]? = some L → Own base w v (ints L) ∧ v.ownBlock ≠ some G ∧ v.ownBlock ≠ some B ∧ (∀ X, Fo X → v.ownBlock ≠ some X) ∧ L.length ≤ M ∧ (∀ q ∈ L, q < n) ∧ ∀ q, q ∈ L ↔ nf p q
  ap : ∀ (p p' : Nat) (v v' : Value) (g : Nat), p ≠ p' → vs[p]? = some v → vs[p']? = some v' → v.ownBlock = some g → v'.ownBlock ≠ some g
/-- The map and the lists of neighbours while they are filled. -/
structure GS (w0 : World) (B G n N M : Nat) (Fo : Nat → Prop) (f : Nat → Nat → Option Nat) (nf : Nat → Nat → Prop) (w : World) : Prop where
  below : Below w0.heap.size w0 w
  bG : w0.heap.size ≤ G
  bB : w0.heap.size ≤ B
  mp : Mp w B N f
  fo : ∀ X, Fo X → X < w.heap.size ∧ X ≠ B ∧ X ≠ G
  nr : ∃ vs ls, NrS w0.heap.size B G n M Fo nf w vs ls
section
variable {w0 w : World} {B G n N M : Nat} {Fo : Nat → Prop} {f : Nat → Nat → Option Nat} {nf : Nat → Nat → Prop}
theorem NrS.on {base : Nat} {w' : World} {vs : Array Value} {ls : List (List Nat)} (h : NrS base B G n M Fo nf w vs ls) (hb : Below w.heap.size w w') : NrS base B G n M Fo nf w' vs ls :=
  ⟨bon h.hp hb, h.sz, h.len, fun p v L h1 h2 => by obtain ⟨a, b⟩ := h.row p v L h1 h2; exact ⟨a.on hb, b⟩, h.ap⟩
theorem GS.on {w' : World} (h : GS w0 B G n N M Fo f nf w) (hb : Below w.heap.size w w') : GS w0 B G n N M Fo f nf w' := by
  obtain ⟨vs, ls, hn⟩ := h.nr
  exact ⟨btrans h.below hb, h.bG, h.bB, h.mp.on hb, fun X hX => by have := h.fo X hX; have := hb.size; omega, vs, ls, hn.on hb⟩
theorem GS.lt (h : GS w0 B G n N M Fo f nf w) : G < w.heap.size := by obtain ⟨vs, ls, hn⟩ := h.nr; exact blt hn.hp
theorem GS.ne (h : GS w0 B G n N M Fo f nf w) : B ≠ G := by
  obtain ⟨vs, ls, hn⟩ := h.nr
  obtain ⟨D, ⟨es, cl, hm, _⟩, _⟩ := h.mp
  rintro rfl
  rw [hn.hp] at hm
  cases hm
theorem cell29 {w : World} {G : Nat} {vs : Array Value} {p : Nat} {v : Value} (h : w.heap[G]? = some (.cells vs 29 (0, 0))) (hv : vs[p]? = some v) : w.cell? ⟨G, p, none⟩ = some v := by
  rw [cell_of_row w G p _ 29 (0, 0) h]; exact hv
/-- The list of place p. -/
theorem GS.pick (h : GS w0 B G n N M Fo f nf w) {p : Nat} (hp : p < n) : ∃ v L, w.cell? ⟨G, p, none⟩ = some v ∧ Own w0.heap.size w v (ints L) ∧ L.length ≤ M ∧ (∀ q ∈ L, q < n) ∧ ∀ q, q ∈ L ↔ nf p q := by
  obtain ⟨vs, ls, hn⟩ := h.nr
  obtain ⟨v, h1⟩ : ∃ v, vs[p]? = some v := ⟨_, Array.getElem?_eq_getElem (by rw [hn.sz]; exact hp)⟩
  obtain ⟨L, h2⟩ : ∃ L, ls[p]? = some L := ⟨_, List.getElem?_eq_getElem (by rw [hn.len]; exact hp)⟩
  obtain ⟨a, _, _, _, b, c, d⟩ := hn.row p _ _ h1 h2
  exact ⟨_, _, cell29 hn.hp h1, a, b, c, d⟩
/-- A new neighbour b of a: the append, then the store. -/
theorem GS.push (h : GS w0 B G n N M Fo f nf w) {a b : Nat} (ha : a < n) (hb : b < n) (hM : M ≤ 10000) : ∃ (v : Option Addr × Nat) (L : Nat), w.cell? ⟨G, a, none⟩ = some (.slice v.1 L v.2) ∧
    ∃ (v' : Option Addr × Nat) (w2 : World), (Builtin.append_ #[29, 29] 29 #[.slice v.1 L v.2, .slice (some ⟨w.heap.size, 0, none⟩) 1 1]).run Try.prog (w.alloc (.cells #[.int .i64 (b : Int)] 3)) = .ok (.slice v'.1 (L + 1) v'.2) w2 ∧
      w2.cell? ⟨G, a, none⟩ = some (.slice v.1 L v.2) ∧ w2.frozen? ⟨G, a, none⟩ = false ∧ (∀ X, Fo X → w2.heap[X]? = w.heap[X]?) ∧
      (∀ X, Fo X → (w2.setCell ⟨G, a, none⟩ (.slice v'.1 (L + 1) v'.2)).heap[X]? = w.heap[X]?) ∧
      GS w0 B G n N (M + 1) Fo f (fun p q => nf p q ∨ p = a ∧ q = b) (w2.setCell ⟨G, a, none⟩ (.slice v'.1 (L + 1) v'.2)) := by
  obtain ⟨vs, ls, hn⟩ := h.nr
  obtain ⟨v, h1⟩ : ∃ v, vs[a]? = some v := ⟨_, Array.getElem?_eq_getElem (by rw [hn.sz]; exact ha)⟩
  obtain ⟨L, h2⟩ : ∃ L, ls[a]? = some L := ⟨_, List.getElem?_eq_getElem (by rw [hn.len]; exact ha)⟩
  obtain ⟨ho, hoG, hoB, hoF, hl, hq, hiff⟩ := hn.row a _ _ h1 h2
  obtain ⟨va, vc, rfl⟩ := ho.shape
  obtain ⟨v', w2, hr, ho2, hg, hnew⟩ := ho.push h.below.size (b : Int) (by rw [ints_length]; omega)
  have eb : [(b : Int)] = ints [b] := rfl
  rw [eb, ← ints_append] at ho2
  have hs2 : (ints (L ++ [b])).length = (ints L).length + 1 := by rw [ints_length, ints_length, List.length_append]; rfl
  obtain ⟨va', vc', rfl⟩ := ho2.shape
  rw [hs2] at ho2 hnew hr
  generalize hzv : Value.slice va (ints L).length vc = v at *
  generalize hzv' : Value.slice va' ((ints L).length + 1) vc' = v' at *
  have hG2 : w2.heap[G]? = some (.cells vs 29 (0, 0)) := (hg.block G h.lt (fun e => hoG e.symm)).trans hn.hp
  have hkeep : ∀ X, X < w.heap.size → v.ownBlock ≠ some X → w2.heap[X]? = w.heap[X]? := fun X hX hne => hg.block X hX (fun e => hne e.symm)
  have hbel : Below w0.heap.size w0 w2 := h.below.grown hg h.below.size (fun k hk => (World.ownsRow.lt ho k hk).1)
  have hv'G : v'.ownBlock ≠ some G := by
    rcases hnew with e | ⟨g, e, hge⟩
    · rw [e]; exact hoG
    · rw [e]; intro e2; simp only [Option.some.injEq] at e2; have := h.lt; omega
  have hv'B : v'.ownBlock ≠ some B := by
    rcases hnew with e | ⟨g, e, hge⟩
    · rw [e]; exact hoB
    · rw [e]; intro e2; simp only [Option.some.injEq] at e2; have := h.mp.lt; omega
  have hv'F : ∀ X, Fo X → v'.ownBlock ≠ some X := by
    intro X hX
    rcases hnew with e | ⟨g, e, hge⟩
    · rw [e]; exact hoF X hX
    · rw [e]; intro e2; simp only [Option.some.injEq] at e2; have := h.fo X hX; omega
  have hset : ∀ X, X ≠ G → (w2.setCell ⟨G, a, none⟩ v').heap[X]? = w2.heap[X]? := fun X hX => heap_setCell_other w2 ⟨G, a, none⟩ X v' hX
  have hsetG : (w2.setCell ⟨G, a, none⟩ v').heap[G]? = some (.cells (vs.setIfInBounds a v') 29 (0, 0)) := heap_setCell_same w2 G a vs 29 v' hG2
  have hother : ∀ (u : Value) (l : List Int), Own w0.heap.size w2 u l → u.ownBlock ≠ some G → Own w0.heap.size (w2.setCell ⟨G, a, none⟩ v') u l := by
    intro u l hu hne
    refine World.ownsRow.kept hu (row := some G) ⟨rfl, rfl, rfl, by rw [World.size_setCell]; exact Nat.le_refl _, fun i hi hne2 => hset i (fun e => hne2 (by rw [e]))⟩ (Or.inr hne)
  have hmp2 : Mp (w2.setCell ⟨G, a, none⟩ v') B N f := by
    refine (h.mp.kept hg (fun e => hoB e.symm)).kept (row := some G) ⟨rfl, rfl, rfl, by rw [World.size_setCell]; exact Nat.le_refl _, fun i hi hne2 => hset i (fun e => hne2 (by rw [e]))⟩ ?_
    intro e; simp only [Option.some.injEq] at e; exact h.ne e
  have hgetset : ∀ p u, (vs.setIfInBounds a v')[p]? = some u → p = a ∧ u = v' ∨ p ≠ a ∧ vs[p]? = some u := by
    intro p u hu
    rw [Array.getElem?_setIfInBounds] at hu
    by_cases e : a = p
    · rw [if_pos e] at hu
      split at hu
      · cases hu; exact Or.inl ⟨e.symm, rfl⟩
      · cases hu
    · rw [if_neg e] at hu
      exact Or.inr ⟨fun e' => e e'.symm, hu⟩
  subst hzv hzv'
  refine ⟨(va, vc), (ints L).length, cell29 hn.hp h1, (va', vc'), w2, hr, cell29 hG2 h1, frozen_of_row w2 G a _ 29 hG2, fun X hX => hkeep X (h.fo X hX).1 (hoF X hX), fun X hX => (hset X (h.fo X hX).2.2).trans (hkeep X (h.fo X hX).1 (hoF X hX)), ?_⟩
  refine ⟨Below.setCell hbel h.bG _, h.bG, h.bB, hmp2, fun X hX => ?_, _, ls.set a (L ++ [b]), ⟨hsetG, by rw [Array.size_setIfInBounds]; exact hn.sz, by rw [List.length_set]; exact hn.len, ?_, ?_⟩⟩
  · rw [World.size_setCell]
    have := h.fo X hX; have := hg.size; omega
  · intro p u L' hu hL'
    rcases hgetset p u hu with ⟨rfl, rfl⟩ | ⟨hne, hu'⟩
    · rw [List.getElem?_set, if_pos rfl, if_pos (by rw [hn.len]; exact ha)] at hL'
      cases hL'
      refine ⟨hother _ _ ho2 hv'G, hv'G, hv'B, hv'F, by rw [List.length_append]; simp; omega, fun q hqm => ?_, fun q => ?_⟩
      · rcases List.mem_append.1 hqm with hm | hm
        · exact hq q hm
        · simp only [List.mem_singleton] at hm; omega
      · rw [List.mem_append, hiff q, List.mem_singleton]
        simp
    · rw [List.getElem?_set, if_neg (fun e => hne e.symm)] at hL'
      obtain ⟨r1, r2, r3, r4, r5, r6, r7⟩ := hn.row p u L' hu' hL'
      have hown : Own w0.heap.size w2 u (ints L') := by
        refine World.ownsRow.kept r1 hg ?_
        cases hub : u.ownBlock with
        | none => exact Or.inl rfl
        | some g => exact Or.inr (fun e => hn.ap p a u _ g hne hu' h1 hub e.symm)
      refine ⟨hother _ _ hown r2, r2, r3, r4, by omega, r6, fun q => ?_⟩
      rw [r7 q]
      simp [hne]
  · intro p p' u u' g hne hu hu' hg1 hg2
    rcases hgetset p u hu with ⟨rfl, rfl⟩ | ⟨hpa, hu1⟩
    · rcases hgetset p' u' hu' with ⟨rfl, rfl⟩ | ⟨hpa', hu1'⟩
      · exact hne rfl
      · rcases hnew with e | ⟨g', e, hge⟩
        · rw [e] at hg1
          exact hn.ap p p' _ u' g hne h1 hu1' hg1 hg2
        · rw [e] at hg1
          cases hg1
          obtain ⟨L3, h3⟩ : ∃ L3, ls[p']? = some L3 := ⟨_, List.getElem?_eq_getElem (by rw [hn.len, ← hn.sz]; exact (Array.getElem?_eq_some_iff.1 hu1').1)⟩
          have := (World.ownsRow.lt (hn.row p' u' _ hu1' h3).1 _ hg2).2
          omega
    · rcases hgetset p' u' hu' with ⟨rfl, rfl⟩ | ⟨hpa', hu1'⟩
      · rcases hnew with e | ⟨g', e, hge⟩
        · rw [e] at hg2
          exact hn.ap p p' u _ g hne hu1 h1 hg1 hg2
        · rw [e] at hg2
          cases hg2
          obtain ⟨L3, h3⟩ : ∃ L3, ls[p]? = some L3 := ⟨_, List.getElem?_eq_getElem (by rw [hn.len, ← hn.sz]; exact (Array.getElem?_eq_some_iff.1 hu1).1)⟩
          have := (World.ownsRow.lt (hn.row p u _ hu1 h3).1 _ hg1).2
          omega
      · exact hn.ap p p' u u' g hne hu1 hu1' hg1 hg2
/-- The store into the map. -/
theorem GS.put (h : GS w0 B G n N M Fo f nf w) {a b i : Nat} (ha : a < 100000) (hb : b < 100000) (hi : i < 100000) (hN : N < 100000) :
    ∃ w', (Instr.mapUpdate 60 (.map (some B)) (.agg #[.int .i64 (a : Int), .int .i64 (b : Int)]) (.int .i64 (i : Int))).run Try.prog w = .ok () w' ∧ (∀ X, Fo X → w'.heap[X]? = w.heap[X]?) ∧ GS w0 B G n (N + 1) M Fo (upd f a b i) nf w' := by
  obtain ⟨w', hr, hm, hg⟩ := h.mp.put ha hb hi hN
  obtain ⟨vs, ls, hn⟩ := h.nr
  refine ⟨w', hr, fun X hX => hg.block X (h.fo X hX).1 (fun e => (h.fo X hX).2.1 (by simpa using e)), ?_⟩
  refine ⟨h.below.grown hg h.below.size (fun k hk => by simp only [Option.some.injEq] at hk; rw [← hk]; exact h.bB), h.bG, h.bB, hm, fun X hX => by have := h.fo X hX; have := hg.size; omega, vs, ls, ?_⟩
  refine ⟨(hg.block G h.lt (fun e => h.ne (by simpa using e.symm))).trans hn.hp, hn.sz, hn.len, fun p v L h1 h2 => ?_, hn.ap⟩
  obtain ⟨r1, r2, r3, r4⟩ := hn.row p v L h1 h2
  exact ⟨World.ownsRow.kept r1 hg (Or.inr r3), r2, r3, r4⟩
theorem GS.mono {N' M' : Nat} (h : GS w0 B G n N M Fo f nf w) (hN : N ≤ N') (hM : M ≤ M') : GS w0 B G n N' M' Fo f nf w := by
  obtain ⟨vs, ls, hn⟩ := h.nr
  exact ⟨h.below, h.bG, h.bB, h.mp.mono hN, h.fo, vs, ls, hn.hp, hn.sz, hn.len, fun p v L h1 h2 => by obtain ⟨r1, r2, r3, r4, r5, r6⟩ := hn.row p v L h1 h2; exact ⟨r1, r2, r3, r4, by omega, r6⟩, hn.ap⟩
theorem GS.same {nf' : Nat → Nat → Prop} (h : GS w0 B G n N M Fo f nf w) (e : ∀ p q, nf p q ↔ nf' p q) : GS w0 B G n N M Fo f nf' w := by
  obtain ⟨vs, ls, hn⟩ := h.nr
  exact ⟨h.below, h.bG, h.bB, h.mp, h.fo, vs, ls, hn.hp, hn.sz, hn.len, fun p v L h1 h2 => by obtain ⟨r1, r2, r3, r4, r5, r6, r7⟩ := hn.row p v L h1 h2; exact ⟨r1, r2, r3, r4, r5, r6, fun q => (r7 q).trans (e p q)⟩, hn.ap⟩
/-- Other blocks are held apart: fewer of them; new ones. -/
theorem GS.less {Fo' : Nat → Prop} (h : GS w0 B G n N M Fo f nf w) (e : ∀ X, Fo' X → Fo X) : GS w0 B G n N M Fo' f nf w := by
  obtain ⟨vs, ls, hn⟩ := h.nr
  exact ⟨h.below, h.bG, h.bB, h.mp, fun X hX => h.fo X (e X hX), vs, ls, hn.hp, hn.sz, hn.len, fun p v L h1 h2 => by obtain ⟨r1, r2, r3, r4, r5⟩ := hn.row p v L h1 h2; exact ⟨r1, r2, r3, fun X hX => r4 X (e X hX), r5⟩, hn.ap⟩
theorem GS.more {Fo' : Nat → Prop} {w' : World} (h : GS w0 B G n N M Fo f nf w) (hb : Below w.heap.size w w') (e : ∀ X, Fo' X → Fo X ∨ w.heap.size ≤ X ∧ X < w'.heap.size) : GS w0 B G n N M Fo' f nf w' := by
  have h' := h.on hb
  obtain ⟨vs, ls, hn⟩ := h.nr
  have hn' := hn.on hb
  refine ⟨h'.below, h.bG, h.bB, h'.mp, fun X hX => ?_, vs, ls, hn'.hp, hn.sz, hn.len, fun p v L h1 h2 => ?_, hn.ap⟩
  · rcases e X hX with hx | hx
    · exact h'.fo X hx
    · have := h.lt; have := h.mp.lt; omega
  · obtain ⟨r1, r2, r3, r4, r5⟩ := hn.row p v L h1 h2
    refine ⟨r1.on hb, r2, r3, fun X hX => ?_, r5⟩
    rcases e X hX with hx | hx
    · exact r4 X hx
    · intro e2
      have := (World.ownsRow.lt r1 X e2).2
      omega
end
end Go.Proofs.Ytbeoldklpklbfaa
