/-
  Slices of ints of the call's own: appends, stores.
-/
import Derived.Test.YtempnbchiofghaaGreatDoorEe
namespace Go.Proofs.YtempnbchiofghaaGreatDoor
open Go.RowKit
set_option linter.unusedVariables false
set_option linter.unusedSimpArgs false

/-- The values of ints. -/
def cI (l : List Int) : List Value := l.map (Value.int .i64)
theorem cI_length (l : List Int) : (cI l).length = l.length := List.length_map ..
theorem cI_append (x y : List Int) : cI (x ++ y) = cI x ++ cI y := List.map_append ..
theorem cI_get (l : List Int) (j : Nat) : (cI l)[j]? = (l[j]?).map (Value.int .i64) := List.getElem?_map ..
theorem cI_one (l : List Int) : ∀ u ∈ cI l, u.oneCell' = true := by
  intro u hu
  obtain ⟨x, _, rfl⟩ := List.mem_map.1 hu
  rfl

theorem info3i : Tryz.prog.info? 3 = Tryz.prog.info? 3 := rfl

/-- The walk's step of an append of ints. -/
theorem wp_appi {P : Program} {ops : Array Oper} {rest : List Oper} {o : Oper} {a : Act} {Q : Exit → Act → World → Prop} (hP : P = Tryz.prog) (hgd : o.guard = none) (hty : o.type = 22) (s x : Operand)
    (ho : o.op = .call { callee := .builtin .append, args := #[s, x], argTypes := #[22, 22] }) {w : World} {v u v' : Value} {w' : World} (hs : a.eval s = v) (hx : a.eval x = u)
    (hr : (Builtin.append_ #[22, 22] 22 #[v, u]).run Tryz.prog w = .ok v' w') (hk : wpList P ops Q rest (a.put o.dst v') w') : wpList P ops Q (o :: rest) a w := by
  subst hP
  refine wpList_plain hgd fun K hK => ?_
  unfold Oper.wp execOp
  simp only [ho, hty, resolve, invoke, builtin, Sem.run_bind, Sem.run_pure, Result.andThen_ok, List.map_toArray, List.map_cons, List.map_nil, hs, hx, hr]
  exact hK _ _ hk

theorem grow2 {a b c : World} {r r' : Option Nat} (h : a.grownBy b r) (k : b.grownBy c r') (hr : r' = r ∨ ∃ g, r' = some g ∧ a.heap.size ≤ g) : a.grownBy c r := by
  refine ⟨k.os.trans h.os, k.tape.trans h.tape, k.output.trans h.output, Nat.le_trans h.size k.size, fun i hi hne => ?_⟩
  refine (k.block i (Nat.lt_of_lt_of_le hi h.size) ?_).trans (h.block i hi hne)
  rcases hr with rfl | ⟨g, rfl, hg⟩
  · exact hne
  · intro e; simp at e; omega

/-- The slice v holds the ints l, in a block of its own from base on. -/
def Own (base : Nat) (w : World) (v : Value) (l : List Int) : Prop := w.ownsRow base 3 1 v l.length (cI l)
theorem Own.on {base : Nat} {w w' : World} {v : Value} {l : List Int} (h : Own base w v l) (hb : Below w.heap.size w w') : Own base w' v l :=
  World.ownsRow.kept h (row := none) ⟨hb.os, hb.tape, hb.output, hb.size, fun i hi _ => hb.block i hi⟩ (by cases hx : v.ownBlock <;> simp)
theorem Own.shape {base : Nat} {w : World} {v : Value} {l : List Int} (h : Own base w v l) : ∃ a c, v = .slice a l.length c := by
  rcases h.2 with ⟨h00, h0⟩ | ⟨g, cap, cr, rfl, _⟩
  · exact ⟨none, 0, by rw [h00, h0]⟩
  · exact ⟨_, cap, rfl⟩
/-- append(v, x), the new element in a block of its own. -/
theorem Own.push {base : Nat} {wr : World} {l : List Int} {v : Value} (h : Own base wr v l) (hbase : base ≤ wr.heap.size) (x : Int) (hn : l.length ≤ 10000000) :
    ∃ v' w', (Builtin.append_ #[22, 22] 22 #[v, .slice (some ⟨wr.heap.size, 0, none⟩) 1 1]).run Tryz.prog (wr.alloc (.cells #[.int .i64 x] 3)) = .ok v' w' ∧ Own base w' v' (l ++ [x]) ∧
      wr.grownBy w' v.ownBlock ∧ (v'.ownBlock = v.ownBlock ∨ ∃ g, v'.ownBlock = some g ∧ wr.heap.size ≤ g) := by
  obtain ⟨i0, hi, hzz⟩ := Option.map_eq_some_iff.1 info3'
  simp only [Prod.mk.injEq] at hzz
  obtain ⟨hz0, hz1, hz2⟩ := hzz
  have ho := World.ownsRow.alloc h (.cells #[.int .i64 x] 3)
  obtain ⟨v', w', hr, h2, h3, _, h4⟩ := run_append_own_at (P := Tryz.prog) (wr.alloc (.cells #[.int .i64 x] 3)) base 22 22 3 i0 _ 1 8 Tryz.underlying22 hi hz0 hz1 hz2 rfl (by decide) v l.length (cI l) ho
    ⟨wr.heap.size, 0, none⟩ 1 1 (cI [x]) rfl (fun j u hj => by
      have e : (⟨wr.heap.size, 0, none⟩ : Addr).add j = ⟨wr.heap.size, j, none⟩ := by unfold Addr.add; split <;> simp_all
      rw [e]
      exact cells_new1 wr [.int .i64 x] 3 j u hj) (cI_one _) (by unfold maxLen; omega) (by omega) (by rw [World.size_alloc]; omega)
  refine ⟨v', w', hr, ?_, grow2 (World.grownBy_alloc wr _ v.ownBlock) h3 (Or.inl rfl), ?_⟩
  · unfold Own
    rw [cI_append, List.length_append]
    exact h2
  · rcases h4 with h4 | h4
    · exact Or.inl h4
    · exact Or.inr ⟨_, h4, by rw [World.size_alloc]; omega⟩
theorem own_new (base : Nat) (w : World) (hb : base ≤ w.heap.size) : Own base (w.alloc (.cells #[] 3)) (.slice (some ⟨w.heap.size, 0, none⟩) 0 0) [] :=
  ⟨rfl, Or.inr ⟨w.heap.size, 0, #[], rfl, hb, heap_alloc_new w _, Nat.le_refl _, by unfold maxLen; omega, rfl, rfl⟩⟩
/-- As a slice of known ints. -/
theorem Own.hl {base : Nat} {w : World} {v : Value} {l : List Int} (h : Own base w v l) (hI : ∀ x ∈ l, I64 x) (hn : l.length ≤ 70368744177664) : Hl (fun k => k < w.heap.size) w v l := by
  rcases h.2 with ⟨h00, h0⟩ | ⟨g, cap, cr, rfl, hb, hh, hn2, hm, hs, ht⟩
  · exact ⟨hn, hI, none, 0, by rw [h00, h0], by omega, fun hp => by omega⟩
  · refine ⟨hn, hI, some ⟨g, 0, none⟩, cap, rfl, hn2, fun _ => ⟨g, 0, rfl, (Array.getElem?_eq_some_iff.1 hh).1, fun j x hj => ?_⟩⟩
    have e1 : (cI l)[j]? = some (.int .i64 x) := by rw [cI_get, hj]; rfl
    rw [← ht, List.getElem?_take] at e1
    rw [cell_of_row w g _ cr 3 (0, 0) hh, Nat.zero_add]
    split at e1
    · simpa using e1
    · cases e1

/-- Two slices of the call's own, in different blocks. -/
structure Two (w0 : World) (vP vR : Value) (P R : List Int) (w : World) : Prop where
  below : Below w0.heap.size w0 w
  hP : Own w0.heap.size w vP P
  hR : Own w0.heap.size w vR R
  ne : vP.ownBlock ≠ vR.ownBlock
  sP : ∃ g, vP.ownBlock = some g
  sR : ∃ g, vR.ownBlock = some g
theorem Two.on {w0 w w' : World} {vP vR : Value} {P R : List Int} (h : Two w0 vP vR P R w) (hb : Below w.heap.size w w') : Two w0 vP vR P R w' :=
  ⟨btrans h.below hb, h.hP.on hb, h.hR.on hb, h.ne, h.sP, h.sR⟩
theorem Two.pushP {w0 w : World} {vP vR : Value} {P R : List Int} (h : Two w0 vP vR P R w) (x : Int) (hn : P.length ≤ 10000000) :
    ∃ v' w', (Builtin.append_ #[22, 22] 22 #[vP, .slice (some ⟨w.heap.size, 0, none⟩) 1 1]).run Tryz.prog (w.alloc (.cells #[.int .i64 x] 3)) = .ok v' w' ∧ Two w0 v' vR (P ++ [x]) R w' := by
  obtain ⟨v', w', hr, h1, h2, h3⟩ := h.hP.push h.below.size x hn
  obtain ⟨gP, hgP⟩ := h.sP; obtain ⟨gR, hgR⟩ := h.sR
  refine ⟨v', w', hr, h.below.grown h2 h.below.size (fun k hk => (World.ownsRow.lt h.hP k hk).1), h1, World.ownsRow.kept h.hR h2 (Or.inr fun e => h.ne e.symm), ?_, ?_, h.sR⟩
  · rcases h3 with h3 | ⟨g, h3, h4⟩
    · rw [h3]; exact h.ne
    · have := (World.ownsRow.lt h.hR gR hgR).2
      rw [h3, hgR]
      simp only [ne_eq, Option.some.injEq]
      omega
  · rcases h3 with h3 | ⟨g, h3, _⟩
    · exact ⟨gP, by rw [h3, hgP]⟩
    · exact ⟨g, h3⟩
theorem Two.swap {w0 w : World} {vP vR : Value} {P R : List Int} (h : Two w0 vP vR P R w) : Two w0 vR vP R P w := ⟨h.below, h.hR, h.hP, fun e => h.ne e.symm, h.sR, h.sP⟩
theorem Two.pushR {w0 w : World} {vP vR : Value} {P R : List Int} (h : Two w0 vP vR P R w) (x : Int) (hn : R.length ≤ 10000000) :
    ∃ v' w', (Builtin.append_ #[22, 22] 22 #[vR, .slice (some ⟨w.heap.size, 0, none⟩) 1 1]).run Tryz.prog (w.alloc (.cells #[.int .i64 x] 3)) = .ok v' w' ∧ Two w0 vP v' P (R ++ [x]) w' := by
  obtain ⟨v', w', hr, h1⟩ := h.swap.pushP x hn
  exact ⟨v', w', hr, h1.swap⟩

/-- Block g begins with the ints l. -/
def Hc (w : World) (g : Nat) (l : List Int) : Prop := ∃ cur, w.heap[g]? = some (.cells cur 3 (0, 0)) ∧ cur.toList.take l.length = cI l
theorem Hc.cell {w : World} {g : Nat} {l : List Int} (h : Hc w g l) {i : Nat} {x : Int} (hx : l[i]? = some x) : w.cell? ⟨g, i, none⟩ = some (.int .i64 x) := by
  obtain ⟨cur, hh, ht⟩ := h
  have e1 : (cI l)[i]? = some (.int .i64 x) := by rw [cI_get, hx]; rfl
  rw [← ht, List.getElem?_take] at e1
  rw [cell_of_row w g _ cur 3 (0, 0) hh]
  split at e1
  · simpa using e1
  · cases e1
theorem Hc.free {w : World} {g : Nat} {l : List Int} (h : Hc w g l) (i : Nat) : w.frozen? ⟨g, i, none⟩ = false := by
  obtain ⟨cur, hh, _⟩ := h
  exact frozen_of_row w g i _ 3 hh
theorem Hc.lt {w : World} {g : Nat} {l : List Int} (h : Hc w g l) : g < w.heap.size := by
  obtain ⟨cur, hh, _⟩ := h
  exact (Array.getElem?_eq_some_iff.1 hh).1
theorem Hc.put {w : World} {g : Nat} {l : List Int} (h : Hc w g l) (i : Nat) (x : Int) (hi : i < l.length) : Hc (w.setCell ⟨g, i, none⟩ (.int .i64 x)) g (l.set i x) := by
  obtain ⟨cur, hh, ht⟩ := h
  refine ⟨_, heap_setCell_same w g i cur 3 (.int .i64 x) hh, ?_⟩
  rw [List.length_set, Array.toList_setIfInBounds, List.take_set, ht]
  unfold cI
  rw [List.map_set]
theorem Hc.other {w : World} {g : Nat} {l : List Int} (h : Hc w g l) (a : Addr) (v : Value) (hne : g ≠ a.block) : Hc (w.setCell a v) g l := by
  obtain ⟨cur, hh, ht⟩ := h
  exact ⟨cur, (heap_setCell_other w a g v hne).trans hh, ht⟩
theorem Hc.hl {w : World} {g c : Nat} {l : List Int} (h : Hc w g l) (hl : l.length ≤ 70368744177664) (hc : l.length ≤ c) (hI : ∀ x ∈ l, I64 x) : Hl (fun k => k < w.heap.size) w (.slice (some ⟨g, 0, none⟩) l.length c) l :=
  ⟨hl, hI, some ⟨g, 0, none⟩, c, rfl, hc, fun _ => ⟨g, 0, rfl, h.lt, fun j x hx => by rw [Nat.zero_add]; exact h.cell hx⟩⟩
/-- What the call owns, block by block. -/
theorem Own.hc {base : Nat} {w : World} {v : Value} {l : List Int} (h : Own base w v l) {g : Nat} (hg : v.ownBlock = some g) : ∃ c, v = .slice (some ⟨g, 0, none⟩) l.length c ∧ l.length ≤ c ∧ base ≤ g ∧ Hc w g l := by
  rcases h.2 with ⟨h00, h0⟩ | ⟨g', cap, cr, rfl, hb, hh, hn2, hm, hs, ht⟩
  · rw [h00] at hg
    cases hg
  · simp only [Value.ownBlock, Option.some.injEq] at hg
    subst hg
    exact ⟨cap, rfl, hn2, hb, cr, hh, by rw [Nat.mul_one] at ht; exact ht⟩
end Go.Proofs.YtempnbchiofghaaGreatDoor
