/-
  Slices of swaps of the call's own; Given.
-/
import Derived.Test.YtijdjbkmkopmnaaLa
import Derived.Test.YtijdjbkmkopmnaaDb
namespace Go.Proofs.Ytijdjbkmkopmnaa
open Go.RowKit
set_option linter.unusedVariables false
set_option linter.unusedSimpArgs false

theorem cells_new1 (w : World) (cs : List Value) (t : TypeId) (j : Nat) (u : Value) (h : cs[j]? = some u) : (w.alloc (.cells cs.toArray t)).cell? ⟨w.heap.size, j, none⟩ = some u := by
  rw [cell_of_row _ w.heap.size j cs.toArray t (0, 0) (heap_alloc_new _ _)]
  simpa using h
theorem grow2 {a b c : World} {r r' : Option Nat} (h : a.grownBy b r) (k : b.grownBy c r') (hr : r' = r ∨ ∃ g, r' = some g ∧ a.heap.size ≤ g) : a.grownBy c r := by
  refine ⟨k.os.trans h.os, k.tape.trans h.tape, k.output.trans h.output, Nat.le_trans h.size k.size, fun i hi hne => ?_⟩
  refine (k.block i (Nat.lt_of_lt_of_le hi h.size) ?_).trans (h.block i hi hne)
  rcases hr with rfl | ⟨g, rfl, hg⟩
  · exact hne
  · intro e; simp at e; omega
def cS : List Sw → List Value
  | [] => []
  | s :: t => .int .i64 s.wa :: .int .i64 s.gi :: .int .i64 s.co :: cS t
theorem cS_length (l : List Sw) : (cS l).length = l.length * 3 := by
  induction l with
  | nil => rfl
  | cons s t ih => simp only [cS, List.length_cons, ih]; omega
theorem cS_append (x y : List Sw) : cS (x ++ y) = cS x ++ cS y := by
  induction x with
  | nil => rfl
  | cons s t ih => simp [cS, ih]
theorem cS_get : ∀ (l : List Sw) (j : Nat) (s : Sw), l[j]? = some s → ∀ i v, s.cs[i]? = some v → (cS l)[j * 3 + i]? = some v
  | [], j, s, h => by simp at h
  | t :: l, 0, s, h => by
    simp only [List.getElem?_cons_zero, Option.some.injEq] at h
    subst h
    intro i v hv
    match i, hv with
    | 0, hv => simpa [cS, Sw.cs] using hv
    | 1, hv => simpa [cS, Sw.cs] using hv
    | 2, hv => simpa [cS, Sw.cs] using hv
    | i + 3, hv => simp [Sw.cs] at hv
  | t :: l, j + 1, s, h => by
    intro i v hv
    have := cS_get l j s (by simpa using h) i v hv
    have e : (j + 1) * 3 + i = j * 3 + i + 1 + 1 + 1 := by omega
    rw [e]
    simpa [cS] using this
theorem cS_one (l : List Sw) : ∀ u ∈ cS l, u.oneCell' = true := by
  induction l with
  | nil => intro u h; simp [cS] at h
  | cons s t ih =>
    intro u h
    simp only [cS, List.mem_cons] at h
    rcases h with rfl | rfl | rfl | h
    · rfl
    · rfl
    · rfl
    · exact ih u h
theorem info62 : (Try.prog.info? 62).map (fun i => (i.zero, i.size, i.bytes)) = some (some (.agg #[.int .i64 0, .int .i64 0, .int .i64 0]), 3, 24) := by kernel_rfl
theorem wp_appS {P : Program} {ops : Array Oper} {rest : List Oper} {o : Oper} {a : Act} {Q : Exit → Act → World → Prop} (hP : P = Try.prog) (hgd : o.guard = none) (hty : o.type = 24) (s x : Operand)
    (ho : o.op = .call { callee := .builtin .append, args := #[s, x], argTypes := #[24, 24] }) {w : World} {v u v' : Value} {w' : World} (hs : a.eval s = v) (hx : a.eval x = u)
    (hr : (Builtin.append_ #[24, 24] 24 #[v, u]).run Try.prog w = .ok v' w') (hk : wpList P ops Q rest (a.put o.dst v') w') : wpList P ops Q (o :: rest) a w := by
  subst hP
  refine wpList_plain hgd fun K hK => ?_
  unfold Oper.wp execOp
  simp only [ho, hty, resolve, invoke, builtin, Sem.run_bind, Sem.run_pure, Result.andThen_ok, List.map_toArray, List.map_cons, List.map_nil, hs, hx, hr]
  exact hK _ _ hk
/-- The slice v holds the swaps l, in a block of its own from base on. -/
def OwS (base : Nat) (w : World) (v : Value) (l : List Sw) : Prop := w.ownsRow base 62 3 v l.length (cS l)
theorem OwS.on {base : Nat} {w w' : World} {v : Value} {l : List Sw} (h : OwS base w v l) (hb : Below w.heap.size w w') : OwS base w' v l :=
  World.ownsRow.kept h (row := none) ⟨hb.os, hb.tape, hb.output, hb.size, fun i hi _ => hb.block i hi⟩ (by cases hx : v.ownBlock <;> simp)
theorem OwS.shape {base : Nat} {w : World} {v : Value} {l : List Sw} (h : OwS base w v l) : ∃ a c, v = .slice a l.length c := by
  rcases h.2 with ⟨h00, h0⟩ | ⟨g, cap, cr, rfl, _⟩
  · exact ⟨none, 0, by rw [h00, h0]⟩
  · exact ⟨_, cap, rfl⟩
theorem ows_nil (base : Nat) (w : World) : OwS base w (.slice none 0 0) [] := ⟨rfl, Or.inl ⟨rfl, rfl⟩⟩
theorem OwS.push {base : Nat} {wr : World} {l : List Sw} {v : Value} (h : OwS base wr v l) (hbase : base ≤ wr.heap.size) (s : Sw) (hn : l.length ≤ 1000) :
    ∃ v' w', (Builtin.append_ #[24, 24] 24 #[v, .slice (some ⟨wr.heap.size, 0, none⟩) 1 1]).run Try.prog (wr.alloc (.cells #[.int .i64 s.wa, .int .i64 s.gi, .int .i64 s.co] 62)) = .ok v' w' ∧ OwS base w' v' (l ++ [s]) ∧ wr.grownBy w' v.ownBlock := by
  obtain ⟨i0, hi, hzz⟩ := Option.map_eq_some_iff.1 info62
  simp only [Prod.mk.injEq] at hzz
  obtain ⟨hz0, hz1, hz2⟩ := hzz
  have ho := World.ownsRow.alloc h (.cells #[.int .i64 s.wa, .int .i64 s.gi, .int .i64 s.co] 62)
  obtain ⟨v', w', hr, h2, h3, _, h4⟩ := run_append_own_at (P := Try.prog) (wr.alloc (.cells #[.int .i64 s.wa, .int .i64 s.gi, .int .i64 s.co] 62)) base 24 24 62 i0 _ 3 24 Try.underlying24 hi hz0 hz1 hz2 rfl (by decide) v l.length (cS l) ho
    ⟨wr.heap.size, 0, none⟩ 1 1 (cS [s]) rfl (fun j u hj => by
      have e : (⟨wr.heap.size, 0, none⟩ : Addr).add j = ⟨wr.heap.size, j, none⟩ := by unfold Addr.add; split <;> simp_all
      rw [e]
      exact cells_new1 wr [.int .i64 s.wa, .int .i64 s.gi, .int .i64 s.co] 62 j u hj) (cS_one _) (by unfold maxLen; omega) (by omega) (by rw [World.size_alloc]; omega)
  refine ⟨v', w', hr, ?_, grow2 (World.grownBy_alloc wr _ v.ownBlock) h3 (Or.inl rfl)⟩
  unfold OwS
  rw [cS_append, List.length_append]
  exact h2
theorem OwS.ss {base : Nat} {w : World} {v : Value} {l : List Sw} (h : OwS base w v l) (hI : ∀ s ∈ l, s.ok) (hn : l.length ≤ 1000) : Ss (fun k => k < w.heap.size) w v l := by
  rcases h.2 with ⟨h00, h0⟩ | ⟨g, cap, cr, rfl, hb, hh, hn2, hm, hs, ht⟩
  · exact ⟨by omega, hI, none, 0, by rw [h00, h0], by omega, fun hp => by omega⟩
  · refine ⟨by omega, hI, some ⟨g, 0, none⟩, cap, rfl, hn2, fun _ => ⟨g, 0, rfl, (Array.getElem?_eq_some_iff.1 hh).1, fun j x hj i y hi => ?_⟩⟩
    have e1 := cS_get l j x hj i y hi
    rw [← ht, List.getElem?_take] at e1
    rw [Nat.zero_add, cell_of_row w g _ cr 62 (0, 0) hh]
    split at e1
    · simpa using e1
    · cases e1
/-- The block of a slice that is the call's own lies from base on. -/
theorem OwS.ge {base : Nat} {w : World} {v : Value} {l : List Sw} (h : OwS base w v l) (k : Nat) (hk : v.ownBlock = some k) : base ≤ k := (World.ownsRow.lt h k hk).1
theorem idx82 {L : List Nat} (hL : L.length = 32) {k : Nat} (hk : k < 32) (w : World) : Sem.run Try.prog (Instr.index 82 (.agg (L.map iv).toArray) (.int .i64 (k : Int))) w = .ok (.int .i64 (cv L k : Int)) w := by
  have h1 : (0 : Int) ≤ (k : Int) ∧ (k : Int) < ((32 : Nat) : Int) := by omega
  have h2 : (L.map iv)[k]? = some (.int .i64 (cv L k : Int)) := by simp [cv, iv, List.getElem?_eq_getElem (show k < L.length by omega)]
  rw [List.getElem?_map] at h2
  simp [Instr.index, run_underlying Try.underlying82, asIntOf, h1, go_sem]
  rw [if_pos hk, h2]
  rfl
end Go.Proofs.Ytijdjbkmkopmnaa
