/-
  One line more: the append of a network's lines to a line.
-/
import Derived.Test.YtbeoldklpklbfaaOc
import Derived.Deep.Upon
namespace Go.Proofs.Ytbeoldklpklbfaa
open Go.RowKit
set_option linter.unusedVariables false
set_option linter.unusedSimpArgs false

/-- The cells of lines. -/
def cE : List Ed → List Value
  | [] => []
  | x :: l => .int .i64 x.a :: .int .i64 x.b :: .int .i64 x.r :: .int .i64 x.m :: .int .i64 x.k :: cE l
theorem cE_length (l : List Ed) : (cE l).length = l.length * 5 := by
  induction l with
  | nil => rfl
  | cons x l ih => simp only [cE, List.length_cons, ih]; omega
theorem cE_one (l : List Ed) : ∀ u ∈ cE l, u.oneCell' = true := by
  induction l with
  | nil => intro u h; simp [cE] at h
  | cons x l ih =>
    intro u h
    simp only [cE, List.mem_cons] at h
    rcases h with rfl | rfl | rfl | rfl | rfl | h
    · rfl
    · rfl
    · rfl
    · rfl
    · rfl
    · exact ih u h
theorem cE_get : ∀ (l : List Ed) (k : Nat) (x : Ed), l[k]? = some x → ∀ i y, x.cs[i]? = some y → (cE l)[k * 5 + i]? = some (.int .i64 y)
  | [], k, x, h, _, _, _ => by simp at h
  | z :: l, 0, x, h, i, y, hi => by
    simp only [List.getElem?_cons_zero, Option.some.injEq] at h
    subst h
    match i, hi with
    | 0, hi | 1, hi | 2, hi | 3, hi | 4, hi => simp [Ed.cs] at hi; subst hi; rfl
    | i + 5, hi => simp [Ed.cs] at hi
  | z :: l, k + 1, x, h, i, y, hi => by
    have := cE_get l k x (by simpa using h) i y hi
    rw [show (k + 1) * 5 + i = (k * 5 + i) + 5 by omega]
    simpa [cE] using this
theorem cE_cell {w : World} {g : Nat} : ∀ (l : List Ed) (off : Nat), (∀ k x, l[k]? = some x → ∀ i y, x.cs[i]? = some y → w.cell? ⟨g, off + k * 5 + i, none⟩ = some (.int .i64 y)) → ∀ j u, (cE l)[j]? = some u → w.cell? ⟨g, off + j, none⟩ = some u
  | [], off, h, j, u, hj => by simp [cE] at hj
  | x :: l, off, h, j, u, hj => by
    have h0 := h 0 x rfl
    match j, hj with
    | 0, hj =>
      simp [cE] at hj
      subst hj
      have := h0 0 x.a rfl
      simpa using this
    | 1, hj =>
      simp [cE] at hj
      subst hj
      have := h0 1 x.b rfl
      simpa using this
    | 2, hj =>
      simp [cE] at hj
      subst hj
      have := h0 2 x.r rfl
      simpa using this
    | 3, hj =>
      simp [cE] at hj
      subst hj
      have := h0 3 x.m rfl
      simpa using this
    | 4, hj =>
      simp [cE] at hj
      subst hj
      have := h0 4 x.k rfl
      simpa using this
    | j + 5, hj =>
      have := cE_cell l (off + 5) (fun k y hk i z hi => by
        have := h (k + 1) y (by simpa using hk) i z hi
        rw [show off + 5 + k * 5 + i = off + (k + 1) * 5 + i by omega]
        exact this) j u (by simpa [cE] using hj)
      rw [show off + (j + 5) = off + 5 + j by omega]
      exact this
theorem info45 : (Try.prog.info? 45).map (fun i => (i.zero, i.size, i.bytes)) = some (some (.agg #[.int .i64 0, .int .i64 0, .int .i64 0, .int .i64 0, .int .i64 0]), 5, 40) := by kernel_rfl
/-- The slice v holds the lines l, in a block of its own from base on. -/
def OwE (base : Nat) (w : World) (v : Value) (l : List Ed) : Prop := w.ownsRow base 45 5 v l.length (cE l)
theorem OwE.es {base : Nat} {w : World} {v : Value} {l : List Ed} (h : OwE base w v l) (hI : ∀ x ∈ l, ∀ y ∈ x.cs, I64 y) (hn : l.length ≤ 70368744177664) : Es (fun k => k < w.heap.size) w v l := by
  rcases h.2 with ⟨h00, h0⟩ | ⟨g, cap, cr, rfl, hb, hh, hn2, hm, hs, ht⟩
  · exact ⟨by omega, hI, none, 0, by rw [h00, h0], by omega, fun hp => by omega⟩
  · refine ⟨by omega, hI, some ⟨g, 0, none⟩, cap, rfl, hn2, fun _ => ⟨g, 0, rfl, (Array.getElem?_eq_some_iff.1 hh).1, fun j x hj i y hi => ?_⟩⟩
    have e1 := cE_get l j x hj i y hi
    rw [← ht, List.getElem?_take] at e1
    rw [Nat.zero_add, cell_of_row w g _ cr 45 (0, 0) hh]
    split at e1
    · simpa using e1
    · cases e1
/-- THE APPEND, in any world in which the line lies in a block of its own. -/
theorem edge_append {w u : World} {B : Nat} {x : Ed} {l : List Ed} {vb : Option Addr} {vd : Nat} (hw : Below w.heap.size w u) (hB : u.heap[B]? = some (.cells #[.int .i64 x.a, .int .i64 x.b, .int .i64 x.r, .int .i64 x.m, .int .i64 x.k] 45 (0, 0))) (hwB : w.heap.size ≤ B) (h : Es (fun k => k < w.heap.size) w (.slice vb l.length vd) l) (hb : (1 + l.length) * 40 ≤ 140737488355328) :
    ∃ v' w', (Builtin.append_ #[23, 23] 23 #[.slice (some ⟨B, 0, none⟩) 1 1, .slice vb l.length vd]).run Try.prog u = .ok v' w' ∧ OwE w.heap.size w' v' (x :: l) ∧ Below w.heap.size w w' ∧ u.grownBy w' (some B) := by
  obtain ⟨i0, hi, hzz⟩ := Option.map_eq_some_iff.1 info45
  simp only [Prod.mk.injEq] at hzz
  obtain ⟨hz0, hz1, hz2⟩ := hzz
  have hown : u.ownsRow w.heap.size 45 5 (.slice (some ⟨B, 0, none⟩) 1 1) 1 (cE [x]) :=
    ⟨rfl, Or.inr ⟨B, 1, _, rfl, hwB, hB, Nat.le_refl _, by unfold maxLen; omega, rfl, rfl⟩⟩
  have h2 := h.on hw
  cases l with
  | nil =>
    refine ⟨_, _, run_append_nothing _ 23 23 23 45 i0 Try.underlying23 hi (some ⟨B, 0, none⟩) 1 1 (Nat.le_refl _) (.slice vb 0 vd) ⟨Or.inl ⟨45, Try.underlying23⟩, fun _ => rfl, by cases vb <;> first | rfl | (simp [Builtin.firstCells, loadCells, loadCellsFrom]), by cases vb <;> first | rfl | (simp [Builtin.firstCells, loadCells, loadCellsFrom]), by simp, by simp⟩, hown, hw, ⟨rfl, rfl, rfl, Nat.le_refl _, fun _ _ _ => rfl⟩⟩
  | cons z l =>
    obtain ⟨g, off, y, rfl, hg, _, _, _, _⟩ := h2.pick 0 (by simp)
    obtain ⟨_, _, a', c', e1, _, hc⟩ := h2
    obtain ⟨g', off', e2, _, hcell⟩ := hc (by simp)
    simp only [Value.slice.injEq] at e1
    obtain ⟨rfl, _, rfl⟩ := e1
    simp only [Option.some.injEq, Addr.mk.injEq, and_true] at e2
    obtain ⟨rfl, rfl⟩ := e2
    obtain ⟨v', w', hr, ho, hgr, _, _⟩ := run_append_own_at (P := Try.prog) u w.heap.size 23 23 45 i0 _ 5 40 Try.underlying23 hi hz0 hz1 hz2 rfl (by decide) _ 1 (cE [x]) hown
      ⟨g, off, none⟩ (z :: l).length vd (cE (z :: l)) (by rw [cE_length]) (fun j u hj => by
        have e : (⟨g, off, none⟩ : Addr).add j = ⟨g, off + j, none⟩ := by unfold Addr.add; split <;> simp_all
        rw [e]
        exact cE_cell (z :: l) off hcell j u hj) (cE_one _) (by unfold maxLen; omega) hb hw.size
    refine ⟨v', w', hr, ?_, hw.grown hgr hw.size (fun k hk => ?_), hgr⟩
    · unfold OwE
      rw [List.length_cons, Nat.add_comm _ 1]
      exact ho
    · have : B = k := Option.some.inj (show (some B : Option Nat) = some k from hk)
      omega
theorem OwE.shape {base : Nat} {w : World} {v : Value} {l : List Ed} (h : OwE base w v l) : ∃ a c, v = .slice a l.length c := by
  rcases h.2 with ⟨h00, h0⟩ | ⟨g, cap, cr, rfl, _⟩
  · exact ⟨none, 0, by rw [h00, h0]⟩
  · exact ⟨_, cap, rfl⟩
theorem oper_appE {o : Oper} {a : Act} {K : Act → World → Prop} {Q : Exit → Act → World → Prop} (hty : o.type = 23) (s x : Operand)
    (ho : o.op = .call { callee := .builtin .append, args := #[s, x], argTypes := #[23, 23] }) {w : World} {v u v' : Value} {w' : World} (hs : a.eval s = v) (hx : a.eval x = u)
    (hr : (Builtin.append_ #[23, 23] 23 #[v, u]).run Try.prog w = .ok v' w') (hk : K (a.put o.dst v') w') : o.wp Try.prog a w K Q := by
  unfold Oper.wp execOp
  simp only [ho, hty, resolve, invoke, builtin, Sem.run_bind, Sem.run_pure, Result.andThen_ok, List.map_toArray, List.map_cons, List.map_nil, hs, hx, hr]
  exact hk
end Go.Proofs.Ytbeoldklpklbfaa
