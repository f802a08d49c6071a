/-
  Slices of shares of the call's own; arrays of kilometres and of marks.
-/
import Derived.Test.YtbeoldklpklbfaaOb
namespace Go.Proofs.Ytbeoldklpklbfaa
open Go.RowKit
set_option linter.unusedVariables false
set_option linter.unusedSimpArgs false

def cS : List Sh → List Value
  | [] => []
  | s :: t => .int .i64 s.r :: .int .i64 s.k :: cS t
theorem cS_length (l : List Sh) : (cS l).length = l.length * 2 := by
  induction l with
  | nil => rfl
  | cons s t ih => simp only [cS, List.length_cons, ih]; omega
theorem cS_append (x y : List Sh) : cS (x ++ y) = cS x ++ cS y := by
  induction x with
  | nil => rfl
  | cons s t ih => simp [cS, ih]
theorem cS_get : ∀ (l : List Sh) (j : Nat) (s : Sh), l[j]? = some s → (cS l)[j * 2]? = some (.int .i64 s.r) ∧ (cS l)[j * 2 + 1]? = some (.int .i64 s.k)
  | [], j, s, h => by simp at h
  | t :: l, 0, s, h => by
    simp at h
    subst h
    simp [cS]
  | t :: l, j + 1, s, h => by
    have := cS_get l j s (by simpa using h)
    have e : (j + 1) * 2 = j * 2 + 1 + 1 := by omega
    rw [e]
    simpa [cS] using this
theorem cS_one (l : List Sh) : ∀ u ∈ cS l, u.oneCell' = true := by
  induction l with
  | nil => intro u h; simp [cS] at h
  | cons s t ih =>
    intro u h
    simp only [cS, List.mem_cons] at h
    rcases h with rfl | rfl | h
    · rfl
    · rfl
    · exact ih u h
theorem info51 : (Try.prog.info? 51).map (fun i => (i.zero, i.size, i.bytes)) = some (some (.agg #[.int .i64 0, .int .i64 0]), 2, 16) := by kernel_rfl
theorem wp_appS {P : Program} {ops : Array Oper} {rest : List Oper} {o : Oper} {a : Act} {Q : Exit → Act → World → Prop} (hP : P = Try.prog) (hgd : o.guard = none) (hty : o.type = 35) (s x : Operand)
    (ho : o.op = .call { callee := .builtin .append, args := #[s, x], argTypes := #[35, 35] }) {w : World} {v u v' : Value} {w' : World} (hs : a.eval s = v) (hx : a.eval x = u)
    (hr : (Builtin.append_ #[35, 35] 35 #[v, u]).run Try.prog w = .ok v' w') (hk : wpList P ops Q rest (a.put o.dst v') w') : wpList P ops Q (o :: rest) a w := by
  subst hP
  refine wpList_plain hgd fun K hK => ?_
  unfold Oper.wp execOp
  simp only [ho, hty, resolve, invoke, builtin, Sem.run_bind, Sem.run_pure, Result.andThen_ok, List.map_toArray, List.map_cons, List.map_nil, hs, hx, hr]
  exact hK _ _ hk
/-- The slice v holds the shares l, in a block of its own from base on. -/
def OwS (base : Nat) (w : World) (v : Value) (l : List Sh) : Prop := w.ownsRow base 51 2 v l.length (cS l)
theorem OwS.on {base : Nat} {w w' : World} {v : Value} {l : List Sh} (h : OwS base w v l) (hb : Below w.heap.size w w') : OwS base w' v l :=
  World.ownsRow.kept h (row := none) ⟨hb.os, hb.tape, hb.output, hb.size, fun i hi _ => hb.block i hi⟩ (by cases hx : v.ownBlock <;> simp)
theorem OwS.shape {base : Nat} {w : World} {v : Value} {l : List Sh} (h : OwS base w v l) : ∃ a c, v = .slice a l.length c := by
  rcases h.2 with ⟨h00, h0⟩ | ⟨g, cap, cr, rfl, _⟩
  · exact ⟨none, 0, by rw [h00, h0]⟩
  · exact ⟨_, cap, rfl⟩
theorem ows_nil (base : Nat) (w : World) : OwS base w (.slice none 0 0) [] := ⟨rfl, Or.inl ⟨rfl, rfl⟩⟩
theorem ows_new (base : Nat) (w : World) (hb : base ≤ w.heap.size) : OwS base (w.alloc (.cells #[] 51)) (.slice (some ⟨w.heap.size, 0, none⟩) 0 0) [] :=
  ⟨rfl, Or.inr ⟨w.heap.size, 0, #[], rfl, hb, heap_alloc_new w _, Nat.le_refl _, by unfold maxLen; omega, rfl, rfl⟩⟩
theorem OwS.push {base : Nat} {wr : World} {l : List Sh} {v : Value} (h : OwS base wr v l) (hbase : base ≤ wr.heap.size) (s : Sh) (hn : l.length ≤ 1000) :
    ∃ v' w', (Builtin.append_ #[35, 35] 35 #[v, .slice (some ⟨wr.heap.size, 0, none⟩) 1 1]).run Try.prog (wr.alloc (.cells #[.int .i64 s.r, .int .i64 s.k] 51)) = .ok v' w' ∧ OwS base w' v' (l ++ [s]) ∧ wr.grownBy w' v.ownBlock := by
  obtain ⟨i0, hi, hzz⟩ := Option.map_eq_some_iff.1 info51
  simp only [Prod.mk.injEq] at hzz
  obtain ⟨hz0, hz1, hz2⟩ := hzz
  have ho := World.ownsRow.alloc h (.cells #[.int .i64 s.r, .int .i64 s.k] 51)
  obtain ⟨v', w', hr, h2, h3, _, h4⟩ := run_append_own_at (P := Try.prog) (wr.alloc (.cells #[.int .i64 s.r, .int .i64 s.k] 51)) base 35 35 51 i0 _ 2 16 Try.underlying35 hi hz0 hz1 hz2 rfl (by decide) v l.length (cS l) ho
    ⟨wr.heap.size, 0, none⟩ 1 1 (cS [s]) rfl (fun j u hj => by
      have e : (⟨wr.heap.size, 0, none⟩ : Addr).add j = ⟨wr.heap.size, j, none⟩ := by unfold Addr.add; split <;> simp_all
      rw [e]
      exact cells_new1 wr [.int .i64 s.r, .int .i64 s.k] 51 j u hj) (cS_one _) (by unfold maxLen; omega) (by omega) (by rw [World.size_alloc]; omega)
  refine ⟨v', w', hr, ?_, grow2 (World.grownBy_alloc wr _ v.ownBlock) h3 (Or.inl rfl)⟩
  unfold OwS
  rw [cS_append, List.length_append]
  exact h2
theorem OwS.ss {base : Nat} {w : World} {v : Value} {l : List Sh} (h : OwS base w v l) (hI : ∀ s ∈ l, I64 s.r ∧ I64 s.k) (hn : l.length ≤ 1000) : Ss (fun k => k < w.heap.size) w v l := by
  have hI2 : ∀ x ∈ l, ∀ y ∈ Sh.cs x, I64 y := by
    intro x hx y hy
    have := hI x hx
    simp only [Sh.cs, List.mem_cons, List.not_mem_nil, or_false] at hy
    rcases hy with rfl | rfl
    · exact this.1
    · exact this.2
  rcases h.2 with ⟨h00, h0⟩ | ⟨g, cap, cr, rfl, hb, hh, hn2, hm, hs, ht⟩
  · exact ⟨by omega, hI2, none, 0, by rw [h00, h0], by omega, fun hp => by omega⟩
  · refine ⟨by omega, hI2, some ⟨g, 0, none⟩, cap, rfl, hn2, fun _ => ⟨g, 0, rfl, (Array.getElem?_eq_some_iff.1 hh).1, fun j x hj i y hi => ?_⟩⟩
    obtain ⟨e1, e2⟩ := cS_get l j x hj
    rw [← ht, List.getElem?_take] at e1 e2
    rw [Nat.zero_add, cell_of_row w g _ cr 51 (0, 0) hh]
    match i, hi with
    | 0, hi =>
      simp only [Sh.cs, List.getElem?_cons_zero, Option.some.injEq] at hi
      subst hi
      split at e1
      · simpa using e1
      · cases e1
    | 1, hi =>
      simp only [Sh.cs, List.getElem?_cons_succ, List.getElem?_cons_zero, Option.some.injEq] at hi
      subst hi
      split at e2
      · simpa using e2
      · cases e2
    | i + 2, hi => simp [Sh.cs] at hi
theorem Ss.cells {F : Nat → Prop} {w : World} {a : Option Addr} {m c : Nat} {l : List Sh} (h : Ss F w (.slice a m c) l) (k : Nat) (hk : k < l.length) :
    ∃ g off x, a = some ⟨g, off, none⟩ ∧ F g ∧ l[k]? = some x ∧ I64 x.r ∧ I64 x.k ∧ w.cell? ⟨g, off + k * 2, none⟩ = some (.int .i64 x.r) ∧ w.cell? ⟨g, off + k * 2 + 1, none⟩ = some (.int .i64 x.k) ∧ l.length ≤ c := by
  obtain ⟨g, off, x, h1, h2, h3, h4, h5, h6⟩ := h.pick k hk
  exact ⟨g, off, x, h1, h2, h3, h4 _ (by simp [Sh.cs]), h4 _ (by simp [Sh.cs]), h5 0 _ rfl, h5 1 _ rfl, h6⟩

/-- Block B holds sixteen values. -/
def KA (w : World) (B : Nat) (t : TypeId) (f : Nat → Value) : Prop := ∃ cs : Array Value, w.heap[B]? = some (.cells cs t (0, 0)) ∧ ∀ r, r < 16 → cs[r]? = some (f r)
section
variable {w : World} {B : Nat} {t : TypeId} {f : Nat → Value}
theorem KA.cell (h : KA w B t f) {r : Nat} (hr : r < 16) : w.cell? ⟨B, r, none⟩ = some (f r) := by
  obtain ⟨cs, h1, h2⟩ := h
  rw [cell_of_row w B r cs t (0, 0) h1]
  exact h2 r hr
theorem KA.free (h : KA w B t f) (r : Nat) : w.frozen? ⟨B, r, none⟩ = false := by
  obtain ⟨cs, h1, _⟩ := h
  exact frozen_of_row w B r cs t h1
theorem KA.lt (h : KA w B t f) : B < w.heap.size := by
  obtain ⟨cs, h1, _⟩ := h
  exact blt h1
theorem KA.put (h : KA w B t f) {r : Nat} (hr : r < 16) (v : Value) : KA (w.setCell ⟨B, r, none⟩ v) B t (fun q => if q = r then v else f q) := by
  obtain ⟨cs, h1, h2⟩ := h
  refine ⟨_, heap_setCell_same w B r cs t v h1, fun q hq => ?_⟩
  rw [Array.getElem?_setIfInBounds]
  by_cases e : r = q
  · have hs := (Array.getElem?_eq_some_iff.1 (h2 r hr)).1
    rw [if_pos e, if_pos (e ▸ hs)]
    show _ = some (if q = r then v else f q)
    rw [if_pos e.symm]
  · rw [if_neg e]
    show _ = some (if q = r then v else f q)
    rw [if_neg (fun e' : q = r => e e'.symm)]
    exact h2 q hq
theorem KA.kept {w' : World} (h : KA w B t f) (hh : w'.heap[B]? = w.heap[B]?) : KA w' B t f := by
  obtain ⟨cs, h1, h2⟩ := h
  exact ⟨cs, hh.trans h1, h2⟩
theorem KA.other (h : KA w B t f) (a : Addr) (v : Value) (hne : B ≠ a.block) : KA (w.setCell a v) B t f := h.kept (heap_setCell_other w a B v hne)
theorem KA.on {w' : World} (h : KA w B t f) (hb : Below w.heap.size w w') : KA w' B t f := h.kept (hb.block B h.lt)
theorem KA.same {g : Nat → Value} (h : KA w B t f) (e : ∀ r, r < 16 → f r = g r) : KA w B t g := by
  obtain ⟨cs, h1, h2⟩ := h
  exact ⟨cs, h1, fun r hr => by rw [← e r hr]; exact h2 r hr⟩
end
theorem ka_lit (w : World) (t : TypeId) (v : Value) : KA (w.alloc (.cells #[v, v, v, v, v, v, v, v, v, v, v, v, v, v, v, v] t)) w.heap.size t (fun _ => v) := by
  refine ⟨_, heap_alloc_new _ _, fun r hr => ?_⟩
  match r, hr with
  | 0, _ | 1, _ | 2, _ | 3, _ | 4, _ | 5, _ | 6, _ | 7, _ | 8, _ | 9, _ | 10, _ | 11, _ | 12, _ | 13, _ | 14, _ | 15, _ => rfl
  | q + 16, h => omega
theorem ka_made (w : World) (t : TypeId) (v : Value) : KA (w.alloc (.cells (madeCells #[v] 16) t)) w.heap.size t (fun _ => v) := by
  refine ⟨_, heap_alloc_new _ _, fun r hr => ?_⟩
  have h := congrArg (fun l : List Value => l[r]?) (toList_madeCells_one v 16)
  simp only [List.getElem?_replicate, if_pos hr] at h
  rw [← Array.getElem?_toList]
  exact h
theorem kmf_le {n : Nat} {es : List Ln} (hok : ∀ x ∈ es, x.ok n) (P : List Nat) (r : Nat) : ∀ i, kmf es P r i ≤ 10000 * i
  | 0 => Nat.le_refl _
  | i + 1 => by
    have := kmf_le hok P r i
    unfold kmf
    split
    · rename_i j hj
      obtain ⟨x, hx, _⟩ := fd_line hj
      have h1 := hok x (List.mem_of_getElem? hx)
      unfold Ln.ok at h1
      rw [lx_get hx]
      split <;> omega
    · omega
theorem shr_len (es : List Ln) (P : List Nat) (m : Nat) : ∀ r, (shr es P m r).length ≤ r
  | 0 => Nat.le_refl _
  | r + 1 => by
    have := shr_len es P m r
    unfold shr
    split
    · rw [List.length_append]; simp; omega
    · omega
theorem shr_mem {n : Nat} {es : List Ln} (hok : ∀ x ∈ es, x.ok n) (P : List Nat) (m : Nat) : ∀ r, ∀ s ∈ shr es P m r, 0 ≤ s.r ∧ s.r < r ∧ 0 ≤ s.k ∧ s.k ≤ 10000 * m
  | 0, s, h => by simp [shr] at h
  | r + 1, s, h => by
    unfold shr at h
    split at h
    · rcases List.mem_append.1 h with h | h
      · have := shr_mem hok P m r s h; omega
      · simp only [List.mem_singleton] at h
        subst h
        have := kmf_le hok P r m
        simp only
        omega
    · have := shr_mem hok P m r s h; omega
end Go.Proofs.Ytbeoldklpklbfaa
