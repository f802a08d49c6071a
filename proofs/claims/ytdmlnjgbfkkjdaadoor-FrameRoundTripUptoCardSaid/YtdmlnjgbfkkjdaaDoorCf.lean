/-
  The receiver's loop: what lies in memory between two bytes.
-/
import Derived.Test.YtdmlnjgbfkkjdaaDoorCe
namespace Go.Proofs.YtdmlnjgbfkkjdaaDoor
open Go.RowKit
set_option linter.unusedVariables false
set_option linter.unusedSimpArgs false

theorem Tryd.info22 : (Tryd.prog.info? 22).map (fun i => (i.zero, i.size, i.bytes)) = some (some (.slice none 0 0), 1, 24) := by kernel_rfl
/-- Appending to a list of slices of the call's own. -/
structure ApL (base : Nat) (w0 : World) (v0 : Value) (w : World) (v : Value) (xs : List Value) : Prop where
  own : w.ownsRow base 22 1 v xs.length xs
  grown : w0.grownBy w v0.ownBlock
  blk : v.ownBlock = v0.ownBlock ∨ ∃ g, v.ownBlock = some g ∧ w0.heap.size ≤ g
theorem ApL.start {base : Nat} {w : World} {v : Value} {xs : List Value} (h : w.ownsRow base 22 1 v xs.length xs) : ApL base w v w v xs :=
  ⟨h, ⟨rfl, rfl, rfl, Nat.le_refl _, fun _ _ _ => rfl⟩, Or.inl rfl⟩
theorem wp_putL {P : Program} {ops : Array Oper} {rest : List Oper} {o : Oper} {a : Act} {Q : Exit → Act → World → Prop} (hP : P = Tryd.prog) (hgd : o.guard = none) (s x : Operand)
    (ho : o.op = .call { callee := .builtin .append, args := #[s, x], argTypes := #[32, 32] })
    {base : Nat} {w0 : World} {v0 : Value} (w : World) (v : Value) (xs : List Value) (u : Value) (hu : u.oneCell' = true) (m c : Nat) (h : ApL base w0 v0 w v xs) (hs : a.eval s = v)
    (hx : a.eval x = .slice (some ⟨w.heap.size, 0, none⟩) m c) (hm : m = 1) (hb : (xs.length + 1) * 24 ≤ 140737488355328) (hbase : base ≤ w.heap.size)
    (hk : ∀ v' w', ApL base w0 v0 w' v' (xs ++ [u]) → wpList P ops Q rest (a.put o.dst v') w') : wpList P ops Q (o :: rest) a (w.alloc (.cells #[u] 22)) := by
  subst hP hm
  obtain ⟨i0, hi, hz0, hz1, hz2⟩ := info_parts Tryd.info22
  refine wpList_append_own_at _ hgd s x 32 ho base 22 i0 (.slice none 0 0) 1 24 Tryd.underlying32 hi hz0 hz1 hz2 rfl (by decide) v xs.length xs hs (h.own.alloc _) ⟨w.heap.size, 0, none⟩ 1 c [u] hx
    rfl (cell_one_new _ _ _) ?_ (by unfold maxLen; omega) hb (by simp; omega) ?_
  · intro y hy
    simp at hy
    rw [hy]; exact hu
  · intro v' w' hown hgrow _ hblk
    refine hk v' w' ⟨?_, ?_, ?_⟩
    · rw [List.length_append]; exact hown
    · exact grow2 (growAlloc h.grown _) hgrow h.blk
    · rcases hblk with e | e
      · rw [e]; exact h.blk
      · refine Or.inr ⟨_, e, ?_⟩
        have := h.grown.size
        simp; omega

theorem own_shape {w : World} {base e size n : Nat} {v : Value} {xs : List Value} (h : w.ownsRow base e size v n xs) : ∃ a c, v = .slice a n c := by
  rcases h.2 with ⟨rfl, rfl⟩ | ⟨g, cap, cur, rfl, _⟩
  · exact ⟨none, 0, rfl⟩
  · exact ⟨_, _, rfl⟩
theorem own_kept {w w' : World} {base e size n : Nat} {v : Value} {xs : List Value} (h : w.ownsRow base e size v n xs) (hk : ∀ g, v.ownBlock = some g → w'.heap[g]? = w.heap[g]?) : w'.ownsRow base e size v n xs := by
  refine ⟨h.1, ?_⟩
  rcases h.2 with h2 | ⟨g, cap, cur, rfl, h3, h4, h5⟩
  · exact Or.inl h2
  · exact Or.inr ⟨g, cap, cur, rfl, h3, (hk g rfl).trans h4, h5⟩

/-- The blocks in which received contents lie. -/
def Cz (base : Nat) (w : World) (vr vl : Value) (k : Nat) : Prop := base ≤ k ∧ k < w.heap.size ∧ vr.ownBlock ≠ some k ∧ vl.ownBlock ≠ some k
/-- The received contents. -/
def LV (base : Nat) (w : World) (vr vl : Value) (L : List (List Int)) (vals : List Value) : Prop :=
  w.ownsRow base 22 1 vl L.length vals ∧ vals.length = L.length ∧ ∀ (j : Nat) (v : Value) (l : List Int), vals[j]? = some v → L[j]? = some l → Bs (Cz base w vr vl) w v l
/-- Between two bytes. -/
structure FI (w0 : World) (B bs : Nat) (s : St) (L : List (List Int)) (vr vl : Value) (w : World) : Prop where
  box : w.heap[B]? = some (.cells #[vr, .bool s.inn, .bool s.esc, .bool s.bad] 31 (0, 0))
  own : w.ownsRow bs 5 1 vr s.rest.length (byteVals s.rest)
  lst : ∃ vals, LV bs w vr vl L vals
  sep : ∀ g, vr.ownBlock = some g → vl.ownBlock ≠ some g
  below : Below w0.heap.size w0 w
  hB : w0.heap.size ≤ B
  hbs : B < bs
theorem FI.lt {w0 w : World} {B bs : Nat} {s : St} {L : List (List Int)} {vr vl : Value} (h : FI w0 B bs s L vr vl w) : B < w.heap.size := blt h.box
theorem own_lt {w : World} {base e size n : Nat} {v : Value} {xs : List Value} (h : w.ownsRow base e size v n xs) {g : Nat} (hg : v.ownBlock = some g) : base ≤ g ∧ g < w.heap.size := by
  rcases h.2 with ⟨rfl, _⟩ | ⟨g', cap, cur, rfl, h3, h4, h5⟩
  · simp [Value.ownBlock] at hg
  · simp only [Value.ownBlock, Option.some.injEq] at hg
    subst hg
    exact ⟨h3, blt h4⟩
theorem FI.call {w0 w w' : World} {B bs : Nat} {s : St} {L : List (List Int)} {vr vl : Value} (h : FI w0 B bs s L vr vl w) (hb : Below w.heap.size w w') : FI w0 B bs s L vr vl w' := by
  refine ⟨bon h.box hb, own_kept h.own fun g hg => hb.block g (own_lt h.own hg).2, ?_, h.sep, btrans h.below hb, h.hB, h.hbs⟩
  obtain ⟨vals, h1, h2, h3⟩ := h.lst
  refine ⟨vals, own_kept h1 fun g hg => hb.block g (own_lt h1 hg).2, h2, fun j v l hv hl => ?_⟩
  exact (h3 j v l hv hl).kept (fun k hk => hb.block k hk.2.1) (fun k hk => ⟨hk.1, Nat.lt_of_lt_of_le hk.2.1 hb.size, hk.2.2⟩)
/-- The box is written. -/
theorem FI.set {w0 w w' : World} {B bs : Nat} {s s' : St} {L : List (List Int)} {vr vl : Value} (h : FI w0 B bs s L vr vl w) (hr : s'.rest = s.rest)
    (hbx : w'.heap[B]? = some (.cells #[vr, .bool s'.inn, .bool s'.esc, .bool s'.bad] 31 (0, 0))) (ho : ∀ k, k ≠ B → w'.heap[k]? = w.heap[k]?) (hs : w'.heap.size = w.heap.size) (hbel : Below w0.heap.size w0 w') : FI w0 B bs s' L vr vl w' := by
  refine ⟨hbx, by rw [hr]; exact own_kept h.own fun g hg => ho g (by have := (own_lt h.own hg).1; have := h.hbs; omega), ?_, h.sep, hbel, h.hB, h.hbs⟩
  obtain ⟨vals, h1, h2, h3⟩ := h.lst
  refine ⟨vals, own_kept h1 fun g hg => ho g (by have := (own_lt h1 hg).1; have := h.hbs; omega), h2, fun j v l hv hl => ?_⟩
  exact (h3 j v l hv hl).kept (fun k hk => ho k (by have := hk.1; have := h.hbs; omega)) (fun k hk => ⟨hk.1, by rw [hs]; exact hk.2.1, hk.2.2⟩)
/-- The rest is given up. -/
theorem FI.drop {w0 w w' : World} {B bs : Nat} {s s' : St} {L : List (List Int)} {vr vl : Value} (h : FI w0 B bs s L vr vl w) (hr : s'.rest = [])
    (hbx : w'.heap[B]? = some (.cells #[.slice none 0 0, .bool s'.inn, .bool s'.esc, .bool s'.bad] 31 (0, 0))) (ho : ∀ k, k ≠ B → w'.heap[k]? = w.heap[k]?) (hs : w'.heap.size = w.heap.size) (hbel : Below w0.heap.size w0 w') : FI w0 B bs s' L (.slice none 0 0) vl w' := by
  refine ⟨hbx, by rw [hr]; exact World.ownsRow_nil _ _ _ _, ?_, fun g hg => by simp [Value.ownBlock] at hg, hbel, h.hB, h.hbs⟩
  obtain ⟨vals, h1, h2, h3⟩ := h.lst
  refine ⟨vals, own_kept h1 fun g hg => ho g (by have := (own_lt h1 hg).1; have := h.hbs; omega), h2, fun j v l hv hl => ?_⟩
  exact (h3 j v l hv hl).kept (fun k hk => ho k (by have := hk.1; have := h.hbs; omega)) (fun k hk => ⟨hk.1, by rw [hs]; exact hk.2.1, by simp [Value.ownBlock], hk.2.2.2⟩)
/-- A content is received; the rest is given up. -/
theorem FI.push {w0 w wa w' : World} {B bs : Nat} {s s' : St} {L : List (List Int)} {vr vl vl' : Value} {vals : List Value} {a : Option Addr} {n c : Nat} (h : FI w0 B bs s L vr vl w) (hlv : LV bs w vr vl L vals)
    (hvr : vr = .slice a n c) (hn : n = s.rest.length) (h4 : 4 ≤ n) (hrg : Rg8 s.rest) (hmx : n ≤ 140737488355328) (hap : ApL bs w vl wa vl' (vals ++ [.slice a (n - 4) c])) (hr : s'.rest = [])
    (hbx : w'.heap[B]? = some (.cells #[.slice none 0 0, .bool s'.inn, .bool s'.esc, .bool s'.bad] 31 (0, 0))) (ho : ∀ k, k ≠ B → w'.heap[k]? = wa.heap[k]?) (hs : w'.heap.size = wa.heap.size) (hbel : Below w0.heap.size w0 w') :
    FI w0 B bs s' (L ++ [cont s]) (.slice none 0 0) vl' w' := by
  obtain ⟨h1, h2, h3⟩ := hlv
  have hg : ∀ k, k < w.heap.size → vl.ownBlock ≠ some k → wa.heap[k]? = w.heap[k]? := fun k hk hne => hap.grown.block k hk (fun e => hne e.symm)
  have hne : ∀ k, k < w.heap.size → vl.ownBlock ≠ some k → vl'.ownBlock ≠ some k := by
    intro k hk hne e
    rcases hap.blk with h | ⟨g, h, hg⟩
    · rw [h] at e; exact hne e
    · rw [h] at e; simp at e; omega
  refine ⟨hbx, by rw [hr]; exact World.ownsRow_nil _ _ _ _, ?_, fun g hg => by simp [Value.ownBlock] at hg, hbel, h.hB, h.hbs⟩
  refine ⟨vals ++ [.slice a (n - 4) c], ?_, by simp [h2], fun j v l hv hl => ?_⟩
  · have := hap.own
    rw [List.length_append, List.length_singleton] at this ⊢
    rw [h2] at this
    exact own_kept this fun g hg => ho g (by have := (own_lt hap.own hg).1; have := h.hbs; omega)
  · by_cases hj : j < L.length
    · rw [List.getElem?_append_left (by omega)] at hv
      rw [List.getElem?_append_left hj] at hl
      refine (h3 j v l hv hl).kept (fun k hk => ?_) (fun k hk => ⟨hk.1, ?_, by simp [Value.ownBlock], hne k hk.2.1 hk.2.2.2⟩)
      · rw [ho k (by have := hk.1; have := h.hbs; omega)]; exact hg k hk.2.1 hk.2.2.2
      · rw [hs]; exact Nat.lt_of_lt_of_le hk.2.1 hap.grown.size
    · have hj1 : j < L.length + 1 := by have := (List.getElem?_eq_some_iff.1 hl).1; simpa using this
      obtain rfl : j = L.length := by omega
      rw [List.getElem?_append_right (by omega), h2, Nat.sub_self] at hv
      rw [List.getElem?_append_right (by omega), Nat.sub_self] at hl
      simp only [List.getElem?_cons_zero, Option.some.injEq] at hv hl
      subst hv hl
      have ho2 := Bs.ofOwn h.own (by omega) hrg
      rw [hvr] at ho2
      subst hn
      have ht := ho2.take (s.rest.length - 4) (by omega)
      refine ht.kept (fun k hk => ?_) (fun k hk => ?_)
      · have hk2 : vl.ownBlock ≠ some k := h.sep k (by rw [hvr]; exact hk.2.2)
        rw [ho k (by have := hk.1; have := h.hbs; omega)]; exact hg k hk.2.1 hk2
      · have hk2 : vl.ownBlock ≠ some k := h.sep k (by rw [hvr]; exact hk.2.2)
        exact ⟨hk.1, by rw [hs]; exact Nat.lt_of_lt_of_le hk.2.1 hap.grown.size, by simp [Value.ownBlock], hne k hk.2.1 hk2⟩
/-- A byte is taken in. -/
theorem FI.app {w0 w wa w' : World} {B bs : Nat} {s s' : St} {L : List (List Int)} {vr vr' vl : Value} (h : FI w0 B bs s L vr vl w) (hap : Apd bs w vr wa vr' s'.rest)
    (hbx : w'.heap[B]? = some (.cells #[vr', .bool s'.inn, .bool s'.esc, .bool s'.bad] 31 (0, 0))) (ho : ∀ k, k ≠ B → w'.heap[k]? = wa.heap[k]?) (hs : w'.heap.size = wa.heap.size) (hbel : Below w0.heap.size w0 w') : FI w0 B bs s' L vr' vl w' := by
  have hne : ∀ k, k < w.heap.size → vr.ownBlock ≠ some k → vr'.ownBlock ≠ some k := by
    intro k hk hne e
    rcases hap.blk with h | ⟨g, h, hg⟩
    · rw [h] at e; exact hne e
    · rw [h] at e; simp at e; omega
  have hg : ∀ k, k < w.heap.size → vr.ownBlock ≠ some k → wa.heap[k]? = w.heap[k]? := fun k hk hne => hap.grown.block k hk (fun e => hne e.symm)
  obtain ⟨vals, h1, h2, h3⟩ := h.lst
  have hsep : ∀ g, vl.ownBlock = some g → vr.ownBlock ≠ some g := fun g hg e => h.sep g e hg
  refine ⟨hbx, own_kept hap.own fun g hg => ho g (by have := (own_lt hap.own hg).1; have := h.hbs; omega), ?_, fun g hg e => ?_, hbel, h.hB, h.hbs⟩
  · refine ⟨vals, own_kept h1 fun g hgl => ?_, h2, fun j v l hv hl => ?_⟩
    · have hx := own_lt h1 hgl
      rw [ho g (by have := h.hbs; omega)]
      exact hg g hx.2 (hsep g hgl)
    · refine (h3 j v l hv hl).kept (fun k hk => ?_) (fun k hk => ⟨hk.1, ?_, hne k hk.2.1 hk.2.2.1, hk.2.2.2⟩)
      · rw [ho k (by have := hk.1; have := h.hbs; omega)]; exact hg k hk.2.1 hk.2.2.1
      · rw [hs]; exact Nat.lt_of_lt_of_le hk.2.1 hap.grown.size
  · exact hne g (own_lt h1 e).2 (hsep g e) hg
/-- At the beginning. -/
theorem FI.start {w0 w : World} {B bs : Nat} {s : St} {vr : Value} (hbx : w.heap[B]? = some (.cells #[vr, .bool s.inn, .bool s.esc, .bool s.bad] 31 (0, 0))) (hown : w.ownsRow bs 5 1 vr s.rest.length (byteVals s.rest))
    (hbel : Below w0.heap.size w0 w) (hB : w0.heap.size ≤ B) (hbs : B < bs) : FI w0 B bs s [] vr (.slice none 0 0) w :=
  ⟨hbx, hown, ⟨[], World.ownsRow_nil _ _ _ _, rfl, fun j v l hv hl => by simp at hv⟩, fun g hg => by simp [Value.ownBlock], hbel, hB, hbs⟩
end Go.Proofs.YtdmlnjgbfkkjdaaDoor
