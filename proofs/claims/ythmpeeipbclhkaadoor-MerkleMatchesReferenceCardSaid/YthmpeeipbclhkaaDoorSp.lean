/-
  Slices of digests built by a literal; loads and stores in worlds with known blocks.
-/
import Derived.Test.YthmpeeipbclhkaaDoorSt
import Derived.Test.YthmpeeipbclhkaaDoorEc
import Derived.Great.BuildSlice
namespace Go.Proofs.YthmpeeipbclhkaaDoor
open Go.RowKit

theorem fold_setA (o : Nat) (l : List Value) : ∀ (k : Nat) (cs : Array Value), o + k + l.length ≤ cs.size → (List.foldl (fun (cs : Array Value) (x : Value × Nat) => cs.setIfInBounds (o + x.snd) x.fst) cs (l.zipIdx k)).toList = cs.toList.take (o + k) ++ l ++ cs.toList.drop (o + k + l.length) := by
  induction l with
  | nil => intro k cs h; simp
  | cons x l ih =>
    intro k cs h
    simp only [List.length_cons] at h
    rw [List.zipIdx_cons, List.foldl_cons, ih (k + 1) _ (by simp only [Array.size_setIfInBounds]; omega)]
    have hk : o + k < cs.toList.length := by simp; omega
    have e : (cs.setIfInBounds (o + k) x).toList = cs.toList.set (o + k) x := by simp
    rw [e, ← Nat.add_assoc, List.take_succ_eq_append_getElem (by simpa using hk), List.getElem_set_self, List.take_set]
    rw [List.set_eq_of_length_le (by rw [List.length_take]; omega), List.length_cons, List.drop_set_of_lt (by omega)]
    rw [show o + k + 1 + l.length = o + k + (l.length + 1) from by omega]
    simp

theorem fill_one (place : Nat → Option (Nat × Nat)) (cs : Array Value) (i : Nat) (v : Value) (rest : List (Nat × Value)) (off size : Nat) (hp : place i = some (off, size)) (hs : v.cells.size = size) (hb : off + size ≤ cs.size) :
    Instr.fill place cs ((i, v) :: rest) = Instr.fill place (v.cells.zipIdx.foldl (fun cs (c, j) => cs.setIfInBounds (off + j) c) cs) rest := by
  rw [Instr.fill, hp]
  simp only
  rw [if_neg (by simp [hs]; omega)]

theorem fill_ds (l : List (List Int)) (hl : ∀ x ∈ l, x.length = 32) : ∀ (k : Nat) (cs : Array Value), (k + l.length) * 32 ≤ cs.size →
    (Instr.fill (fun i => some (i * 32, 32)) cs ((l.zipIdx k).map fun x => (x.2, Value.agg (byteVals x.1).toArray))).map Array.toList = some (cs.toList.take (k * 32) ++ (l.map byteVals).flatten ++ cs.toList.drop ((k + l.length) * 32)) := by
  induction l with
  | nil => intro k cs h; simp [Instr.fill]
  | cons d l ih =>
    intro k cs h
    simp only [List.length_cons] at h
    have hd := hl d (by simp)
    have hbl : (byteVals d).length = 32 := by rw [bv_length, hd]
    have e0 : Instr.fill (fun i => some (i * 32, 32)) cs (((d :: l).zipIdx k).map fun x => (x.2, Value.agg (byteVals x.1).toArray)) = Instr.fill (fun i => some (i * 32, 32)) ((byteVals d).toArray.zipIdx.foldl (fun (cs : Array Value) (x : Value × Nat) => cs.setIfInBounds (k * 32 + x.2) x.1) cs) ((l.zipIdx (k + 1)).map fun x => (x.2, Value.agg (byteVals x.1).toArray)) := by
      rw [List.zipIdx_cons, List.map_cons]
      exact fill_one _ cs k (.agg (byteVals d).toArray) _ (k * 32) 32 rfl (by show (byteVals d).toArray.size = 32; rw [List.size_toArray, hbl]) (by omega)
    rw [e0]
    obtain ⟨cs', hcs'⟩ : ∃ cs' : Array Value, cs' = (byteVals d).toArray.zipIdx.foldl (fun (cs : Array Value) (x : Value × Nat) => cs.setIfInBounds (k * 32 + x.2) x.1) cs := ⟨_, rfl⟩
    have e1 : cs'.toList = cs.toList.take (k * 32) ++ byteVals d ++ cs.toList.drop (k * 32 + 32) := by
      rw [hcs', ← Array.foldl_toList]
      have := fold_setA (k * 32) (byteVals d) 0 cs (by rw [hbl]; omega)
      rw [hbl] at this
      simpa using this
    have e2 : cs'.size = cs.size := by
      have := congrArg List.length e1
      simp [hbl] at this
      omega
    have h3 := ih (fun x hx => hl x (by simp [hx])) (k + 1) cs' (by omega)
    rw [e1] at h3
    rw [← hcs']
    refine h3.trans ?_
    rw [List.map_cons, List.flatten_cons]
    have hA : (cs.toList.take (k * 32)).length = k * 32 := by simp; omega
    have h4 : (cs.toList.take (k * 32) ++ byteVals d ++ cs.toList.drop (k * 32 + 32)).take ((k + 1) * 32) = cs.toList.take (k * 32) ++ byteVals d := by
      rw [List.take_left' (by rw [List.length_append, hA, hbl]; omega)]
    have h5 : (cs.toList.take (k * 32) ++ byteVals d ++ cs.toList.drop (k * 32 + 32)).drop ((k + 1 + l.length) * 32) = cs.toList.drop ((k + (l.length + 1)) * 32) := by
      rw [show (k + 1 + l.length) * 32 = (k * 32 + 32) + l.length * 32 from by omega, ← List.drop_drop, List.drop_left' (by rw [List.length_append, hA, hbl]), List.drop_drop]
      congr 1; omega
    rw [h4, h5, List.length_cons, List.append_assoc, List.append_assoc, List.append_assoc, List.append_assoc]

theorem built_ds (l : List (List Int)) (hl : ∀ x ∈ l, x.length = 32) (h0 : 0 < l.length) (h1 : l.length ≤ 1000) (z : Value) (cs : Array Value) (hcs : cs.size = l.length * 32) :
    Instr.fill (fun i => some (i * 32, 32)) cs (l.zipIdx.map fun x => (x.2, Value.agg (byteVals x.1).toArray)) = some (l.map byteVals).flatten.toArray := by
  have h := fill_ds l hl 0 cs (by omega)
  have e : cs.toList.drop ((0 + l.length) * 32) = [] := List.drop_eq_nil_of_le (by simp; omega)
  rw [e, Nat.zero_mul, List.take_zero, List.nil_append, List.append_nil] at h
  obtain ⟨r, hr, hr2⟩ := Option.map_eq_some_iff.1 h
  rw [hr]
  congr 1
  rw [← hr2]

theorem wp_slice {o : Oper} {a : Act} {w : World} {K : Act → World → Prop} {Q : Exit → Act → World → Prop} (l : List (List Int)) (n : Nat) (ps : List (Nat × Operand)) (ho : o.op = .buildSlice 22 n ps.toArray)
    (hn : n = l.length) (h0 : 0 < n ∧ n ≤ 1000) (hl : ∀ x ∈ l, x.length = 32) (hp : (ps.map fun p => (p.1, a.eval p.2)) = l.zipIdx.map fun x => (x.2, Value.agg (byteVals x.1).toArray))
    (h : K (a.put o.dst (.slice (some ⟨w.heap.size, 0, none⟩) n n)) (w.alloc (.cells (l.map byteVals).flatten.toArray 26))) : o.wp Tryd.prog a w K Q := by
  have hi := Tryd.info26
  obtain ⟨ie, hie, hie2⟩ := Option.map_eq_some_iff.1 hi
  simp only [Prod.mk.injEq] at hie2
  obtain ⟨hz, hs, _⟩ := hie2
  refine wp_buildSlice 22 26 n ps.toArray ho _ ie _ Tryd.underlying22 hie hz ?_ ?_ ?_ h
  · rw [hs]; omega
  · rw [hs]; omega
  · have e : (ps.toArray.map fun (i, x) => (i, a.eval x)).toList = l.zipIdx.map fun x => (x.2, Value.agg (byteVals x.1).toArray) := by
      rw [← hp]; simp
    rw [e, hs]
    exact built_ds l hl (by omega) (by omega) (.agg #[]) _ (by simp; omega)

/-- A slice of digests laid down, in a plain region: the new world is a letter. -/
theorem wpList_slice {ops : Array Oper} {rest : List Oper} {o : Oper} {a : Act} {w0 w : World} {Q : Exit → Act → World → Prop} {L : List (Nat × TypeId × List Value)} {M : List (Value × List (List Int))}
    (HS : St4 w0 L M w) (l : List (List Int)) (n : Nat) (ps : List (Nat × Operand)) (hg : Region.wanted o (yielded ops a.tmps) = true) (ho : o.op = .buildSlice 22 n ps.toArray)
    (hn : n = l.length) (h0 : 0 < n ∧ n ≤ 1000) (hd : ∀ x ∈ l, Dg x) (hp : (ps.map fun p => (p.1, a.eval p.2)) = l.zipIdx.map fun x => (x.2, Value.agg (byteVals x.1).toArray))
    (h : ∀ W, St4 w0 L ((.slice (some ⟨w.heap.size, 0, none⟩) n n, l) :: M) W → wpList Tryd.prog ops Q rest (a.put o.dst (.slice (some ⟨w.heap.size, 0, none⟩) n n)) W) : wpList Tryd.prog ops Q (o :: rest) a w :=
  wpList_step fun K hK => by
    rw [if_pos hg]
    exact wp_slice l n ps ho hn h0 (fun x hx => (hd x hx).1) hp (hK _ _ (h _ (HS.slice l n hn (by omega) hd 26 _ rfl)))

theorem wpList_loadG {ops : Array Oper} {rest : List Oper} {op : Oper} {a : Act} {w : World} {Q : Exit → Act → World → Prop} (hg : Region.wanted op (yielded ops a.tmps) = true) (x : Operand) (ho : op.op = .load 26 x)
    (b : Nat) (hx : a.eval x = .pointer (some ⟨b, 0, none⟩)) (D : List Int) (hc : w.rangeAt b 0 (byteVals D)) (hl : D.length = 32)
    (h : wpList Tryd.prog ops Q rest (a.put op.dst (.agg (byteVals D).toArray)) w) : wpList Tryd.prog ops Q (op :: rest) a w :=
  wpList_step fun K hK => by
    rw [if_pos hg]
    exact wp_load_mid 26 x ho b 0 hx (byteVals D) _ hc Tryd.underlying26 rfl (size26 _ hl) (hK _ _ h)

theorem s30 (v : Value) (l : List Int) (h : l.length = 32) : (Tryd.prog.info? 30).map (·.size) = some (v :: byteVals l).length := by
  have := size30 v l h; simpa using this
theorem wpList_loadC {ops : Array Oper} {rest : List Oper} {op : Oper} {a : Act} {w : World} {Q : Exit → Act → World → Prop} (hg : Region.wanted op (yielded ops a.tmps) = true) (x : Operand) (ho : op.op = .load 30 x)
    (b : Nat) (hx : a.eval x = .pointer (some ⟨b, 0, none⟩)) (v : Value) (D : List Int) (hc : w.rangeAt b 0 (v :: byteVals D)) (hl : D.length = 32)
    (h : wpList Tryd.prog ops Q rest (a.put op.dst (.agg (v :: byteVals D).toArray)) w) : wpList Tryd.prog ops Q (op :: rest) a w :=
  wpList_step fun K hK => by
    rw [if_pos hg]
    exact wp_load_mid 30 x ho b 0 hx (v :: byteVals D) _ hc Tryd.underlying30 rfl (s30 _ _ hl) (hK _ _ h)

theorem St4.made {w w0 : World} {L : List (Nat × TypeId × List Value)} {M : List (Value × List (List Int))} (h : St4 w L M w0) (t : TypeId) (z : Array Value) (cs : List Value) :
    St4 w ((w0.heap.size, t, cs) :: L) M ((w0.alloc (.cells z t)).setRow w0.heap.size cs.toArray) := by
  have h1 := h.new t z.toList
  rw [Array.toArray_toList] at h1
  refine (h1.put0 w0.heap.size t z.toList cs (by simp)).sub _ _ (fun x hx => ?_) (fun x hx => hx)
  rcases List.mem_cons.1 hx with rfl | hx
  · simp
  · refine List.mem_cons.2 (Or.inr (List.mem_filter.2 ⟨List.mem_cons.2 (Or.inr hx), ?_⟩))
    have := h.lt (B := x.1) (t := x.2.1) (cs := x.2.2) hx
    simp
    omega

theorem St4.put1 {w w' : World} {L : List (Nat × TypeId × List Value)} {M : List (Value × List (List Int))} {B : Nat} {t : TypeId} {cs : List Value} (h : St4 w ((B, t, cs) :: L) M w') (B' : Nat) (t' : TypeId) (z : List Value) (cs' : List Value) (hne : ∀ x ∈ L, x.1 ≠ B) (hB : B' = B := by rfl) (ht : t' = t := by rfl) :
    St4 w ((B, t, cs') :: L) M (w'.setRow B cs'.toArray) := by
  refine (h.put0 B t cs cs' (by simp)).sub _ _ (fun x hx => ?_) (fun x hx => hx)
  rcases List.mem_cons.1 hx with rfl | hx
  · simp
  · refine List.mem_cons.2 (Or.inr (List.mem_filter.2 ⟨List.mem_cons.2 (Or.inr hx), ?_⟩))
    simpa using hne x hx
theorem St4.tail1 {w w' : World} {x : Nat × TypeId × List Value} {L : List (Nat × TypeId × List Value)} {M : List (Value × List (List Int))} (h : St4 w (x :: L) M w') : St4 w L M w' :=
  h.sub L M (fun y hy => by simp [hy]) (fun y hy => hy)
theorem St4.bare {w w' : World} {L : List (Nat × TypeId × List Value)} {M : List (Value × List (List Int))} (h : St4 w L M w') : St4 w L [] w' :=
  h.sub L [] (fun y hy => hy) (fun y hy => by simp at hy)

/-- A digest stored in a new variable: the new world is a letter. -/
theorem wpList_newD {ops : Array Oper} {rest : List Oper} {o : Oper} {a : Act} {w w0 : World} {Q : Exit → Act → World → Prop} {L : List (Nat × TypeId × List Value)} {M : List (Value × List (List Int))} {z : Array Value}
    (HS : St4 w L M w0) (hg : o.guard = none) (x y : Operand) (ho : o.op = .store 26 x y) (hx : a.eval x = .pointer (some ⟨w0.heap.size, 0, none⟩)) (D : List Int) (hy : a.eval y = .agg (byteVals D).toArray) (hD : D.length = 32) (hz : z.size = 32)
    (h : ∀ W, St4 w ((w0.heap.size, 26, byteVals D) :: L) M W → wpList Tryd.prog ops Q rest (a.put o.dst undef) W) : wpList Tryd.prog ops Q (o :: rest) a (w0.alloc (.cells z 26)) :=
  wpList_store_row hg 26 x y ho w0.heap.size _ hx hy 26 z (heap_alloc_new w0 _) (size25 D hD) (by rw [hz, List.size_toArray, bv_length, hD]) (all_byteVals _) (h _ (HS.made 26 z (byteVals D)))

/-- A commitment stored in a new variable. -/
theorem wpList_newC {ops : Array Oper} {rest : List Oper} {o : Oper} {a : Act} {w w0 : World} {Q : Exit → Act → World → Prop} {L : List (Nat × TypeId × List Value)} {M : List (Value × List (List Int))} {z : Array Value}
    (HS : St4 w L M w0) (hg : o.guard = none) (x y : Operand) (ho : o.op = .store 30 x y) (hx : a.eval x = .pointer (some ⟨w0.heap.size, 0, none⟩)) (n : Int) (D : List Int) (hy : a.eval y = .agg (Value.int .i64 n :: byteVals D).toArray) (hD : D.length = 32) (hz : z.size = 33)
    (h : ∀ W, St4 w ((w0.heap.size, 30, Value.int .i64 n :: byteVals D) :: L) M W → wpList Tryd.prog ops Q rest (a.put o.dst undef) W) : wpList Tryd.prog ops Q (o :: rest) a (w0.alloc (.cells z 30)) :=
  wpList_store_row hg 30 x y ho w0.heap.size _ hx hy 30 z (heap_alloc_new w0 _) (size30 _ D hD) (by rw [hz, List.size_toArray, List.length_cons, bv_length, hD]) (all_row _ _ rfl) (h _ (HS.made 30 z _))
end Go.Proofs.YthmpeeipbclhkaaDoor
