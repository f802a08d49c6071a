/-
  Appending bytes to a slice that the call owns: what stays and what is known behind it.
-/
import Derived.Test.YtjhjcigappkebaaWb
namespace Go.Proofs.Ytjhjcigappkebaa
open Go.RowKit

theorem Try.info5 : (Try.prog.info? 5).map (fun i => (i.zero, i.size, i.bytes)) = some (some (.int .u8 0), 1, 1) := by kernel_rfl

def byteVals (bs : List Int) : List Value := bs.map (Value.int .u8)
theorem byteVals_append (a b : List Int) : byteVals (a ++ b) = byteVals a ++ byteVals b := by simp [byteVals]
theorem byteVals_length (a : List Int) : (byteVals a).length = a.length := by simp [byteVals]

/-- In w the slice v (of the call's own, from block base on) holds the bytes bs; since w0 nothing but v0's own block has changed. -/
structure Apd (base : Nat) (w0 : World) (v0 : Value) (w : World) (v : Value) (bs : List Int) : Prop where
  own : w.ownsRow base 5 1 v bs.length (byteVals bs)
  grown : w0.grownBy w v0.ownBlock
  blk : v.ownBlock = v0.ownBlock ∨ ∃ g, v.ownBlock = some g ∧ w0.heap.size ≤ g

theorem grow2 {a b c : World} {r r' : Option Nat} (h : a.grownBy b r) (k : b.grownBy c r') (hr : r' = r ∨ ∃ g, r' = some g ∧ a.heap.size ≤ g) : a.grownBy c r := by
  refine ⟨k.os.trans h.os, k.tape.trans h.tape, k.output.trans h.output, Nat.le_trans h.size k.size, fun i hi hne => ?_⟩
  refine (k.block i (Nat.lt_of_lt_of_le hi h.size) ?_).trans (h.block i hi hne)
  rcases hr with rfl | ⟨g, rfl, hg⟩
  · exact hne
  · intro e; simp at e; omega

theorem growDrew {a b : World} {r : Option Nat} (h : a.grownBy b r) : a.grownBy b.drew r := ⟨h.os, h.tape, h.output, h.size, h.block⟩
theorem growAlloc {a b : World} {r : Option Nat} (h : a.grownBy b r) (o : Obj) : a.grownBy (b.alloc o) r := grow2 h (World.grownBy_alloc b o r) (Or.inl rfl)

theorem Apd.start {base : Nat} {w : World} {v : Value} {bs : List Int} (h : w.ownsRow base 5 1 v bs.length (byteVals bs)) : Apd base w v w v bs :=
  ⟨h, ⟨rfl, rfl, rfl, Nat.le_refl _, fun _ _ _ => rfl⟩, Or.inl rfl⟩

theorem Apd.alloc {base : Nat} {w0 w : World} {v0 v : Value} {bs : List Int} (h : Apd base w0 v0 w v bs) (o : Obj) : Apd base w0 v0 (w.alloc o) v bs :=
  ⟨h.own.alloc o, growAlloc h.grown o, h.blk⟩

theorem ownsDrew {w : World} {base : Nat} {e : TypeId} {size : Nat} {v : Value} {n : Nat} {xs : List Value} (h : w.ownsRow base e size v n xs) : w.drew.ownsRow base e size v n xs :=
  h.kept (row := none) ⟨rfl, rfl, rfl, Nat.le_refl _, fun _ _ _ => rfl⟩ (by cases v.ownBlock <;> simp)

theorem Apd.drew {base : Nat} {w0 w : World} {v0 v : Value} {bs : List Int} (h : Apd base w0 v0 w v bs) : Apd base w0 v0 w.drew v bs :=
  ⟨ownsDrew h.own, growDrew h.grown, h.blk⟩

/-- What holds since w1 holds since w0. -/
theorem Apd.trans {base : Nat} {w0 w1 w : World} {v0 v1 v : Value} {bs bs' : List Int} (h : Apd base w0 v0 w1 v1 bs) (k : Apd base w1 v1 w v bs') : Apd base w0 v0 w v bs' := by
  refine ⟨k.own, grow2 h.grown k.grown h.blk, ?_⟩
  rcases k.blk with e | ⟨g, e, hg⟩
  · rw [e]; exact h.blk
  · exact Or.inr ⟨g, e, Nat.le_trans h.grown.size hg⟩

theorem cells_new (w : World) (cs : List Value) (t : TypeId) : ∀ j u, cs[j]? = some u → (w.alloc (.cells cs.toArray t)).cell? ((⟨w.heap.size, 0, none⟩ : Addr).add j) = some u := by
  intro j u hj
  have e : (⟨w.heap.size, 0, none⟩ : Addr).add j = ⟨w.heap.size, j, none⟩ := by unfold Addr.add; split <;> simp_all
  rw [e, World.cell?, heap_alloc_new w]
  simpa using hj

/-- 'append(b, ns..)' behind the block of ns: the walk's step. -/
theorem wp_put {P : Program} {ops : Array Oper} {rest : List Oper} {o : Oper} {a : Act} {Q : Exit → Act → World → Prop} (hP : P = Try.prog) (hgd : o.guard = none) (s x : Operand)
    (ho : o.op = .call { callee := .builtin .append, args := #[s, x], argTypes := #[22, 22] })
    {base : Nat} {w0 : World} {v0 : Value} (w : World) (v : Value) (bs : List Int) (ns : List Int) (cs : Array Value) (m c : Nat) (h : Apd base w0 v0 w v bs) (hs : a.eval s = v)
    (hx : a.eval x = .slice (some ⟨w.heap.size, 0, none⟩) m c) (hcs : cs = (byteVals ns).toArray) (hm : m = ns.length) (hb : bs.length + ns.length ≤ 140737488355328) (hbase : base ≤ w.heap.size)
    (hk : ∀ v' w', Apd base w0 v0 w' v' (bs ++ ns) → wpList P ops Q rest (a.put o.dst v') w') : wpList P ops Q (o :: rest) a (w.alloc (.cells cs 5)) := by
  subst hP hcs hm
  obtain ⟨i0, hi, hz0, hz1, hz2⟩ := info_parts Try.info5
  refine wpList_append_own_at _ hgd s x 22 ho base 5 i0 (.int .u8 0) 1 1 Try.underlying22 hi hz0 hz1 hz2 rfl (by decide) v bs.length (byteVals bs) hs (h.own.alloc _) ⟨w.heap.size, 0, none⟩ ns.length c (byteVals ns) hx
    (by rw [byteVals_length, Nat.mul_one]) (cells_new w _ 5) ?_ (by unfold maxLen; omega) (by omega) (by simp; omega) ?_
  · intro u hu
    obtain ⟨n, _, rfl⟩ := List.mem_map.1 hu
    rfl
  · intro v' w' hown hgrow _ hblk
    refine hk v' w' ⟨?_, ?_, ?_⟩
    · rw [List.length_append, byteVals_append]; exact hown
    · exact grow2 (growAlloc h.grown _) hgrow h.blk
    · rcases hblk with e | e
      · rw [e]; exact h.blk
      · refine Or.inr ⟨_, e, ?_⟩
        have := h.grown.size
        simp; omega

end Go.Proofs.Ytjhjcigappkebaa
