/-
  Appends of digests to a slice of the call's own.
-/
import Derived.Test.YthmpeeipbclhkaaDoorGj
namespace Go.Proofs.YthmpeeipbclhkaaDoor
open Go.RowKit

theorem nat_xor1 (n : Nat) : n ^^^ 1 = sib n := by
  have h1 : (n ^^^ 1) / 2 = n / 2 := by rw [Nat.xor_div_two]; simp
  have h2 : (n ^^^ 1) % 2 = (n + 1) % 2 := by
    have h := Nat.testBit_xor n 1 0
    rw [Nat.testBit_zero, Nat.testBit_zero, Nat.testBit_zero] at h
    rcases Nat.mod_two_eq_zero_or_one n with h0 | h0 <;> rcases Nat.mod_two_eq_zero_or_one (n ^^^ 1) with h3 | h3 <;> simp [h0, h3] at h <;> omega
  unfold sib
  split <;> omega

theorem xor1 (n : Nat) (h : n < 9223372036854775807) : bits .xor .i64 (n : Int) 1 = (sib n : Int) := by
  show IntKind.i64.wrap ((BitVec.ofInt 64 (n : Int) ^^^ BitVec.ofInt 64 1).toNat : Int) = _
  have e1 : (BitVec.ofInt 64 (n : Int)).toNat = n := by rw [BitVec.toNat_ofInt]; omega
  have e2 : (BitVec.ofInt 64 1).toNat = 1 := by decide
  rw [BitVec.toNat_xor, e1, e2, nat_xor1, IntKind.wrap_i64]
  have : sib n ≤ n + 1 := by unfold sib; split <;> omega
  omega

theorem append_dig (base : Nat) (wr : World) (v : Value) (ds : List (List Int)) (D : List Int) (hown : wr.ownsRow base 26 32 v ds.length (byteVals ds.flatten)) (hbase : base ≤ wr.heap.size) (hD : D.length = 32) (hn : ds.length ≤ 1000) :
    ∃ v' w', (Builtin.append_ #[22, 22] 22 #[v, .slice (some ⟨wr.heap.size, 0, none⟩) 1 1]).run Tryd.prog (wr.alloc (.cells (byteVals D).toArray 26)) = .ok v' w' ∧ w'.ownsRow base 26 32 v' (ds ++ [D]).length (byteVals (ds ++ [D]).flatten) ∧ wr.grownBy w' v.ownBlock ∧ (∀ k, v.ownBlock = some k → base ≤ k) := by
  obtain ⟨i0, hi, hz0, hz1, hz2⟩ := info_parts Tryd.info26
  have ho : (wr.alloc (.cells (byteVals D).toArray 26)).ownsRow base 26 32 v ds.length (byteVals ds.flatten) := hown.kept (World.grownBy_alloc wr _ none) (by
    cases hx : v.ownBlock with
    | none => exact Or.inl rfl
    | some g => exact Or.inr (by simp))
  obtain ⟨v', w', hr, h2, h3, h4, h5⟩ := run_append_own_at (P := Tryd.prog) (wr.alloc (.cells (byteVals D).toArray 26)) base 22 22 26 i0 _ 32 32 Tryd.underlying22 hi hz0 hz1 hz2 (by simp [byteVals, Value.cells]) (by decide) v ds.length (byteVals ds.flatten) ho
    ⟨wr.heap.size, 0, none⟩ 1 1 (byteVals D) (by rw [byteVals_length, hD]) (cells_new wr (byteVals D) 26) (by
      intro u hu
      obtain ⟨n, _, rfl⟩ := List.mem_map.1 hu
      rfl) (by unfold maxLen; omega) (by omega) (by simp; omega)
  refine ⟨v', w', hr, ?_, ?_, fun k hk => (ho.lt k hk).1⟩
  · have e1 : (ds ++ [D]).length = ds.length + 1 := by simp
    have e2 : (ds ++ [D]).flatten = ds.flatten ++ D := by simp
    rw [e1, e2, byteVals_append]
    exact h2
  · exact grow2 (World.grownBy_alloc wr _ v.ownBlock) h3 (Or.inl rfl)

/-- The walk's step of an append of digests. -/
theorem wp_appd {P : Program} {ops : Array Oper} {rest : List Oper} {o : Oper} {a : Act} {Q : Exit → Act → World → Prop} (hP : P = Tryd.prog) (hgd : o.guard = none) (hty : o.type = 22) (s x : Operand)
    (ho : o.op = .call { callee := .builtin .append, args := #[s, x], argTypes := #[22, 22] }) {w : World} {v u v' : Value} {w' : World} (hs : a.eval s = v) (hx : a.eval x = u)
    (hr : (Builtin.append_ #[22, 22] 22 #[v, u]).run Tryd.prog w = .ok v' w') (hk : wpList P ops Q rest (a.put o.dst v') w') : wpList P ops Q (o :: rest) a w := by
  subst hP
  refine wpList_plain hgd fun K hK => ?_
  unfold Oper.wp execOp
  simp only [ho, hty, resolve, invoke, builtin, Sem.run_bind, Sem.run_pure, Result.andThen_ok, List.map_toArray, List.map_cons, List.map_nil, hs, hx, hr]
  exact hK _ _ hk

theorem flat_get (ds : List (List Int)) (h : ∀ x ∈ ds, x.length = 32) : ∀ (j i : Nat) (x : List Int), ds[j]? = some x → i < 32 → ds.flatten[32 * j + i]? = x[i]? := by
  induction ds with
  | nil => intro j i x hj; simp at hj
  | cons y ys ih =>
    intro j i x hj hi
    have hy := h y (by simp)
    rw [List.flatten_cons]
    cases j with
    | zero =>
      simp at hj
      subst hj
      rw [Nat.mul_zero, Nat.zero_add, List.getElem?_append_left (by omega)]
    | succ j =>
      rw [List.getElem?_append_right (by omega), hy]
      have := ih (fun z hz => h z (by simp [hz])) j i x (by simpa using hj) hi
      rw [← this]
      congr 1
      omega

/-- What the call owns, as a list of digests. -/
theorem own_dl {base : Nat} {wr : World} {v : Value} {ds : List (List Int)} (h : wr.ownsRow base 26 32 v ds.length (byteVals ds.flatten)) (hd : ∀ x ∈ ds, Dg x) (hn : ds.length ≤ 1000) :
    Dl (fun k => base ≤ k ∧ k < wr.heap.size) wr v ds := by
  rcases h.2 with ⟨h00, h0⟩ | ⟨g, cap, cr, rfl, hb, hh, hn2, hm, hs, ht⟩
  · refine ⟨by omega, hd, none, 0, ?_, by omega, fun hp => by omega⟩
    rw [h00, h0]
  · refine ⟨by omega, hd, some ⟨g, 0, none⟩, cap, rfl, hn2, fun _ => ⟨g, 0, rfl, ⟨hb, (Array.getElem?_eq_some_iff.1 hh).1⟩, fun j x hj i v hv => ?_⟩⟩
    have hx := hd x (List.mem_of_getElem? hj)
    have hi : i < 32 := by
      have := (List.getElem?_eq_some_iff.1 hv).1
      rw [byteVals_length, hx.1] at this
      exact this
    have hc := cell_of_row wr g (0 + j * 32 + i) cr 26 (0, 0) hh
    rw [hc]
    have e1 : (byteVals ds.flatten)[32 * j + i]? = some v := by
      unfold byteVals at hv ⊢
      rw [List.getElem?_map] at hv ⊢
      rw [flat_get ds (fun x hx => (hd x hx).1) j i x hj hi]
      exact hv
    rw [← ht, List.getElem?_take] at e1
    split at e1
    · rw [Nat.zero_add]
      rw [Nat.mul_comm] at e1
      simpa using e1
    · cases e1

/-- Under way: the slice v holds the digests ds, of the call's own. -/
structure ApS (w : World) (ds : List (List Int)) (v : Value) (wr : World) : Prop where
  own : wr.ownsRow w.heap.size 26 32 v ds.length (byteVals ds.flatten)
  below : Below w.heap.size w wr
theorem ApS.nil (w : World) : ApS w [] (.slice none 0 0) w := ⟨World.ownsRow_nil _ _ _ _, Below.refl _ _⟩
theorem ApS.call {w wr w2 : World} {ds : List (List Int)} {v : Value} (h : ApS w ds v wr) (hb : Below wr.heap.size wr w2) : ApS w ds v w2 := by
  refine ⟨h.own.kept (row := none) ⟨hb.os, hb.tape, hb.output, hb.size, fun i hi _ => hb.block i hi⟩ (by cases hx : v.ownBlock <;> simp), h.below.trans (hb.mono h.below.size)⟩
theorem ApS.push {w wr : World} {ds : List (List Int)} {v : Value} (h : ApS w ds v wr) (D : List Int) (hD : D.length = 32) (hn : ds.length ≤ 1000) :
    ∃ v' w', (Builtin.append_ #[22, 22] 22 #[v, .slice (some ⟨wr.heap.size, 0, none⟩) 1 1]).run Tryd.prog (wr.alloc (.cells (byteVals D).toArray 26)) = .ok v' w' ∧ ApS w (ds ++ [D]) v' w' := by
  obtain ⟨v', w', hr, ho, hg, hb⟩ := append_dig w.heap.size wr v ds D h.own h.below.size hD hn
  exact ⟨v', w', hr, ho, h.below.grown hg h.below.size hb⟩
theorem ApS.dl {w wr : World} {ds : List (List Int)} {v : Value} (h : ApS w ds v wr) (hd : ∀ x ∈ ds, Dg x) (hn : ds.length ≤ 1000) : Dl (fun k => k < wr.heap.size) wr v ds :=
  (own_dl h.own hd hn).kept (fun _ _ => rfl) (fun k hk => hk.2)
end Go.Proofs.YthmpeeipbclhkaaDoor
