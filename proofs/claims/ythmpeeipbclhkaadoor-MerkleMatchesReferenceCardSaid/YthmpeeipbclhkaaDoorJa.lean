/-
  Walks: appending a slice's bytes.
-/
import Derived.Test.YthmpeeipbclhkaaDoorDe
import Derived.Laws.MakeOwn
import Derived.Deep.AppendSrc
import Derived.Deep.Upon
namespace Go.Proofs.YthmpeeipbclhkaaDoor
open Go.RowKit

theorem Bs.ofOwn {base : Nat} {w : World} {v : Value} {bs : List Int} (h : w.ownsRow base 5 1 v bs.length (byteVals bs)) (hl : bs.length ≤ 140737488355328) (hr : ∀ u ∈ bs, 0 ≤ u ∧ u ≤ 255) :
    Bs (fun k => base ≤ k ∧ k < w.heap.size ∧ v.ownBlock = some k) w v bs := by
  obtain ⟨_, h2⟩ := h
  rcases h2 with ⟨rfl, h0⟩ | ⟨g, cap, cur, rfl, hb, hh, hn, hm, hs, ht⟩
  · exact ⟨hl, hr, none, 0, by rw [h0], by omega, fun hp => by omega⟩
  · refine ⟨hl, hr, _, cap, rfl, hn, fun _ => ⟨g, 0, rfl, ⟨hb, (Array.getElem?_eq_some_iff.1 hh).1, rfl⟩, fun j u hj => ?_⟩⟩
    have hc := cell_of_row w g (0 + j) cur 5 (0, 0) hh
    rw [hc]
    have : (byteVals bs)[j]? = some (.int .u8 u) := by unfold byteVals; rw [List.getElem?_map, hj]; rfl
    rw [← ht, List.getElem?_take] at this
    split at this
    · simpa using this
    · cases this

theorem Bs.nil (F : Nat → Prop) (w : World) : Bs F w (.slice none 0 0) [] := ⟨by simp, by simp, none, 0, rfl, by simp, by simp⟩
/-- A new slice of a few bytes. -/

theorem add_off (g off j : Nat) : (⟨g, off, none⟩ : Addr).add j = ⟨g, off + j, none⟩ := by
  unfold Addr.add
  split
  · rename_i h; rw [h]; rfl
  · rfl

/-- 'append(v, u..)': the equation. -/
theorem append_run (F : Nat → Prop) (base : Nat) (w : World) (v u : Value) (bs b : List Int) (ty : TypeId) (hown : w.ownsRow base 5 1 v bs.length (byteVals bs)) (hu : Bs F w u b) (hlen : bs.length + b.length ≤ 140737488355328) (hbase : base ≤ w.heap.size) :
    ∃ v' w', (Builtin.append_ #[48, 48] ty #[v, u]).run Tryd.prog w = .ok v' w' ∧ Apd base w v w' v' (bs ++ b) := by
  obtain ⟨i0, hi, hz0, hz1, hz2⟩ := info_parts Tryd.info5
  obtain ⟨hbl, hrg, a, cap, rfl, hcap, hp⟩ := hu
  cases a with
  | none =>
    have h0 : b.length = 0 := by
      rcases Nat.eq_zero_or_pos b.length with h | h
      · exact h
      · obtain ⟨g, off, e, _⟩ := hp h
        cases e
    have hb : b = [] := List.length_eq_zero_iff.1 h0
    subst hb
    obtain ⟨sa, sl, sc, hv, hle⟩ : ∃ sa sl sc, v = .slice sa sl sc ∧ sl ≤ sc := by
      rcases hown.2 with ⟨h, _⟩ | ⟨g, c, cur, h, _, _, hn, _⟩
      · exact ⟨none, 0, 0, h, Nat.le_refl _⟩
      · exact ⟨_, _, _, h, hn⟩
    refine ⟨v, w, ?_, ?_⟩
    · subst hv
      have hs : Src Tryd.prog i0.size 48 (.slice none 0 cap) 0 [] w := Src.ofNil w Tryd.underlying48 cap
      exact run_append_nothing w 48 48 ty 5 i0 Tryd.underlying48 hi sa sl sc hle _ hs
    · rw [List.append_nil]
      exact Apd.start hown
  | some ad =>
    have hnews : ∀ j x, (byteVals b)[j]? = some x → w.cell? (ad.add j) = some x := by
      intro j x hj
      have hjl : j < (byteVals b).length := (List.getElem?_eq_some_iff.1 hj).1
      rw [byteVals_length] at hjl
      obtain ⟨g, off, e, _, hc⟩ := hp (by omega)
      cases e
      rw [add_off]
      unfold byteVals at hj
      rw [List.getElem?_map, List.getElem?_eq_getElem hjl] at hj
      cases hj
      exact hc j _ (List.getElem?_eq_getElem hjl)
    obtain ⟨v', w', hr, h2, h3, _, h5⟩ := run_append_own_at (P := Tryd.prog) w base 48 ty 5 i0 (.int .u8 0) 1 1 Tryd.underlying48 hi hz0 hz1 hz2 rfl (by decide) v bs.length (byteVals bs) hown ad b.length cap (byteVals b)
      (by rw [byteVals_length, Nat.mul_one]) hnews (by
        intro x hx
        obtain ⟨n, _, rfl⟩ := List.mem_map.1 hx
        rfl) (by unfold maxLen; omega) (by omega) hbase
    refine ⟨v', w', hr, ?_, h3, ?_⟩
    · rw [List.length_append, byteVals_append]; exact h2
    · rcases h5 with e | e
      · exact Or.inl e
      · exact Or.inr ⟨_, e, Nat.le_refl _⟩

theorem mem_range_append {a b : List Int} (ha : ∀ u ∈ a, 0 ≤ u ∧ u ≤ 255) (hb : ∀ u ∈ b, 0 ≤ u ∧ u ≤ 255) : ∀ u ∈ a ++ b, 0 ≤ u ∧ u ≤ 255 := by
  intro u hu
  rcases List.mem_append.1 hu with h | h
  · exact ha u h
  · exact hb u h

/-- The walk's step. -/
theorem wp_app {P : Program} {ops : Array Oper} {rest : List Oper} {o : Oper} {a : Act} {Q : Exit → Act → World → Prop} (hP : P = Tryd.prog) (hgd : o.guard = none) (hty : o.type = 48) (s x : Operand)
    (ho : o.op = .call { callee := .builtin .append, args := #[s, x], argTypes := #[48, 48] }) {w : World} {v u v' : Value} {w' : World} (hs : a.eval s = v) (hx : a.eval x = u)
    (hr : (Builtin.append_ #[48, 48] 48 #[v, u]).run Tryd.prog w = .ok v' w') (hk : wpList P ops Q rest (a.put o.dst v') w') : wpList P ops Q (o :: rest) a w := by
  subst hP
  refine wpList_plain hgd fun K hK => ?_
  unfold Oper.wp execOp
  simp only [ho, hty, resolve, invoke, builtin, Sem.run_bind, Sem.run_pure, Result.andThen_ok, List.map_toArray, List.map_cons, List.map_nil, hs, hx, hr]
  exact hK _ _ hk

end Go.Proofs.YthmpeeipbclhkaaDoor
