/-
  Walks: the helpers Around and Joined of the laws.
-/
import Derived.Test.YtjhjcigappkebaaUb
import Derived.Deep.AppendSrc
import Derived.Deep.Upon
namespace Go.Proofs.Ytjhjcigappkebaa
open Go.RowKit

/-- 'append(v, u..)': the equation. -/
theorem append_run (F : Nat → Prop) (base : Nat) (w : World) (v u : Value) (bs b : List Int) (ty : TypeId) (hown : w.ownsRow base 5 1 v bs.length (byteVals bs)) (hu : Bs F w u b) (hlen : bs.length + b.length ≤ 140737488355328) (hbase : base ≤ w.heap.size) :
    ∃ v' w', (Builtin.append_ #[22, 22] ty #[v, u]).run Try.prog w = .ok v' w' ∧ Apd base w v w' v' (bs ++ b) := by
  obtain ⟨i0, hi, hz0, hz1, hz2⟩ := info_parts Try.info5
  obtain ⟨hbl, hrg, a, cap, rfl, hcap, hp⟩ := hu
  cases a with
  | none =>
    have h0 : b.length = 0 := by
      rcases Nat.eq_zero_or_pos b.length with h | h
      · exact h
      · obtain ⟨g, off, e, _⟩ := hp h
        cases e
    have hb : b = [] := List.length_eq_zero_iff.1 h0
    subst hb
    obtain ⟨sa, sl, sc, hv, hle⟩ : ∃ sa sl sc, v = .slice sa sl sc ∧ sl ≤ sc := by
      rcases hown.2 with ⟨h, _⟩ | ⟨g, c, cur, h, _, _, hn, _⟩
      · exact ⟨none, 0, 0, h, Nat.le_refl _⟩
      · exact ⟨_, _, _, h, hn⟩
    refine ⟨v, w, ?_, ?_⟩
    · subst hv
      have hs : Src Try.prog i0.size 22 (.slice none 0 cap) 0 [] w := Src.ofNil w Try.underlying22 cap
      exact run_append_nothing w 22 22 ty 5 i0 Try.underlying22 hi sa sl sc hle _ hs
    · rw [List.append_nil]
      exact Apd.start hown
  | some ad =>
    have hnews : ∀ j x, (byteVals b)[j]? = some x → w.cell? (ad.add j) = some x := by
      intro j x hj
      have hjl : j < (byteVals b).length := (List.getElem?_eq_some_iff.1 hj).1
      rw [byteVals_length] at hjl
      obtain ⟨g, off, e, _, hc⟩ := hp (by omega)
      cases e
      rw [add_off]
      unfold byteVals at hj
      rw [List.getElem?_map, List.getElem?_eq_getElem hjl] at hj
      cases hj
      exact hc j _ (List.getElem?_eq_getElem hjl)
    obtain ⟨v', w', hr, h2, h3, _, h5⟩ := run_append_own_at (P := Try.prog) w base 22 ty 5 i0 (.int .u8 0) 1 1 Try.underlying22 hi hz0 hz1 hz2 rfl (by decide) v bs.length (byteVals bs) hown ad b.length cap (byteVals b)
      (by rw [byteVals_length, Nat.mul_one]) hnews (by
        intro x hx
        obtain ⟨n, _, rfl⟩ := List.mem_map.1 hx
        rfl) (by unfold maxLen; omega) (by omega) hbase
    refine ⟨v', w', hr, ?_, h3, ?_⟩
    · rw [List.length_append, byteVals_append]; exact h2
    · rcases h5 with e | e
      · exact Or.inl e
      · exact Or.inr ⟨_, e, Nat.le_refl _⟩

theorem mem_range_append {a b : List Int} (ha : ∀ u ∈ a, 0 ≤ u ∧ u ≤ 255) (hb : ∀ u ∈ b, 0 ≤ u ∧ u ≤ 255) : ∀ u ∈ a ++ b, 0 ≤ u ∧ u ≤ 255 := by
  intro u hu
  rcases List.mem_append.1 hu with h | h
  · exact ha u h
  · exact hb u h

/-- The walk's step. -/
theorem wp_app {P : Program} {ops : Array Oper} {rest : List Oper} {o : Oper} {a : Act} {Q : Exit → Act → World → Prop} (hP : P = Try.prog) (hgd : o.guard = none) (hty : o.type = 22) (s x : Operand)
    (ho : o.op = .call { callee := .builtin .append, args := #[s, x], argTypes := #[22, 22] }) {w : World} {v u v' : Value} {w' : World} (hs : a.eval s = v) (hx : a.eval x = u)
    (hr : (Builtin.append_ #[22, 22] 22 #[v, u]).run Try.prog w = .ok v' w') (hk : wpList P ops Q rest (a.put o.dst v') w') : wpList P ops Q (o :: rest) a w := by
  subst hP
  refine wpList_plain hgd fun K hK => ?_
  unfold Oper.wp execOp
  simp only [ho, hty, resolve, invoke, builtin, Sem.run_bind, Sem.run_pure, Result.andThen_ok, List.map_toArray, List.map_cons, List.map_nil, hs, hx, hr]
  exact hK _ _ hk

set_option maxHeartbeats 400000 in
/-- Joined: a new slice of its own with both. -/
theorem joined_any (a b : List Int) (va vb : Value) (w : World) (ha : Bs (fun k => k < w.heap.size) w va a) (hb : Bs (fun k => k < w.heap.size) w vb b) (hlen : a.length + b.length ≤ 140737488355328) :
    Calls Try.prog 26 #[va, vb] w fun e w' => ∃ v, e = .returned v ∧ Below w.heap.size w w' ∧ w'.ownsRow w.heap.size 5 1 v (a ++ b).length (byteVals (a ++ b)) := by
  have h0 : (w.alloc (.cells #[] 5)).ownsRow w.heap.size 5 1 (.slice (some ⟨w.heap.size, 0, none⟩) 0 0) ([] : List Int).length (byteVals []) :=
    World.ownsRow_made w #[] 0 (Nat.le_refl _) (by unfold maxLen; omega) (by simp)
  have hb0 : Below w.heap.size w (w.alloc (.cells #[] 5)) := ball (Below.refl _ _) _
  obtain ⟨v1, w1, hr1, h1⟩ := append_run _ w.heap.size _ _ va [] a 22 h0 (ha.up hb0) (by simp; omega) hb0.size
  rw [List.nil_append] at h1
  have hb1 : Below w.heap.size w w1 := hb0.grown h1.grown hb0.size (by intro k hk; simp [Value.ownBlock] at hk; omega)
  obtain ⟨v2, w2, hr2, h2⟩ := append_run _ w.heap.size _ _ vb a b 22 h1.own (hb.up hb1) hlen hb1.size
  have hb2 : Below w.heap.size w w2 := hb1.grown h2.grown hb1.size (by
    intro k hk
    exact (h1.own.lt k hk).1)
  have H2 := Lib.hid h2; have HB2 := Lib.hid hb2
  have R1 := Lib.hid hr1; have R2 := Lib.hid hr2
  clear h0 hb0 h1 hb1 h2 hb2 ha hb hlen hr1 hr2
  go_enter Try.func26, Try.ntmps26
  go_wp2_with (first | (at_builtin; refine wp_app rfl rfl rfl (.tmp 7) (.tmp 8) rfl rfl rfl R1.out ?_) | (at_builtin; refine wp_app rfl rfl rfl (.tmp 10) (.tmp 11) rfl rfl rfl R2.out ?_))
  go_ret
  exact ⟨_, rfl, HB2.out, H2.out.own⟩

end Go.Proofs.Ytjhjcigappkebaa
