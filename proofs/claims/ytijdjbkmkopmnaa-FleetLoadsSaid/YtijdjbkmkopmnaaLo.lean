/-
  A copy of the types of a fleet with one set of classes changed.
-/
import Derived.Test.YtijdjbkmkopmnaaSb
import Derived.Laws.Bits64
namespace Go.Proofs.Ytijdjbkmkopmnaa
open Go.RowKit
set_option linter.unusedVariables false
set_option linter.unusedSimpArgs false

theorem info68 : (Try.prog.info? 68).map (fun i => (i.zero, i.size, i.bytes)) = some (some (.agg Z68), 8, 64) := by kernel_rfl
theorem fm_one : ∀ (l : List Ty), ∀ u ∈ l.flatMap Ty.cs, u.oneCell' = true := by
  intro l u h
  obtain ⟨x, _, hx⟩ := List.mem_flatMap.1 h
  unfold Ty.cs at hx
  simp only [List.mem_cons, List.not_mem_nil, or_false] at hx
  rcases hx with rfl | rfl | rfl | rfl | rfl | rfl | rfl | rfl <;> rfl
theorem fm_len : ∀ (l : List Ty), (l.flatMap Ty.cs).length = l.length * 8
  | [] => rfl
  | x :: l => by rw [List.flatMap_cons, List.length_append, fm_len l, ty_len, List.length_cons]; omega
theorem fm_get : ∀ (l : List Ty) (j : Nat) (u : Value), (l.flatMap Ty.cs)[j]? = some u → ∃ x, l[j / 8]? = some x ∧ x.cs[j % 8]? = some u
  | [], j, u, h => by simp at h
  | x :: l, j, u, h => by
    rw [List.flatMap_cons] at h
    by_cases hj : j < 8
    · rw [List.getElem?_append_left (by rw [ty_len]; exact hj)] at h
      rw [show j / 8 = 0 by omega, show j % 8 = j by omega]
      exact ⟨x, rfl, h⟩
    · rw [List.getElem?_append_right (by rw [ty_len]; omega), ty_len] at h
      obtain ⟨y, h1, h2⟩ := fm_get l (j - 8) u h
      refine ⟨y, ?_, by rw [show j % 8 = (j - 8) % 8 by omega]; exact h2⟩
      rw [show j / 8 = (j - 8) / 8 + 1 by omega, List.getElem?_cons_succ]
      exact h1
theorem wp_appT {P : Program} {ops : Array Oper} {rest : List Oper} {o : Oper} {a : Act} {Q : Exit → Act → World → Prop} (hP : P = Try.prog) (hgd : o.guard = none) (hty : o.type = 22) (s x : Operand)
    (ho : o.op = .call { callee := .builtin .append, args := #[s, x], argTypes := #[22, 22] }) {w : World} {v u v' : Value} {w' : World} (hs : a.eval s = v) (hx : a.eval x = u)
    (hr : (Builtin.append_ #[22, 22] 22 #[v, u]).run Try.prog w = .ok v' w') (hk : wpList P ops Q rest (a.put o.dst v') w') : wpList P ops Q (o :: rest) a w := by
  subst hP
  refine wpList_plain hgd fun K hK => ?_
  unfold Oper.wp execOp
  simp only [ho, hty, resolve, invoke, builtin, Sem.run_bind, Sem.run_pure, Result.andThen_ok, List.map_toArray, List.map_cons, List.map_nil, hs, hx, hr]
  exact hK _ _ hk
/-- append([]T{}, types...): a copy in a new block. -/
theorem copy_types {w : World} {a : Option Addr} {n c : Nat} {ts : List Ty} (h : Ts (fun k => k < w.heap.size) w (.slice a n c) ts) (hn0 : 0 < n) (hn : n ≤ 32) :
    ∃ g cap w', (Builtin.append_ #[22, 22] 22 #[.slice (some ⟨w.heap.size, 0, none⟩) 0 0, .slice a n c]).run Try.prog (w.alloc (.cells #[] 68)) = .ok (.slice (some ⟨g, 0, none⟩) n cap) w' ∧ Below w.heap.size w w' ∧ w.heap.size ≤ g ∧ n ≤ cap ∧
      ∃ cr : Array Value, w'.heap[g]? = some (.cells cr 68 (0, 0)) ∧ ∀ (j : Nat) (u : Value), (ts.flatMap Ty.cs)[j]? = some u → cr[j]? = some u := by
  obtain ⟨hlen, hok, a', c', he, hcap, hcell⟩ := h
  simp only [Value.slice.injEq] at he
  obtain ⟨rfl, hnl, rfl⟩ := he
  obtain ⟨g0, off, rfl, hg0, hc⟩ := hcell (by omega)
  obtain ⟨i0, hi, hzz⟩ := Option.map_eq_some_iff.1 info68
  simp only [Prod.mk.injEq] at hzz
  obtain ⟨hz0, hz1, hz2⟩ := hzz
  have hown : (w.alloc (.cells #[] 68)).ownsRow w.heap.size 68 8 (.slice (some ⟨w.heap.size, 0, none⟩) 0 0) 0 [] :=
    ⟨rfl, Or.inr ⟨w.heap.size, 0, #[], rfl, Nat.le_refl _, heap_alloc_new w _, Nat.le_refl _, by unfold maxLen; omega, rfl, rfl⟩⟩
  obtain ⟨v', w', hr, h2, h3, h4, h5⟩ := run_append_own_at (P := Try.prog) (w.alloc (.cells #[] 68)) w.heap.size 22 22 68 i0 _ 8 64 Try.underlying22 hi hz0 hz1 hz2 rfl (by decide) _ 0 [] hown
    ⟨g0, off, none⟩ n c (ts.flatMap Ty.cs) (by rw [fm_len, hnl]) (fun j u hj => by
      obtain ⟨x, e1, e2⟩ := fm_get ts j u hj
      have := hc (j / 8) x e1 (j % 8) u e2
      have e : (⟨g0, off, none⟩ : Addr).add j = ⟨g0, off + j, none⟩ := by unfold Addr.add; split <;> simp_all
      rw [e, World.cell?_of_block (w := w) (a := ⟨g0, off + j, none⟩) (heap_alloc_old w _ hg0), show off + j = off + j / 8 * 8 + j % 8 by omega]
      exact this) (fm_one ts) (by unfold maxLen; omega) (by omega) (by rw [World.size_alloc]; omega)
  rw [List.nil_append, Nat.zero_add] at h2
  have hbel : Below w.heap.size w w' := (ball (Below.refl _ _) _).grown h3 (by rw [World.size_alloc]; omega) (fun k hk => by
    simp only [Value.ownBlock, Option.some.injEq] at hk
    omega)
  rcases h2.2 with ⟨h00, h0⟩ | ⟨g, cap, cr, rfl, hb, hh, hn2, hm, hs, ht⟩
  · omega
  · refine ⟨g, cap, w', hr, hbel, hb, hn2, cr, hh, fun j u hj => ?_⟩
    rw [← ht, List.getElem?_take] at hj
    split at hj
    · simpa using hj
    · cases hj
/-- The copy with one set of classes changed. -/
theorem copy_set {w : World} {g n cap : Nat} {ts : List Ty} {cr : Array Value} {j : Nat} {y : Ty} {C : Int} (hcap : n ≤ cap) (hn : n = ts.length) (hn2 : n ≤ 32) (hh : w.heap[g]? = some (.cells cr 68 (0, 0))) (hcr : ∀ (j : Nat) (u : Value), (ts.flatMap Ty.cs)[j]? = some u → cr[j]? = some u) (hok : ∀ x ∈ ts, x.ok)
    (hj : ts[j]? = some y) (hC : 0 ≤ C ∧ C ≤ 18446744073709551615) :
    Ts (fun k => k < (w.setCell ⟨g, j * 8 + 5, none⟩ (.int .u64 C)).heap.size) (w.setCell ⟨g, j * 8 + 5, none⟩ (.int .u64 C)) (.slice (some ⟨g, 0, none⟩) n cap) (ts.set j { y with cl := C }) := by
  have hl : (ts.set j { y with cl := C }).length = ts.length := List.length_set
  refine ⟨by rw [hl]; omega, fun x hx => ?_, some ⟨g, 0, none⟩, cap, by rw [hl, hn], by rw [hl, ← hn]; exact hcap, fun _ => ⟨g, 0, rfl, by rw [World.size_setCell]; exact blt hh, fun k x hk i v hv => ?_⟩⟩
  · rcases List.mem_or_eq_of_mem_set hx with h | rfl
    · exact hok x h
    · exact hC
  · rw [cell_of_row _ g _ _ 68 (0, 0) (heap_setCell_same w g (j * 8 + 5) cr 68 _ hh), Nat.zero_add, Array.getElem?_setIfInBounds]
    have hi8 : i < 8 := by have := (List.getElem?_eq_some_iff.1 hv).1; rw [ty_len] at this; exact this
    have hjl : j < ts.length := (List.getElem?_eq_some_iff.1 hj).1
    rw [List.getElem?_set] at hk
    by_cases e : j = k
    · subst e
      rw [if_pos rfl, if_pos hjl] at hk
      cases hk
      have hold : ∀ i u, y.cs[i]? = some u → cr[j * 8 + i]? = some u := fun i u hu => hcr _ _ (cells_fl ty_len ts j y hj i u hu)
      by_cases e5 : i = 5
      · subst e5
        have h5 := hold 5 _ rfl
        rw [if_pos rfl, if_pos (Array.getElem?_eq_some_iff.1 h5).1]
        exact hv
      · rw [if_neg (by omega)]
        apply hold
        match i, hi8, hv with
        | 0, _, hv => exact hv
        | 1, _, hv => exact hv
        | 2, _, hv => exact hv
        | 3, _, hv => exact hv
        | 4, _, hv => exact hv
        | 5, _, _ => exact absurd rfl e5
        | 6, _, hv => exact hv
        | 7, _, hv => exact hv
    · rw [if_neg e] at hk
      rw [if_neg (by omega)]
      exact hcr _ _ (cells_fl ty_len ts k x hk i v hv)
/-- The bit that is flipped. -/
theorem flip_bit (C c : Nat) (h : C / 2 ^ c % 2 = 1) : (C ^^^ 2 ^ c) / 2 ^ c % 2 = 0 := by
  have h1 : Nat.testBit C c = true := by rw [Nat.testBit_eq_decide_div_mod_eq]; exact decide_eq_true h
  have h2 : Nat.testBit (C ^^^ 2 ^ c) c = false := by rw [Nat.testBit_xor, h1, Nat.testBit_two_pow_self]; rfl
  rw [Nat.testBit_eq_decide_div_mod_eq] at h2
  have := of_decide_eq_false h2
  omega
theorem flip_lt (C c : Nat) (h : C < 18446744073709551616) (hc : c < 64) : C ^^^ 2 ^ c < 18446744073709551616 := by
  have := Nat.xor_lt_two_pow (n := 64) (x := C) (y := 2 ^ c) (by omega) (Nat.pow_lt_pow_right (by decide) hc)
  exact this
theorem chk_set {ts : List Ty} {ws : List Wn} {ss : List Sw} {hs : List Wh} {j : Nat} {y : Ty} {C : Int} (h : chk ts ws ss hs = 0) (hj : ts[j]? = some y) : chk (ts.set j { y with cl := C }) ws ss hs = 0 := by
  have hall : (ts.set j { y with cl := C }).all tOk = ts.all tOk := by
    have h1 := (chk_val h).tok
    rw [List.all_eq_true.2 h1]
    refine List.all_eq_true.2 fun x hx => ?_
    rcases List.mem_or_eq_of_mem_set hx with h | rfl
    · exact h1 x h
    · exact h1 y (List.mem_of_getElem? hj)
  unfold chk at h ⊢
  rw [List.length_set, hall]
  exact h
end Go.Proofs.Ytijdjbkmkopmnaa
