/-
  Walks: Decode's deferred function.
-/
import Derived.Test.YtjhjcigappkebaaRg
namespace Go.Proofs.Ytjhjcigappkebaa
open Go.RowKit

theorem assert_failure (c : Int) (w : World) : (Instr.typeAssert (.iface 58 (.agg #[.int .i64 c])) 20 58 true).run Try.prog w = .ok (.tuple #[.agg #[.int .i64 c], .bool true]) w := by kernel_rfl
theorem assert_nil (w : World) : (Instr.typeAssert .nilIface 20 58 true).run Try.prog w = .ok (.tuple #[.agg #[.int .i64 0], .bool false]) w := by kernel_rfl

/-- What a world's change leaves, but for its blocks. -/
structure Same (w w' : World) : Prop where
  os : w'.os = w.os
  tape : w'.tape = w.tape
  output : w'.output = w.output
  size : w.heap.size ≤ w'.heap.size
theorem Same.trans {a b c : World} (h : Same a b) (k : Same b c) : Same a c := ⟨k.os.trans h.os, k.tape.trans h.tape, k.output.trans h.output, Nat.le_trans h.size k.size⟩
theorem Same.of {a b : World} {r : Option Nat} (h : a.grownBy b r) : Same a b := ⟨h.os, h.tape, h.output, h.size⟩

set_option maxHeartbeats 400000 in
theorem catch_panicking (V E : Nat) (c y : Int) (x0 x1 x2 x3 : Value) (older : List PanicEntry) (w : World) (hV : w.heap[V]? = some (.cells #[x0, x1, x2, x3] 25 (0, 0))) (hE : w.heap[E]? = some (.cells #[.int .i64 y] 27 (0, 0))) (hne : V ≠ E) :
    CallsD Try.prog 41 #[.pointer (some ⟨V, 0, none⟩), .pointer (some ⟨E, 0, none⟩)] (.panicking ({ v := .iface 58 (.agg #[.int .i64 c]), recovered := false } :: older)) w fun e u' w' =>
      e = .returned (.tuple #[]) ∧ u' = .panicking ({ v := .iface 58 (.agg #[.int .i64 c]), recovered := true } :: older) ∧
      w'.heap[V]? = some (.cells #[.int .i64 0, .int .i64 0, .slice none 0 0, .slice none 0 0] 25 (0, 0)) ∧ w'.heap[E]? = some (.cells #[.int .i64 c] 27 (0, 0)) ∧ (∀ k, k < w.heap.size → k ≠ V → k ≠ E → w'.heap[k]? = w.heap[k]?) ∧
      Same w w' := by
  have hVl : V < w.heap.size := (Array.getElem?_eq_some_iff.1 hV).1
  have hEl : E < w.heap.size := (Array.getElem?_eq_some_iff.1 hE).1
  generalize hQ : (fun (e : Ending) (u' : FrameMode) (w' : World) =>
      e = .returned (.tuple #[]) ∧ u' = .panicking ({ v := .iface 58 (.agg #[.int .i64 c]), recovered := true } :: older) ∧
      w'.heap[V]? = some (.cells #[.int .i64 0, .int .i64 0, .slice none 0 0, .slice none 0 0] 25 (0, 0)) ∧ w'.heap[E]? = some (.cells #[.int .i64 c] 27 (0, 0)) ∧ (∀ k, k < w.heap.size → k ≠ V → k ≠ E → w'.heap[k]? = w.heap[k]?) ∧
      Same w w') = Q
  refine callsD_of_wpS Try.func41 rfl fun c₀ cs hu => ?_
  apply wpS_seq
  apply wpS_region
  have ht : ({ tmps := #[Value.pointer (some { block := V, off := 0 }), Value.pointer (some { block := E, off := 0 })] ++ Array.replicate (Try.f41.ntmps - #[Value.pointer (some { block := V, off := 0 }), Value.pointer (some { block := E, off := 0 })].size) undef, defers := [] } : Act) =
    { tmps := #[.pointer (some ⟨V, 0, none⟩), .pointer (some ⟨E, 0, none⟩), undef, undef, undef, undef, undef, undef, undef, undef, undef, undef, undef], defers := [] } := by rfl
  rw [ht]
  clear ht
  have HQ : Hid (∀ (e : Ending) (u' : FrameMode) (w' : World), (e = .returned (.tuple #[]) ∧ u' = .panicking ({ v := .iface 58 (.agg #[.int .i64 c]), recovered := true } :: older) ∧
      w'.heap[V]? = some (.cells #[.int .i64 0, .int .i64 0, .slice none 0 0, .slice none 0 0] 25 (0, 0)) ∧ w'.heap[E]? = some (.cells #[.int .i64 c] 27 (0, 0)) ∧ (∀ k, k < w.heap.size → k ≠ V → k ≠ E → w'.heap[k]? = w.heap[k]?) ∧
      Same w w') → Q e u' w') := by subst hQ; exact fun _ _ _ h => h
  clear hQ
  simp [wpOpsS, go_sem, recoverD, hu, Exit.thenS, assert_failure]
  apply wpS_seq
  apply wpS_region
  simp [wpOpsS, go_sem, Exit.thenS]
  refine wpS_cond (t := true) (by simp [Act.eval]) ?_
  simp only [if_true]
  refine wpS_of_wp ?_
  have v0 : w.cell? ⟨V, 0, none⟩ = some x0 := by simp [World.cell?, hV]
  have v1 : w.cell? ⟨V, 1, none⟩ = some x1 := by simp [World.cell?, hV]
  have v2 : w.cell? ⟨V, 2, none⟩ = some x2 := by simp [World.cell?, hV]
  have v3 : w.cell? ⟨V, 3, none⟩ = some x3 := by simp [World.cell?, hV]
  have fv : ∀ j, w.frozen? ⟨V, j, none⟩ = false := fun j => by simp [World.frozen?, hV]
  have fv0 := fv 0
  have fv1 := fv 1
  have fv2 := fv 2
  have fv3 := fv 3
  have e0 : w.cell? ⟨E, 0, none⟩ = some (.int .i64 y) := by simp [World.cell?, hE]
  have fe0 : w.frozen? ⟨E, 0, none⟩ = false := by simp [World.frozen?, hE]
  have nV : ¬ w.heap.size = V := by omega
  have nE : ¬ w.heap.size = E := by omega
  have nV' : ¬ V = w.heap.size := by omega
  have nE' : ¬ E = w.heap.size := by omega
  have hne' : ¬ E = V := fun e => hne e.symm
  have HV := Lib.hid hV
  have HE := Lib.hid hE
  clear fv hV hE
  go_region
  have hs : ∀ k, k < w.heap.size → k ≠ V → k ≠ E → ((((((w.setCell ⟨V, 0, none⟩ (.int .i64 0)).setCell ⟨V, 1, none⟩ (.int .i64 0)).setCell ⟨V, 2, none⟩ (.slice none 0 0)).setCell ⟨V, 3, none⟩ (.slice none 0 0)).setCell ⟨E, 0, none⟩ (.int .i64 c)).alloc (.cells #[.int .i64 c] 58)).drew.heap[k]? = w.heap[k]? := by
    intro k hk hkV hkE
    exact ((((World.grownBy_alloc _ _ none).block k (by simpa using hk) (by simp)).trans ((grownSet _ E 0 _).block k (by simpa using hk) (by simpa using hkE))).trans ((grownSet4 w V _ _ _ _).block k hk (by simpa using hkV)))
  simp only [bodyPostS]
  refine ⟨trivial, .panicking ({ v := .iface 58 (.agg #[.int .i64 c]), recovered := true } :: older), rfl, .tuple #[], ?_, ?_⟩
  · simp [results, Try.results41]
  have hg5 : Same w (((((((w.setCell ⟨V, 0, none⟩ (.int .i64 0)).setCell ⟨V, 1, none⟩ (.int .i64 0)).setCell ⟨V, 2, none⟩ (.slice none 0 0)).setCell ⟨V, 3, none⟩ (.slice none 0 0)).setCell ⟨E, 0, none⟩ (.int .i64 c)).alloc (.cells #[.int .i64 c] 58)).drew) :=
    ((Same.of (grownSet4 w V _ _ _ _)).trans (Same.of (grownSet _ E 0 _))).trans (Same.of (growDrew (World.grownBy_alloc _ _ none)))
  apply HQ.out
  refine ⟨by rfl, by rfl, ?_, ?_, hs, hg5⟩
  · refine ((World.grownBy_alloc _ _ none).block V (by simpa using hVl) (by simp)).trans ?_
    refine ((grownSet _ E 0 _).block V (by simpa using hVl) (by simpa using hne)).trans ?_
    simp [World.setCell, Array.getElem?_modify, HV.out]
  · refine ((World.grownBy_alloc _ _ none).block E (by simpa using hEl) (by simp)).trans ?_
    have h4 := ((grownSet4 w V (.int .i64 0) (.int .i64 0) (.slice none 0 0) (.slice none 0 0)).block E hEl (by simpa using hne')).trans HE.out
    simp only [World.setCell] at h4 ⊢
    rw [Array.getElem?_modify, if_pos rfl, h4]
    rfl

theorem catch_idle (V E : Nat) (w : World) :
    CallsD Try.prog 41 #[.pointer (some ⟨V, 0, none⟩), .pointer (some ⟨E, 0, none⟩)] .returning w fun e u' w' =>
      e = .returned (.tuple #[]) ∧ u' = .returning ∧ w' = w.alloc (.cells #[.int .i64 0] 58) := by
  generalize hQ : (fun (e : Ending) (u' : FrameMode) (w' : World) => e = .returned (.tuple #[]) ∧ u' = .returning ∧ w' = w.alloc (.cells #[.int .i64 0] 58)) = Q
  refine callsD_of_wpS Try.func41 rfl fun c₀ cs hu => ?_
  apply wpS_seq
  apply wpS_region
  have ht : ({ tmps := #[Value.pointer (some { block := V, off := 0 }), Value.pointer (some { block := E, off := 0 })] ++ Array.replicate (Try.f41.ntmps - #[Value.pointer (some { block := V, off := 0 }), Value.pointer (some { block := E, off := 0 })].size) undef, defers := [] } : Act) =
    { tmps := #[.pointer (some ⟨V, 0, none⟩), .pointer (some ⟨E, 0, none⟩), undef, undef, undef, undef, undef, undef, undef, undef, undef, undef, undef], defers := [] } := by rfl
  rw [ht]
  clear ht
  simp [wpOpsS, go_sem, recoverD, hu, Exit.thenS, assert_nil]
  apply wpS_seq
  apply wpS_region
  simp [wpOpsS, go_sem, Exit.thenS]
  refine wpS_cond (t := false) (by simp [Act.eval]) ?_
  simp only [Bool.false_eq_true, if_false]
  refine wpS_of_wp (wp_skip ?_)
  subst hQ
  cases c₀
  simp_all [bodyPostS, results, Try.results41]

end Go.Proofs.Ytjhjcigappkebaa
