/-
  The append of lines, and where it does not lie.
-/
import Derived.Test.YtbeoldklpklbfaaXc
namespace Go.Proofs.Ytbeoldklpklbfaa
open Go.RowKit
set_option linter.unusedVariables false
set_option linter.unusedSimpArgs false

theorem edge_append2 {w u : World} {B : Nat} {x : Ed} {l : List Ed} {vb : Option Addr} {vd : Nat} (hw : Below w.heap.size w u) (hB : u.heap[B]? = some (.cells #[.int .i64 x.a, .int .i64 x.b, .int .i64 x.r, .int .i64 x.m, .int .i64 x.k] 45 (0, 0))) (hwB : w.heap.size ≤ B) (h : Es (fun k => k < w.heap.size) w (.slice vb l.length vd) l) (hb : (1 + l.length) * 40 ≤ 140737488355328) :
    ∃ v' w', (Builtin.append_ #[23, 23] 23 #[.slice (some ⟨B, 0, none⟩) 1 1, .slice vb l.length vd]).run Try.prog u = .ok v' w' ∧ OwE w.heap.size w' v' (x :: l) ∧ Below w.heap.size w w' ∧ u.grownBy w' (some B) ∧ ∀ M, M < u.heap.size → M ≠ B → v'.ownBlock ≠ some M := by
  obtain ⟨i0, hi, hzz⟩ := Option.map_eq_some_iff.1 info45
  simp only [Prod.mk.injEq] at hzz
  obtain ⟨hz0, hz1, hz2⟩ := hzz
  have hown : u.ownsRow w.heap.size 45 5 (.slice (some ⟨B, 0, none⟩) 1 1) 1 (cE [x]) :=
    ⟨rfl, Or.inr ⟨B, 1, _, rfl, hwB, hB, Nat.le_refl _, by unfold maxLen; omega, rfl, rfl⟩⟩
  have h2 := h.on hw
  cases l with
  | nil =>
    refine ⟨_, _, run_append_nothing _ 23 23 23 45 i0 Try.underlying23 hi (some ⟨B, 0, none⟩) 1 1 (Nat.le_refl _) (.slice vb 0 vd) ⟨Or.inl ⟨45, Try.underlying23⟩, fun _ => rfl, by cases vb <;> first | rfl | (simp [Builtin.firstCells, loadCells, loadCellsFrom]), by cases vb <;> first | rfl | (simp [Builtin.firstCells, loadCells, loadCellsFrom]), by simp, by simp⟩, hown, hw, ⟨rfl, rfl, rfl, Nat.le_refl _, fun _ _ _ => rfl⟩, fun M _ hne e => hne (Option.some.inj (show (some B : Option Nat) = some M from e)).symm⟩
  | cons z l =>
    obtain ⟨g, off, y, rfl, hg, _, _, _, _⟩ := h2.pick 0 (by simp)
    obtain ⟨_, _, a', c', e1, _, hc⟩ := h2
    obtain ⟨g', off', e2, _, hcell⟩ := hc (by simp)
    simp only [Value.slice.injEq] at e1
    obtain ⟨rfl, _, rfl⟩ := e1
    simp only [Option.some.injEq, Addr.mk.injEq, and_true] at e2
    obtain ⟨rfl, rfl⟩ := e2
    obtain ⟨v', w', hr, ho, hgr, _, hnew⟩ := run_append_own_at (P := Try.prog) u w.heap.size 23 23 45 i0 _ 5 40 Try.underlying23 hi hz0 hz1 hz2 rfl (by decide) _ 1 (cE [x]) hown
      ⟨g, off, none⟩ (z :: l).length vd (cE (z :: l)) (by rw [cE_length]) (fun j u hj => by
        have e : (⟨g, off, none⟩ : Addr).add j = ⟨g, off + j, none⟩ := by unfold Addr.add; split <;> simp_all
        rw [e]
        exact cE_cell (z :: l) off hcell j u hj) (cE_one _) (by unfold maxLen; omega) hb hw.size
    refine ⟨v', w', hr, ?_, hw.grown hgr hw.size (fun k hk => ?_), hgr, fun M hM hne e => ?_⟩
    · unfold OwE
      rw [List.length_cons, Nat.add_comm _ 1]
      exact ho
    · have : B = k := Option.some.inj (show (some B : Option Nat) = some k from hk)
      omega
    · rcases hnew with h9 | h9
      · exact hne (Option.some.inj ((h9.symm.trans e).symm.trans (show _ = some B from rfl)))
      · have := Option.some.inj (h9.symm.trans e)
        omega
theorem OwE.on {base : Nat} {w w' : World} {v : Value} {l : List Ed} (h : OwE base w v l) (hb : Below w.heap.size w w') : OwE base w' v l :=
  World.ownsRow.kept h (row := none) ⟨hb.os, hb.tape, hb.output, hb.size, fun i hi _ => hb.block i hi⟩ (by cases hx : v.ownBlock <;> simp)
theorem OwE.row {base : Nat} {w : World} {v : Value} {l : List Ed} {M : Nat} (cs : Array Value) (h : OwE base w v l) (hne : v.ownBlock ≠ some M) : OwE base (w.setRow M cs) v l :=
  World.ownsRow.kept h (row := some M) ⟨rfl, rfl, rfl, by simp, fun i hi hn => setRow_other _ _ _ _ (fun e => hn (by rw [e]))⟩ (Or.inr hne)
end Go.Proofs.Ytbeoldklpklbfaa
