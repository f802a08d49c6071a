/-
  A network argument's lines fit in memory, and one more.
-/
import Derived.Test.YtbeoldklpklbfaaFr
namespace Go.Proofs.Ytbeoldklpklbfaa
open Go.Joins Go.ChangeShapes Go.WideShapes Go.ChangeAt Go.RowKit Go.Deep
set_option linter.unusedVariables false
set_option linter.unusedSimpArgs false


section
variable {H : Type} {enc : TypeId × Value → H} {w : World}


theorem es_bound {fuel : Nat} {v : Value} {x : DataW H × List MemPlace} {F : Nat → Prop} {l : List Ed} (h : DataW.trod enc Try.prog w 0 (fun _ => true) true fuel 23 [v] = some x) (hw : ∀ n ∈ x.1.weights Try.prog 23, n ≤ reachBytes) (hs : Sk 5 Ed.cs F w v l) :
    (1 + l.length) * 40 ≤ 140737488355328 := by
  obtain ⟨_, _, a', c', hv', _⟩ := hs
  rcases DataW.trod_slice Try.underlying23 h with ⟨hv, _⟩ | ⟨a, len, cap, elems, rest, n', rfl, hv, rfl, _, hlc, _, hel, he, _, _⟩
  · simp only [List.cons.injEq, and_true] at hv
    subst hv
    simp only [Value.slice.injEq] at hv'
    omega
  · simp only [List.cons.injEq, and_true] at hv
    subst hv
    simp only [Value.slice.injEq] at hv'
    have hr : reachBytes = 140737488351232 := by decide
    have hlen64 := hw ((elems.length + rest.length) * 40) (by simp [DataW.weights, Try.underlying23, bytes45])
    omega
theorem openNwB {r : Reach} {b0 : Nat} {v : Value} {d : DataW H} {p : List MemPlace} (hv : Value.okWide Try.prog w r b0 25 v) (h : DataW.Trod enc Try.prog w 0 (fun _ => true) true 25 v d p) (hw : ∀ n ∈ d.weights Try.prog 25, n ≤ reachBytes) :
    ∃ ps es, Nw w v ps es ∧ (1 + es.length) * 40 ≤ 140737488355328 := by
  obtain ⟨cs, rfl, hsz⟩ := okWide_struct Try.underlying25 hv
  obtain ⟨fuel, hf0⟩ := h
  have hf1 : DataW.trod enc Try.prog w 0 (fun _ => true) true fuel 25 cs.toList = some (d, p) := hf0
  obtain ⟨xs, n, rfl, hx, hl, hlen, hf⟩ := DataW.trod_struct Try.underlying25 hf1
  rw [cells25] at hl
  match xs, hlen, hf, hx with
  | [y0, y1], _, hf, hx =>
    simp only [Prod.mk.injEq] at hx
    obtain ⟨rfl, _⟩ := hx
    have g0 : DataW.trod enc Try.prog w 0 (fun _ => true) true n 22 (List.take (Try.prog.cellsOf 22) (List.drop 0 cs.toList)) = some y0 := hf 0 _ rfl
    have g1 : DataW.trod enc Try.prog w 0 (fun _ => true) true n 23 (List.take (Try.prog.cellsOf 23) (List.drop 1 cs.toList)) = some y1 := hf 1 _ rfl
    rw [cells22] at g0
    rw [cells23] at g1
    obtain ⟨c0, c1, hcs⟩ : ∃ c0 c1, cs = #[c0, c1] := by
      match hc : cs.toList, hl with
      | [c0, c1], _ => exact ⟨c0, c1, Array.toList_inj.1 hc⟩
    subst hcs
    have hw0 : ∀ n ∈ y0.1.weights Try.prog 22, n ≤ reachBytes := fun n hn => hw n (by simp [DataW.weights, DataW.weightsEach, Try.underlying25, hn])
    have hw1 : ∀ n ∈ y1.1.weights Try.prog 23, n ≤ reachBytes := fun n hn => hw n (by simp [DataW.weights, DataW.weightsEach, Try.underlying25, hn])
    obtain ⟨ps, hps⟩ := openPs (v := c0) g0 hw0
    obtain ⟨es, hes⟩ := openEs (v := c1) g1 hw1
    exact ⟨ps, es, ⟨_, _, rfl, hps, hes⟩, es_bound g1 hw1 hes⟩
end
end Go.Proofs.Ytbeoldklpklbfaa
