/-
  Arguments opened: commitments.
-/
import Derived.Test.YthmpeeipbclhkaaDoorOs
import Derived.ChangeSame
namespace Go.Proofs.YthmpeeipbclhkaaDoor
set_option linter.unusedSimpArgs false
set_option linter.unusedVariables false
open Go.Joins Go.ChangeShapes Go.WideShapes Go.ChangeAt Go.RowKit Go.Deep

theorem cells3 : Tryd.prog.cellsOf 3 = 1 := by kernel_rfl
theorem cells30 : Tryd.prog.cellsOf 30 = 33 := by kernel_rfl

section
variable {H : Type} {enc : TypeId × Value → H} {w : World}
theorem openCommit {r : Reach} {b0 : Nat} {v : Value} {d : DataW H} {p : List MemPlace} (hv : Value.okWide Tryd.prog w r b0 30 v) (h : DataW.Trod enc Tryd.prog w 0 (fun _ => true) true 30 v d p) :
    ∃ (n : Int) (D : List Int), v = .agg (Value.int .i64 n :: byteVals D).toArray ∧ (-9223372036854775808 ≤ n ∧ n ≤ 9223372036854775807) ∧ (D.length = 32 ∧ ∀ u ∈ D, 0 ≤ u ∧ u ≤ 255) := by
  obtain ⟨cs, rfl, hsz⟩ := okWide_struct Tryd.underlying30 hv
  obtain ⟨fuel, hf⟩ := h
  obtain ⟨y0, y1, n, hx, hl, h0, h1⟩ := trod_struct2 Tryd.underlying30 hf
  have hcs : (Value.agg cs).cells.toList = cs.toList := rfl
  rw [hcs] at hl
  have h0' : DataW.trod enc Tryd.prog w 0 (fun _ => true) true n 3 ((cs.toList.drop 0).take (Tryd.prog.cellsOf 3)) = some y0 := h0
  have h1' : DataW.trod enc Tryd.prog w 0 (fun _ => true) true n 26 ((cs.toList.drop 1).take (Tryd.prog.cellsOf 26)) = some y1 := h1
  rw [cells3] at h0'
  rw [cells25] at h1'
  rw [cells30] at hl
  clear h0 h1 hx hsz hv hf hcs
  obtain ⟨D, e1, hD, hb⟩ := openDig0 h1'
  generalize hL : cs.toList = L at *
  match L, hl with
  | c :: L', hl =>
    have h0'' : DataW.trod enc Tryd.prog w 0 (fun _ => true) true n 3 [c] = some y0 := h0'
    obtain ⟨a, ha, _, wa⟩ := DataW.trod_int Tryd.underlying3 h0''
    simp only [List.cons.injEq, and_true] at ha
    subst ha
    have e2 : L' = byteVals D := by
      rw [← e1]
      show L' = List.take 32 L'
      rw [List.take_of_length_le (by simp at hl; omega)]
    refine ⟨a, D, ?_, i64_wf wa, hD, hb⟩
    rw [← e2, ← hL]
end
end Go.Proofs.YthmpeeipbclhkaaDoor
