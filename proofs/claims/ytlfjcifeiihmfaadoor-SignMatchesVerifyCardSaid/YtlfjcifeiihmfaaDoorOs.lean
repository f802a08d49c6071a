/-
  Opening an argument that is a signature.
-/
import Derived.Test.YtlfjcifeiihmfaaDoorLw
import Derived.ChangeMaps5
namespace Go.Proofs.YtlfjcifeiihmfaaDoor
open Go.Joins Go.ChangeShapes Go.WideShapes Go.ChangeAt Go.RowKit Go.Deep

section
variable {H : Type} {enc : TypeId × Value → H} {w : World}
theorem cells23 : Tryd.prog.cellsOf 23 = 1 := by kernel_rfl

theorem openSig {r : Reach} {b0 : Nat} {v : Value} {d : DataW H} {p : List MemPlace} (hv : Value.okWide Tryd.prog w r b0 31 v) (h : DataW.Trod enc Tryd.prog w 0 (fun _ => true) true 31 v d p) :
    ∃ c g : Int, v = .agg #[.int .u64 c, .int .u64 g] ∧ (0 ≤ c ∧ c < 18446744073709551616) ∧ (0 ≤ g ∧ g < 18446744073709551616) := by
  obtain ⟨cs, rfl, hsz⟩ := okWide_struct Tryd.underlying31 hv
  obtain ⟨fuel, hf⟩ := h
  obtain ⟨xs, n, hx, hx2, hl, hlen, hff⟩ := DataW.trod_struct Tryd.underlying31 hf
  have e31 : Tryd.prog.cellsOf 31 = 2 := by kernel_rfl
  rw [e31] at hl
  clear hx2 hsz hv hf
  have hcs : (Value.agg cs).cells.toList = cs.toList := rfl
  rw [hcs] at hl hff
  obtain ⟨l⟩ := cs
  simp only [List.toArray] at *
  match l, hl, xs, hlen, hff with
  | [c0, c1], _, [y0, y1], _, hff =>
    have g0 : DataW.trod enc Tryd.prog w 0 (fun _ => true) true n 23 (List.take (Tryd.prog.cellsOf 23) (List.drop 0 [c0, c1])) = some y0 := hff 0 _ rfl
    have g1 : DataW.trod enc Tryd.prog w 0 (fun _ => true) true n 23 (List.take (Tryd.prog.cellsOf 23) (List.drop 1 [c0, c1])) = some y1 := hff 1 _ rfl
    rw [cells23] at g0 g1
    have h0 : DataW.trod enc Tryd.prog w 0 (fun _ => true) true n 23 [c0] = some y0 := g0
    have h1 : DataW.trod enc Tryd.prog w 0 (fun _ => true) true n 23 [c1] = some y1 := g1
    obtain ⟨a, ha, _, wa⟩ := DataW.trod_int Tryd.underlying23 h0
    obtain ⟨b, hb, _, wb⟩ := DataW.trod_int Tryd.underlying23 h1
    simp only [List.cons.injEq, and_true] at ha hb
    subst ha hb
    exact ⟨a, b, rfl, u64_wf wa, u64_wf wb⟩
end
end Go.Proofs.YtlfjcifeiihmfaaDoor
