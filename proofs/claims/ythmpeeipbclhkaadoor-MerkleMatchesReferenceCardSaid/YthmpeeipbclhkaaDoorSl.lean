/-
  Loads of digests in regions that only read.
-/
import Derived.Test.YthmpeeipbclhkaaDoorIn
import Derived.StillTailTactics
import Derived.Deep.MidRow
namespace Go.Proofs.YthmpeeipbclhkaaDoor
open Go.RowKit

theorem still_load_mid {ops : Array Oper} {rest : List Oper} {o : Oper} {a : Act} {w : World} {Q : Act → Prop} (hw : Region.wanted o (yielded ops a.tmps) = true) (x : Operand) (ho : o.op = .load 26 x)
    (g off : Nat) (hx : a.eval x = .pointer (some ⟨g, off, none⟩)) (D : List Int) (hg : w.rangeAt g off (byteVals D)) (hD : D.length = 32)
    (h : wpStill Tryd.prog ops w Q rest (a.put o.dst (.agg (byteVals D).toArray))) : wpStill Tryd.prog ops w Q (o :: rest) a :=
  wpStill_step fun K hK => by
    have hi : (Tryd.prog.info? 26).map (·.size) = some (byteVals D).length := by have := size25 D hD; simpa using this
    rw [if_pos hw]
    unfold Oper.still execOp
    simp only [ho, hx, Instr.loadAt, Instr.sureAddr, Sem.run_bind, Sem.run_pure, Result.andThen_ok, run_loadVar_mid w g off 26 (byteVals D) _ hg Tryd.underlying26 rfl hi]
    exact ⟨rfl, hK _ h⟩

theorem still_off {P : Program} {ops : Array Oper} {rest : List Oper} {o : Oper} {a : Act} {w : World} {Q : Act → Prop} (hw : Region.wanted o (yielded ops a.tmps) = false)
    (h : wpStill P ops w Q rest (a.put o.dst undef)) : wpStill P ops w Q (o :: rest) a :=
  wpStill_step fun K hK => by
    rw [if_neg (by rw [hw]; decide)]
    exact hK _ h
end Go.Proofs.YthmpeeipbclhkaaDoor
