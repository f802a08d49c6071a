/-
  Digests compared by ==: the array's equality is the lists'.
-/
import Derived.Test.YthmpeeipbclhkaaDoorDa
import Derived.Laws.StructEq
namespace Go.Proofs.YthmpeeipbclhkaaDoor
open Go.RowKit

theorem part_byte (D : List Int) (i : Nat) (h : i < D.length) (w : World) : (part 5 (byteVals D).toArray i).run Tryd.prog w = .ok (.int .u8 D[i]) w := by
  have hi : (byteVals D)[i]? = some (.int .u8 D[i]) := by unfold byteVals; rw [List.getElem?_map, List.getElem?_eq_getElem h]; rfl
  have a5 := Tryd.isAgg5
  unfold part
  go_simp

theorem eq_loop (D E : List Int) (hD : D.length = 32) (hE : E.length = 32) (w : World) : ∀ (n s : Nat), s + n = 32 →
    (forIn (List.range' s n) ((none, ()) : Option Bool × Unit) fun i _ => (do
              let x ← part 5 (byteVals D).toArray (i * 1)
              let y ← part 5 (byteVals E).toArray (i * 1)
              let b ← Op.equalIn 9999 5 x y
              if (!b) = true then pure (ForInStep.done (some false, ())) else pure (ForInStep.yield (none, ())) : Sem (ForInStep (Option Bool × Unit)))).run Tryd.prog w = .ok (if D.drop s = E.drop s then (none, ()) else (some false, ())) w := by
  intro n
  induction n with
  | zero =>
    intro s hs
    rw [List.drop_eq_nil_of_le (by omega), List.drop_eq_nil_of_le (by omega)]
    simp
  | succ n ih =>
    intro s hs
    have h1 : s < D.length := by omega
    have h2 : s < E.length := by omega
    rw [List.range'_succ, List.forIn_cons]
    simp only [Sem.run_bind, Nat.mul_one, part_byte D s h1, part_byte E s h2, Result.andThen_ok]
    rw [show (9999 : Nat) = 9998 + 1 from rfl, run_equalIn_int w 9998 5 .u8 .u8 _ _ Tryd.underlying5]
    simp only [Result.andThen_ok]
    have hiff : D.drop s = E.drop s ↔ D[s] = E[s] ∧ D.drop (s + 1) = E.drop (s + 1) := by rw [List.drop_eq_getElem_cons h1, List.drop_eq_getElem_cons h2, List.cons.injEq]
    by_cases h : D[s] = E[s]
    · have e : (D[s] == E[s]) = true := by simpa using h
      rw [e]
      have := ih (s + 1) (by omega)
      simp only [Nat.mul_one] at this
      simp only [Bool.not_true, Bool.false_eq_true, if_false, Sem.run_pure, Result.andThen_ok]
      rw [show (9999 : Nat) = 9998 + 1 from rfl] at this
      rw [this]
      simp [hiff, h]
    · have e : (D[s] == E[s]) = false := by simpa using h
      rw [e]
      simp [hiff, h]

theorem eqDig (D E : List Int) (hD : D.length = 32) (hE : E.length = 32) (w : World) : (Op.equalIn 10000 26 (.agg (byteVals D).toArray) (.agg (byteVals E).toArray)).run Tryd.prog w = .ok (decide (D = E)) w := by
  have z5 := Tryd.sizeOf5
  rw [show (10000 : Nat) = 9999 + 1 from rfl, Op.equalIn]
  simp only [Sem.run_bind, run_underlying Tryd.underlying26, Result.andThen_ok]
  simp only [Std.Legacy.Range.forIn_eq_forIn_range', Std.Legacy.Range.size, Nat.sub_zero, Nat.add_sub_cancel, Nat.div_one]
  rw [z5]
  simp only [Result.andThen_ok]
  rw [eq_loop D E hD hE w 32 0 rfl]
  simp only [List.drop_zero, Result.andThen_ok]
  by_cases h : D = E
  · simp [h]
  · simp [h]
theorem eqSame (D : List Int) (h : D.length = 32) (w : World) : (Op.equalIn 10000 26 (.agg (byteVals D).toArray) (.agg (byteVals D).toArray)).run Tryd.prog w = .ok true w := by
  rw [eqDig D D h h w]; simp

end Go.Proofs.YthmpeeipbclhkaaDoor
