/-
  Commitments compared by ==: equal ones are equal.
-/
import Derived.Test.YthmpeeipbclhkaaDoorEq
namespace Go.Proofs.YthmpeeipbclhkaaDoor
open Go.RowKit

theorem eq_loopF (f : Nat) (D : List Int) (hD : D.length = 32) (w : World) : ∀ (n s : Nat), s + n = 32 →
    (forIn (List.range' s n) ((none, ()) : Option Bool × Unit) fun i _ => (do
              let x ← part 5 (byteVals D).toArray (i * 1)
              let y ← part 5 (byteVals D).toArray (i * 1)
              let b ← Op.equalIn (f + 1) 5 x y
              if (!b) = true then pure (ForInStep.done (some false, ())) else pure (ForInStep.yield (none, ())) : Sem (ForInStep (Option Bool × Unit)))).run Tryd.prog w = .ok (none, ()) w := by
  intro n
  induction n with
  | zero => intro s hs; simp
  | succ n ih =>
    intro s hs
    have h1 : s < D.length := by omega
    rw [List.range'_succ, List.forIn_cons]
    simp only [Sem.run_bind, Nat.mul_one, part_byte D s h1, Result.andThen_ok]
    rw [run_equalIn_int w f 5 .u8 .u8 _ _ Tryd.underlying5]
    have e : (D[s] == D[s]) = true := by simp
    rw [e]
    have := ih (s + 1) (by omega)
    simp only [Nat.mul_one] at this
    simp only [Result.andThen_ok, Bool.not_true, Bool.false_eq_true, if_false, Sem.run_pure]
    exact this

theorem eqSameF (f : Nat) (D : List Int) (hD : D.length = 32) (w : World) : (Op.equalIn (f + 2) 26 (.agg (byteVals D).toArray) (.agg (byteVals D).toArray)).run Tryd.prog w = .ok true w := by
  have z5 := Tryd.sizeOf5
  rw [show f + 2 = (f + 1) + 1 from rfl, Op.equalIn]
  simp only [Sem.run_bind, run_underlying Tryd.underlying26, Result.andThen_ok]
  simp only [Std.Legacy.Range.forIn_eq_forIn_range', Std.Legacy.Range.size, Nat.sub_zero, Nat.add_sub_cancel, Nat.div_one]
  rw [z5]
  simp only [Result.andThen_ok]
  rw [eq_loopF f D hD w 32 0 rfl]
  simp

theorem part_int (n : Int) (l : List Value) (w : World) : (part 3 (Value.int .i64 n :: l).toArray 0).run Tryd.prog w = .ok (.int .i64 n) w := by
  have a3 := Tryd.isAgg3
  unfold part
  go_simp

theorem part_dig (v : Value) (D : List Int) (hD : D.length = 32) (w : World) : (part 26 (v :: byteVals D).toArray 1).run Tryd.prog w = .ok (.agg (byteVals D).toArray) w := by
  have a26 := Tryd.isAgg26
  have z26 := Tryd.sizeOf26
  have e : (v :: byteVals D).toArray.extract 1 (1 + 32) = (byteVals D).toArray := by
    rw [List.extract_toArray]
    simp [List.extract_eq_take_drop, List.take_of_length_le, bv_length, hD]
  unfold part
  simp only [Sem.run_bind, a26, z26, Result.andThen_ok, if_true, Sem.run_pure, e]

theorem fields30 : Tryd.prog.fieldsOf 30 = #[{ name := "Size", type := 3, offset := 0, embedded := false, tag := "", pkgPath := "", byteOffset := 0 }, { name := "Root", type := 26, offset := 1, embedded := false, tag := "", pkgPath := "", byteOffset := 8 }] := by
  unfold Program.fieldsOf; rw [Tryd.underlying30]

/-- Equal commitments. -/
theorem eqCom (n : Int) (D : List Int) (hD : D.length = 32) (w : World) : (Op.equalIn 10000 30 (.agg (Value.int .i64 n :: byteVals D).toArray) (.agg (Value.int .i64 n :: byteVals D).toArray)).run Tryd.prog w = .ok true w := by
  rw [show (10000 : Nat) = 9999 + 1 from rfl, run_equalIn_agg w 9999 30 _ _ (by rw [Tryd.underlying30, fields30]) Tryd.stoodInHeld30, fields30]
  simp only [Op.eqFields]
  rw [if_pos (by decide), if_pos (by decide)]
  simp only [Sem.run_bind, part_int, part_dig _ D hD, Result.andThen_ok]
  rw [show (9999 : Nat) = 9998 + 1 from rfl, run_equalIn_int w 9998 3 .i64 .i64 n n Tryd.underlying3]
  simp only [BEq.rfl, Result.andThen_ok, Bool.not_true, Bool.false_eq_true, if_false, Sem.run_bind, part_dig _ D hD]
  rw [show (9998 + 1 : Nat) = 9997 + 2 from rfl, eqSameF 9997 D hD w]
  simp
end Go.Proofs.YthmpeeipbclhkaaDoor
