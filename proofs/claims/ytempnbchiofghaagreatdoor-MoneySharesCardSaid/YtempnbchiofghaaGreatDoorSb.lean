/-
  Walks: Text of both sides.
-/
import Derived.Test.YtempnbchiofghaaGreatDoorSa
import Derived.Test.YtempnbchiofghaaGreatDoorAf
import Derived.Lib.AppendIntMem
namespace Go.Proofs.YtempnbchiofghaaGreatDoor
open Go.RowKit Go.Lib
set_option linter.unusedVariables false
set_option linter.unusedSimpArgs false

/-- The digit of a number. -/
def dgt (n : Nat) : UInt8 := UInt8.ofNat (48 + n % 10)
/-- The text of an amount whose absolute value is n. -/
def txtN (n : Nat) : List UInt8 := Lib.decDigits (n / 100) ++ [46, dgt (n / 10), dgt n]
def txt (a : Int) : List UInt8 := (if a < 0 then [45] else []) ++ txtN a.natAbs
theorem ba_ext {x y : ByteArray} (h : x.data.toList = y.data.toList) : x = y := by
  cases x; cases y
  simp only [ByteArray.mk.injEq]
  exact Array.toList_inj.1 h
theorem ba_app (x y : ByteArray) : (x ++ y).data.toList = x.data.toList ++ y.data.toList := by rw [ByteArray.data_append, Array.toList_append]
theorem three_all : ∀ m : Fin 100, Lib.decDigits (m.val + 100) = [49, dgt (m.val / 10), dgt m.val] := by decide +kernel
theorem three (m : Nat) (h : m < 100) : Lib.decDigits (m + 100) = [49, dgt (m / 10), dgt m] := three_all ⟨m, h⟩
theorem dgt_mod (n : Nat) : dgt (n % 100 / 10) = dgt (n / 10) ∧ dgt (n % 100) = dgt n := by
  unfold dgt
  constructor <;> (congr 2; omega)
theorem dec_len (n : Nat) (h : n < 18446744073709551616) : (Lib.decDigits n).length ≤ 20 := by
  rcases Nat.eq_zero_or_pos n with h0 | h0
  · subst h0
    rw [Lib.decDigits_one (by decide)]
    decide
  · rw [Lib.decDigits_length]
    have := Lib.numDigits_eq n h0 h
    split at this <;> omega
theorem sub2 (c1 c0 : UInt8) : (⟨#[49, c1, c0]⟩ : ByteArray).extract 1 3 = ⟨#[c1, c0]⟩ := by
  apply ba_ext
  rw [ByteArray.data_extract]
  simp

set_option maxRecDepth 100000 in
set_option maxHeartbeats 4000000 in
theorem text_any (a : Int) (ha : I64 a) (w : World) (htab : Lib.TabIs Tryz.prog w "internal/strconv.uint64pow10" .u64 Lib.pow10Tab) :
    Calls Tryz.prog 30 #[.int .i64 a] w fun e w' => e = .returned (.string ⟨(txt a).toArray⟩) ∧ Below w.heap.size w w' := by
  obtain ⟨U, hU⟩ : ∃ U, a.natAbs = U := ⟨_, rfl⟩
  obtain ⟨a0, a1⟩ := ha
  have hU64 : U < 18446744073709551616 := by omega
  have HTB := Lib.hid (Lib.tabBelow_of_tabIs htab)
  have H1 := fun w htab => fmt_any (U % 100 + 100) (by omega) w htab
  rw [three (U % 100) (Nat.mod_lt _ (by decide)), (dgt_mod U).1, (dgt_mod U).2] at H1
  have H2 := fun w htab => fmt_any (U / 100) (by omega) w htab
  have hl := dec_len (U / 100) (by omega)
  have ht : txt a = (if a < 0 then [45] else []) ++ (Lib.decDigits (U / 100) ++ [46, dgt (U / 10), dgt U]) := by unfold txt txtN; rw [hU]
  rw [ht]
  obtain ⟨c1, h1⟩ : ∃ c1, dgt (U / 10) = c1 := ⟨_, rfl⟩
  obtain ⟨c0, h0⟩ : ∃ c0, dgt U = c0 := ⟨_, rfl⟩
  obtain ⟨D, hD⟩ : ∃ D, Lib.decDigits (U / 100) = D := ⟨_, rfl⟩
  obtain ⟨A, hA⟩ : ∃ A, U % 100 = A := ⟨_, rfl⟩
  obtain ⟨B, hB⟩ : ∃ B, U / 100 = B := ⟨_, rfl⟩
  rw [hB] at hD
  rw [h1, h0, hA] at H1
  rw [hB, hD] at H2
  rw [hB, hD] at hl
  rw [hB, hD, h1, h0]
  have k1 : (U : Int) % 100 = (A : Int) := by omega
  have k2 : (U : Int) / 100 = (B : Int) := by omega
  have k3 : IntKind.u64.wrap ((A : Int) + 100) = ((A + 100 : Nat) : Int) := by rw [IntKind.wrap_u64]; omega
  have k4 : IntKind.u64.wrap (B : Int) = (B : Int) := by rw [IntKind.wrap_u64]; omega
  have s1 : ¬ 9223372036854775807 < 1 + D.length := by omega
  have s2 : ¬ 9223372036854775807 < 1 + D.length + 1 := by omega
  have s3 : ¬ 9223372036854775807 < 1 + D.length + 1 + 2 := by omega
  have s4 : ¬ 9223372036854775807 < D.length := by omega
  have s5 : ¬ 9223372036854775807 < D.length + 1 := by omega
  have s6 : ¬ 9223372036854775807 < D.length + 1 + 2 := by omega
  replace H1 := Lib.hid H1; replace H2 := Lib.hid H2
  by_cases hneg : a < 0
  · have k5 : IntKind.u64.wrap (-IntKind.u64.wrap a) = (U : Int) := by rw [IntKind.wrap_u64, IntKind.wrap_u64]; omega
    rw [if_pos hneg]
    clear hU hU64 ht h1 h0 hD hA hB hl htab
    go_enter Tryz.func30, Tryz.ntmps30
    go_wp2_with fail
    refine (H1.out _ HTB.out.here).mono ?_
    rintro e w1 ⟨rfl, hb⟩
    have HB := Lib.hid hb
    have HT1 := Lib.hid (HTB.out.on hb)
    clear hb
    go_wp2_with fail
    refine (H2.out _ HT1.out.here).mono ?_
    rintro e w2 ⟨rfl, hb2⟩
    have HB2 := Lib.hid (btrans HB.out hb2)
    clear hb2
    go_wp2
    go_ret
    refine ⟨congrArg Ending.returned (congrArg Value.string (ba_ext ?_)), HB2.out⟩
    rw [ba_app, ba_app, ba_app, sub2]
    simp
  · have k5 : IntKind.u64.wrap a = (U : Int) := by rw [IntKind.wrap_u64]; omega
    rw [if_neg hneg]
    clear hU hU64 ht h1 h0 hD hA hB hl htab
    go_enter Tryz.func30, Tryz.ntmps30
    go_wp2_with fail
    refine (H1.out _ HTB.out.here).mono ?_
    rintro e w1 ⟨rfl, hb⟩
    have HB := Lib.hid hb
    have HT1 := Lib.hid (HTB.out.on hb)
    clear hb
    go_wp2_with fail
    refine (H2.out _ HT1.out.here).mono ?_
    rintro e w2 ⟨rfl, hb2⟩
    have HB2 := Lib.hid (btrans HB.out hb2)
    clear hb2
    go_wp2
    go_ret
    refine ⟨congrArg Ending.returned (congrArg Value.string (ba_ext ?_)), HB2.out⟩
    first | rw [ba_app, ba_app, ba_app, sub2] | rw [ba_app, ba_app, sub2]
    simp
end Go.Proofs.YtempnbchiofghaaGreatDoor
