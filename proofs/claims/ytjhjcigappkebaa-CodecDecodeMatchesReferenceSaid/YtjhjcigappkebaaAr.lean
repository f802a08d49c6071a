/-
  Plain arithmetic of bits: complements, a byte joined to a shifted number, shifts as quotients.
-/
import Derived.Laws.BitsLemmas
import Derived.Test.YtjhjcigappkebaaBase
namespace Go.Proofs.Ytjhjcigappkebaa

theorem i64_not_neg (n : Int) (h0 : -9223372036854775808 ≤ n) (h1 : n ≤ 9223372036854775807) : bits .xor .i64 (-1) n = -1 - n := by
  show IntKind.i64.wrap ((BitVec.ofInt 64 (-1) ^^^ BitVec.ofInt 64 n).toNat : Int) = _
  have h1 : BitVec.ofInt 64 (-1) = BitVec.allOnes 64 := by decide
  rw [h1, BitVec.allOnes_xor, BitVec.toNat_not, BitVec.toNat_ofInt, IntKind.wrap_i64]
  omega

theorem u8_flip0 (c : Int) (h0 : 0 ≤ c) (h1 : c ≤ 255) : bits .xor .u8 c 0 = c := by
  have : ∀ x : Fin 256, bits .xor .u8 ((x.val : Nat) : Int) 0 = ((x.val : Nat) : Int) := by decide +kernel
  have := this ⟨c.toNat, by omega⟩
  simp only [Int.toNat_of_nonneg h0] at this
  exact this

theorem u8_flip255 (c : Int) (h0 : 0 ≤ c) (h1 : c ≤ 255) : bits .xor .u8 c 255 = 255 - c := by
  have : ∀ x : Fin 256, bits .xor .u8 ((x.val : Nat) : Int) 255 = 255 - ((x.val : Nat) : Int) := by decide +kernel
  have := this ⟨c.toNat, by omega⟩
  simp only [Int.toNat_of_nonneg h0] at this
  exact this

theorem i64_join (n c : Int) (h0 : 0 ≤ n) (h1 : n * 256 + c ≤ 9223372036854775807) (hc0 : 0 ≤ c) (hc1 : c ≤ 255) : bits .or .i64 (n * 256) c = n * 256 + c := by
  refine bits_join .i64 63 (by decide) (fun n h0 h1 => ?_) 8 _ _ (by omega) (by omega) (by omega) hc0 (by omega) (by omega)
  rw [IntKind.wrap_i64]; omega

theorem shr_pow (m : Int) (k : Nat) : m / 2 ^ (8 * k) = m / 256 ^ k := by
  rw [Int.pow_mul]; rfl

theorem wid_le (m : Int) : wid m ≤ 8 := by
  unfold wid; repeat' split
  all_goals omega

/-- Below the width no quotient is 0; from it on each is. -/
theorem wid_stop (m : Int) (h0 : 0 ≤ m) (k : Nat) (hk : k < 8) : (m / 256 ^ k = 0) ↔ wid m ≤ k := by
  have hd : m / 256 ^ k = 0 ↔ m < 256 ^ k := by
    have hp : (0 : Int) < 256 ^ k := Int.pow_pos (by decide)
    constructor
    · intro h
      have := Int.lt_ediv_add_one_mul_self m hp
      rw [h] at this; omega
    · intro h; exact Int.ediv_eq_zero_of_lt h0 h
  rw [hd]
  have hcs : k = 0 ∨ k = 1 ∨ k = 2 ∨ k = 3 ∨ k = 4 ∨ k = 5 ∨ k = 6 ∨ k = 7 := by omega
  rcases hcs with rfl | rfl | rfl | rfl | rfl | rfl | rfl | rfl <;> simp only [wid] <;> (repeat' split) <;> omega

end Go.Proofs.Ytjhjcigappkebaa
