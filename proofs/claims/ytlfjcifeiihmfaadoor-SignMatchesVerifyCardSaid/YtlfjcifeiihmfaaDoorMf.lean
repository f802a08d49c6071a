/-
  Walks of the program's powers: Pow returns the remainder of the power.
-/
import Derived.Test.YtlfjcifeiihmfaaDoorMe
import Derived.Test.YtlfjcifeiihmfaaDoorNt
namespace Go.Proofs.YtlfjcifeiihmfaaDoor
open Go.RowKit

theorem lt_bitLenAux : ∀ (f x : Nat), x < 2 ^ f → x < 2 ^ Lib.bitLenAux f x
  | 0, x, h => by simpa [Lib.bitLenAux] using h
  | f + 1, x, h => by
    simp only [Lib.bitLenAux]
    split
    · rename_i h0; subst h0; simp
    · have := lt_bitLenAux f (x / 2) (by rw [Nat.pow_succ] at h; omega)
      rw [Nat.add_comm, Nat.pow_succ]; omega

theorem lt_bitLen (x : Nat) (h : x < 18446744073709551616) : x < 2 ^ Lib.bitLen x := lt_bitLenAux 64 x h

theorem and_one (a : Nat) (h : a < 18446744073709551616) : bits .and .u64 (a : Int) 1 = ((a % 2 : Nat) : Int) := by
  have h := bits_and_u64_nat a 1 h (by omega)
  rw [Nat.and_one_is_mod] at h
  exact h

/-- One step of the power by squaring. -/
theorem pow_step (b n k c x : Nat) (hx : x = b ^ (n % 2 ^ k) % PP) (hc : c % PP = b ^ (2 ^ k) % PP) :
    (n / 2 ^ k % 2 = 1 → x * c % PP = b ^ (n % 2 ^ (k + 1)) % PP) ∧ (n / 2 ^ k % 2 = 0 → x = b ^ (n % 2 ^ (k + 1)) % PP) ∧ c * c % PP % PP = b ^ (2 ^ (k + 1)) % PP := by
  have hm : n % 2 ^ (k + 1) = n % 2 ^ k + 2 ^ k * (n / 2 ^ k % 2) := Nat.mod_pow_succ
  refine ⟨fun h => ?_, fun h => ?_, ?_⟩
  · rw [hm, h, Nat.mul_one, Nat.pow_add, Nat.mul_mod, hc, hx, Nat.mod_mod, ← Nat.mul_mod]
  · rw [hm, h, Nat.mul_zero, Nat.add_zero]; exact hx
  · rw [Nat.mod_mod, Nat.mul_mod, hc, ← Nat.mul_mod, ← Nat.pow_add, Nat.pow_succ, Nat.mul_two]

set_option maxHeartbeats 1000000 in
theorem pow_any (b n : Nat) (w : World) (hb : b < 18446744073709551616) (hn : n < 18446744073709551616) :
    Calls Tryd.prog 23 #[.int .u64 (b : Int), .int .u64 (n : Int)] w fun e w' => e = .returned (.int .u64 ((b ^ n % PP : Nat) : Int)) ∧ Below w.heap.size w w' := by
  have H := pm_any 2305843009213690799 w
  have HL := len64_any (n : Int) (w.alloc (.cells #[.int .u64 2305843009213690799] 23)) (by omega) (by omega)
  have hlen : Lib.bitLen n ≤ 64 := Lib.bitLen_le n 64 (by decide) hn
  have hend := Lib.hid (lt_bitLen n hn)
  go_enter Tryd.func23, Tryd.ntmps23
  go_wp2_with (first | (go_at_call 35; refine H.mono ?_; rintro e w' ⟨rfl, rfl⟩) | (go_at_call 39; refine HL.mono ?_; rintro e w' ⟨rfl, rfl⟩))
  clear H HL
  generalize Lib.bitLen n = L at *
  go_loopw [0, 4, 10] (fun bb xx i wr => ∃ k c x : Nat, k ≤ L ∧ i = .int .i64 k ∧ bb = .int .u64 (c : Int) ∧ xx = .int .u64 (x : Int) ∧ Hid (x = b ^ (n % 2 ^ k) % PP ∧ c % PP = b ^ (2 ^ k) % PP ∧ c < 18446744073709551616 ∧ wr.heap[w.heap.size]? = some (.cells #[.int .u64 2305843009213690799] 23 (0, 0)) ∧ Below w.heap.size w wr)) (fun _ _ i _ => L - (intOf i).toNat)
  case atStart =>
    refine ⟨0, b, 1, by omega, rfl, rfl, rfl, ?_, ?_, hb, heap_alloc_new _ _, ball (Below.refl _ _) _⟩
    · rw [Nat.pow_zero, Nat.mod_one, Nat.pow_zero]; decide
    · rw [Nat.pow_zero, Nat.pow_one]
  case round =>
    obtain ⟨k, c, x, hk, rfl, rfl, rfl, HH⟩ := hrel
    obtain ⟨hx, hc, hcl, hg, hbw⟩ := HH.out
    have HX := Lib.hid hx; have HC := Lib.hid hc; have HG := Lib.hid hg; have HB := Lib.hid hbw
    have hgl : w.heap.size < wr.heap.size := (Array.getElem?_eq_some_iff.1 hg).1
    have hxl : x < 18446744073709551616 := by rw [hx]; exact Nat.lt_trans (Nat.mod_lt _ (by decide)) (by decide)
    clear hx hc hg hbw HH
    have T2 : ∀ w' : World, w'.heap[w.heap.size]? = some (.cells #[.int .u64 2305843009213690799] 23 (0, 0)) →
        Calls Tryd.prog 45 #[.int .u64 (c : Int), .int .u64 (c : Int), .pointer (some ⟨w.heap.size, 0, none⟩)] w' fun e w'' => e = .returned (.int .u64 ((c * c % PP : Nat) : Int)) ∧ Below w'.heap.size w' w'' := by
      intro w' hg
      have := times_P (c : Int) (c : Int) _ w' hg (by omega) (by omega) (by omega) (by omega)
      rw [show ((c : Int) * (c : Int) % 2305843009213690799) = ((c * c % PP : Nat) : Int) by rw [Int.natCast_emod, Int.natCast_mul]; rfl] at this
      exact this
    have T1 := times_P (x : Int) (c : Int) _ wr HG.out (by omega) (by omega) (by omega) (by omega)
    rw [show ((x : Int) * (c : Int) % 2305843009213690799) = ((x * c % PP : Nat) : Int) by rw [Int.natCast_emod, Int.natCast_mul]; rfl] at T1
    obtain ⟨s1, s2, s3⟩ := pow_step b n k c x HX.out HC.out
    have S1 := Lib.hid s1; have S2 := Lib.hid s2; have S3 := Lib.hid s3; clear s1 s2 s3
    have e0 : (n : Int) / 2 ^ k = ((n / 2 ^ k : Nat) : Int) := by simp
    have hq : n / 2 ^ k < 18446744073709551616 := Nat.lt_of_le_of_lt (Nat.div_le_self _ _) hn
    have e1 := and_one (n / 2 ^ k) hq
    rw [← e0] at e1
    clear e0 hq
    have hmod : c * c % PP < 18446744073709551616 := Nat.lt_trans (Nat.mod_lt _ (by decide)) (by decide)
    obtain ⟨cc, hcc⟩ : ∃ z, z = c * c % PP := ⟨_, rfl⟩
    obtain ⟨xc, hxc⟩ : ∃ z, z = x * c % PP := ⟨_, rfl⟩
    rw [← hcc] at T2 S3 hmod
    rw [← hxc] at T1 S1
    clear hcc hxc
    by_cases hlt : k < L
    · by_cases hbit : n / 2 ^ k % 2 = 1
      · have e2 : ((n / 2 ^ k % 2 : Nat) : Int) = 1 := by rw [hbit]; rfl
        rw [e2] at e1
        have S1' := Lib.hid (S1.out hbit)
        clear S1 S2
        go_wp2_with fail
        refine T1.mono ?_
        rintro e w1 ⟨rfl, hb1⟩
        have hg1 : w1.heap[w.heap.size]? = some (.cells #[.int .u64 2305843009213690799] 23 (0, 0)) := (hb1.block _ hgl).trans HG.out
        have T3 := T2 w1 hg1
        have Hg1 := Lib.hid hg1
        have Hb1 := Lib.hid ((HB.out).trans (hb1.mono (by omega)))
        have Hgl1 := Lib.hid (Nat.lt_of_lt_of_le hgl hb1.size)
        clear hg1 hb1
        go_wp2_with fail
        refine T3.mono ?_
        rintro e w2 ⟨rfl, hb2⟩
        have Hb2 := Lib.hid hb2; clear hb2
        go_wp2
        go_roundw
        case rel =>
          refine ⟨k + 1, cc, xc, by omega, by go_num, rfl, rfl, S1'.out, S3.out, hmod, ?_, ?_⟩
          · exact (Hb2.out.block _ Hgl1.out).trans Hg1.out
          · exact Hb1.out.trans (Hb2.out.mono (by have := Hgl1.out; omega))
        case measure => simp [intOf]; omega
      · have hbit' : n / 2 ^ k % 2 = 0 := by omega
        have e2 : ((n / 2 ^ k % 2 : Nat) : Int) = 0 := by rw [hbit']; rfl
        rw [e2] at e1
        have S2' := Lib.hid (S2.out hbit')
        clear S1 S2 T1 hbit hbit' e2
        have T3 := T2 wr HG.out
        go_wp2_with fail
        refine T3.mono ?_
        rintro e w2 ⟨rfl, hb2⟩
        have Hb2 := Lib.hid hb2; clear hb2
        go_wp2
        go_roundw
        case rel =>
          refine ⟨k + 1, cc, x, by omega, by go_num, rfl, rfl, S2'.out, S3.out, hmod, ?_, ?_⟩
          · exact (Hb2.out.block _ hgl).trans HG.out
          · exact HB.out.trans (Hb2.out.mono (by omega))
        case measure => simp [intOf]; omega
    · have hk' : k = L := by omega
      subst hk'
      have hxe : x = b ^ n % PP := by rw [HX.out, Nat.mod_eq_of_lt hend.out]
      have HXE := Lib.hid hxe
      clear hxe T1 T2 S1 S2 S3 e1
      go_wp2
      go_ret
      exact ⟨by rw [HXE.out]; rfl, HB.out⟩

end Go.Proofs.YtlfjcifeiihmfaaDoor
