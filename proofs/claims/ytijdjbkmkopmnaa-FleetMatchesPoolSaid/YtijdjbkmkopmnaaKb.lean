/-
  Walks: powers modulo P and the validity of a key, both sides.
-/
import Derived.Test.YtijdjbkmkopmnaaKa
import Derived.Deep.LoopGhost
namespace Go.Proofs.Ytijdjbkmkopmnaa.Sgn
open Go.RowKit
set_option linter.unusedVariables false
set_option linter.unusedSimpArgs false

theorem lt_bitLenAux : ∀ (f x : Nat), x < 2 ^ f → x < 2 ^ Lib.bitLenAux f x
  | 0, x, h => by simpa [Lib.bitLenAux] using h
  | f + 1, x, h => by
    simp only [Lib.bitLenAux]
    split
    · rename_i h0; subst h0; simp
    · have := lt_bitLenAux f (x / 2) (by rw [Nat.pow_succ] at h; omega)
      rw [Nat.add_comm, Nat.pow_succ]; omega

theorem lt_bitLen (x : Nat) (h : x < 18446744073709551616) : x < 2 ^ Lib.bitLen x := lt_bitLenAux 64 x h

theorem and_one (a : Nat) (h : a < 18446744073709551616) : bits .and .u64 (a : Int) 1 = ((a % 2 : Nat) : Int) := by
  have h := bits_and_u64_nat a 1 h (by omega)
  rw [Nat.and_one_is_mod] at h
  exact h

/-- One step of the power by squaring. -/
theorem pow_step (b n k c x : Nat) (hx : x = b ^ (n % 2 ^ k) % PP) (hc : c % PP = b ^ (2 ^ k) % PP) :
    (n / 2 ^ k % 2 = 1 → x * c % PP = b ^ (n % 2 ^ (k + 1)) % PP) ∧ (n / 2 ^ k % 2 = 0 → x = b ^ (n % 2 ^ (k + 1)) % PP) ∧ c * c % PP % PP = b ^ (2 ^ (k + 1)) % PP := by
  have hm : n % 2 ^ (k + 1) = n % 2 ^ k + 2 ^ k * (n / 2 ^ k % 2) := Nat.mod_pow_succ
  refine ⟨fun h => ?_, fun h => ?_, ?_⟩
  · rw [hm, h, Nat.mul_one, Nat.pow_add, Nat.mul_mod, hc, hx, Nat.mod_mod, ← Nat.mul_mod]
  · rw [hm, h, Nat.mul_zero, Nat.add_zero]; exact hx
  · rw [Nat.mod_mod, Nat.mul_mod, hc, ← Nat.mul_mod, ← Nat.pow_add, Nat.pow_succ, Nat.mul_two]

set_option maxHeartbeats 1000000 in
theorem pow_any (b n : Nat) (w : World) (hb : b < 18446744073709551616) (hn : n < 18446744073709551616) :
    Calls Try.prog 77 #[.int .u64 (b : Int), .int .u64 (n : Int)] w fun e w' => e = .returned (.int .u64 ((b ^ n % PP : Nat) : Int)) ∧ Below w.heap.size w w' := by
  have H := pm_any 2305843009213690799 w
  have HL := len64_any (n : Int) (w.alloc (.cells #[.int .u64 2305843009213690799] 56)) (by omega) (by omega)
  have hlen : Lib.bitLen n ≤ 64 := Lib.bitLen_le n 64 (by decide) hn
  have hend := Lib.hid (lt_bitLen n hn)
  go_enter Try.func77, Try.ntmps77
  go_wp2_with (first | (go_at_call 101; refine H.mono ?_; rintro e w' ⟨rfl, rfl⟩) | (go_at_call 102; refine HL.mono ?_; rintro e w' ⟨rfl, rfl⟩))
  clear H HL
  generalize Lib.bitLen n = L at *
  go_loopw [0, 4, 10] (fun bb xx i wr => ∃ k c x : Nat, k ≤ L ∧ i = .int .i64 k ∧ bb = .int .u64 (c : Int) ∧ xx = .int .u64 (x : Int) ∧ Hid (x = b ^ (n % 2 ^ k) % PP ∧ c % PP = b ^ (2 ^ k) % PP ∧ c < 18446744073709551616 ∧ wr.heap[w.heap.size]? = some (.cells #[.int .u64 2305843009213690799] 56 (0, 0)) ∧ Below w.heap.size w wr)) (fun _ _ i _ => L - (intOf i).toNat)
  case atStart =>
    refine ⟨0, b, 1, by omega, rfl, rfl, rfl, ?_, ?_, hb, heap_alloc_new _ _, ball (Below.refl _ _) _⟩
    · rw [Nat.pow_zero, Nat.mod_one, Nat.pow_zero]; decide
    · rw [Nat.pow_zero, Nat.pow_one]
  case round =>
    obtain ⟨k, c, x, hk, rfl, rfl, rfl, HH⟩ := hrel
    obtain ⟨hx, hc, hcl, hg, hbw⟩ := HH.out
    have HX := Lib.hid hx; have HC := Lib.hid hc; have HG := Lib.hid hg; have HB := Lib.hid hbw
    have hgl : w.heap.size < wr.heap.size := (Array.getElem?_eq_some_iff.1 hg).1
    have hxl : x < 18446744073709551616 := by rw [hx]; exact Nat.lt_trans (Nat.mod_lt _ (by decide)) (by decide)
    clear hx hc hg hbw HH
    have T2 : ∀ w' : World, w'.heap[w.heap.size]? = some (.cells #[.int .u64 2305843009213690799] 56 (0, 0)) →
        Calls Try.prog 107 #[.int .u64 (c : Int), .int .u64 (c : Int), .pointer (some ⟨w.heap.size, 0, none⟩)] w' fun e w'' => e = .returned (.int .u64 ((c * c % PP : Nat) : Int)) ∧ Below w'.heap.size w' w'' := by
      intro w' hg
      have := times_P (c : Int) (c : Int) _ w' hg (by omega) (by omega) (by omega) (by omega)
      rw [show ((c : Int) * (c : Int) % 2305843009213690799) = ((c * c % PP : Nat) : Int) by rw [Int.natCast_emod, Int.natCast_mul]; rfl] at this
      exact this
    have T1 := times_P (x : Int) (c : Int) _ wr HG.out (by omega) (by omega) (by omega) (by omega)
    rw [show ((x : Int) * (c : Int) % 2305843009213690799) = ((x * c % PP : Nat) : Int) by rw [Int.natCast_emod, Int.natCast_mul]; rfl] at T1
    obtain ⟨s1, s2, s3⟩ := pow_step b n k c x HX.out HC.out
    have S1 := Lib.hid s1; have S2 := Lib.hid s2; have S3 := Lib.hid s3; clear s1 s2 s3
    have e0 : (n : Int) / 2 ^ k = ((n / 2 ^ k : Nat) : Int) := by simp
    have hq : n / 2 ^ k < 18446744073709551616 := Nat.lt_of_le_of_lt (Nat.div_le_self _ _) hn
    have e1 := and_one (n / 2 ^ k) hq
    rw [← e0] at e1
    clear e0 hq
    have hmod : c * c % PP < 18446744073709551616 := Nat.lt_trans (Nat.mod_lt _ (by decide)) (by decide)
    obtain ⟨cc, hcc⟩ : ∃ z, z = c * c % PP := ⟨_, rfl⟩
    obtain ⟨xc, hxc⟩ : ∃ z, z = x * c % PP := ⟨_, rfl⟩
    rw [← hcc] at T2 S3 hmod
    rw [← hxc] at T1 S1
    clear hcc hxc
    by_cases hlt : k < L
    · by_cases hbit : n / 2 ^ k % 2 = 1
      · have e2 : ((n / 2 ^ k % 2 : Nat) : Int) = 1 := by rw [hbit]; rfl
        rw [e2] at e1
        have S1' := Lib.hid (S1.out hbit)
        clear S1 S2
        go_wp2_with fail
        refine T1.mono ?_
        rintro e w1 ⟨rfl, hb1⟩
        have hg1 : w1.heap[w.heap.size]? = some (.cells #[.int .u64 2305843009213690799] 56 (0, 0)) := (hb1.block _ hgl).trans HG.out
        have T3 := T2 w1 hg1
        have Hg1 := Lib.hid hg1
        have Hb1 := Lib.hid ((HB.out).trans (hb1.mono (by omega)))
        have Hgl1 := Lib.hid (Nat.lt_of_lt_of_le hgl hb1.size)
        clear hg1 hb1
        go_wp2_with fail
        refine T3.mono ?_
        rintro e w2 ⟨rfl, hb2⟩
        have Hb2 := Lib.hid hb2; clear hb2
        go_wp2
        go_roundw
        case rel =>
          refine ⟨k + 1, cc, xc, by omega, by go_num, rfl, rfl, S1'.out, S3.out, hmod, ?_, ?_⟩
          · exact (Hb2.out.block _ Hgl1.out).trans Hg1.out
          · exact Hb1.out.trans (Hb2.out.mono (by have := Hgl1.out; omega))
        case measure => simp [intOf]; omega
      · have hbit' : n / 2 ^ k % 2 = 0 := by omega
        have e2 : ((n / 2 ^ k % 2 : Nat) : Int) = 0 := by rw [hbit']; rfl
        rw [e2] at e1
        have S2' := Lib.hid (S2.out hbit')
        clear S1 S2 T1 hbit hbit' e2
        have T3 := T2 wr HG.out
        go_wp2_with fail
        refine T3.mono ?_
        rintro e w2 ⟨rfl, hb2⟩
        have Hb2 := Lib.hid hb2; clear hb2
        go_wp2
        go_roundw
        case rel =>
          refine ⟨k + 1, cc, x, by omega, by go_num, rfl, rfl, S2'.out, S3.out, hmod, ?_, ?_⟩
          · exact (Hb2.out.block _ hgl).trans HG.out
          · exact HB.out.trans (Hb2.out.mono (by omega))
        case measure => simp [intOf]; omega
    · have hk' : k = L := by omega
      subst hk'
      have hxe : x = b ^ n % PP := by rw [HX.out, Nat.mod_eq_of_lt hend.out]
      have HXE := Lib.hid hxe
      clear hxe T1 T2 S1 S2 S3 e1
      go_wp2
      go_ret
      exact ⟨by rw [HXE.out]; rfl, HB.out⟩


theorem dbl (m x y z : Nat) : (z + (x + x) % m * (y / 2)) % m = (z + x * (2 * (y / 2))) % m := by
  rw [Nat.add_mod, Nat.mul_mod, Nat.mod_mod, ← Nat.mul_mod, ← Nat.add_mod]
  congr 2
  rw [← Nat.two_mul, Nat.mul_comm 2 x, Nat.mul_assoc]

theorem dbl1 (m x y z : Nat) (h : y % 2 = 1) : ((z + x) % m + (x + x) % m * (y / 2)) % m = (z + x * y) % m := by
  rw [dbl, Nat.add_mod, Nat.mod_mod, ← Nat.add_mod]
  congr 1
  have : x * y = x * (2 * (y / 2)) + x := by
    rw [← Nat.mul_succ]; congr 1; omega
  omega

theorem dbl0 (m x y z : Nat) (h : y % 2 = 0) : (z + (x + x) % m * (y / 2)) % m = (z + x * y) % m := by
  rw [dbl, show 2 * (y / 2) = y by omega]

set_option maxHeartbeats 1000000 in
theorem rtimes_any (a b m : Nat) (w : World) (ha : a < m) (hm : m ≤ 4611686018427387904) (hb : b < 18446744073709551616) :
    Calls Try.prog 106 #[.int .u64 (a : Int), .int .u64 (b : Int), .int .u64 (m : Int)] w fun e w' => e = .returned (.int .u64 ((a * b % m : Nat) : Int)) ∧ w = w' := by
  obtain ⟨R, hR⟩ : ∃ R, R = a * b % m := ⟨_, rfl⟩
  rw [← hR]
  have HR := Lib.hid hR; clear hR
  go_enter Try.func106, Try.ntmps106
  go_wp2
  go_loop [0, 1, 7] (fun aa bb o => ∃ x y z : Nat, aa = .int .u64 (x : Int) ∧ bb = .int .u64 (y : Int) ∧ o = .int .u64 (z : Int) ∧ x < m ∧ y ≤ b ∧ z < m ∧ Hid ((z + x * y) % m = R)) (fun _ bb _ => (intOf bb).toNat)
  case atStart => exact ⟨a, b, 0, rfl, rfl, rfl, ha, Nat.le_refl _, by omega, Lib.hid (by rw [Nat.zero_add, HR.out])⟩
  case round =>
    obtain ⟨x, y, z, rfl, rfl, rfl, hx, hy, hz, H⟩ := hrel
    by_cases h0 : 0 < y
    · by_cases h1 : y % 2 = 1
      · have hr := Lib.hid (dbl1 m x y z h1)
        go_wp2
        refine ⟨⟨(x + x) % m, y / 2, (z + x) % m, by simp, by simp, by simp, Nat.mod_lt _ (by omega), by omega, Nat.mod_lt _ (by omega), Lib.hid (hr.out.trans H.out)⟩, by simp [intOf]; omega⟩
      · have hr := Lib.hid (dbl0 m x y z (by omega))
        go_wp2
        refine ⟨⟨(x + x) % m, y / 2, z, by simp, by simp, rfl, Nat.mod_lt _ (by omega), by omega, hz, Lib.hid (hr.out.trans H.out)⟩, by simp [intOf]; omega⟩
    · have hy0 : y = 0 := by omega
      subst hy0
      have hh := H.out
      rw [Nat.mul_zero, Nat.add_zero, Nat.mod_eq_of_lt hz] at hh
      have HH := Lib.hid hh
      clear hh
      go_wp2
      go_ret
      exact ⟨by rw [← HH.out]; rfl, rfl⟩

/-- The power of the reference, step by step. -/
theorem rpow_step (b n x y : Nat) (c : Nat) (hn : 0 < n) (h : x * c ^ n % PP = y) :
    (n % 2 = 1 → (x * c % PP) * (c * c % PP) ^ (n / 2) % PP = y) ∧ (n % 2 = 0 → x * (c * c % PP) ^ (n / 2) % PP = y) := by
  have e : (c * c % PP) ^ (n / 2) % PP = c ^ (2 * (n / 2)) % PP := by
    rw [← Nat.pow_mod, Nat.pow_mul, Nat.pow_two]
  refine ⟨fun h1 => ?_, fun h0 => ?_⟩
  · rw [Nat.mul_mod, Nat.mod_mod, e, ← Nat.mul_mod, ← h, Nat.mul_assoc, Nat.mul_comm c, ← Nat.pow_succ]
    congr 3; omega
  · rw [Nat.mul_mod, e, ← Nat.mul_mod, ← h, show 2 * (n / 2) = n by omega]

set_option maxHeartbeats 1000000 in
theorem rpow_any (b n : Nat) (w : World) (hb : b < 18446744073709551616) (hn : n < 18446744073709551616) :
    Calls Try.prog 97 #[.int .u64 (b : Int), .int .u64 (n : Int)] w fun e w' => e = .returned (.int .u64 ((b ^ n % PP : Nat) : Int)) ∧ w = w' := by
  have hinit : 1 * (b % PP) ^ n % PP = b ^ n % PP := by rw [Nat.one_mul, ← Nat.pow_mod]
  obtain ⟨R, hR⟩ : ∃ R, R = b ^ n % PP := ⟨_, rfl⟩
  rw [← hR] at hinit ⊢
  have HI := Lib.hid hinit
  clear hR hinit
  have e0 : IntKind.u64.wrap ((b : Int).tmod 2305843009213690799) = ((b % PP : Nat) : Int) := by
    rw [Int.tmod_eq_emod_of_nonneg (by omega), IntKind.wrap_u64]; unfold PP; omega
  have hb' : b % PP < PP := Nat.mod_lt _ (by decide)
  go_enter Try.func97, Try.ntmps97
  go_wp2
  go_loop [0, 1, 5] (fun cc nn xx => ∃ c m x : Nat, cc = .int .u64 (c : Int) ∧ nn = .int .u64 (m : Int) ∧ xx = .int .u64 (x : Int) ∧ c < 2305843009213690799 ∧ m ≤ n ∧ x < 2305843009213690799 ∧ Hid (x * c ^ m % PP = R)) (fun _ nn _ => (intOf nn).toNat)
  case atStart => exact ⟨b % PP, n, 1, by simp, rfl, rfl, hb', Nat.le_refl _, by omega, HI⟩
  case round =>
    obtain ⟨c, m, x, rfl, rfl, rfl, hc, hm, hx, H⟩ := hrel
    clear hb' e0 HI hb
    obtain ⟨cc, hcc, T2⟩ : ∃ cc : Nat, Hid (cc = c * c % PP) ∧ Calls Try.prog 106 #[.int .u64 (c : Int), .int .u64 (c : Int), .int .u64 2305843009213690799] w fun e w' => e = .returned (.int .u64 (cc : Int)) ∧ w = w' :=
      ⟨_, Lib.hid rfl, rtimes_any c c 2305843009213690799 w hc (by decide) (by omega)⟩
    obtain ⟨xc, hxc, T1⟩ : ∃ xc : Nat, Hid (xc = x * c % PP) ∧ Calls Try.prog 106 #[.int .u64 (x : Int), .int .u64 (c : Int), .int .u64 2305843009213690799] w fun e w' => e = .returned (.int .u64 (xc : Int)) ∧ w = w' :=
      ⟨_, Lib.hid rfl, rtimes_any x c 2305843009213690799 w hx (by decide) (by omega)⟩
    have l1 : xc < 2305843009213690799 := by rw [hxc.out]; exact Nat.mod_lt _ (by decide)
    have l2 : cc < 2305843009213690799 := by rw [hcc.out]; exact Nat.mod_lt _ (by decide)
    by_cases h0 : 0 < m
    · by_cases h1 : m % 2 = 1
      · have hr2 : Hid (xc * cc ^ (m / 2) % PP = R) := Lib.hid (by rw [hcc.out, hxc.out]; exact (rpow_step b m x R c h0 H.out).1 h1)
        clear hcc hxc H
        go_wp2_with fail
        refine T1.mono ?_
        rintro e w' ⟨rfl, rfl⟩
        go_wp2_with fail
        refine T2.mono ?_
        rintro e w' ⟨rfl, rfl⟩
        go_wp2
        refine ⟨⟨cc, m / 2, xc, rfl, by simp, rfl, l2, by omega, l1, hr2⟩, by simp [intOf]; omega⟩
      · have hr2 : Hid (x * cc ^ (m / 2) % PP = R) := Lib.hid (by rw [hcc.out]; exact (rpow_step b m x R c h0 H.out).2 (by omega))
        clear hcc hxc H T1 l1
        go_wp2_with (go_at_call 106; refine T2.mono ?_; rintro e w' ⟨rfl, rfl⟩)
        refine ⟨⟨cc, m / 2, x, rfl, by simp, rfl, l2, by omega, hx, hr2⟩, by simp [intOf]; omega⟩
    · have hy0 : m = 0 := by omega
      subst hy0
      have hh := H.out
      rw [Nat.pow_zero, Nat.mul_one, Nat.mod_eq_of_lt hx] at hh
      subst hh
      clear T1 T2 l1 l2 hcc hxc H
      go_wp2
      go_ret
      exact ⟨rfl, rfl⟩


/-- The power modulo P. -/
def powP (b n : Nat) : Nat := b ^ n % PP
theorem powP_lt (b n : Nat) : powP b n < 2305843009213690799 := Nat.mod_lt _ (by decide)
theorem powP_lt' (b n : Nat) : powP b n < 18446744073709551616 := Nat.lt_trans (powP_lt b n) (by decide)

theorem powP_any (b n : Nat) (w : World) (hb : b < 18446744073709551616) (hn : n < 18446744073709551616) :
    Calls Try.prog 77 #[.int .u64 (b : Int), .int .u64 (n : Int)] w fun e w' => e = .returned (.int .u64 (powP b n : Int)) ∧ Below w.heap.size w w' := pow_any b n w hb hn
theorem rpowP_any (b n : Nat) (w : World) (hb : b < 18446744073709551616) (hn : n < 18446744073709551616) :
    Calls Try.prog 97 #[.int .u64 (b : Int), .int .u64 (n : Int)] w fun e w' => e = .returned (.int .u64 (powP b n : Int)) ∧ w = w' := rpow_any b n w hb hn

/-- A valid key. -/
def vld (x : Nat) : Bool := decide (2 ≤ x) && (decide (x < 2305843009213690799) && decide (powP x 1152921504606845399 = 1))

set_option maxHeartbeats 400000 in
theorem valid_any (x : Nat) (w : World) (hx : x < 18446744073709551616) :
    Calls Try.prog 26 #[.int .u64 (x : Int)] w fun e w' => e = .returned (.bool (vld x)) ∧ Below w.heap.size w w' := by
  have H := powP_any x 1152921504606845399 w hx (by decide)
  obtain ⟨V, hV⟩ : ∃ V, V = vld x := ⟨_, rfl⟩
  rw [← hV]
  unfold vld at hV
  generalize powP x 1152921504606845399 = y at *
  have e : (((1152921504606845399 : Nat)) : Int) = 1152921504606845399 := rfl
  rw [e] at H
  have HV := Lib.hid hV; clear hV e
  by_cases h1 : 2 ≤ (x : Int)
  · by_cases h2 : (x : Int) < 2305843009213690799
    · by_cases h3 : y = 1
      · have hv : V = true := by
          have h1' : 2 ≤ x := by omega
          have h2' : x < 2305843009213690799 := by omega
          rw [HV.out, decide_eq_true h1', decide_eq_true h2', decide_eq_true h3]; rfl
        subst h3
        rw [show ((1 : Nat) : Int) = 1 from rfl] at H
        subst hv
        clear HV
        go_enter Try.func26, Try.ntmps26
        go_wp2_with (go_at_call 77; refine H.mono ?_; rintro e w' ⟨rfl, hb⟩)
        go_ret
        exact ⟨rfl, hb⟩
      · have hv : V = false := by rw [HV.out, decide_eq_false h3]; simp only [Bool.and_false]
        subst hv
        clear HV
        have h3' : (((y : Nat) : Int) == 1) = false := by rw [beq_eq_false_iff_ne]; omega
        clear h3
        go_enter Try.func26, Try.ntmps26
        go_wp2_with (go_at_call 77; refine H.mono ?_; rintro e w' ⟨rfl, hb⟩)
        go_ret
        exact ⟨rfl, hb⟩
    · have hv : V = false := by
        have h2' : ¬ x < 2305843009213690799 := by omega
        rw [HV.out, decide_eq_false h2']; simp only [Bool.and_false, Bool.false_and]
      subst hv
      clear HV H
      go_enter Try.func26, Try.ntmps26
      go_wp2
      go_ret
      exact ⟨rfl, Below.refl _ _⟩
  · have hv : V = false := by
      have h1' : ¬ 2 ≤ x := by omega
      rw [HV.out, decide_eq_false h1']; simp only [Bool.false_and]
    subst hv
    clear HV H
    go_enter Try.func26, Try.ntmps26
    go_wp2
    go_ret
    exact ⟨rfl, Below.refl _ _⟩

set_option maxHeartbeats 400000 in
theorem rvalid_any (x : Nat) (w : World) (hx : x < 18446744073709551616) :
    Calls Try.prog 74 #[.int .u64 (x : Int)] w fun e w' => e = .returned (.bool (vld x)) ∧ w = w' := by
  have H := rpowP_any x 1152921504606845399 w hx (by decide)
  obtain ⟨V, hV⟩ : ∃ V, V = vld x := ⟨_, rfl⟩
  rw [← hV]
  unfold vld at hV
  generalize powP x 1152921504606845399 = y at *
  have e : (((1152921504606845399 : Nat)) : Int) = 1152921504606845399 := rfl
  rw [e] at H
  have HV := Lib.hid hV; clear hV e
  by_cases h1 : 2 ≤ (x : Int)
  · by_cases h2 : (x : Int) < 2305843009213690799
    · by_cases h3 : y = 1
      · have hv : V = true := by
          have h1' : 2 ≤ x := by omega
          have h2' : x < 2305843009213690799 := by omega
          rw [HV.out, decide_eq_true h1', decide_eq_true h2', decide_eq_true h3]; rfl
        subst h3
        rw [show ((1 : Nat) : Int) = 1 from rfl] at H
        subst hv
        clear HV
        go_enter Try.func74, Try.ntmps74
        go_wp2_with (go_at_call 97; refine H.mono ?_; rintro e w' ⟨rfl, rfl⟩)
        go_ret
        exact ⟨rfl, rfl⟩
      · have hv : V = false := by rw [HV.out, decide_eq_false h3]; simp only [Bool.and_false]
        subst hv
        clear HV
        have h3' : (((y : Nat) : Int) == 1) = false := by rw [beq_eq_false_iff_ne]; omega
        clear h3
        go_enter Try.func74, Try.ntmps74
        go_wp2_with (go_at_call 97; refine H.mono ?_; rintro e w' ⟨rfl, rfl⟩)
        go_ret
        exact ⟨rfl, rfl⟩
    · have hv : V = false := by
        have h2' : ¬ x < 2305843009213690799 := by omega
        rw [HV.out, decide_eq_false h2']; simp only [Bool.and_false, Bool.false_and]
      subst hv
      clear HV H
      go_enter Try.func74, Try.ntmps74
      go_wp2
      go_ret
      exact ⟨rfl, rfl⟩
  · have hv : V = false := by
      have h1' : ¬ 2 ≤ x := by omega
      rw [HV.out, decide_eq_false h1']; simp only [Bool.false_and]
    subst hv
    clear HV H
    go_enter Try.func74, Try.ntmps74
    go_wp2
    go_ret
    exact ⟨rfl, rfl⟩

end Go.Proofs.Ytijdjbkmkopmnaa.Sgn
