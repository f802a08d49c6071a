/-
  Walks: Text of the reference.
-/
import Derived.Test.YtempnbchiofghaaGreatDoorSb
namespace Go.Proofs.YtempnbchiofghaaGreatDoor
open Go.RowKit Go.Lib
set_option linter.unusedVariables false
set_option linter.unusedSimpArgs false

/-- The text's last letters after k digits. -/
def sfx (n : Nat) : Nat → List UInt8
  | 0 => []
  | k + 1 => dgt (n / 10 ^ k) :: ((if k = 2 then [46] else []) ++ sfx n k)
def lowd (m : Nat) : Nat → List UInt8
  | 0 => []
  | j + 1 => dgt (m / 10 ^ j) :: lowd m j
theorem lowd_tail (m : Nat) : ∀ j, lowd m (j + 1) = lowd (m / 10) j ++ [dgt m]
  | 0 => by simp [lowd]
  | j + 1 => by
    have ih := lowd_tail m j
    rw [show lowd m (j + 1 + 1) = dgt (m / 10 ^ (j + 1)) :: lowd m (j + 1) from rfl, ih]
    rw [show lowd (m / 10) (j + 1) = dgt (m / 10 / 10 ^ j) :: lowd (m / 10) j from rfl]
    rw [Nat.div_div_eq_div_mul, Nat.pow_succ, Nat.mul_comm]
    rfl
theorem dec_lowd : ∀ (j m : Nat), m / 10 ^ (j + 1) = 0 → (j = 0 ∨ m / 10 ^ j ≠ 0) → Lib.decDigits m = lowd m (j + 1)
  | 0, m, h, _ => by
    have hm : m < 10 := by
      rw [Nat.pow_one] at h
      omega
    rw [Lib.decDigits_one hm]
    simp only [lowd, Nat.pow_zero, Nat.div_one, dgt]
    rw [Nat.mod_eq_of_lt hm]
  | j + 1, m, h, h2 => by
    have h3 : m / 10 ^ (j + 1) ≠ 0 := by
      rcases h2 with h2 | h2
      · omega
      · exact h2
    have e1 : ∀ i, m / 10 / 10 ^ i = m / 10 ^ (i + 1) := fun i => by rw [Nat.div_div_eq_div_mul, Nat.pow_succ, Nat.mul_comm]
    have hm : ¬ m < 10 := by
      intro hm
      have := e1 j
      rw [Nat.div_eq_of_lt hm, Nat.zero_div] at this
      exact h3 this.symm
    rw [lowd_tail, Lib.decDigits, dif_neg hm, dec_lowd j (m / 10) (by rw [e1]; exact h) (by
      rcases Nat.eq_zero_or_pos j with h4 | h4
      · exact Or.inl h4
      · right
        rw [e1]
        exact h3)]
    rfl
theorem sfx_low (n : Nat) : ∀ j, sfx n (j + 1 + 2) = lowd (n / 100) (j + 1) ++ [46, dgt (n / 10), dgt n]
  | 0 => by simp [sfx, lowd]
  | j + 1 => by
    have ih := sfx_low n j
    rw [show sfx n (j + 1 + 1 + 2) = dgt (n / 10 ^ (j + 1 + 2)) :: ((if j + 1 + 2 = 2 then [46] else []) ++ sfx n (j + 1 + 2)) from rfl, ih, if_neg (by omega)]
    rw [show lowd (n / 100) (j + 1 + 1) = dgt (n / 100 / 10 ^ (j + 1)) :: lowd (n / 100) (j + 1) from rfl]
    rw [Nat.div_div_eq_div_mul, show j + 1 + 2 = 2 + (j + 1) by omega, Nat.pow_add]
    rfl
/-- The loop has ended: the text is whole. -/
theorem sfx_end {n k : Nat} (hk : 3 ≤ k) (h0 : n / 10 ^ k = 0) (h1 : k ≤ 3 ∨ n / 10 ^ (k - 1) ≠ 0) : sfx n k = txtN n := by
  obtain ⟨j, rfl⟩ : ∃ j, k = j + 1 + 2 := ⟨k - 3, by omega⟩
  have e1 : ∀ i, n / 100 / 10 ^ i = n / 10 ^ (i + 2) := fun i => by rw [Nat.div_div_eq_div_mul, Nat.pow_add, Nat.mul_comm]
  rw [sfx_low]
  unfold txtN
  rw [dec_lowd j (n / 100) (by rw [e1]; exact h0) (by
    rcases Nat.eq_zero_or_pos j with h2 | h2
    · exact Or.inl h2
    · right
      rw [e1]
      rcases h1 with h1 | h1
      · omega
      · exact h1)]
theorem sfx_length (n : Nat) : ∀ k, (sfx n k).length ≤ k + 1 ∧ (k ≤ 2 → (sfx n k).length = k)
  | 0 => by simp [sfx]
  | k + 1 => by
    have ih := sfx_length n k
    simp only [sfx, List.length_cons, List.length_append]
    by_cases h : k = 2
    · subst h
      have := ih.2 (by omega)
      rw [if_pos rfl]
      simp only [List.length_cons, List.length_nil]
      omega
    · rw [if_neg h]
      simp only [List.length_nil]
      omega
theorem digits_few {n k : Nat} (hn : n < 18446744073709551616) (h : n / 10 ^ k ≠ 0) : k < 20 := by
  refine Nat.not_le.1 fun hk => h (Nat.div_eq_of_lt (Nat.lt_of_lt_of_le ?_ (Nat.pow_le_pow_right (by decide) hk)))
  have : (10 : Nat) ^ 20 = 100000000000000000000 := by decide
  omega

theorem digit_any (z : Int) (hz : I64 z) (w : World) : Calls Tryz.prog 53 #[.int .i64 z] w fun e w' => e = .returned (.int .i64 ((z.natAbs % 10 : Nat) : Int)) ∧ w = w' := by
  have h1 := tmod_bnd hz (b := 10) (by decide)
  have h2 := Int.natAbs_tmod z 10
  have h4 : (z.tmod 10).natAbs = z.natAbs % 10 := h2
  by_cases h0 : z < 0
  · have h3 := Int.tmod_nonneg 10 (a := -z) (by omega)
    rw [Int.neg_tmod] at h3
    obtain ⟨r, hr⟩ : ∃ r, z.tmod 10 = r := ⟨_, rfl⟩
    rw [hr] at h1 h3 h4
    have h5 : IntKind.i64.wrap (-r) = ((z.natAbs % 10 : Nat) : Int) := by
      rw [wrap_in (by omega) (by omega)]; omega
    obtain ⟨R, hR⟩ : ∃ R, z.natAbs % 10 = R := ⟨_, rfl⟩
    rw [hR] at h5 ⊢
    clear h2 h3 h4 hR hz
    go_enter Tryz.func53, Tryz.ntmps53
    go_wp2
    go_ret
    exact ⟨rfl, rfl⟩
  · have h3 := Int.tmod_nonneg 10 (a := z) (by omega)
    have h6 : z % 10 = ((z.natAbs % 10 : Nat) : Int) := by omega
    have h5 : IntKind.i64.wrap (z.tmod 10) = ((z.natAbs % 10 : Nat) : Int) := by
      rw [h1]; omega
    obtain ⟨R, hR⟩ : ∃ R, z.natAbs % 10 = R := ⟨_, rfl⟩
    rw [hR] at h5 h6 ⊢
    have H6 := Lib.hid h6
    clear h1 h2 h3 h4 hR hz h6
    go_enter Tryz.func53, Tryz.ntmps53
    go_wp2
    go_ret
    exact ⟨retI (by first | rfl | exact H6.out), rfl⟩

/-- What is left after k digits. -/
def lft (a : Int) (k : Nat) : Int := if a < 0 then -((a.natAbs / 10 ^ k : Nat) : Int) else ((a.natAbs / 10 ^ k : Nat) : Int)
theorem lft_abs (a : Int) (k : Nat) : (lft a k).natAbs = a.natAbs / 10 ^ k := by
  unfold lft
  generalize a.natAbs / 10 ^ k = m
  split <;> omega
theorem lft_zero (a : Int) : lft a 0 = a := by unfold lft; rw [Nat.pow_zero, Nat.div_one]; split <;> omega
theorem lft_step (a : Int) (k : Nat) : (lft a k).tdiv 10 = lft a (k + 1) := by
  have e : a.natAbs / 10 ^ (k + 1) = a.natAbs / 10 ^ k / 10 := by rw [Nat.div_div_eq_div_mul, Nat.pow_succ]
  unfold lft
  rw [e]
  split
  · rw [Int.neg_tdiv]; rfl
  · rfl
theorem lft_I64 {a : Int} (h : I64 a) (k : Nat) : I64 (lft a k) := by
  have h1 := Nat.div_le_self a.natAbs (10 ^ k)
  obtain ⟨a0, a1⟩ := h
  unfold lft I64
  generalize a.natAbs / 10 ^ k = m at *
  split <;> omega
theorem byte_str (c : UInt8) (w : World) : (convert 65 9 (.slice (some ⟨w.heap.size, 0, none⟩) 1 1)).run Tryz.prog (w.alloc (.cells #[.int .u8 (c.toNat : Int)] 5)) = .ok (.string ⟨#[c]⟩) (w.alloc (.cells #[.int .u8 (c.toNat : Int)] 5)) := by
  have h := run_convert_bytes_back (P := Tryz.prog) (w.alloc (.cells #[.int .u8 (c.toNat : Int)] 5)) 65 9 5 ⟨w.heap.size, 0, none⟩ 1 [c] Tryz.underlying65 Tryz.underlying5 Tryz.underlying9 (fun j hj => by
    have hj0 : j = 0 := by simpa using hj
    subst hj0
    rw [Lib.add_plain, World.cell?_alloc_new]
    rfl)
  exact h

set_option maxRecDepth 100000 in
set_option maxHeartbeats 8000000 in
theorem rtext_any (a : Int) (ha : I64 a) (w : World) : Calls Tryz.prog 31 #[.int .i64 a] w fun e w' => e = .returned (.string ⟨(txt a).toArray⟩) ∧ Below w.heap.size w w' := by
  obtain ⟨T, hT⟩ : ∃ T, (⟨(txt a).toArray⟩ : ByteArray) = T := ⟨_, rfl⟩
  rw [hT]
  have HT := Lib.hid hT
  have HA := Lib.hid ha
  have hn64 : a.natAbs < 18446744073709551616 := by obtain ⟨a0, a1⟩ := ha; omega
  have HN64 := Lib.hid hn64
  clear ha hT hn64
  go_enter Tryz.func31, Tryz.ntmps31
  go_wp2
  go_loopw [3, 4, 5] (fun s z i wr => ∃ (k : Nat) (S : ByteArray) (x : Int), s = .string S ∧ z = .int .i64 x ∧ i = .int .i64 (k : Int) ∧ Hid (S.data.toList = sfx a.natAbs k) ∧ Hid (x = lft a k) ∧ Hid (k ≤ 3 ∨ a.natAbs / 10 ^ (k - 1) ≠ 0) ∧ Hid (Below w.heap.size w wr)) (fun _ z i _ => (intOf z).natAbs + (3 - (intOf i).toNat))
  case atStart => exact ⟨0, _, a, rfl, rfl, rfl, Lib.hid rfl, Lib.hid (lft_zero a).symm, Lib.hid (Or.inl (by omega)), Lib.hid (Below.refl _ _)⟩
  case round =>
    obtain ⟨k, S, x, rfl, rfl, rfl, HS, HX, HK, HB⟩ := hrel
    have hk24 : k < 24 := by
      rcases HK.out with h | h
      · omega
      · have := digits_few HN64.out h; omega
    have hS := HS.out
    have hSl : S.size = (sfx a.natAbs k).length := by rw [← hS]; exact (Array.length_toList ..).symm
    have hl := sfx_length a.natAbs k
    obtain ⟨n, hn⟩ : ∃ n, S.size = n := ⟨_, rfl⟩
    rw [hn] at hSl
    have hn25 : n ≤ 25 := by omega
    have hxI := lft_I64 HA.out k
    rw [← HX.out] at hxI
    have HD := Lib.hid (digit_any x hxI)
    have hxa := lft_abs a k
    rw [← HX.out] at hxa
    have hst := lft_step a k
    rw [← HX.out] at hst
    obtain ⟨x2, hx2⟩ : ∃ x2, x.tdiv 10 = x2 := ⟨_, rfl⟩
    have hdv : IntKind.i64.wrap (x.tdiv 10) = x2 := by rw [tdiv_bnd hxI (by decide), hx2]
    rw [hx2] at hst
    have hx2a := lft_abs a (k + 1)
    rw [← hst] at hx2a
    have hpw : a.natAbs / 10 ^ (k + 1) = a.natAbs / 10 ^ k / 10 := by rw [Nat.div_div_eq_div_mul, Nat.pow_succ]
    obtain ⟨c, hc⟩ : ∃ c, dgt (a.natAbs / 10 ^ k) = c := ⟨_, rfl⟩
    obtain ⟨D, hD⟩ : ∃ D, x.natAbs % 10 = D := ⟨_, rfl⟩
    rw [hD] at HD
    have hcn : (c.toNat : Int) = 48 + (D : Int) := by
      rw [← hc, ← hD, hxa]
      unfold dgt
      rw [UInt8.toNat_ofNat']
      omega
    have hD10 : D < 10 := by omega
    have v1 : IntKind.i64.wrap (48 + (D : Int)) = (c.toNat : Int) := by rw [hcn]; exact wrap_in (by omega) (by omega)
    have v2 : IntKind.u8.wrap (c.toNat : Int) = (c.toNat : Int) := by rw [hcn, IntKind.wrap_u8]; omega
    have hcv := byte_str c
    by_cases hgo : (k : Int) < 3 ∨ x ≠ 0
    · have hkne : k + 1 ≤ 3 ∨ a.natAbs / 10 ^ k ≠ 0 := by
        rcases hgo with h | h
        · left; omega
        · right; omega
      have HK2 : Hid (k + 1 ≤ 3 ∨ a.natAbs / 10 ^ (k + 1 - 1) ≠ 0) := Lib.hid (by rw [Nat.add_sub_cancel]; exact hkne)
      have hmeas : x2.natAbs + (3 - (k + 1)) < x.natAbs + (3 - k) := by omega
      have HX2 : Hid (x2 = lft a (k + 1)) := Lib.hid hst
      have HMS := Lib.hid hmeas
      by_cases hk2 : k = 2
      · subst hk2
        have HS2 : Hid ((⟨#[c]⟩ ++ (⟨#[46]⟩ ++ S) : ByteArray).data.toList = sfx a.natAbs 3) := Lib.hid (by
          rw [ba_app, ba_app, hS, ← hc]
          rfl)
        have s1 : ¬ 9223372036854775807 < 1 + n := by omega
        have s2 : ¬ 9223372036854775807 < 1 + (1 + n) := by omega
        clear hS hSl hl hxI hxa hst hx2 hx2a hpw hc hD hcn hD10 hkne hmeas HS HX HK hgo hk24 hn25
        go_wp2_with fail
        refine (HD.out _).mono ?_
        rintro e w' ⟨rfl, rfl⟩
        have HB2 : Hid (Below w.heap.size w (wr.alloc (.cells #[.int .u8 (c.toNat : Int)] 5))) := Lib.hid (ball HB.out _)
        have hcv1 := hcv wr
        clear hcv HB
        go_wp2
        generalize wr.alloc (.cells #[.int .u8 (c.toNat : Int)] 5) = w7 at *
        go_roundw
        case rel => exact ⟨3, _, x2, rfl, rfl, rfl, HS2, HX2, HK2, HB2⟩
        case measure => have := HMS.out; simp [intOf]; omega
      · have HS2 : Hid ((⟨#[c]⟩ ++ S : ByteArray).data.toList = sfx a.natAbs (k + 1)) := Lib.hid (by
          rw [ba_app, hS, ← hc]
          simp [sfx, hk2])
        have s1 : ¬ 9223372036854775807 < 1 + n := by omega
        have t2 : ((k : Int) == 2) = false := by simp only [beq_eq_false_iff_ne, ne_eq]; omega
        by_cases hk3 : (k : Int) < 3
        · clear hS hSl hl hxI hxa hst hx2 hx2a hpw hc hD hcn hD10 hkne hmeas HS HX HK hgo hn25
          go_wp2_with fail
          refine (HD.out _).mono ?_
          rintro e w' ⟨rfl, rfl⟩
          have HB2 : Hid (Below w.heap.size w (wr.alloc (.cells #[.int .u8 (c.toNat : Int)] 5))) := Lib.hid (ball HB.out _)
          have hcv1 := hcv wr
          clear hcv HB
          go_wp2
          generalize wr.alloc (.cells #[.int .u8 (c.toNat : Int)] 5) = w7 at *
          go_roundw
          case rel => exact ⟨k + 1, _, x2, rfl, rfl, by go_num, HS2, HX2, HK2, HB2⟩
          case measure => have := HMS.out; simp [intOf]; omega
        · have hx0 : x ≠ 0 := by
            rcases hgo with h | h
            · exact absurd h hk3
            · exact h
          have t3 : (x != 0) = true := by simpa using hx0
          clear hS hSl hl hxI hxa hst hx2 hx2a hpw hc hD hcn hD10 hkne hmeas HS HX HK hgo hn25 hx0
          go_wp2_with fail
          refine (HD.out _).mono ?_
          rintro e w' ⟨rfl, rfl⟩
          have HB2 : Hid (Below w.heap.size w (wr.alloc (.cells #[.int .u8 (c.toNat : Int)] 5))) := Lib.hid (ball HB.out _)
          have hcv1 := hcv wr
          clear hcv HB
          go_wp2
          generalize wr.alloc (.cells #[.int .u8 (c.toNat : Int)] 5) = w7 at *
          go_roundw
          case rel => exact ⟨k + 1, _, x2, rfl, rfl, by go_num, HS2, HX2, HK2, HB2⟩
          case measure => have := HMS.out; simp [intOf]; omega
    · have hk3 : ¬ (k : Int) < 3 := fun h => hgo (Or.inl h)
      have hx0 : x = 0 := Classical.byContradiction fun h => hgo (Or.inr h)
      have hend := sfx_end (n := a.natAbs) (k := k) (by omega) (by omega) HK.out
      rw [← hS] at hend
      have s1 : ¬ 9223372036854775807 < 1 + n := by omega
      subst hx0
      by_cases hneg : a < 0
      · have HF : Hid (((⟨#[45]⟩ : ByteArray) ++ S) = T) := Lib.hid (by
          rw [← HT.out]
          apply ba_ext
          rw [ba_app, hend]
          unfold txt
          rw [if_pos hneg])
        clear hS hSl hl hxI hxa hst hx2 hx2a hpw hc hD hcn hD10 HS HX HK hgo hend hdv v1 v2 hcv HD
        go_wp2
        go_ret
        exact ⟨congrArg Ending.returned (congrArg Value.string HF.out), HB.out⟩
      · have HF : Hid (S = T) := Lib.hid (by
          rw [← HT.out]
          apply ba_ext
          rw [hend]
          unfold txt
          rw [if_neg hneg]
          rfl)
        clear hS hSl hl hxI hxa hst hx2 hx2a hpw hc hD hcn hD10 HS HX HK hgo hend hdv v1 v2 hcv HD
        go_wp2
        go_ret
        exact ⟨congrArg Ending.returned (congrArg Value.string HF.out), HB.out⟩
end Go.Proofs.YtempnbchiofghaaGreatDoor
