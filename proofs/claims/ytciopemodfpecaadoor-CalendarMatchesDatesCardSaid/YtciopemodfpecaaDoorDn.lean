/-
  Walks of the dates: the year of a day, first days of months, the reference's first days of years.
-/
import Derived.Test.YtciopemodfpecaaDoorDm
namespace Go.Proofs.YtciopemodfpecaaDoor
open Go.RowKit
set_option linter.unusedVariables false
set_option linter.unusedSimpArgs false

theorem yr_le_of {i : Nat} {n : Int} (hn : n ≤ 745654) (h : yr i ≤ n) : (i : Int) ≤ 2042 := by
  have := yr_bound i; omega

set_option maxHeartbeats 1000000 in
theorem yearOf_any (n : Int) (i : Nat) (h0 : 0 ≤ n) (hn : n ≤ 745654) (h1 : yr i ≤ n) (h2 : n < yr (i + 1)) (R : Int) (hR : R = 2000 + (i : Int)) (w : World) :
    Calls Tryd.prog 50 #[.int .i64 n] w fun e w' => e = .returned (.int .i64 R) ∧ w = w' := by
  have hi := yr_le_of hn h1
  have hst : (n / 366).toNat ≤ i := by
    rcases Nat.lt_or_ge i (n / 366).toNat with h | h
    · have a := yr_mono (show i + 1 ≤ (n / 366).toNat from h)
      have b := yr_bound (n / 366).toNat
      omega
    · exact h
  have H1 := Lib.hid h1; have H2 := Lib.hid h2; have HST := Lib.hid hst; have HR := Lib.hid hR; have HI := Lib.hid hi
  clear h1 h2 hst hR hi
  go_enter Tryd.func50, Tryd.ntmps50
  go_wp2
  go_loopw [3] (fun s wr => ∃ (Y : Int), 2000 ≤ Y ∧ Y ≤ 5000 ∧ s = .int .i64 Y ∧ Hid (Y ≤ 2000 + (i : Int)) ∧ wr = w) (fun s _ => (2000 + i + 1) - (intOf s).toNat)
  case atStart => exact ⟨2000 + n / 366, by omega, by omega, rfl, Lib.hid (by have := HST.out; omega), rfl⟩
  case round =>
    obtain ⟨Y, hY1, hY2, rfl, HY, rfl⟩ := hrel
    obtain ⟨S, hS⟩ : ∃ S, S = yr (Y + 1 - 2000).toNat := ⟨_, rfl⟩
    have hc := yearBegin_any (Y + 1) (by omega) (by omega) S hS wr
    by_cases hlt : Y < R
    · have hle : S ≤ n := by
        have a := yr_mono (show (Y + 1 - 2000).toNat ≤ i by have := HR.out; omega)
        have := H1.out
        omega
      have hlt2 : (Y + 1 ≤ 2000 + (i : Int)) := by have := HR.out; omega
      have HC := Lib.hid hc; have HL2 := Lib.hid hlt2
      clear hc hS hlt hlt2
      go_wp2_with fail
      refine HC.out.mono ?_
      rintro e w1 ⟨rfl, rfl⟩
      go_wp2
      go_roundw
      case rel => exact ⟨Y + 1, by omega, by have := HI.out; have := HL2.out; omega, rfl, Lib.hid HL2.out, trivial⟩
      case measure => have := HL2.out; simp [intOf]; omega
    · have hYR : Y = R := by have := HY.out; have := HR.out; omega
      subst hYR
      have hgt : ¬ S ≤ n := by
        have e : (Y + 1 - 2000).toNat = i + 1 := by have := HR.out; omega
        rw [hS, e]
        have := H2.out
        omega
      have HC := Lib.hid hc
      clear hc hS hlt
      go_wp2_with fail
      refine HC.out.mono ?_
      rintro e w1 ⟨rfl, rfl⟩
      go_wp2
      go_ret
      exact ⟨rfl, rfl⟩

set_option maxHeartbeats 1000000 in
theorem monthBegin_any (i j : Nat) (hi : i ≤ 5000) (hj : j < 12) (Y M R : Int) (hY : Y = 2000 + (i : Int)) (hM : M = (j : Int) + 1) (hR : R = yr i + mo (2000 + (i : Int)) j) (w : World) (hk : MOk w) :
    Calls Tryd.prog 47 #[.int .i64 Y, .int .i64 M] w fun e w' => e = .returned (.int .i64 R) ∧ w = w' := by
  have hc := yearBegin_any Y (by omega) (by omega) (yr i) (by rw [show (Y - 2000).toNat = i by omega]) w
  have hb := yr_bound i
  have hmo : ∀ k, k ≤ 12 → 0 ≤ mo (2000 + (i : Int)) k ∧ mo (2000 + (i : Int)) k ≤ 366 := by
    intro k hk
    have a := mo_mono (2000 + (i : Int)) (Nat.zero_le k)
    have b := mo_mono (2000 + (i : Int)) hk
    have c := mo_12 (2000 + (i : Int))
    have d := ylen_b (2000 + (i : Int))
    have e : mo (2000 + (i : Int)) 0 = 0 := rfl
    omega
  obtain ⟨S, hS⟩ : ∃ S, S = yr i := ⟨_, rfl⟩
  rw [← hS] at hc hb hR
  have hS2 : 0 ≤ S ∧ S ≤ 2000000 := by omega
  obtain ⟨hS3, hS4⟩ := hS2
  have hY2 : 0 ≤ Y := by omega
  rw [← hY] at hmo hR
  have hM1 : 1 ≤ M ∧ M ≤ 12 := by omega
  obtain ⟨hM2, hM3⟩ := hM1
  have HC := Lib.hid hc; have HR := Lib.hid hR; have HMO := Lib.hid hmo; have HM := Lib.hid hM; have HK := Lib.hid hk
  clear hc hS hR hmo hb hM hk hY
  go_enter Tryd.func47, Tryd.ntmps47
  go_wp2_with fail
  refine HC.out.mono ?_
  rintro e w1 ⟨rfl, rfl⟩
  go_wp2
  go_loopw [5, 6] (fun s t wr => ∃ (D N : Int), 0 ≤ D ∧ D ≤ 3000000 ∧ 1 ≤ N ∧ N ≤ M ∧ s = .int .i64 D ∧ t = .int .i64 N ∧ Hid (D = S + mo Y (N - 1).toNat) ∧ wr = w) (fun _ t _ => 13 - (intOf t).toNat)
  case atStart => exact ⟨S, 1, by omega, by omega, by omega, by omega, rfl, rfl, Lib.hid (by simp [mo]), rfl⟩
  case round =>
    obtain ⟨D, N, hD1, hD2, hN1, hN2, rfl, rfl, HD, rfl⟩ := hrel
    by_cases hlt : N < M
    · obtain ⟨X, hX⟩ : ∃ X, X = mlen Y N := ⟨_, rfl⟩
      have hxb := mlen_b Y N
      rw [← hX] at hxb
      obtain ⟨hx1, hx2⟩ := hxb
      have hml := monthLength_any Y N hY2 hN1 (by omega) X hX wr HK.out
      have hst : D + X = S + mo Y (N + 1 - 1).toNat := by
        rw [HD.out, hX]
        have e : (N + 1 - 1).toNat = (N - 1).toNat + 1 := by omega
        rw [e]
        have e2 : mo Y ((N - 1).toNat + 1) = mo Y (N - 1).toNat + mlen Y (((N - 1).toNat : Int) + 1) := rfl
        rw [e2, show ((N - 1).toNat : Int) + 1 = N by omega]
        omega
      have hDX : D + X ≤ 3000000 := by
        rw [hst]
        have := HMO.out (N + 1 - 1).toNat (by omega)
        omega
      have HML := Lib.hid hml; have HST := Lib.hid hst
      clear hml hst hX HD
      go_wp2_with fail
      refine HML.out.mono ?_
      rintro e w1 ⟨rfl, rfl⟩
      go_wp2
      go_roundw
      case rel => exact ⟨D + X, N + 1, by omega, by omega, by omega, by omega, rfl, rfl, Lib.hid HST.out, trivial⟩
      case measure => simp [intOf]; omega
    · have hNM : N = M := by omega
      subst hNM
      have hlt2 : ¬ N < N := by omega
      clear hlt
      go_wp2
      go_ret
      refine ⟨retI ?_, rfl⟩
      rw [HD.out, HR.out]
      have := HM.out
      rw [show (N - 1).toNat = j by omega]

set_option maxHeartbeats 1000000 in
theorem rfirst_any (K : Nat) (hK : K ≤ 5000) (Y R : Int) (hY : Y = 2000 + (K : Int)) (hR : R = yr K) (w : World) :
    Calls Tryd.prog 49 #[.int .i64 Y] w fun e w' => e = .returned (.int .i64 R) ∧ w = w' := by
  have hb := yr_bound K
  rw [← hR] at hb
  have hRb : 0 ≤ R ∧ R ≤ 2000000 := by omega
  obtain ⟨hR1, hR2⟩ := hRb
  have HR := Lib.hid hR; have HY := Lib.hid hY
  have hY1 : 2000 ≤ Y ∧ Y ≤ 7000 := by omega
  obtain ⟨hY2, hY3⟩ := hY1
  clear hb hR hY
  go_enter Tryd.func49, Tryd.ntmps49
  go_wp2
  go_loopw [0, 3] (fun s t wr => ∃ (k : Nat) (V N : Int), 2000 ≤ V ∧ V ≤ 7000 ∧ 0 ≤ N ∧ N ≤ R ∧ s = .int .i64 V ∧ t = .int .i64 N ∧ Hid (V = 2000 + (k : Int) ∧ N = R - yr k) ∧ wr = w) (fun s _ _ => (intOf s).toNat)
  case atStart => exact ⟨K, Y, 0, by omega, by omega, by omega, by omega, rfl, rfl, Lib.hid ⟨HY.out, by rw [← HR.out]; omega⟩, rfl⟩
  case round =>
    obtain ⟨k, V, N, hV1, hV2, hN1, hN2, rfl, rfl, HV, rfl⟩ := hrel
    by_cases hlt : 2000 < V
    · obtain ⟨L, hL⟩ : ∃ L, L = leap (V - 1) := ⟨_, rfl⟩
      have hc := rleap_any (V - 1) (by omega) L hL wr
      obtain ⟨k, rfl⟩ : ∃ q, k = q + 1 := ⟨k - 1, by have := HV.out.1; omega⟩
      have hs : yr (k + 1) = yr k + (if L then 366 else 365) := by
        show yr k + ylen (2000 + (k : Int)) = _
        rw [hL]
        unfold ylen
        rw [show (2000 + (k : Int)) = V - 1 by have := HV.out.1; omega]
      have hnn := (yr_bound k).1
      have hV0 := HV.out
      have HC := Lib.hid hc
      cases L
      · have hs2 : N + 365 = R - yr k := by have := hV0.2; simp at hs; omega
        have hvk : V - 1 = 2000 + (k : Int) := by have := hV0.1; omega
        have HS := Lib.hid (And.intro hvk hs2)
        have hNR : N + 365 ≤ R := by omega
        clear hc hL hs hnn hV0 hs2 hvk HV
        go_wp2_with fail
        refine HC.out.mono ?_
        rintro e w1 ⟨rfl, rfl⟩
        go_wp2
        go_roundw
        case rel => exact ⟨k, V - 1, N + 365, by omega, by omega, by omega, by omega, rfl, rfl, Lib.hid HS.out, trivial⟩
        case measure => simp [intOf]; omega
      · have hs2 : N + 365 + 1 = R - yr k := by have := hV0.2; simp at hs; omega
        have hvk : V - 1 = 2000 + (k : Int) := by have := hV0.1; omega
        have HS := Lib.hid (And.intro hvk hs2)
        have hNR : N + 365 + 1 ≤ R := by omega
        clear hc hL hs hnn hV0 hs2 hvk HV
        go_wp2_with fail
        refine HC.out.mono ?_
        rintro e w1 ⟨rfl, rfl⟩
        go_wp2
        go_roundw
        case rel => exact ⟨k, V - 1, N + 365 + 1, by omega, by omega, by omega, by omega, rfl, rfl, Lib.hid HS.out, trivial⟩
        case measure => simp [intOf]; omega
    · have hVe : V = 2000 := by omega
      subst hVe
      have hN : N = R := by
        have h := HV.out
        have hk0 : k = 0 := by omega
        rw [hk0] at h
        have e : yr 0 = 0 := rfl
        omega
      subst hN
      clear hlt
      go_wp2
      go_ret
      exact ⟨rfl, rfl⟩
end Go.Proofs.YtciopemodfpecaaDoor
