/-
  Walks of the dates: months of minutes, the minutes of a month, on both sides.
-/
import Derived.Test.YtciopemodfpecaaDoorDq
namespace Go.Proofs.YtciopemodfpecaaDoor
open Go.RowKit
set_option linter.unusedVariables false
set_option linter.unusedSimpArgs false

/-- What Month returns. -/
def MU (m K E : Int) : Prop := (0 ≤ m ∧ m ≤ 1073741824 ∧ E = 0 ∧ ∃ k : Nat, K = (k : Int) ∧ mfirst k ≤ m / 1440 ∧ m / 1440 < mfirst (k + 1)) ∨ (¬ (0 ≤ m ∧ m ≤ 1073741824) ∧ K = 0 ∧ E = 1)
theorem mu_exists (m : Int) : ∃ K E, MU m K E := by
  by_cases h : 0 ≤ m ∧ m ≤ 1073741824
  · obtain ⟨Y, M, D, hd⟩ := isDate_exists (m / 1440) (by omega)
    obtain ⟨k, _, h1, h2⟩ := isDate_month hd
    exact ⟨k, 0, .inl ⟨h.1, h.2, rfl, k, rfl, h1, h2⟩⟩
  · exact ⟨0, 1, .inr ⟨h, rfl, rfl⟩⟩

theorem mfirst_last : mfirst 24498 ≤ 745654 ∧ (745654 : Int) < mfirst 24499 := by
  have e := mfirst_next 24498
  have hf : mfirst 24498 = yr 2041 + mo 4041 6 := rfl
  have h1 := yr_formula 2041
  have h2 := (mo_val 4041).2.2.2.2.2.1
  have h3 : ylen 4041 = 365 := by decide
  have h4 : mlen (2000 + ((24498 / 12 : Nat) : Int)) ((24498 % 12 : Nat) + 1) = 31 := by decide
  rw [h4] at e
  rw [h3] at h2
  have h5 : yr 2041 = 745461 := by rw [h1]; rfl
  have e2 : mfirst 24499 = mfirst 24498 + 31 := e
  omega
theorem mu_last : MU 1073741824 24498 0 := .inl ⟨by omega, by omega, rfl, 24498, rfl, mfirst_last.1, mfirst_last.2⟩

set_option maxRecDepth 100000 in
set_option maxHeartbeats 2000000 in
theorem month_any (m K E : Int) (hm : I64 m) (h : MU m K E) (w : World) (hk : MOk w) :
    Calls Tryd.prog 26 #[.int .i64 m] w fun e w' => e = .returned (.tuple #[.int .i64 K, .int .i64 E]) ∧ Below w.heap.size w w' := by
  rcases h with ⟨h0, h1, rfl, k, hK, hk1, hk2⟩ | ⟨hbad, rfl, rfl⟩
  · obtain ⟨Y, M, D, E, hdu⟩ := du_exists (m / 1440)
    have hdate : E = 0 ∧ IsDate (m / 1440) Y M D := by
      rcases hdu with ⟨_, _, a, b⟩ | ⟨a, _⟩
      · exact ⟨a, b⟩
      · exact absurd ⟨by omega, by omega⟩ a
    obtain ⟨rfl, hd⟩ := hdate
    obtain ⟨k', hk', e1, e2⟩ := isDate_month hd
    have hkk := month_unique e1 e2 hk1 hk2
    subst hkk
    have hKK : 12 * (Y - 2000) + M - 1 = K := by omega
    obtain ⟨i, j, hY, hM, hj, hi, hD1, hD2, hD3, hy1, hy2, hn, hy0⟩ := date_facts (by omega : m / 1440 ≤ 745654) hd
    have b1 : 2000 ≤ Y := by omega
    have b2 : Y ≤ 5000 := by omega
    have b3 : 1 ≤ M := by omega
    have b4 : M ≤ 12 := by omega
    have hc := dateOf_any (m / 1440) Y M D 0 (by unfold I64; omega) hdu w hk
    have HC := Lib.hid hc
    clear hK
    subst hKK
    clear hc hk hdu hd hk' e1 e2 hk1 hk2 hm hY hM hj hi hD1 hD2 hD3 hy1 hy2 hn hy0
    go_enter Tryd.func26, Tryd.ntmps26
    go_wp2_with fail
    refine HC.out.mono ?_
    rintro e w1 ⟨rfl, hb⟩
    clear HC
    go_wp2
    go_ret2
    exact ⟨rfl, hb.alloc hb.size _⟩
  · have hcase : m < 0 ∨ (0 ≤ m ∧ ¬ m ≤ 1073741824) := by omega
    clear hbad hm hk
    rcases hcase with c | ⟨c0, c1⟩
    all_goals
      go_enter Tryd.func26, Tryd.ntmps26
      go_wp2
      go_ret2
      exact ⟨rfl, Below.refl _ _⟩

set_option maxRecDepth 100000 in
set_option maxHeartbeats 2000000 in
theorem rmonth_any (m K E : Int) (hm : I64 m) (h : MU m K E) (w : World) :
    Calls Tryd.prog 27 #[.int .i64 m] w fun e w' => e = .returned (.tuple #[.int .i64 K, .int .i64 E]) ∧ Below w.heap.size w w' := by
  rcases h with ⟨h0, h1, rfl, k, hK, hk1, hk2⟩ | ⟨hbad, rfl, rfl⟩
  · obtain ⟨Y, M, D, E, hdu⟩ := du_exists (m / 1440)
    have hdate : E = 0 ∧ IsDate (m / 1440) Y M D := by
      rcases hdu with ⟨_, _, a, b⟩ | ⟨a, _⟩
      · exact ⟨a, b⟩
      · exact absurd ⟨by omega, by omega⟩ a
    obtain ⟨rfl, hd⟩ := hdate
    obtain ⟨k', hk', e1, e2⟩ := isDate_month hd
    have hkk := month_unique e1 e2 hk1 hk2
    subst hkk
    have hKK : 12 * (Y - 2000) + M - 1 = K := by omega
    obtain ⟨i, j, hY, hM, hj, hi, hD1, hD2, hD3, hy1, hy2, hn, hy0⟩ := date_facts (by omega : m / 1440 ≤ 745654) hd
    have b1 : 2000 ≤ Y := by omega
    have b2 : Y ≤ 5000 := by omega
    have b3 : 1 ≤ M := by omega
    have b4 : M ≤ 12 := by omega
    have hc := rdateOf_any (m / 1440) Y M D 0 (by unfold I64; omega) hdu w
    have HC := Lib.hid hc
    clear hK
    subst hKK
    clear hc hdu hd hk' e1 e2 hk1 hk2 hm hY hM hj hi hD1 hD2 hD3 hy1 hy2 hn hy0
    go_enter Tryd.func27, Tryd.ntmps27
    go_wp2_with fail
    refine HC.out.mono ?_
    rintro e w1 ⟨rfl, hb⟩
    clear HC
    go_wp2
    go_ret2
    exact ⟨rfl, hb.alloc hb.size _⟩
  · have hcase : m < 0 ∨ (0 ≤ m ∧ ¬ m ≤ 1073741824) := by omega
    clear hbad hm
    rcases hcase with c | ⟨c0, c1⟩
    all_goals
      go_enter Tryd.func27, Tryd.ntmps27
      go_wp2
      go_ret2
      exact ⟨rfl, Below.refl _ _⟩

/-- What MonthSpan returns. -/
def SU (k F T E : Int) : Prop := (0 ≤ k ∧ k ≤ 24498 ∧ E = 0 ∧ F = 1440 * mfirst k.toNat ∧ T = min (1440 * mfirst (k.toNat + 1)) 1073741824) ∨ (¬ (0 ≤ k ∧ k ≤ 24498) ∧ F = 0 ∧ T = 0 ∧ E = 1)
theorem su_exists (k : Int) : ∃ F T E, SU k F T E := by
  by_cases h : 0 ≤ k ∧ k ≤ 24498
  · exact ⟨_, _, 0, .inl ⟨h.1, h.2, rfl, rfl, rfl⟩⟩
  · exact ⟨0, 0, 1, .inr ⟨h, rfl, rfl, rfl⟩⟩
theorem all2 (a b : Int) : ((#[Value.int .i64 a, Value.int .i64 b] : Array Value).all (·.oneCell')) = true := by simp [Value.oneCell']
theorem ret2 {a b c d e : Int} (h1 : a = c) (h2 : b = d) : Ending.returned (Value.tuple #[Value.agg #[Value.int .i64 a, Value.int .i64 b], Value.int .i64 e]) = Ending.returned (Value.tuple #[Value.agg #[Value.int .i64 c, Value.int .i64 d], Value.int .i64 e]) := by rw [h1, h2]
theorem mfirst_nn (k : Nat) : 0 ≤ mfirst k := by
  unfold mfirst
  have a := yr_bound (k / 12)
  have b := mo_range (2000 + ((k / 12 : Nat) : Int)) (k % 12) (by omega)
  omega

set_option maxRecDepth 100000 in
set_option maxHeartbeats 2000000 in
theorem monthSpan_any (k F T E : Int) (hk64 : I64 k) (h : SU k F T E) (w : World) (hk : MOk w) :
    Calls Tryd.prog 28 #[.int .i64 k] w fun e w' => e = .returned (.tuple #[.agg #[.int .i64 F, .int .i64 T], .int .i64 E]) ∧ Below w.heap.size w w' := by
  have hg := heap_alloc_new w (.cells #[.int .i64 0, .int .i64 0] 23)
  have hW : Below w.heap.size w (w.alloc (.cells #[.int .i64 0, .int .i64 0] 23)) := ball (Below.refl _ _) _
  have hc := month_any 1073741824 24498 0 (by unfold I64; omega) mu_last (w.alloc (.cells #[.int .i64 0, .int .i64 0] 23)) (hk.alloc (.cells #[.int .i64 0, .int .i64 0] 23))
  have hK1 := hk.alloc (.cells #[.int .i64 0, .int .i64 0] 23)
  generalize hWW : w.alloc (.cells #[.int .i64 0, .int .i64 0] 23) = W at *
  rcases h with ⟨h0, h1, rfl, hF, hT⟩ | ⟨hbad, rfl, rfl, rfl⟩
  · obtain ⟨n, hn⟩ : ∃ n : Nat, n = k.toNat := ⟨_, rfl⟩
    rw [← hn] at hF hT
    have hkn : k = (n : Int) := by omega
    obtain ⟨S, hS⟩ : ∃ S, S = mfirst n := ⟨_, rfl⟩
    have hm1 := mfirst_nn n
    have hm2 := mfirst_mono (show n ≤ 24498 by omega)
    have hm3 := mfirst_last.1
    have hnx := mfirst_next n
    have hS2 : S = yr (n / 12) + mo (2000 + ((n / 12 : Nat) : Int)) (n % 12) := hS
    rw [← hS] at hm1 hm2 hnx hF
    have s2 : S ≤ 745654 := by omega
    obtain ⟨Y, hY⟩ : ∃ Y, Y = 2000 + k / 12 := ⟨_, rfl⟩
    obtain ⟨M, hM⟩ : ∃ M, M = k % 12 + 1 := ⟨_, rfl⟩
    have hYn : (2000 + ((n / 12 : Nat) : Int)) = Y := by omega
    have hMn : (((n % 12 : Nat) : Int) + 1) = M := by omega
    rw [hYn] at hS2
    rw [hYn, hMn] at hnx
    have y1 : 2000 ≤ Y := by omega
    have y2 : Y ≤ 5000 := by omega
    have m1 : 1 ≤ M := by omega
    have m2 : M ≤ 12 := by omega
    obtain ⟨X, hX⟩ : ∃ X, X = mlen Y M := ⟨_, rfl⟩
    rw [← hX] at hnx
    rw [hnx] at hT
    have hxb := mlen_b Y M
    rw [← hX] at hxb
    obtain ⟨x1, x2⟩ := hxb
    have hmb := fun (w : World) (hk : MOk w) => monthBegin_any (n / 12) (n % 12) (by omega) (by omega) Y M S hYn.symm hMn.symm (by rw [hYn]; exact hS2) w hk
    have hml := fun (w : World) (hk : MOk w) => monthLength_any Y M (by omega) (by omega) (by omega) X hX w hk
    subst hF
    have HT := Lib.hid hT
    have HC := Lib.hid hc; have HMB := Lib.hid hmb; have HML := Lib.hid hml; have HG := Lib.hid hg; have HW := Lib.hid hW; have HK := Lib.hid hK1; have HY := Lib.hid hY; have HM := Lib.hid hM
    clear hc hmb hml hg hW hK1 hS hm2 hm3 hnx hS2 hYn hMn hX hT hn hkn hk64 hk hY hM
    go_enter Tryd.func28, Tryd.ntmps28
    go_wp2_with fail
    refine HC.out.mono ?_
    rintro e w1 ⟨rfl, hb⟩
    have HG1 := Lib.hid ((hb.block w.heap.size (Array.getElem?_eq_some_iff.1 HG.out).1).trans HG.out)
    have HB1 := Lib.hid (HW.out.trans (hb.mono HW.out.size))
    have HK1 := Lib.hid (HK.out.below hb)
    clear HC hb HG HW HK hWW
    go_wp2_with fail
    rw [← HY.out, ← HM.out]
    refine (HMB.out _ HK1.out).mono ?_
    rintro e w2 ⟨rfl, rfl⟩
    clear HMB
    go_wp2_with fail
    try rw [← HY.out, ← HM.out]
    refine (HML.out _ HK1.out).mono ?_
    rintro e w2 ⟨rfl, rfl⟩
    clear HML HY HM
    have e1 : S * 1440 = 1440 * S := by omega
    have e2 : (S + X) * 1440 = 1440 * (S + X) := by omega
    have E1 := Lib.hid e1; have E2 := Lib.hid e2
    clear e1 e2 HK1
    by_cases hmn : (S + X) * 1440 ≤ 1073741824
    · go_wp2_with (refine wpList_store_row rfl 23 (.tmp 2) (.tmp 41) rfl w.heap.size #[.int .i64 (S * 1440), .int .i64 ((S + X) * 1440)] rfl rfl 23 _ HG1.out size23 rfl (all2 _ _) ?_)
      refine bodyPost_ret (results_cell_slot rfl _ _ w.heap.size 23 #[.int .i64 (S * 1440), .int .i64 ((S + X) * 1440)] (0, 0) _ (.int .i64 0) rfl rfl (setRow_heap _ _ _ _ _ _ HG1.out) Tryd.underlying23 rfl size23) rfl ?_
      refine ⟨ret2 ?_ ?_, bsetRow HB1.out (Nat.le_refl _) _⟩
      · omega
      · rw [HT.out]; omega
    · go_wp2_with (refine wpList_store_row rfl 23 (.tmp 2) (.tmp 41) rfl w.heap.size #[.int .i64 (S * 1440), .int .i64 (1073741824)] rfl rfl 23 _ HG1.out size23 rfl (all2 _ _) ?_)
      refine bodyPost_ret (results_cell_slot rfl _ _ w.heap.size 23 #[.int .i64 (S * 1440), .int .i64 (1073741824)] (0, 0) _ (.int .i64 0) rfl rfl (setRow_heap _ _ _ _ _ _ HG1.out) Tryd.underlying23 rfl size23) rfl ?_
      refine ⟨ret2 ?_ ?_, bsetRow HB1.out (Nat.le_refl _) _⟩
      · omega
      · rw [HT.out]; omega
  · have hcase : k < 0 ∨ (0 ≤ k ∧ 24498 < k) := by omega
    have HC := Lib.hid hc; have HG := Lib.hid hg; have HW := Lib.hid hW
    clear hbad hk64 hc hg hW hk hK1
    rcases hcase with c | ⟨c0, c1⟩
    all_goals
      go_enter Tryd.func28, Tryd.ntmps28
      go_wp2_with fail
      refine HC.out.mono ?_
      rintro e w1 ⟨rfl, hb⟩
      have HG1 := Lib.hid ((hb.block w.heap.size (Array.getElem?_eq_some_iff.1 HG.out).1).trans HG.out)
      have HB1 := Lib.hid (HW.out.trans (hb.mono HW.out.size))
      clear HC hb HG HW hWW
      go_wp2_with (refine wpList_store_row rfl 23 (.tmp 2) (.tmp 21) rfl w.heap.size #[.int .i64 0, .int .i64 0] rfl rfl 23 _ HG1.out size23 rfl (all2 _ _) ?_)
      refine bodyPost_ret (results_cell_slot rfl _ _ w.heap.size 23 #[.int .i64 0, .int .i64 0] (0, 0) _ (.int .i64 1) rfl rfl (setRow_heap _ _ _ _ _ _ HG1.out) Tryd.underlying23 rfl size23) rfl ?_
      exact ⟨rfl, bsetRow HB1.out (Nat.le_refl _) _⟩


set_option maxRecDepth 100000 in
set_option maxHeartbeats 2000000 in
theorem rmonthSpan_any (k F T E : Int) (hk64 : I64 k) (h : SU k F T E) (w : World) :
    Calls Tryd.prog 29 #[.int .i64 k] w fun e w' => e = .returned (.tuple #[.agg #[.int .i64 F, .int .i64 T], .int .i64 E]) ∧ Below w.heap.size w w' := by
  have hg := heap_alloc_new w (.cells #[.int .i64 0, .int .i64 0] 23)
  have hW : Below w.heap.size w (w.alloc (.cells #[.int .i64 0, .int .i64 0] 23)) := ball (Below.refl _ _) _
  have hc := rmonth_any 1073741824 24498 0 (by unfold I64; omega) mu_last (w.alloc (.cells #[.int .i64 0, .int .i64 0] 23))

  generalize hWW : w.alloc (.cells #[.int .i64 0, .int .i64 0] 23) = W at *
  rcases h with ⟨h0, h1, rfl, hF, hT⟩ | ⟨hbad, rfl, rfl, rfl⟩
  · obtain ⟨n, hn⟩ : ∃ n : Nat, n = k.toNat := ⟨_, rfl⟩
    rw [← hn] at hF hT
    have hkn : k = (n : Int) := by omega
    obtain ⟨S, hS⟩ : ∃ S, S = mfirst n := ⟨_, rfl⟩
    have hm1 := mfirst_nn n
    have hm2 := mfirst_mono (show n ≤ 24498 by omega)
    have hm3 := mfirst_last.1
    have hnx := mfirst_next n
    have hS2 : S = yr (n / 12) + mo (2000 + ((n / 12 : Nat) : Int)) (n % 12) := hS
    rw [← hS] at hm1 hm2 hnx hF
    have s2 : S ≤ 745654 := by omega
    obtain ⟨Y, hY⟩ : ∃ Y, Y = 2000 + k / 12 := ⟨_, rfl⟩
    obtain ⟨M, hM⟩ : ∃ M, M = k % 12 + 1 := ⟨_, rfl⟩
    have hYn : (2000 + ((n / 12 : Nat) : Int)) = Y := by omega
    have hMn : (((n % 12 : Nat) : Int) + 1) = M := by omega
    rw [hYn] at hS2
    rw [hYn, hMn] at hnx
    have y1 : 2000 ≤ Y := by omega
    have y2 : Y ≤ 5000 := by omega
    have m1 : 1 ≤ M := by omega
    have m2 : M ≤ 12 := by omega
    obtain ⟨X, hX⟩ : ∃ X, X = mlen Y M := ⟨_, rfl⟩
    rw [← hX] at hnx
    rw [hnx] at hT
    have hxb := mlen_b Y M
    rw [← hX] at hxb
    obtain ⟨x1, x2⟩ := hxb
    have hfi := fun (w : World) => rfirst_any (n / 12) (by omega) Y (yr (n / 12)) (by omega) rfl w
    obtain ⟨R, hR⟩ : ∃ R, R = yr (n / 12) := ⟨_, rfl⟩
    rw [← hR] at hfi hS2
    have hRb : 0 ≤ R ∧ R ≤ 2000000 := by have := yr_bound (n / 12); omega
    obtain ⟨hR1, hR2⟩ := hRb
    have hml := fun (w : World) => rlength_any Y M (by omega) (by omega) (by omega) X hX w
    subst hF
    have hMk : M - 1 = k % 12 := by omega
    have HT := Lib.hid hT
    have HC := Lib.hid hc; have HFI := Lib.hid hfi; have HML := Lib.hid hml; have HG := Lib.hid hg; have HW := Lib.hid hW; have HY := Lib.hid hY; have HM := Lib.hid hM; have HS := Lib.hid hS2; have HMK := Lib.hid hMk
    have HMN := Lib.hid hMn
    clear hc hfi hml hg hW hS hm2 hm3 hnx hS2 hYn hMn hX hT hn hkn hk64 hY hM hR hMk
    go_enter Tryd.func29, Tryd.ntmps29
    go_wp2_with fail
    refine HC.out.mono ?_
    rintro e w1 ⟨rfl, hb⟩
    have HG1 := Lib.hid ((hb.block w.heap.size (Array.getElem?_eq_some_iff.1 HG.out).1).trans HG.out)
    have HB1 := Lib.hid (HW.out.trans (hb.mono HW.out.size))
    clear HC hb HG HW hWW
    go_wp2_with fail
    rw [← HY.out]
    refine (HFI.out _).mono ?_
    rintro e w2 ⟨rfl, rfl⟩
    clear HFI
    go_wp2
    go_loopw [7, 8] (fun s t wr => ∃ (G N : Int), 0 ≤ G ∧ G ≤ 3000000 ∧ 1 ≤ N ∧ N ≤ M ∧ s = .int .i64 G ∧ t = .int .i64 N ∧ Hid (G = R + mo Y (N - 1).toNat) ∧ w1 = wr) (fun _ t _ => 13 - (intOf t).toNat)
    case atStart => exact ⟨R, 1, by omega, by omega, by omega, by omega, rfl, rfl, Lib.hid (by simp [mo]), rfl⟩
    case round =>
      obtain ⟨G, N, hG1, hG2, hN1, hN2, rfl, rfl, HG, rfl⟩ := hrel
      by_cases hlt : N < M
      · obtain ⟨Z, hZ⟩ : ∃ Z, Z = mlen Y N := ⟨_, rfl⟩
        have hzb := mlen_b Y N
        rw [← hZ] at hzb
        obtain ⟨hz1, hz2⟩ := hzb
        have hml := rlength_any Y N (by omega) hN1 (by omega) Z hZ w1
        have hst : G + Z = R + mo Y (N + 1 - 1).toNat := by
          rw [HG.out, hZ]
          have e : (N + 1 - 1).toNat = (N - 1).toNat + 1 := by omega
          rw [e]
          have e2 : mo Y ((N - 1).toNat + 1) = mo Y (N - 1).toNat + mlen Y (((N - 1).toNat : Int) + 1) := rfl
          rw [e2, show ((N - 1).toNat : Int) + 1 = N by omega]
          omega
        have hGZ : G + Z ≤ 3000000 := by
          rw [hst]
          have := mo_range Y (N + 1 - 1).toNat (by omega)
          omega
        have hle : N ≤ k % 12 := by have := HMK.out; omega
        have HMLZ := Lib.hid hml; have HST := Lib.hid hst
        clear hml hst hZ HG
        go_wp2_with fail
        refine HMLZ.out.mono ?_
        rintro e w2 ⟨rfl, rfl⟩
        go_wp2
        go_roundw
        case rel => exact ⟨G + Z, N + 1, by omega, by omega, by omega, by omega, rfl, rfl, Lib.hid HST.out, trivial⟩
        case measure => simp [intOf]; omega
      · have hNM : N = M := by omega
        subst hNM
        have hgt : ¬ N ≤ k % 12 := by have := HMK.out; omega
        have hGS : G = S := by
          have h1 := HG.out
          have h2 := HMN.out
          rw [show (N - 1).toNat = n % 12 by omega] at h1
          rw [HS.out]; exact h1
        subst hGS
        clear hlt HG HS
        go_wp2_with fail
        rw [← HM.out]
        refine (HML.out _).mono ?_
        rintro e w2 ⟨rfl, rfl⟩
        clear HML HM HMN HMK HY
        by_cases hmn : 1440 * (G + X) ≤ 1073741824
        · go_wp2_with (refine wpList_store_row rfl 23 (.tmp 2) (.tmp 48) rfl w.heap.size #[.int .i64 (1440 * G), .int .i64 (1440 * (G + X))] rfl rfl 23 _ HG1.out size23 rfl (all2 _ _) ?_)
          refine bodyPost_ret (results_cell_slot rfl _ _ w.heap.size 23 #[.int .i64 (1440 * G), .int .i64 (1440 * (G + X))] (0, 0) _ (.int .i64 0) rfl rfl (setRow_heap _ _ _ _ _ _ HG1.out) Tryd.underlying23 rfl size23) rfl ?_
          refine ⟨ret2 ?_ ?_, bsetRow HB1.out (Nat.le_refl _) _⟩
          · omega
          · rw [HT.out]; omega
        · go_wp2_with (refine wpList_store_row rfl 23 (.tmp 2) (.tmp 48) rfl w.heap.size #[.int .i64 (1440 * G), .int .i64 (1073741824)] rfl rfl 23 _ HG1.out size23 rfl (all2 _ _) ?_)
          refine bodyPost_ret (results_cell_slot rfl _ _ w.heap.size 23 #[.int .i64 (1440 * G), .int .i64 (1073741824)] (0, 0) _ (.int .i64 0) rfl rfl (setRow_heap _ _ _ _ _ _ HG1.out) Tryd.underlying23 rfl size23) rfl ?_
          refine ⟨ret2 ?_ ?_, bsetRow HB1.out (Nat.le_refl _) _⟩
          · omega
          · rw [HT.out]; omega
  · have hcase : k < 0 ∨ (0 ≤ k ∧ 24498 < k) := by omega
    have HC := Lib.hid hc; have HG := Lib.hid hg; have HW := Lib.hid hW
    clear hbad hk64 hc hg hW
    rcases hcase with c | ⟨c0, c1⟩
    all_goals
      go_enter Tryd.func29, Tryd.ntmps29
      go_wp2_with fail
      refine HC.out.mono ?_
      rintro e w1 ⟨rfl, hb⟩
      have HG1 := Lib.hid ((hb.block w.heap.size (Array.getElem?_eq_some_iff.1 HG.out).1).trans HG.out)
      have HB1 := Lib.hid (HW.out.trans (hb.mono HW.out.size))
      clear HC hb HG HW hWW
      go_wp2_with (refine wpList_store_row rfl 23 (.tmp 2) (.tmp 20) rfl w.heap.size #[.int .i64 0, .int .i64 0] rfl rfl 23 _ HG1.out size23 rfl (all2 _ _) ?_)
      refine bodyPost_ret (results_cell_slot rfl _ _ w.heap.size 23 #[.int .i64 0, .int .i64 0] (0, 0) _ (.int .i64 1) rfl rfl (setRow_heap _ _ _ _ _ _ HG1.out) Tryd.underlying23 rfl size23) rfl ?_
      exact ⟨rfl, bsetRow HB1.out (Nat.le_refl _) _⟩


end Go.Proofs.YtciopemodfpecaaDoor
