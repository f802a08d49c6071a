/-
  Walks of the dates: the reference's day of a date.
-/
import Derived.Test.YtciopemodfpecaaDoorDp
namespace Go.Proofs.YtciopemodfpecaaDoor
open Go.RowKit
set_option linter.unusedVariables false
set_option linter.unusedSimpArgs false

set_option maxRecDepth 100000 in
set_option maxHeartbeats 4000000 in
theorem rday_any (Y M D R E : Int) (hY : I64 Y) (hM : I64 M) (hD : I64 D) (h : DayU Y M D R E) (w : World) :
    Calls Tryd.prog 23 #[.agg #[.int .i64 Y, .int .i64 M, .int .i64 D]] w fun e w' => e = .returned (.tuple #[.int .i64 R, .int .i64 E]) ∧ Below w.heap.size w w' := by
  obtain ⟨g0, g1, g2⟩ := cell_new3 w (.int .i64 Y) (.int .i64 M) (.int .i64 D) 40 _ rfl
  by_cases c0 : Y < 2000
  · obtain ⟨rfl, rfl⟩ : R = 0 ∧ E = 1 := by
      rcases h with ⟨h, _⟩ | ⟨_, h⟩
      · exact absurd h.1 (by omega)
      · exact h
    have d0 : decide (Y < 2000) = true := decide_eq_true c0
    clear h hY hM hD
    go_enter Tryd.func23, Tryd.ntmps23
    go_wp2
    go_quiet (fail)
    have hb : Below w.heap.size w ((w.alloc (.cells #[.int .i64 Y, .int .i64 M, .int .i64 D] 40)).drewN nq) := (ball (Below.refl _ _) _).trans (bdrewN (Below.refl _ _) nq)
    clear g0 g1 g2
    generalize (w.alloc (.cells #[.int .i64 Y, .int .i64 M, .int .i64 D] 40)).drewN nq = W at *
    go_wp2
    go_ret2
    exact ⟨rfl, hb⟩
  have d0 : decide (Y < 2000) = false := decide_eq_false c0
  by_cases c1 : 4000 < Y
  · obtain ⟨rfl, rfl⟩ : R = 0 ∧ E = 1 := by
      rcases h with ⟨h, _⟩ | ⟨_, h⟩
      · exact absurd h.2.1 (by omega)
      · exact h
    have d1 : decide (4000 < Y) = true := decide_eq_true c1
    clear h hY hM hD
    go_enter Tryd.func23, Tryd.ntmps23
    go_wp2
    go_quiet (fail)
    have hb : Below w.heap.size w ((w.alloc (.cells #[.int .i64 Y, .int .i64 M, .int .i64 D] 40)).drewN nq) := (ball (Below.refl _ _) _).trans (bdrewN (Below.refl _ _) nq)
    clear g0 g1 g2
    generalize (w.alloc (.cells #[.int .i64 Y, .int .i64 M, .int .i64 D] 40)).drewN nq = W at *
    go_wp2
    go_ret2
    exact ⟨rfl, hb⟩
  have d1 : decide (4000 < Y) = false := decide_eq_false c1
  by_cases c2 : M < 1
  · obtain ⟨rfl, rfl⟩ : R = 0 ∧ E = 1 := by
      rcases h with ⟨h, _⟩ | ⟨_, h⟩
      · exact absurd h.2.2.1 (by omega)
      · exact h
    have d2 : decide (M < 1) = true := decide_eq_true c2
    clear h hY hM hD
    go_enter Tryd.func23, Tryd.ntmps23
    go_wp2
    go_quiet (fail)
    have hb : Below w.heap.size w ((w.alloc (.cells #[.int .i64 Y, .int .i64 M, .int .i64 D] 40)).drewN nq) := (ball (Below.refl _ _) _).trans (bdrewN (Below.refl _ _) nq)
    clear g0 g1 g2
    generalize (w.alloc (.cells #[.int .i64 Y, .int .i64 M, .int .i64 D] 40)).drewN nq = W at *
    go_wp2
    go_ret2
    exact ⟨rfl, hb⟩
  have d2 : decide (M < 1) = false := decide_eq_false c2
  by_cases c3 : 12 < M
  · obtain ⟨rfl, rfl⟩ : R = 0 ∧ E = 1 := by
      rcases h with ⟨h, _⟩ | ⟨_, h⟩
      · exact absurd h.2.2.2.1 (by omega)
      · exact h
    have d3 : decide (12 < M) = true := decide_eq_true c3
    clear h hY hM hD
    go_enter Tryd.func23, Tryd.ntmps23
    go_wp2
    go_quiet (fail)
    have hb : Below w.heap.size w ((w.alloc (.cells #[.int .i64 Y, .int .i64 M, .int .i64 D] 40)).drewN nq) := (ball (Below.refl _ _) _).trans (bdrewN (Below.refl _ _) nq)
    clear g0 g1 g2
    generalize (w.alloc (.cells #[.int .i64 Y, .int .i64 M, .int .i64 D] 40)).drewN nq = W at *
    go_wp2
    go_ret2
    exact ⟨rfl, hb⟩
  have d3 : decide (12 < M) = false := decide_eq_false c3
  by_cases c4 : D < 1
  · obtain ⟨rfl, rfl⟩ : R = 0 ∧ E = 1 := by
      rcases h with ⟨h, _⟩ | ⟨_, h⟩
      · exact absurd h.2.2.2.2.1 (by omega)
      · exact h
    have d4 : decide (D < 1) = true := decide_eq_true c4
    clear h hY hM hD
    go_enter Tryd.func23, Tryd.ntmps23
    go_wp2
    go_quiet (fail)
    have hb : Below w.heap.size w ((w.alloc (.cells #[.int .i64 Y, .int .i64 M, .int .i64 D] 40)).drewN nq) := (ball (Below.refl _ _) _).trans (bdrewN (Below.refl _ _) nq)
    clear g0 g1 g2
    generalize (w.alloc (.cells #[.int .i64 Y, .int .i64 M, .int .i64 D] 40)).drewN nq = W at *
    go_wp2
    go_ret2
    exact ⟨rfl, hb⟩
  have d4 : decide (D < 1) = false := decide_eq_false c4
  obtain ⟨X, hX⟩ : ∃ X, X = mlen Y M := ⟨_, rfl⟩
  have hml : ∀ n, Calls Tryd.prog 48 #[.int .i64 Y, .int .i64 M] ((w.alloc (.cells #[.int .i64 Y, .int .i64 M, .int .i64 D] 40)).drewN n) fun e w' => e = .returned (.int .i64 X) ∧ w' = (w.alloc (.cells #[.int .i64 Y, .int .i64 M, .int .i64 D] 40)).drewN n := fun n => (rlength_any Y M (by omega) (by omega) (by omega) X hX ((w.alloc (.cells #[.int .i64 Y, .int .i64 M, .int .i64 D] 40)).drewN n)).mono fun _ _ ⟨h1, h2⟩ => ⟨h1, h2.symm⟩
  have HML := Lib.hid hml
  by_cases c5 : X < D
  · obtain ⟨rfl, rfl⟩ : R = 0 ∧ E = 1 := by
      rcases h with ⟨h, _⟩ | ⟨_, h⟩
      · exact absurd h.2.2.2.2.2 (by omega)
      · exact h
    have d5 : decide (X < D) = true := decide_eq_true c5
    clear h hY hM hD hml hX
    go_enter Tryd.func23, Tryd.ntmps23
    go_wp2
    go_quiet ((go_at_call 48; exact Calls.quiet_of_same (HML.out _)))
    have hb : Below w.heap.size w ((w.alloc (.cells #[.int .i64 Y, .int .i64 M, .int .i64 D] 40)).drewN nq) := (ball (Below.refl _ _) _).trans (bdrewN (Below.refl _ _) nq)
    clear g0 g1 g2 HML
    generalize (w.alloc (.cells #[.int .i64 Y, .int .i64 M, .int .i64 D] 40)).drewN nq = W at *
    go_wp2
    go_ret2
    exact ⟨rfl, hb⟩
  have d5 : decide (X < D) = false := decide_eq_false c5
  have hv : vd Y M D := ⟨by omega, by omega, by omega, by omega, by omega, by rw [← hX]; omega⟩
  obtain ⟨hR, rfl⟩ : R = yr (Y - 2000).toNat + mo Y (M - 1).toNat + D - 1 ∧ E = 0 := by
    rcases h with ⟨_, h⟩ | ⟨h, _⟩
    · exact h
    · exact absurd hv h
  obtain ⟨S, hS⟩ : ∃ S, S = yr (Y - 2000).toNat := ⟨_, rfl⟩
  have hf := fun (w : World) => rfirst_any (Y - 2000).toNat (by omega) Y S (by omega) hS w
  have hSb : 0 ≤ S ∧ S ≤ 2000000 := by
    have := yr_bound (Y - 2000).toNat
    omega
  obtain ⟨hS1, hS2⟩ := hSb
  have hxb := mlen_b Y M
  rw [← hX] at hxb
  obtain ⟨hx1, hx2⟩ := hxb
  rw [← hS] at hR
  have HF := Lib.hid hf
  have HR := Lib.hid hR
  clear h hY hM hD hml hv hS hf hR hX
  go_enter Tryd.func23, Tryd.ntmps23
  go_wp2
  go_quiet ((go_at_call 48; exact Calls.quiet_of_same (HML.out _)))
  have hb : Below w.heap.size w ((w.alloc (.cells #[.int .i64 Y, .int .i64 M, .int .i64 D] 40)).drewN nq) := (ball (Below.refl _ _) _).trans (bdrewN (Below.refl _ _) nq)
  replace g0 : ((w.alloc (.cells #[.int .i64 Y, .int .i64 M, .int .i64 D] 40)).drewN nq).cell? ⟨w.heap.size, 0, none⟩ = some (.int .i64 Y) := g0
  replace g1 : ((w.alloc (.cells #[.int .i64 Y, .int .i64 M, .int .i64 D] 40)).drewN nq).cell? ⟨w.heap.size, 1, none⟩ = some (.int .i64 M) := g1
  replace g2 : ((w.alloc (.cells #[.int .i64 Y, .int .i64 M, .int .i64 D] 40)).drewN nq).cell? ⟨w.heap.size, 2, none⟩ = some (.int .i64 D) := g2
  clear HML
  generalize (w.alloc (.cells #[.int .i64 Y, .int .i64 M, .int .i64 D] 40)).drewN nq = W at *
  go_wp2_with fail
  refine (HF.out _).mono ?_
  rintro e w1 ⟨rfl, rfl⟩
  go_wp2
  go_loopw [4, 5] (fun s t wr => ∃ (G N : Int), 0 ≤ G ∧ G ≤ 3000000 ∧ 1 ≤ N ∧ N ≤ M ∧ s = .int .i64 G ∧ t = .int .i64 N ∧ Hid (G = S + mo Y (N - 1).toNat) ∧ W = wr) (fun _ t _ => 13 - (intOf t).toNat)
  case atStart => exact ⟨S, 1, by omega, by omega, by omega, by omega, rfl, rfl, Lib.hid (by simp [mo]), rfl⟩
  case round =>
    obtain ⟨G, N, hG1, hG2, hN1, hN2, rfl, rfl, HG, rfl⟩ := hrel
    by_cases hlt : N < M
    · obtain ⟨Z, hZ⟩ : ∃ Z, Z = mlen Y N := ⟨_, rfl⟩
      have hzb := mlen_b Y N
      rw [← hZ] at hzb
      obtain ⟨hz1, hz2⟩ := hzb
      have hml := rlength_any Y N (by omega) hN1 (by omega) Z hZ W
      have hst : G + Z = S + mo Y (N + 1 - 1).toNat := by
        rw [HG.out, hZ]
        have e : (N + 1 - 1).toNat = (N - 1).toNat + 1 := by omega
        rw [e]
        have e2 : mo Y ((N - 1).toNat + 1) = mo Y (N - 1).toNat + mlen Y (((N - 1).toNat : Int) + 1) := rfl
        rw [e2, show ((N - 1).toNat : Int) + 1 = N by omega]
        omega
      have hGZ : G + Z ≤ 3000000 := by
        rw [hst]
        have := mo_range Y (N + 1 - 1).toNat (by omega)
        omega
      have HML := Lib.hid hml; have HST := Lib.hid hst
      clear hml hst hZ HG
      go_wp2_with fail
      refine HML.out.mono ?_
      rintro e w1 ⟨rfl, rfl⟩
      go_wp2
      go_roundw
      case rel => exact ⟨G + Z, N + 1, by omega, by omega, by omega, by omega, rfl, rfl, Lib.hid HST.out, trivial⟩
      case measure => simp [intOf]; omega
    · have hNM : N = M := by omega
      subst hNM
      have hlt2 : ¬ N < N := by omega
      have hRG : R = G + D - 1 := by rw [HR.out, HG.out]
      clear hlt HR HG
      subst hRG
      go_wp2
      go_ret2
      exact ⟨rfl, hb⟩
end Go.Proofs.YtciopemodfpecaaDoor
