/-
  Walks of the dates: the day of the week, the day of a date, on both sides.
-/
import Derived.Test.YtciopemodfpecaaDoorDo
namespace Go.Proofs.YtciopemodfpecaaDoor
open Go.RowKit
set_option linter.unusedVariables false
set_option linter.unusedSimpArgs false

/-- What Weekday returns. -/
def wkd (n : Int) : Int := if 0 ≤ n ∧ n ≤ 745654 then (n + 5) % 7 else -1
theorem weekday_any (n : Int) (hn : I64 n) (V : Int) (hV : V = wkd n) (w : World) : Calls Tryd.prog 30 #[.int .i64 n] w fun e w' => e = .returned (.int .i64 V) ∧ w = w' := by
  have hc := isDay_any n w
  by_cases h : 0 ≤ n ∧ n ≤ 745654
  · rw [decide_eq_true h] at hc
    have hV2 : V = (n + 5) % 7 := by rw [hV]; unfold wkd; rw [if_pos h]
    have HC := Lib.hid hc; have HV := Lib.hid hV2
    obtain ⟨h0, h1⟩ := h
    clear hc hV hV2 hn
    go_enter Tryd.func30, Tryd.ntmps30
    go_wp2_with fail
    refine HC.out.mono ?_
    rintro e w1 ⟨rfl, rfl⟩
    go_wp2
    go_ret
    refine ⟨retI ?_, rfl⟩
    rw [HV.out]
    omega
  · rw [decide_eq_false h] at hc
    have hV2 : V = -1 := by rw [hV]; unfold wkd; rw [if_neg h]
    subst hV2
    have HC := Lib.hid hc
    clear hc hV hn h
    go_enter Tryd.func30, Tryd.ntmps30
    go_wp2_with fail
    refine HC.out.mono ?_
    rintro e w1 ⟨rfl, rfl⟩
    go_wp2
    go_ret
    exact ⟨rfl, rfl⟩
theorem rweekday_any (n : Int) (hn : I64 n) (V : Int) (hV : V = wkd n) (w : World) : Calls Tryd.prog 31 #[.int .i64 n] w fun e w' => e = .returned (.int .i64 V) ∧ w = w' := by
  by_cases h0 : n < 0
  · have hV2 : V = -1 := by rw [hV]; unfold wkd; rw [if_neg (by omega)]
    subst hV2
    clear hV hn
    go_enter Tryd.func31, Tryd.ntmps31
    go_wp2
    go_ret
    exact ⟨rfl, rfl⟩
  · by_cases h1 : n ≤ 745654
    · have hV2 : V = (n + 5) % 7 := by rw [hV]; unfold wkd; rw [if_pos (by omega)]
      have HV := Lib.hid hV2
      have h2 : 0 ≤ n := by omega
      clear hV hn hV2 h0
      go_enter Tryd.func31, Tryd.ntmps31
      go_wp2
      go_ret
      refine ⟨retI ?_, rfl⟩
      rw [HV.out]
    · have hV2 : V = -1 := by rw [hV]; unfold wkd; rw [if_neg (by omega)]
      subst hV2
      have h2 : 0 ≤ n := by omega
      clear hV hn h0
      go_enter Tryd.func31, Tryd.ntmps31
      go_wp2
      go_ret
      exact ⟨rfl, rfl⟩

/-- A date of the years 2000 to 4000. -/
def vd (Y M D : Int) : Prop := 2000 ≤ Y ∧ Y ≤ 4000 ∧ 1 ≤ M ∧ M ≤ 12 ∧ 1 ≤ D ∧ D ≤ mlen Y M
/-- What Day returns. -/
def DayU (Y M D R E : Int) : Prop := (vd Y M D ∧ R = yr (Y - 2000).toNat + mo Y (M - 1).toNat + D - 1 ∧ E = 0) ∨ (¬ vd Y M D ∧ R = 0 ∧ E = 1)
theorem dayU_exists (Y M D : Int) : ∃ R E, DayU Y M D R E := by
  by_cases h : vd Y M D
  · exact ⟨_, 0, .inl ⟨h, rfl, rfl⟩⟩
  · exact ⟨0, 1, .inr ⟨h, rfl, rfl⟩⟩
theorem MOk.heap {w w' : World} (h : MOk w) (hh : w'.heap = w.heap) : MOk w' := by
  refine ⟨by rw [hh]; exact h.1, fun i x hx => ?_⟩
  have := h.2 i x hx
  unfold World.cell? at this ⊢
  rw [hh]; exact this

theorem cell_new3 (w : World) (a b c : Value) (t : TypeId) (B : Nat) (hB : w.heap.size = B) : (w.alloc (.cells #[a, b, c] t)).cell? ⟨B, 0, none⟩ = some a ∧ (w.alloc (.cells #[a, b, c] t)).cell? ⟨B, 1, none⟩ = some b ∧ (w.alloc (.cells #[a, b, c] t)).cell? ⟨B, 2, none⟩ = some c := by
  subst hB
  have h := heap_alloc_new w (.cells #[a, b, c] t)
  rw [cell_of_row _ w.heap.size 0 _ t (0, 0) h, cell_of_row _ w.heap.size 1 _ t (0, 0) h, cell_of_row _ w.heap.size 2 _ t (0, 0) h]
  exact ⟨rfl, rfl, rfl⟩

set_option maxRecDepth 100000 in
set_option maxHeartbeats 2000000 in
theorem day_any (Y M D R E : Int) (hY : I64 Y) (hM : I64 M) (hD : I64 D) (h : DayU Y M D R E) (w : World) (hk : MOk w) :
    Calls Tryd.prog 22 #[.agg #[.int .i64 Y, .int .i64 M, .int .i64 D]] w fun e w' => e = .returned (.tuple #[.int .i64 R, .int .i64 E]) ∧ Below w.heap.size w w' := by
  have hK1 := hk.alloc (.cells #[.int .i64 Y, .int .i64 M, .int .i64 D] 40)
  by_cases c0 : Y < 2000
  · obtain ⟨rfl, rfl⟩ : R = 0 ∧ E = 1 := by
      rcases h with ⟨h, _⟩ | ⟨_, h⟩
      · exact absurd h.1 (by omega)
      · exact h
    clear h hk hK1 hY hM hD
    go_enter Tryd.func22, Tryd.ntmps22
    go_wp2
    go_ret2
    exact ⟨rfl, ball (Below.refl _ _) _⟩
  by_cases c1 : 4000 < Y
  · obtain ⟨rfl, rfl⟩ : R = 0 ∧ E = 1 := by
      rcases h with ⟨h, _⟩ | ⟨_, h⟩
      · exact absurd h.2.1 (by omega)
      · exact h
    clear h hk hK1 hY hM hD
    go_enter Tryd.func22, Tryd.ntmps22
    go_wp2
    go_ret2
    exact ⟨rfl, ball (Below.refl _ _) _⟩
  by_cases c2 : M < 1
  · obtain ⟨rfl, rfl⟩ : R = 0 ∧ E = 1 := by
      rcases h with ⟨h, _⟩ | ⟨_, h⟩
      · exact absurd h.2.2.1 (by omega)
      · exact h
    clear h hk hK1 hY hM hD
    go_enter Tryd.func22, Tryd.ntmps22
    go_wp2
    go_ret2
    exact ⟨rfl, ball (Below.refl _ _) _⟩
  by_cases c3 : 12 < M
  · obtain ⟨rfl, rfl⟩ : R = 0 ∧ E = 1 := by
      rcases h with ⟨h, _⟩ | ⟨_, h⟩
      · exact absurd h.2.2.2.1 (by omega)
      · exact h
    clear h hk hK1 hY hM hD
    go_enter Tryd.func22, Tryd.ntmps22
    go_wp2
    go_ret2
    exact ⟨rfl, ball (Below.refl _ _) _⟩
  by_cases c4 : D < 1
  · obtain ⟨rfl, rfl⟩ : R = 0 ∧ E = 1 := by
      rcases h with ⟨h, _⟩ | ⟨_, h⟩
      · exact absurd h.2.2.2.2.1 (by omega)
      · exact h
    have d4 : decide (D < 1) = true := decide_eq_true c4
    clear h hk hK1 hY hM hD
    go_enter Tryd.func22, Tryd.ntmps22
    go_wp2
    go_quiet (fail)
    have hb : Below w.heap.size w ((w.alloc (.cells #[.int .i64 Y, .int .i64 M, .int .i64 D] 40)).drewN nq) := (ball (Below.refl _ _) _).trans (bdrewN (Below.refl _ _) nq)
    generalize (w.alloc (.cells #[.int .i64 Y, .int .i64 M, .int .i64 D] 40)).drewN nq = W at *
    go_wp2
    go_ret2
    exact ⟨rfl, hb⟩
  obtain ⟨X, hX⟩ : ∃ X, X = mlen Y M := ⟨_, rfl⟩
  have hml : ∀ n, Calls Tryd.prog 46 #[.int .i64 Y, .int .i64 M] ((w.alloc (.cells #[.int .i64 Y, .int .i64 M, .int .i64 D] 40)).drewN n) fun e w' => e = .returned (.int .i64 X) ∧ w' = (w.alloc (.cells #[.int .i64 Y, .int .i64 M, .int .i64 D] 40)).drewN n := fun n => (monthLength_any Y M (by omega) (by omega) (by omega) X hX ((w.alloc (.cells #[.int .i64 Y, .int .i64 M, .int .i64 D] 40)).drewN n) (hK1.heap rfl)).mono fun _ _ ⟨h1, h2⟩ => ⟨h1, h2.symm⟩
  have d4 : decide (D < 1) = false := decide_eq_false c4
  have HML := Lib.hid hml
  have HK := Lib.hid hK1
  by_cases c5 : X < D
  · obtain ⟨rfl, rfl⟩ : R = 0 ∧ E = 1 := by
      rcases h with ⟨h, _⟩ | ⟨_, h⟩
      · exact absurd h.2.2.2.2.2 (by omega)
      · exact h
    have d5 : decide (X < D) = true := decide_eq_true c5
    clear h hk hK1 hY hM hD hml hX
    go_enter Tryd.func22, Tryd.ntmps22
    go_wp2
    go_quiet ((go_at_call 46; exact Calls.quiet_of_same (HML.out _)))
    have hb : Below w.heap.size w ((w.alloc (.cells #[.int .i64 Y, .int .i64 M, .int .i64 D] 40)).drewN nq) := (ball (Below.refl _ _) _).trans (bdrewN (Below.refl _ _) nq)
    generalize (w.alloc (.cells #[.int .i64 Y, .int .i64 M, .int .i64 D] 40)).drewN nq = W at *
    go_wp2
    go_ret2
    exact ⟨rfl, hb⟩
  have hv : vd Y M D := ⟨by omega, by omega, by omega, by omega, by omega, by rw [← hX]; omega⟩
  obtain ⟨hR, rfl⟩ : R = yr (Y - 2000).toNat + mo Y (M - 1).toNat + D - 1 ∧ E = 0 := by
    rcases h with ⟨_, h⟩ | ⟨h, _⟩
    · exact h
    · exact absurd hv h
  obtain ⟨S, hS⟩ : ∃ S, S = yr (Y - 2000).toNat + mo Y (M - 1).toNat := ⟨_, rfl⟩
  have hmb := fun (w : World) (hk : MOk w) => monthBegin_any (Y - 2000).toNat (M - 1).toNat (by omega) (by omega) Y M S (by omega) (by omega) (by rw [hS, show (2000 : Int) + ((Y - 2000).toNat : Int) = Y by omega]) w hk
  have hSb : 0 ≤ S ∧ S ≤ 2000000 := by
    have := yr_bound (Y - 2000).toNat
    have := mo_range Y (M - 1).toNat (by omega)
    omega
  obtain ⟨hS1, hS2⟩ := hSb
  have hxb := mlen_b Y M
  rw [← hX] at hxb
  obtain ⟨hx1, hx2⟩ := hxb
  rw [← hS] at hR
  have d5 : decide (X < D) = false := decide_eq_false c5
  have HMB := Lib.hid hmb
  subst hR
  clear h hk hK1 hY hM hD hml hX hv hS hmb
  obtain ⟨g0, g1, g2⟩ := cell_new3 w (.int .i64 Y) (.int .i64 M) (.int .i64 D) 40 _ rfl
  go_enter Tryd.func22, Tryd.ntmps22
  go_wp2
  go_quiet ((go_at_call 46; exact Calls.quiet_of_same (HML.out _)))
  have hb : Below w.heap.size w ((w.alloc (.cells #[.int .i64 Y, .int .i64 M, .int .i64 D] 40)).drewN nq) := (ball (Below.refl _ _) _).trans (bdrewN (Below.refl _ _) nq)
  have HK2 := Lib.hid (HK.out.heap (w' := (w.alloc (.cells #[.int .i64 Y, .int .i64 M, .int .i64 D] 40)).drewN nq) rfl)
  replace g0 : ((w.alloc (.cells #[.int .i64 Y, .int .i64 M, .int .i64 D] 40)).drewN nq).cell? ⟨w.heap.size, 0, none⟩ = some (.int .i64 Y) := g0
  replace g1 : ((w.alloc (.cells #[.int .i64 Y, .int .i64 M, .int .i64 D] 40)).drewN nq).cell? ⟨w.heap.size, 1, none⟩ = some (.int .i64 M) := g1
  replace g2 : ((w.alloc (.cells #[.int .i64 Y, .int .i64 M, .int .i64 D] 40)).drewN nq).cell? ⟨w.heap.size, 2, none⟩ = some (.int .i64 D) := g2
  have HMB2 : Hid (∀ n, Calls Tryd.prog 47 #[.int .i64 Y, .int .i64 M] (((w.alloc (.cells #[.int .i64 Y, .int .i64 M, .int .i64 D] 40)).drewN nq).drewN n) fun e w' => e = .returned (.int .i64 S) ∧ w' = ((w.alloc (.cells #[.int .i64 Y, .int .i64 M, .int .i64 D] 40)).drewN nq).drewN n) := Lib.hid (fun n => (HMB.out (((w.alloc (.cells #[.int .i64 Y, .int .i64 M, .int .i64 D] 40)).drewN nq).drewN n) (HK2.out.heap rfl)).mono fun _ _ ⟨h1, h2⟩ => ⟨h1, h2.symm⟩)
  clear HK HMB HML
  generalize (w.alloc (.cells #[.int .i64 Y, .int .i64 M, .int .i64 D] 40)).drewN nq = W at *
  go_wp2
  go_quiet ((go_at_call 47; exact Calls.quiet_of_same (HMB2.out _)))
  have hb2 := hb.trans ((bdrewN (Below.refl W.heap.size W) nq).mono hb.size)
  generalize W.drewN nq = W2 at *
  go_wp2
  go_ret2
  exact ⟨rfl, hb2⟩
end Go.Proofs.YtciopemodfpecaaDoor
