/-
  The statement 'Rows.MoneyWorthCardSaid': for all arguments the law returns true; the arguments read as they did. Condition: the listed variables lie as the program's text lays them.
-/
import Derived.Test.YtempnbchiofghaaGreatDoorFr
import Derived.ChangeMaps5
namespace Go.Proofs.YtempnbchiofghaaGreatDoor.moneyWorth
open Go.ChangeShapes Go.WideShapes Go.ChangeAt Go.RowKit Go.Lib
set_option linter.unusedVariables false
set_option linter.unusedSimpArgs false

theorem div_as {a b m s e : Int} (hb : I64 b) (h : divV a b m = (s, e)) (w : World) : Calls Tryz.prog 19 #[.int .i64 a, .int .i64 b, .int .i64 m] w fun x w' => x = .returned (.tuple #[.int .i64 s, .int .i64 e]) ∧ w = w' := by
  have := div_any a b m hb w
  rw [h] at this
  exact this
theorem worth_as {a b c d f s e : Int} (h : worthV a b c d f = (s, e)) (w : World) : Calls Tryz.prog 27 #[.int .i64 a, .int .i64 b, .int .i64 c, .int .i64 d, .int .i64 f] w fun x w' => x = .returned (.tuple #[.int .i64 s, .int .i64 e]) ∧ Below w.heap.size w w' := by
  have := worth_any a b c d f w
  rw [h] at this
  exact this
theorem worthV_ok {a b c d f s : Int} (h : worthV a b c d f = (s, 0)) : okW a b c d f ∧ s = valW a b c d f := by
  unfold worthV at h
  split at h
  · simp only [Prod.mk.injEq, and_true] at h; exact ⟨by assumption, h.symm⟩
  · simp at h
theorem loss_bnd {a g d : Int} (a0 : 0 ≤ a) (g0 : 0 < g) (hg : g < d) : 0 ≤ a * g / d ∧ a * g / d ≤ a := by
  have h0 : 0 ≤ a * g := Int.mul_nonneg a0 (by omega)
  have h1 : a * g ≤ a * d := Int.mul_le_mul_of_nonneg_left (by omega) a0
  refine ⟨Int.ediv_nonneg h0 (by omega), ?_⟩
  have := Int.ediv_le_ediv (show (0:Int) < d by omega) h1
  rwa [Int.mul_ediv_cancel _ (by omega)] at this
theorem val_bnd {a b c d f : Int} (h : okW a b c d f) : leastW a f ≤ valW a b c d f ∧ valW a b c d f ≤ a := by
  obtain ⟨⟨a0, a1⟩, ⟨b0, b1⟩, ⟨c0, c1⟩, ⟨d0, d1⟩, ⟨f0, f1⟩⟩ := h
  obtain ⟨m0, m1, l0, l1⟩ := least_bnd a0 a1 f0 f1
  unfold valW
  split
  · omega
  · split
    · omega
    · have := loss_bnd (a := a) (g := c - b) (d := d) a0 (by omega) (by omega)
      omega
theorem val_mono {a b c c' d f : Int} (h : okW a b c d f) (hc : c ≤ c') : valW a b c' d f ≤ valW a b c d f := by
  have hb := val_bnd h
  obtain ⟨⟨a0, a1⟩, ⟨b0, b1⟩, ⟨c0, c1⟩, ⟨d0, d1⟩, ⟨f0, f1⟩⟩ := h
  obtain ⟨m0, m1, l0, l1⟩ := least_bnd a0 a1 f0 f1
  unfold valW at *
  by_cases e0 : c' ≤ b
  · rw [if_pos e0, if_pos (by omega)]; exact Int.le_refl _
  · rw [if_neg e0]
    by_cases e1 : d ≤ c' - b
    · rw [if_pos e1]; exact hb.1
    · rw [if_neg e1]
      have h1 := loss_bnd (a := a) (g := c' - b) (d := d) a0 (by omega) (by omega)
      by_cases e2 : c ≤ b
      · rw [if_pos e2]; omega
      · rw [if_neg e2, if_neg (by omega)]
        have h2 : a * (c - b) ≤ a * (c' - b) := Int.mul_le_mul_of_nonneg_left (by omega) a0
        have h3 := Int.ediv_le_ediv (show (0:Int) < d by omega) h2
        omega
theorem val_new {a b c d f : Int} (h : c ≤ b) : valW a b c d f = a := if_pos h
theorem val_old {a b c d f : Int} (h : ¬ c ≤ b) (h' : ¬ c - b < d) : valW a b c d f = leastW a f := by
  unfold valW
  rw [if_neg h, if_pos (by omega)]
theorem div_least {a f : Int} (a0 : 0 ≤ a) (a1 : a ≤ 1099511627776) (f0 : 0 ≤ f) (f1 : f ≤ 100) : divV (a * f) 100 9 = (leastW a f, 0) := by
  have h0 : 0 ≤ a * f := Int.mul_nonneg a0 f0
  have h1 : a * f ≤ a * 100 := Int.mul_le_mul_of_nonneg_left f1 a0
  unfold divV divQ leastW
  rw [if_pos (Or.inr (Or.inl rfl)), if_pos ⟨⟨by omega, by omega⟩, by decide, by decide⟩, if_neg (by decide), if_neg (by decide), if_pos rfl]
  simp only [Prod.mk.injEq, and_true]
  omega

set_option maxRecDepth 100000 in
set_option maxHeartbeats 16000000 in
theorem walk (a b c g d f : Int) (w : World) (hk : LK w) : Calls Tryz.prog 11 #[.int .i64 a, .int .i64 b, .int .i64 c, .int .i64 g, .int .i64 d, .int .i64 f] w fun e w' => e = .returned (.bool true) ∧ Below w.heap.size w w' := by
  have HS := Lib.hid (sane_true w hk)
  obtain ⟨S, E, hS⟩ : ∃ S E, worthV a b c d f = (S, E) := ⟨_, _, rfl⟩
  obtain ⟨T, G, hT⟩ : ∃ T G, worthV a b g d f = (T, G) := ⟨_, _, rfl⟩
  have A1 := Lib.hid (fun w => worth_as hS w); have A2 := Lib.hid (fun w => worth_as hT w)
  have H1 := Lib.hid hS; have H2 := Lib.hid hT
  clear hk hS hT
  go_enter Tryz.func11, Tryz.ntmps11
  go_wp2_with fail
  refine (HS.out).mono ?_
  rintro e w1 ⟨rfl, hb⟩
  have HB1 := Lib.hid hb
  clear hb HS
  go_wp2_with fail
  refine (A1.out _).mono ?_
  rintro e w2 ⟨rfl, hb⟩
  have HB2 := Lib.hid (btrans HB1.out hb)
  clear hb HB1
  go_wp2_with fail
  refine (A2.out _).mono ?_
  rintro e w3 ⟨rfl, hb⟩
  have HB := Lib.hid (btrans HB2.out hb)
  clear hb HB2
  by_cases e0 : E = 0
  rotate_left
  · have b0 : (E != 0) = true := by simp [e0]
    clear e0 H1 H2
    go_wp2
    go_ret
    exact ⟨rfl, HB.out⟩
  by_cases e1 : G = 0
  rotate_left
  · have b0 : (E != 0) = false := by simp [e0]
    have b1 : (G != 0) = true := by simp [e1]
    clear e0 e1 H1 H2
    go_wp2
    go_ret
    exact ⟨rfl, HB.out⟩
  subst e0
  subst e1
  obtain ⟨o1, v1⟩ := worthV_ok H1.out
  obtain ⟨o2, v2⟩ := worthV_ok H2.out
  obtain ⟨L, hL⟩ : ∃ L, leastW a f = L := ⟨_, rfl⟩
  have ⟨k1, k2⟩ := val_bnd o1
  have k3 : c ≤ g → T ≤ S := fun h => by rw [v1, v2]; exact val_mono o1 h
  have k4 : g ≤ c → S ≤ T := fun h => by rw [v1, v2]; exact val_mono o2 h
  have k5 : c ≤ b → S = a := fun h => by rw [v1]; exact val_new h
  have k6 : ¬ c ≤ b → ¬ c - b < d → S = L := fun h h' => by rw [v1, ← hL]; exact val_old h h'
  rw [← v1, hL] at k1
  rw [← v1] at k2
  clear H1 H2 v1 v2 A1 A2
  obtain ⟨⟨a0, a1⟩, ⟨b0, b1⟩, ⟨c0, c1⟩, ⟨d0, d1⟩, ⟨f0, f1⟩⟩ := o1
  obtain ⟨_, _, ⟨g0, g1⟩, _, _⟩ := o2
  obtain ⟨m0, m1, l0, l1⟩ := least_bnd a0 a1 f0 f1
  have w2 : IntKind.i64.wrap (a * f + 99) = a * f + 99 := wrap_in (by omega) (by omega)
  have w1 : IntKind.i64.wrap (a * f) = a * f := wrap_in (by omega) (by omega)
  have w3 : IntKind.i64.wrap ((a * f + 99).tdiv 100) = leastW a f := by rw [tdiv_bnd ⟨by omega, by omega⟩ (by decide), Int.tdiv_eq_ediv_of_nonneg (by omega)]; rfl
  have w3b : IntKind.i64.wrap ((a * f + 99) / 100) = leastW a f := by rw [← Int.tdiv_eq_ediv_of_nonneg (by omega)]; exact w3
  obtain ⟨D, hD⟩ : ∃ D, c - b = D := ⟨_, rfl⟩
  have w4 : IntKind.i64.wrap (c - b) = D := by rw [← hD]; exact wrap_in (by omega) (by omega)
  obtain ⟨Q, QE, hQ⟩ : ∃ Q QE, divV (a * f) 100 9 = (Q, QE) := ⟨_, _, rfl⟩
  have hq : ¬ 1099511627776 < a → Q = L ∧ QE = 0 := fun h => by
    rw [div_least a0 (by omega) f0 f1, hL] at hQ
    simp only [Prod.mk.injEq] at hQ
    exact ⟨hQ.1.symm, hQ.2.symm⟩
  have A3 := Lib.hid (fun w => div_as (by unfold I64; omega) hQ w)
  rw [hL] at w3 w3b
  clear hL hQ
  obtain ⟨A, hA⟩ : ∃ A, a * f = A := ⟨_, rfl⟩
  rw [hA] at w2 w3 w3b A3
  have w1' : IntKind.i64.wrap (a * f) = A := by rw [w1, hA]
  clear w1 hA m0 m1 l0 l1
  have r0 : decide (a < 0) = false := decide_eq_false (by omega)
  have r1 : decide (9007199254740992 < a) = false := decide_eq_false (by omega)
  have r2 : decide (b < 0) = false := decide_eq_false (by omega)
  have r3 : decide (d < 1) = false := decide_eq_false (by omega)
  have r4 : decide (f < 0) = false := decide_eq_false (by omega)
  have r5 : decide (100 < f) = false := decide_eq_false (by omega)
  have r6 : decide (c < 0) = false := decide_eq_false (by omega)
  have r7 : decide (1073741824 < c) = false := decide_eq_false (by omega)
  have r8 : decide (g < 0) = false := decide_eq_false (by omega)
  have r9 : decide (1073741824 < g) = false := decide_eq_false (by omega)
  have r10 : decide (1073741824 < b) = false := decide_eq_false (by omega)
  have r11 : decide (S < L) = false := decide_eq_false (by omega)
  have r12 : decide (a < S) = false := decide_eq_false (by omega)
  have hb1 : d ≥ 1 := d0
  clear a0 a1 b0 b1 c0 c1 d1 f0 f1 g0 g1 k1 k2
  go_wp2_with fail
  refine (A3.out _).mono ?_
  rintro e w' ⟨rfl, rfl⟩
  by_cases t0 : 1099511627776 < a
  · clear hq
    have tri : c < g ∨ c = g ∨ g < c := by omega
    rcases tri with tri | tri | tri
    · have q1 : decide (c ≤ g) = true := decide_eq_true (by omega)
      have q2 : decide (g ≤ c) = false := decide_eq_false (by omega)
      have q3 : decide (S < T) = false := decide_eq_false (by have := k3 (by omega); omega)
      by_cases z0 : c ≤ b
      · have y0 : decide (c ≤ b) = true := decide_eq_true z0
        have y1 : (S != a) = false := by simp [k5 (by omega)]
        have y2 : decide (D < d) = true := decide_eq_true (by omega)
        clear k3 k4 k5 k6 z0 tri hD
        go_wp2
        go_ret
        exact ⟨rfl, HB.out⟩
      · have y0 : decide (c ≤ b) = false := decide_eq_false z0
        by_cases z1 : D < d
        · have y2 : decide (D < d) = true := decide_eq_true z1
          clear k3 k4 k5 k6 z0 z1 tri hD
          go_wp2
          go_ret
          exact ⟨rfl, HB.out⟩
        · have y2 : decide (D < d) = false := decide_eq_false z1
          have y3 : (S == L) = true := by simp [k6 (by omega) (by omega)]
          clear k3 k4 k5 k6 z0 z1 tri hD
          go_wp2
          go_ret
          exact ⟨rfl, HB.out⟩
    · have q1 : decide (c ≤ g) = true := decide_eq_true (by omega)
      have q2 : decide (g ≤ c) = true := decide_eq_true (by omega)
      have q3 : decide (S < T) = false := decide_eq_false (by have := k3 (by omega); omega)
      have q4 : decide (T < S) = false := decide_eq_false (by have := k4 (by omega); omega)
      by_cases z0 : c ≤ b
      · have y0 : decide (c ≤ b) = true := decide_eq_true z0
        have y1 : (S != a) = false := by simp [k5 (by omega)]
        have y2 : decide (D < d) = true := decide_eq_true (by omega)
        clear k3 k4 k5 k6 z0 tri hD
        go_wp2
        go_ret
        exact ⟨rfl, HB.out⟩
      · have y0 : decide (c ≤ b) = false := decide_eq_false z0
        by_cases z1 : D < d
        · have y2 : decide (D < d) = true := decide_eq_true z1
          clear k3 k4 k5 k6 z0 z1 tri hD
          go_wp2
          go_ret
          exact ⟨rfl, HB.out⟩
        · have y2 : decide (D < d) = false := decide_eq_false z1
          have y3 : (S == L) = true := by simp [k6 (by omega) (by omega)]
          clear k3 k4 k5 k6 z0 z1 tri hD
          go_wp2
          go_ret
          exact ⟨rfl, HB.out⟩
    · have q1 : decide (c ≤ g) = false := decide_eq_false (by omega)
      have q2 : decide (g ≤ c) = true := decide_eq_true (by omega)
      have q4 : decide (T < S) = false := decide_eq_false (by have := k4 (by omega); omega)
      by_cases z0 : c ≤ b
      · have y0 : decide (c ≤ b) = true := decide_eq_true z0
        have y1 : (S != a) = false := by simp [k5 (by omega)]
        have y2 : decide (D < d) = true := decide_eq_true (by omega)
        clear k3 k4 k5 k6 z0 tri hD
        go_wp2
        go_ret
        exact ⟨rfl, HB.out⟩
      · have y0 : decide (c ≤ b) = false := decide_eq_false z0
        by_cases z1 : D < d
        · have y2 : decide (D < d) = true := decide_eq_true z1
          clear k3 k4 k5 k6 z0 z1 tri hD
          go_wp2
          go_ret
          exact ⟨rfl, HB.out⟩
        · have y2 : decide (D < d) = false := decide_eq_false z1
          have y3 : (S == L) = true := by simp [k6 (by omega) (by omega)]
          clear k3 k4 k5 k6 z0 z1 tri hD
          go_wp2
          go_ret
          exact ⟨rfl, HB.out⟩
  · obtain ⟨z1, z2⟩ := hq (by omega)
    subst z2
    have z3 := z1.symm
    subst z3
    clear z1
    have tri : c < g ∨ c = g ∨ g < c := by omega
    rcases tri with tri | tri | tri
    · have q1 : decide (c ≤ g) = true := decide_eq_true (by omega)
      have q2 : decide (g ≤ c) = false := decide_eq_false (by omega)
      have q3 : decide (S < T) = false := decide_eq_false (by have := k3 (by omega); omega)
      by_cases z0 : c ≤ b
      · have y0 : decide (c ≤ b) = true := decide_eq_true z0
        have y1 : (S != a) = false := by simp [k5 (by omega)]
        have y2 : decide (D < d) = true := decide_eq_true (by omega)
        clear k3 k4 k5 k6 z0 tri hD
        go_wp2
        go_ret
        exact ⟨rfl, HB.out⟩
      · have y0 : decide (c ≤ b) = false := decide_eq_false z0
        by_cases z1 : D < d
        · have y2 : decide (D < d) = true := decide_eq_true z1
          clear k3 k4 k5 k6 z0 z1 tri hD
          go_wp2
          go_ret
          exact ⟨rfl, HB.out⟩
        · have y2 : decide (D < d) = false := decide_eq_false z1
          have y3 : (S == L) = true := by simp [k6 (by omega) (by omega)]
          clear k3 k4 k5 k6 z0 z1 tri hD
          go_wp2
          go_ret
          exact ⟨rfl, HB.out⟩
    · have q1 : decide (c ≤ g) = true := decide_eq_true (by omega)
      have q2 : decide (g ≤ c) = true := decide_eq_true (by omega)
      have q3 : decide (S < T) = false := decide_eq_false (by have := k3 (by omega); omega)
      have q4 : decide (T < S) = false := decide_eq_false (by have := k4 (by omega); omega)
      by_cases z0 : c ≤ b
      · have y0 : decide (c ≤ b) = true := decide_eq_true z0
        have y1 : (S != a) = false := by simp [k5 (by omega)]
        have y2 : decide (D < d) = true := decide_eq_true (by omega)
        clear k3 k4 k5 k6 z0 tri hD
        go_wp2
        go_ret
        exact ⟨rfl, HB.out⟩
      · have y0 : decide (c ≤ b) = false := decide_eq_false z0
        by_cases z1 : D < d
        · have y2 : decide (D < d) = true := decide_eq_true z1
          clear k3 k4 k5 k6 z0 z1 tri hD
          go_wp2
          go_ret
          exact ⟨rfl, HB.out⟩
        · have y2 : decide (D < d) = false := decide_eq_false z1
          have y3 : (S == L) = true := by simp [k6 (by omega) (by omega)]
          clear k3 k4 k5 k6 z0 z1 tri hD
          go_wp2
          go_ret
          exact ⟨rfl, HB.out⟩
    · have q1 : decide (c ≤ g) = false := decide_eq_false (by omega)
      have q2 : decide (g ≤ c) = true := decide_eq_true (by omega)
      have q4 : decide (T < S) = false := decide_eq_false (by have := k4 (by omega); omega)
      by_cases z0 : c ≤ b
      · have y0 : decide (c ≤ b) = true := decide_eq_true z0
        have y1 : (S != a) = false := by simp [k5 (by omega)]
        have y2 : decide (D < d) = true := decide_eq_true (by omega)
        clear k3 k4 k5 k6 z0 tri hD
        go_wp2
        go_ret
        exact ⟨rfl, HB.out⟩
      · have y0 : decide (c ≤ b) = false := decide_eq_false z0
        by_cases z1 : D < d
        · have y2 : decide (D < d) = true := decide_eq_true z1
          clear k3 k4 k5 k6 z0 z1 tri hD
          go_wp2
          go_ret
          exact ⟨rfl, HB.out⟩
        · have y2 : decide (D < d) = false := decide_eq_false z1
          have y3 : (S == L) = true := by simp [k6 (by omega) (by omega)]
          clear k3 k4 k5 k6 z0 z1 tri hD
          go_wp2
          go_ret
          exact ⟨rfl, HB.out⟩

set_option maxRecDepth 100000 in
theorem lifted (os : Os) (started : os.Started) (H : Type) (enc : TypeId × Value → H) :
    ReturnsInHanded {} Tryz.checked os 11 .any (fun w args => (Rows.moneyWorthSpec.pre enc Tryz.prog Tryz.f11 [] false w args ∧ laidMetH Tryz.prog Rows.moneyWorthRow.laid w) ∧ sizedMet enc Tryz.prog Tryz.f11 (OpenSpec.ofChange Rows.moneyWorthSpec) false w args)
      (Rows.moneyWorthSpec.post enc Tryz.prog Tryz.f11 false true false false) := by
  refine returnsInHanded_of_change_and (C := Tryz.checked) (X := fun w _ => laidMetH Tryz.prog Rows.moneyWorthRow.laid w) (fun _ _ _ hh h => h.of_heap hh) own started (by kernel_rfl) Tryz.func11
    (ChangeSpec.witness_shaped (enc := enc) (C := Tryz.checked) (os := os) (X := fun w _ => laidMetH Tryz.prog Rows.moneyWorthRow.laid w) false (World.laidAll Tryz.prog os laidAllOf) #[.int .i64 0, .int .i64 0, .int .i64 0, .int .i64 0, .int .i64 0, .int .i64 0] 8 (World.laidAll_os _ _ _) (World.shaped_of_ZipB (by kernel_rfl) (by kernel_rfl)) (by kernel_rfl) (by kernel_rfl) (by kernel_rfl) (laidAll_met os _)) ?_
  intro W base args ds gs before hval0 hW _ hsz0 hL _
  have hsz : (DataW.weightsEach Tryz.prog (Tryz.f11.params.toList ++ Rows.moneyWorthSpec.plain.varTypes Tryz.prog) (ds ++ gs)).all (· ≤ reachBytes) = true := hsz0
  clear hsz0
  have hval : ∀ (j : Nat) t v, Tryz.f11.params[j]? = some t → args[j]? = some v → Value.okWide Tryz.prog W .any base t v := hval0
  clear hval0
  have hW' := hW
  obtain ⟨p, q, hA0, hV, rfl, hfz, hnd⟩ := hW
  have hA : DataW.TrodAll enc Tryz.prog W 0 (fun _ => true) true Tryz.f11.params.toList args.toList ds p := hA0
  rw [Tryz.params11] at hA hval hsz
  obtain ⟨v0, vs0, d0, ds0, p0, q0, hargs, rfl, rfl, h0, r0⟩ := trodAll_cons hA
  obtain ⟨v1, vs1, d1, ds1, p1, q1, rfl, rfl, rfl, h1, r1⟩ := trodAll_cons r0
  obtain ⟨v2, vs2, d2, ds2, p2, q2, rfl, rfl, rfl, h2, r2⟩ := trodAll_cons r1
  obtain ⟨v3, vs3, d3, ds3, p3, q3, rfl, rfl, rfl, h3, r3⟩ := trodAll_cons r2
  obtain ⟨v4, vs4, d4, ds4, p4, q4, rfl, rfl, rfl, h4, r4⟩ := trodAll_cons r3
  obtain ⟨v5, vs5, d5, ds5, p5, q5, rfl, rfl, rfl, h5, r5⟩ := trodAll_cons r4
  obtain ⟨rfl, rfl, rfl⟩ := trodAll_nil r5
  obtain rfl : args = #[v0, v1, v2, v3, v4, v5] := by cases args; simp_all
  obtain ⟨rfl, rfl⟩ := trodVars_none hV
  obtain ⟨a0, rfl, rfl, rfl, wf0⟩ := open_int Tryz.underlying3 (hval 0 3 v0 rfl rfl) h0
  have ru0 := i64_wf wf0
  obtain ⟨a1, rfl, rfl, rfl, wf1⟩ := open_int Tryz.underlying3 (hval 1 3 v1 rfl rfl) h1
  have ru1 := i64_wf wf1
  obtain ⟨a2, rfl, rfl, rfl, wf2⟩ := open_int Tryz.underlying3 (hval 2 3 v2 rfl rfl) h2
  have ru2 := i64_wf wf2
  obtain ⟨a3, rfl, rfl, rfl, wf3⟩ := open_int Tryz.underlying3 (hval 3 3 v3 rfl rfl) h3
  have ru3 := i64_wf wf3
  obtain ⟨a4, rfl, rfl, rfl, wf4⟩ := open_int Tryz.underlying3 (hval 4 3 v4 rfl rfl) h4
  have ru4 := i64_wf wf4
  obtain ⟨a5, rfl, rfl, rfl, wf5⟩ := open_int Tryz.underlying3 (hval 5 3 v5 rfl rfl) h5
  have ru5 := i64_wf wf5
  clear hA0
  refine (walk a0 a1 a2 a3 a4 a5 W (lk_of_laid hL)).mono fun e W' ⟨he, hbw⟩ => ?_
  subst he
  refine ⟨_, rfl, post_law laidOut ?_ rfl rfl hW' rfl rfl rfl hbw⟩
  intro t ht
  rw [Tryz.params11] at ht
  have hm : t ∈ [3] := by
    simp at ht
    subst ht; simp
  have hall : ([3].all fun u => Tryz.prog.readableRec u && decide (u < Tryz.prog.types.size)) = true := by kernel_rfl
  have := List.all_eq_true.1 hall t hm
  simpa using this

theorem over : Rows.moneyWorthRow.holds Tryz.pinned (OpenSpec.ofChange Rows.moneyWorthSpec) :=
  OpenClaim.holds_of_wide 11 Tryz.f11 rfl rfl rfl rfl rfl rfl rfl ⟨rfl, rfl, rfl, rfl, rfl⟩ rfl rfl rfl rfl rfl (by kernel_rfl) Tryz.func11 (by kernel_rfl)
    (of_decide_eq_true (by kernel_rfl)) (by unfold Func.isWrapper; first | (rw [if_pos (by decide +kernel)]; kernel_rfl) | (rw [if_neg (by decide +kernel)]; exact ⟨rfl, rfl⟩))
    (fun os started H enc _ => lifted os started H enc)

/-- THE STATEMENT. -/
theorem proved : Rows.MoneyWorthCardSaid :=
  Claim7.holds_tied_plain_at .later [] [.data, .data, .data, .data, .sentinel, .sentinel, .pinned] true (true, "d474b3da227b1f68ed449b6e949976c410548039ae0db78d056320657f151c7e") true
    over (fun _ h => by cases h) (by kernel_rfl) (fun _ h => by cases h) moneyWorth_row_tie rfl ⟨rfl, rfl⟩ (by kernel_rfl) rfl
    (fun f fn hf hfn => by
      obtain rfl : f = 11 := Option.some.inj ((show Tryz.prog.funcNamed "wagonpool/wagonpoollaw07.MoneyWorth" = some 11 by kernel_rfl).symm.trans hf) |>.symm
      obtain rfl : fn = Tryz.f11 := (Option.some.inj (Tryz.func11.symm.trans hfn)).symm
      exact ⟨by kernel_rfl, fun j t ht => by
        rw [Tryz.params11] at ht
        have hm : t ∈ [3] := by
          have := Array.mem_of_getElem? ht
          simp at this
          subst this; simp
        have hall : ([3].all fun u => !Tryz.prog.wantsStandIn u) = true := by kernel_rfl
        exact (show Tryz.prog.wantsStandIn t = false by simpa using List.all_eq_true.1 hall t hm)⟩)
    (by kernel_rfl)
#print axioms proved
end Go.Proofs.YtempnbchiofghaaGreatDoor.moneyWorth
