/-
  The statement 'Rows.MoneyDivisionCardSaid': for all arguments the law returns true; the arguments read as they did. Condition: the listed variables lie as the program's text lays them.
-/
import Derived.Test.YtempnbchiofghaaGreatDoorFr
import Derived.ChangeMaps5
namespace Go.Proofs.YtempnbchiofghaaGreatDoor.moneyDivision
open Go.ChangeShapes Go.WideShapes Go.ChangeAt Go.RowKit Go.Lib
set_option linter.unusedVariables false
set_option linter.unusedSimpArgs false

theorem div_as {a b m s e : Int} (hb : I64 b) (h : divV a b m = (s, e)) (w : World) : Calls Tryz.prog 19 #[.int .i64 a, .int .i64 b, .int .i64 m] w fun x w' => x = .returned (.tuple #[.int .i64 s, .int .i64 e]) ∧ w = w' := by
  have := div_any a b m hb w
  rw [h] at this
  exact this
theorem rin_as {a : Int} {x : Bool} (h : decide (inR a) = x) (w : World) : Calls Tryz.prog 32 #[.int .i64 a] w fun e w' => e = .returned (.bool x) ∧ w = w' := by
  have := rin_any a w
  rw [h] at this
  exact this
theorem divV_bad {a b m : Int} (hm : isMode m) (h : ¬ (inR a ∧ inR b)) : divV a b m = (0, 3) := by
  unfold divV; rw [if_pos hm, if_neg h]
theorem divV_neg {a b m : Int} (hm : isMode m) (h : inR a ∧ inR b) (hb : b ≤ 0) : divV a b m = (0, 70) := by
  unfold divV; rw [if_pos hm, if_pos h, if_pos hb]
theorem divV_pos {a b m : Int} (hm : isMode m) (h : inR a ∧ inR b) (hb : 0 < b) : divV a b m = (divQ a b m, 0) := by
  unfold divV; rw [if_pos hm, if_pos h, if_neg (by omega)]
theorem dq {a b q r : Int} (hb : 0 < b) (h : a = b * q + r) (h0 : 0 ≤ r) (h1 : r < b) : a / b = q :=
  ((Int.ediv_emod_unique (r := r) hb).2 ⟨by omega, h0, h1⟩).1
/-- The three quotients by the floor and the rest. -/
theorem quos {a b : Int} (ha : inR a) (hb : inR b) (hp : 0 < b) : ∃ q r, a - q * b = r ∧ 0 ≤ r ∧ r < b ∧ inR q ∧ -9007199254740992 * 2 ≤ q * b ∧ q * b ≤ 9007199254740992 * 2 ∧ divQ a b 8 = q ∧ divQ (-a) b 8 = (if r = 0 then -q else -q - 1) ∧ divQ a b 9 = (if r = 0 then q else q + 1) ∧ divQ a b 10 = (if b ≤ 2 * r then q + 1 else q) := by
  have h0 := Int.emod_nonneg a (show b ≠ 0 by omega)
  have h1 := Int.emod_lt_of_pos a hp
  have h2 := Int.mul_ediv_add_emod a b
  have h3 : -9007199254740992 ≤ a / b := (Int.le_ediv_iff_mul_le hp).2 (by have := ha.1; omega)
  have h4 : a / b ≤ 9007199254740992 := by
    have : a / b ≤ (9007199254740992 * b) / b := Int.ediv_le_ediv hp (by have := ha.2; omega)
    rwa [Int.mul_ediv_cancel _ (by omega)] at this
  obtain ⟨q, hq⟩ : ∃ q, a / b = q := ⟨_, rfl⟩
  obtain ⟨r, hr⟩ : ∃ r, a % b = r := ⟨_, rfl⟩
  rw [hq] at h2 h3 h4
  rw [hr] at h0 h1 h2
  have h5 : q * b = b * q := Int.mul_comm _ _
  have h6 := ha.1; have h7 := ha.2; have h8 := hb.1; have h9 := hb.2
  have neg : (-a) / b = (if r = 0 then -q else -q - 1) := by
    split
    · refine dq (r := 0) hp ?_ (by omega) hp
      rw [Int.mul_neg]; omega
    · refine dq (r := b - r) hp ?_ (by omega) (by omega)
      rw [Int.mul_sub, Int.mul_neg, Int.mul_one]; omega
  refine ⟨q, r, by omega, h0, h1, ⟨h3, h4⟩, by omega, by omega, ?_, ?_, ?_, ?_⟩
  · unfold divQ; rw [if_pos rfl]; exact hq
  · unfold divQ; rw [if_pos rfl]; exact neg
  · unfold divQ; rw [if_neg (by decide), if_pos rfl, neg]
    split <;> omega
  · unfold divQ; rw [if_neg (by decide), if_neg (by decide)]
    split
    · refine dq (r := 2 * r - b) (by omega) ?_ (by omega) (by omega)
      rw [Int.mul_assoc, Int.mul_add, Int.mul_one]; omega
    · refine dq (r := 2 * r + b) (by omega) ?_ (by omega) (by omega)
      rw [Int.mul_assoc]; omega

set_option maxRecDepth 100000 in
set_option maxHeartbeats 16000000 in
theorem walk (a b : Int) (w : World) (hk : LK w) (hb : I64 b) : Calls Tryz.prog 6 #[.int .i64 a, .int .i64 b] w fun e w' => e = .returned (.bool true) ∧ Below w.heap.size w w' := by
  have HS := Lib.hid (sane_true w hk)
  clear hk
  have m8 : isMode 8 := Or.inl rfl
  have m9 : isMode 9 := Or.inr (Or.inl rfl)
  have m10 : isMode 10 := Or.inr (Or.inr rfl)
  by_cases i0 : inR a
  rotate_left
  · have A1 := Lib.hid (fun w => div_as (a := a) hb (divV_bad m8 (fun h => i0 h.1)) w); have A2 := Lib.hid (fun w => div_as (a := a) hb (divV_bad m9 (fun h => i0 h.1)) w); have A3 := Lib.hid (fun w => div_as (a := a) hb (divV_bad m10 (fun h => i0 h.1)) w)
    have R0 := Lib.hid (fun w => rin_as (decide_eq_false i0) w)
    clear m8 m9 m10 i0 hb
    go_enter Tryz.func6, Tryz.ntmps6
    go_wp2_with fail
    refine (HS.out).mono ?_
    rintro e w1 ⟨rfl, hb⟩
    have HB := Lib.hid hb
    clear hb HS
    go_wp2_with fail
    refine (A1.out _).mono ?_
    rintro e w' ⟨rfl, rfl⟩
    go_wp2_with fail
    refine (A2.out _).mono ?_
    rintro e w' ⟨rfl, rfl⟩
    go_wp2_with fail
    refine (A3.out _).mono ?_
    rintro e w' ⟨rfl, rfl⟩
    go_wp2_with fail
    refine (R0.out _).mono ?_
    rintro e w' ⟨rfl, rfl⟩
    go_wp2
    go_ret
    exact ⟨rfl, HB.out⟩
  by_cases i1 : inR b
  rotate_left
  · have A1 := Lib.hid (fun w => div_as (a := a) hb (divV_bad m8 (fun h => i1 h.2)) w); have A2 := Lib.hid (fun w => div_as (a := a) hb (divV_bad m9 (fun h => i1 h.2)) w); have A3 := Lib.hid (fun w => div_as (a := a) hb (divV_bad m10 (fun h => i1 h.2)) w)
    have R0 := Lib.hid (fun w => rin_as (decide_eq_true i0) w)
    have R1 := Lib.hid (fun w => rin_as (decide_eq_false i1) w)
    clear m8 m9 m10 i0 i1 hb
    go_enter Tryz.func6, Tryz.ntmps6
    go_wp2_with fail
    refine (HS.out).mono ?_
    rintro e w1 ⟨rfl, hb⟩
    have HB := Lib.hid hb
    clear hb HS
    go_wp2_with fail
    refine (A1.out _).mono ?_
    rintro e w' ⟨rfl, rfl⟩
    go_wp2_with fail
    refine (A2.out _).mono ?_
    rintro e w' ⟨rfl, rfl⟩
    go_wp2_with fail
    refine (A3.out _).mono ?_
    rintro e w' ⟨rfl, rfl⟩
    go_wp2_with fail
    refine (R0.out _).mono ?_
    rintro e w' ⟨rfl, rfl⟩
    go_wp2_with fail
    refine (R1.out _).mono ?_
    rintro e w' ⟨rfl, rfl⟩
    go_wp2
    go_ret
    exact ⟨rfl, HB.out⟩
  have R0 := Lib.hid (fun w => rin_as (decide_eq_true i0) w)
  have R1 := Lib.hid (fun w => rin_as (decide_eq_true i1) w)
  by_cases p : b ≤ 0
  · have A1 := Lib.hid (fun w => div_as hb (divV_neg m8 ⟨i0, i1⟩ p) w); have A2 := Lib.hid (fun w => div_as hb (divV_neg m9 ⟨i0, i1⟩ p) w); have A3 := Lib.hid (fun w => div_as hb (divV_neg m10 ⟨i0, i1⟩ p) w)
    have p' : decide (b ≤ 0) = true := decide_eq_true p
    clear m8 m9 m10 i0 i1 hb
    go_enter Tryz.func6, Tryz.ntmps6
    go_wp2_with fail
    refine (HS.out).mono ?_
    rintro e w1 ⟨rfl, hb⟩
    have HB := Lib.hid hb
    clear hb HS
    go_wp2_with fail
    refine (A1.out _).mono ?_
    rintro e w' ⟨rfl, rfl⟩
    go_wp2_with fail
    refine (A2.out _).mono ?_
    rintro e w' ⟨rfl, rfl⟩
    go_wp2_with fail
    refine (A3.out _).mono ?_
    rintro e w' ⟨rfl, rfl⟩
    go_wp2_with fail
    refine (R0.out _).mono ?_
    rintro e w' ⟨rfl, rfl⟩
    go_wp2_with fail
    refine (R1.out _).mono ?_
    rintro e w' ⟨rfl, rfl⟩
    go_wp2
    go_ret
    exact ⟨rfl, HB.out⟩
  have hp : 0 < b := by omega
  have p' : decide (b ≤ 0) = false := decide_eq_false p
  obtain ⟨F, R, hR, r0, r1, iF, f0, f1, e1, e2, e3, e4⟩ := quos i0 i1 hp
  have A1 := Lib.hid (fun w => div_as hb ((divV_pos m8 ⟨i0, i1⟩ hp).trans (by rw [e1])) w); have A2 := Lib.hid (fun w => div_as hb ((divV_pos m9 ⟨i0, i1⟩ hp).trans (by rw [e3])) w); have A3 := Lib.hid (fun w => div_as hb ((divV_pos m10 ⟨i0, i1⟩ hp).trans (by rw [e4])) w)
  have i2 : inR (-a) := ⟨by have := i0.2; omega, by have := i0.1; omega⟩
  have A4 := Lib.hid (fun w => div_as hb ((divV_pos m8 ⟨i2, i1⟩ hp).trans (by rw [e2])) w)
  have R2 := Lib.hid (fun w => rin_as (decide_eq_true iF) w)
  obtain ⟨X, hX⟩ : ∃ X, -a = X := ⟨_, rfl⟩
  rw [hX] at A4
  have w1 : IntKind.i64.wrap (-a) = X := by rw [← hX]; have := i0.1; have := i0.2; exact wrap_in (by omega) (by omega)
  obtain ⟨P, hP⟩ : ∃ P, F * b = P := ⟨_, rfl⟩
  rw [hP] at hR f0 f1
  have w2 : IntKind.i64.wrap (F * b) = P := by rw [hP]; exact wrap_in (by omega) (by omega)
  obtain ⟨g0, g1⟩ := i0; obtain ⟨g2, g3⟩ := i1; obtain ⟨g4, g5⟩ := iF
  have w3 : IntKind.i64.wrap (a - P) = R := by rw [← hR]; exact wrap_in (by omega) (by omega)
  obtain ⟨Y, hY⟩ : ∃ Y, 2 * R = Y := ⟨_, rfl⟩
  have w4 : IntKind.i64.wrap (2 * R) = Y := by rw [← hY]; exact wrap_in (by omega) (by omega)
  have d0 : decide (R < 0) = false := decide_eq_false (by omega)
  have d1 : decide (b ≤ R) = false := decide_eq_false (by omega)
  have z0 : (F == F) = true := by simp
  clear m8 m9 m10 hb e1 e2 e3 e4 i2 hX hP hR f0 f1 g0 g1 g2 g3 r0
  by_cases q0 : R = 0
  · rw [if_pos q0] at A4 A2
    have hY0 : ¬ b ≤ 2 * R := by omega
    rw [if_neg hY0] at A3
    have w5 : IntKind.i64.wrap (-(-F)) = F := by rw [Int.neg_neg]; exact wrap_in (by omega) (by omega)
    have w6 : IntKind.i64.wrap (F - F) = 0 := by rw [Int.sub_self]; rfl
    obtain ⟨Z, hZ⟩ : ∃ Z, -F = Z := ⟨_, rfl⟩
    rw [hZ] at w5 A4
    have y0 : decide (F < F) = false := decide_eq_false (by omega)
    have y1 : decide ((1:Int) < 0) = false := rfl
    have y2 : (F != F) = false := by simp
    have y3 : (R == 0) = true := by simp [q0]
    have y4 : decide (b ≤ Y) = false := decide_eq_false (by omega)
    clear q0 hZ hY hY0 g4 g5 hp r1 p
    go_enter Tryz.func6, Tryz.ntmps6
    go_wp2_with fail
    refine (HS.out).mono ?_
    rintro e w1 ⟨rfl, hb⟩
    have HB := Lib.hid hb
    clear hb HS
    go_wp2_with fail
    refine (A1.out _).mono ?_
    rintro e w' ⟨rfl, rfl⟩
    go_wp2_with fail
    refine (A2.out _).mono ?_
    rintro e w' ⟨rfl, rfl⟩
    go_wp2_with fail
    refine (A3.out _).mono ?_
    rintro e w' ⟨rfl, rfl⟩
    go_wp2_with fail
    refine (R0.out _).mono ?_
    rintro e w' ⟨rfl, rfl⟩
    go_wp2_with fail
    refine (R1.out _).mono ?_
    rintro e w' ⟨rfl, rfl⟩
    go_wp2_with fail
    refine (A4.out _).mono ?_
    rintro e w' ⟨rfl, rfl⟩
    go_wp2_with fail
    refine (R2.out _).mono ?_
    rintro e w' ⟨rfl, rfl⟩
    go_wp2
    go_ret
    exact ⟨rfl, HB.out⟩
  · rw [if_neg q0] at A4 A2
    obtain ⟨C, hC⟩ : ∃ C, F + 1 = C := ⟨_, rfl⟩
    obtain ⟨Z, hZ⟩ : ∃ Z, -F - 1 = Z := ⟨_, rfl⟩
    have w5 : IntKind.i64.wrap (-Z) = C := by rw [show -Z = C by omega]; exact wrap_in (by omega) (by omega)
    have w6 : IntKind.i64.wrap (C - F) = 1 := by rw [show C - F = 1 by omega]; rfl
    have y1 : decide ((1:Int) < 1) = false := rfl
    have y2 : (C != C) = false := by simp
    have y3 : (R == 0) = false := by simp [q0]
    have y5 : (C == F) = false := by simp; omega
    have y5' : (F == C) = false := by simp; omega
    have y6 : (C == C) = true := by simp
    rw [hZ] at A4
    rw [hC] at A2 A3
    have y7 : decide (C < F) = false := decide_eq_false (by omega)
    have y8 : decide (C < C) = false := decide_eq_false (by omega)
    have y9 : decide (F < F) = false := decide_eq_false (by omega)
    by_cases q1 : b ≤ 2 * R
    · rw [if_pos q1] at A3
      have y4 : decide (b ≤ Y) = true := decide_eq_true (by omega)
      clear q0 q1 hZ hY hC g4 g5 hp r1 p
      go_enter Tryz.func6, Tryz.ntmps6
      go_wp2_with fail
      refine (HS.out).mono ?_
      rintro e w1 ⟨rfl, hb⟩
      have HB := Lib.hid hb
      clear hb HS
      go_wp2_with fail
      refine (A1.out _).mono ?_
      rintro e w' ⟨rfl, rfl⟩
      go_wp2_with fail
      refine (A2.out _).mono ?_
      rintro e w' ⟨rfl, rfl⟩
      go_wp2_with fail
      refine (A3.out _).mono ?_
      rintro e w' ⟨rfl, rfl⟩
      go_wp2_with fail
      refine (R0.out _).mono ?_
      rintro e w' ⟨rfl, rfl⟩
      go_wp2_with fail
      refine (R1.out _).mono ?_
      rintro e w' ⟨rfl, rfl⟩
      go_wp2_with fail
      refine (A4.out _).mono ?_
      rintro e w' ⟨rfl, rfl⟩
      go_wp2_with fail
      refine (R2.out _).mono ?_
      rintro e w' ⟨rfl, rfl⟩
      go_wp2
      go_ret
      exact ⟨rfl, HB.out⟩
    · rw [if_neg q1] at A3
      have y4 : decide (b ≤ Y) = false := decide_eq_false (by omega)
      clear q0 q1 hZ hY hC g4 g5 hp r1 p
      go_enter Tryz.func6, Tryz.ntmps6
      go_wp2_with fail
      refine (HS.out).mono ?_
      rintro e w1 ⟨rfl, hb⟩
      have HB := Lib.hid hb
      clear hb HS
      go_wp2_with fail
      refine (A1.out _).mono ?_
      rintro e w' ⟨rfl, rfl⟩
      go_wp2_with fail
      refine (A2.out _).mono ?_
      rintro e w' ⟨rfl, rfl⟩
      go_wp2_with fail
      refine (A3.out _).mono ?_
      rintro e w' ⟨rfl, rfl⟩
      go_wp2_with fail
      refine (R0.out _).mono ?_
      rintro e w' ⟨rfl, rfl⟩
      go_wp2_with fail
      refine (R1.out _).mono ?_
      rintro e w' ⟨rfl, rfl⟩
      go_wp2_with fail
      refine (A4.out _).mono ?_
      rintro e w' ⟨rfl, rfl⟩
      go_wp2_with fail
      refine (R2.out _).mono ?_
      rintro e w' ⟨rfl, rfl⟩
      go_wp2
      go_ret
      exact ⟨rfl, HB.out⟩

set_option maxRecDepth 100000 in
theorem lifted (os : Os) (started : os.Started) (H : Type) (enc : TypeId × Value → H) :
    ReturnsInHanded {} Tryz.checked os 6 .any (fun w args => (Rows.moneyDivisionSpec.pre enc Tryz.prog Tryz.f6 [] false w args ∧ laidMetH Tryz.prog Rows.moneyDivisionRow.laid w) ∧ sizedMet enc Tryz.prog Tryz.f6 (OpenSpec.ofChange Rows.moneyDivisionSpec) false w args)
      (Rows.moneyDivisionSpec.post enc Tryz.prog Tryz.f6 false true false false) := by
  refine returnsInHanded_of_change_and (C := Tryz.checked) (X := fun w _ => laidMetH Tryz.prog Rows.moneyDivisionRow.laid w) (fun _ _ _ hh h => h.of_heap hh) own started (by kernel_rfl) Tryz.func6
    (ChangeSpec.witness_shaped (enc := enc) (C := Tryz.checked) (os := os) (X := fun w _ => laidMetH Tryz.prog Rows.moneyDivisionRow.laid w) false (World.laidAll Tryz.prog os laidAllOf) #[.int .i64 0, .int .i64 0] 8 (World.laidAll_os _ _ _) (World.shaped_of_ZipB (by kernel_rfl) (by kernel_rfl)) (by kernel_rfl) (by kernel_rfl) (by kernel_rfl) (laidAll_met os _)) ?_
  intro W base args ds gs before hval0 hW _ hsz0 hL _
  have hsz : (DataW.weightsEach Tryz.prog (Tryz.f6.params.toList ++ Rows.moneyDivisionSpec.plain.varTypes Tryz.prog) (ds ++ gs)).all (· ≤ reachBytes) = true := hsz0
  clear hsz0
  have hval : ∀ (j : Nat) t v, Tryz.f6.params[j]? = some t → args[j]? = some v → Value.okWide Tryz.prog W .any base t v := hval0
  clear hval0
  have hW' := hW
  obtain ⟨p, q, hA0, hV, rfl, hfz, hnd⟩ := hW
  have hA : DataW.TrodAll enc Tryz.prog W 0 (fun _ => true) true Tryz.f6.params.toList args.toList ds p := hA0
  rw [Tryz.params6] at hA hval hsz
  obtain ⟨v0, vs0, d0, ds0, p0, q0, hargs, rfl, rfl, h0, r0⟩ := trodAll_cons hA
  obtain ⟨v1, vs1, d1, ds1, p1, q1, rfl, rfl, rfl, h1, r1⟩ := trodAll_cons r0
  obtain ⟨rfl, rfl, rfl⟩ := trodAll_nil r1
  obtain rfl : args = #[v0, v1] := by cases args; simp_all
  obtain ⟨rfl, rfl⟩ := trodVars_none hV
  obtain ⟨a0, rfl, rfl, rfl, wf0⟩ := open_int Tryz.underlying3 (hval 0 3 v0 rfl rfl) h0
  have ru0 := i64_wf wf0
  obtain ⟨a1, rfl, rfl, rfl, wf1⟩ := open_int Tryz.underlying3 (hval 1 3 v1 rfl rfl) h1
  have ru1 := i64_wf wf1
  clear hA0
  refine (walk a0 a1 W (lk_of_laid hL) ru1).mono fun e W' ⟨he, hbw⟩ => ?_
  subst he
  refine ⟨_, rfl, post_law laidOut ?_ rfl rfl hW' rfl rfl rfl hbw⟩
  intro t ht
  rw [Tryz.params6] at ht
  have hm : t ∈ [3] := by
    simp at ht
    subst ht; simp
  have hall : ([3].all fun u => Tryz.prog.readableRec u && decide (u < Tryz.prog.types.size)) = true := by kernel_rfl
  have := List.all_eq_true.1 hall t hm
  simpa using this

theorem over : Rows.moneyDivisionRow.holds Tryz.pinned (OpenSpec.ofChange Rows.moneyDivisionSpec) :=
  OpenClaim.holds_of_wide 6 Tryz.f6 rfl rfl rfl rfl rfl rfl rfl ⟨rfl, rfl, rfl, rfl, rfl⟩ rfl rfl rfl rfl rfl (by kernel_rfl) Tryz.func6 (by kernel_rfl)
    (of_decide_eq_true (by kernel_rfl)) (by unfold Func.isWrapper; first | (rw [if_pos (by decide +kernel)]; kernel_rfl) | (rw [if_neg (by decide +kernel)]; exact ⟨rfl, rfl⟩))
    (fun os started H enc _ => lifted os started H enc)

/-- THE STATEMENT. -/
theorem proved : Rows.MoneyDivisionCardSaid :=
  Claim7.holds_tied_plain_at .later [] [.data, .data, .data, .data, .sentinel, .sentinel, .pinned] true (true, "d474b3da227b1f68ed449b6e949976c410548039ae0db78d056320657f151c7e") true
    over (fun _ h => by cases h) (by kernel_rfl) (fun _ h => by cases h) moneyDivision_row_tie rfl ⟨rfl, rfl⟩ (by kernel_rfl) rfl
    (fun f fn hf hfn => by
      obtain rfl : f = 6 := Option.some.inj ((show Tryz.prog.funcNamed "wagonpool/wagonpoollaw07.MoneyDivision" = some 6 by kernel_rfl).symm.trans hf) |>.symm
      obtain rfl : fn = Tryz.f6 := (Option.some.inj (Tryz.func6.symm.trans hfn)).symm
      exact ⟨by kernel_rfl, fun j t ht => by
        rw [Tryz.params6] at ht
        have hm : t ∈ [3] := by
          have := Array.mem_of_getElem? ht
          simp at this
          subst this; simp
        have hall : ([3].all fun u => !Tryz.prog.wantsStandIn u) = true := by kernel_rfl
        exact (show Tryz.prog.wantsStandIn t = false by simpa using List.all_eq_true.1 hall t hm)⟩)
    (by kernel_rfl)
#print axioms proved
end Go.Proofs.YtempnbchiofghaaGreatDoor.moneyDivision
