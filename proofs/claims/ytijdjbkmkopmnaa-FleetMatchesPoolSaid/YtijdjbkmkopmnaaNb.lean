/-
  Walks: valid places and lines of a network, both sides.
-/
import Derived.Test.YtijdjbkmkopmnaaNa
namespace Go.Proofs.Ytijdjbkmkopmnaa.Net
open Go.RowKit Go.Lib
set_option linter.unusedVariables false
set_option linter.unusedSimpArgs false

/-- Whether a place is valid. -/
def pOk (p : Pc) : Bool := rng 1 p.k 5 && rng 0 p.r 15 && (if p.k = 3 then rng 0 p.o 15 && decide (p.o ≠ p.r) else decide (p.o = -1))
/-- Whether a line is valid in a network of n places. -/
def eOk (n : Int) (x : Ed) : Bool := rng 0 x.a (n - 1) && rng 0 x.b (n - 1) && decide (x.a ≠ x.b) && rng 0 x.r 15 && rng 1 x.m 100000 && rng 0 x.k 10000
set_option maxRecDepth 100000 in
set_option maxHeartbeats 4000000 in
theorem vplace_any (k r o : Int) (w : World) : Calls Try.prog 75 #[.agg #[.int .i64 k, .int .i64 r, .int .i64 o]] w fun e w' => e = .returned (.bool (pOk ⟨k, r, o⟩)) ∧ Below w.heap.size w w' := by
  have HB := Lib.hid (ball (Below.refl w.heap.size w) (.cells #[.int .i64 k, .int .i64 r, .int .i64 o] 77))
  have hp : pOk ⟨k, r, o⟩ = (rng 1 k 5 && rng 0 r 15 && (if k = 3 then rng 0 o 15 && decide (o ≠ r) else decide (o = -1))) := rfl
  obtain ⟨B1, h1⟩ : ∃ B, rng 1 k 5 = B := ⟨_, rfl⟩
  obtain ⟨B2, h2⟩ : ∃ B, rng 0 r 15 = B := ⟨_, rfl⟩
  obtain ⟨B3, h3⟩ : ∃ B, rng 0 o 15 = B := ⟨_, rfl⟩
  have C1 := fun w => between_any 1 k 5 w
  have C2 := fun w => rail_any r w
  have C3 := fun w => rail_any o w
  rw [h1] at hp C1
  rw [h2] at hp C2
  rw [h3] at hp C3
  obtain ⟨R, hR⟩ : ∃ R, R = pOk ⟨k, r, o⟩ := ⟨_, rfl⟩
  rw [← hR]
  rw [← hR] at hp
  have HP := Lib.hid hp; have C1 := Lib.hid C1; have C2 := Lib.hid C2; have C3 := Lib.hid C3
  clear h1 h2 h3 hR hp
  cases B1 with
  | false =>
    have hr : R = false := by rw [HP.out]; rfl
    subst hr
    go_enter Try.func75, Try.ntmps75
    go_wp2_with fail
    refine (C1.out _).mono ?_
    rintro e w' ⟨rfl, rfl⟩
    go_wp2
    go_ret
    exact ⟨by rfl, HB.out⟩
  | true =>
    cases B2 with
    | false =>
      have hr : R = false := by rw [HP.out]; rfl
      subst hr
      go_enter Try.func75, Try.ntmps75
      go_wp2_with fail
      refine (C1.out _).mono ?_
      rintro e w' ⟨rfl, rfl⟩
      go_wp2_with fail
      refine (C2.out _).mono ?_
      rintro e w' ⟨rfl, rfl⟩
      go_wp2
      go_ret
      exact ⟨by rfl, HB.out⟩
    | true =>
      by_cases c3 : k = 3
      · subst c3
        cases B3 with
        | false =>
          have hr : R = false := by rw [HP.out]; rfl
          subst hr
          go_enter Try.func75, Try.ntmps75
          go_wp2_with fail
          refine (C1.out _).mono ?_
          rintro e w' ⟨rfl, rfl⟩
          go_wp2_with fail
          refine (C2.out _).mono ?_
          rintro e w' ⟨rfl, rfl⟩
          go_wp2_with fail
          refine (C3.out _).mono ?_
          rintro e w' ⟨rfl, rfl⟩
          go_wp2
          go_ret
          exact ⟨by rfl, HB.out⟩
        | true =>
          by_cases c4 : o = r
          · have hr : R = false := by rw [HP.out]; simp [c4]
            have d4 : (o != r) = false := by simp [c4]
            clear c4
            subst hr
            go_enter Try.func75, Try.ntmps75
            go_wp2_with fail
            refine (C1.out _).mono ?_
            rintro e w' ⟨rfl, rfl⟩
            go_wp2_with fail
            refine (C2.out _).mono ?_
            rintro e w' ⟨rfl, rfl⟩
            go_wp2_with fail
            refine (C3.out _).mono ?_
            rintro e w' ⟨rfl, rfl⟩
            go_wp2
            go_ret
            exact ⟨by rfl, HB.out⟩
          · have hr : R = true := by rw [HP.out]; simp [c4]
            have d4 : (o != r) = true := by simp [c4]
            clear c4
            subst hr
            go_enter Try.func75, Try.ntmps75
            go_wp2_with fail
            refine (C1.out _).mono ?_
            rintro e w' ⟨rfl, rfl⟩
            go_wp2_with fail
            refine (C2.out _).mono ?_
            rintro e w' ⟨rfl, rfl⟩
            go_wp2_with fail
            refine (C3.out _).mono ?_
            rintro e w' ⟨rfl, rfl⟩
            go_wp2
            go_ret
            exact ⟨by rfl, HB.out⟩
      · have d3 : (k == 3) = false := by simpa using c3
        by_cases c4 : o = -1
        · have hr : R = true := by rw [HP.out, if_neg c3]; simp [c4]
          subst c4
          subst hr
          go_enter Try.func75, Try.ntmps75
          go_wp2_with fail
          refine (C1.out _).mono ?_
          rintro e w' ⟨rfl, rfl⟩
          go_wp2_with fail
          refine (C2.out _).mono ?_
          rintro e w' ⟨rfl, rfl⟩
          go_wp2
          go_ret
          exact ⟨by rfl, HB.out⟩
        · have hr : R = false := by rw [HP.out, if_neg c3]; simp [c4]
          have d4 : (o == -1) = false := by simpa using c4
          clear c4
          subst hr
          go_enter Try.func75, Try.ntmps75
          go_wp2_with fail
          refine (C1.out _).mono ?_
          rintro e w' ⟨rfl, rfl⟩
          go_wp2_with fail
          refine (C2.out _).mono ?_
          rintro e w' ⟨rfl, rfl⟩
          go_wp2
          go_ret
          exact ⟨by rfl, HB.out⟩
set_option maxRecDepth 100000 in
set_option maxHeartbeats 4000000 in
theorem rplace_any (k r o : Int) (w : World) : Calls Try.prog 95 #[.agg #[.int .i64 k, .int .i64 r, .int .i64 o]] w fun e w' => e = .returned (.bool (pOk ⟨k, r, o⟩)) ∧ Below w.heap.size w w' := by
  have HB := Lib.hid (ball (Below.refl w.heap.size w) (.cells #[.int .i64 k, .int .i64 r, .int .i64 o] 77))
  have hp : pOk ⟨k, r, o⟩ = (rng 1 k 5 && rng 0 r 15 && (if k = 3 then rng 0 o 15 && decide (o ≠ r) else decide (o = -1))) := rfl
  obtain ⟨B1, h1⟩ : ∃ B, rng 1 k 5 = B := ⟨_, rfl⟩
  obtain ⟨B2, h2⟩ : ∃ B, rng 0 r 15 = B := ⟨_, rfl⟩
  obtain ⟨B3, h3⟩ : ∃ B, rng 0 o 15 = B := ⟨_, rfl⟩
  have C1 := fun w => rbetween_any 1 k 5 w
  have C2 := fun w => rbetween_any 0 r 15 w
  have C3 := fun w => rbetween_any 0 o 15 w
  rw [h1] at hp C1
  rw [h2] at hp C2
  rw [h3] at hp C3
  obtain ⟨R, hR⟩ : ∃ R, R = pOk ⟨k, r, o⟩ := ⟨_, rfl⟩
  rw [← hR]
  rw [← hR] at hp
  have HP := Lib.hid hp; have C1 := Lib.hid C1; have C2 := Lib.hid C2; have C3 := Lib.hid C3
  clear h1 h2 h3 hR hp
  cases B1 with
  | false =>
    have hr : R = false := by rw [HP.out]; rfl
    subst hr
    go_enter Try.func95, Try.ntmps95
    go_wp2_with fail
    refine (C1.out _).mono ?_
    rintro e w' ⟨rfl, rfl⟩
    go_wp2
    go_ret
    exact ⟨by rfl, HB.out⟩
  | true =>
    cases B2 with
    | false =>
      have hr : R = false := by rw [HP.out]; rfl
      subst hr
      go_enter Try.func95, Try.ntmps95
      go_wp2_with fail
      refine (C1.out _).mono ?_
      rintro e w' ⟨rfl, rfl⟩
      go_wp2_with fail
      refine (C2.out _).mono ?_
      rintro e w' ⟨rfl, rfl⟩
      go_wp2
      go_ret
      exact ⟨by rfl, HB.out⟩
    | true =>
      by_cases c3 : k = 3
      · subst c3
        cases B3 with
        | false =>
          have hr : R = false := by rw [HP.out]; rfl
          subst hr
          go_enter Try.func95, Try.ntmps95
          go_wp2_with fail
          refine (C1.out _).mono ?_
          rintro e w' ⟨rfl, rfl⟩
          go_wp2_with fail
          refine (C2.out _).mono ?_
          rintro e w' ⟨rfl, rfl⟩
          go_wp2_with fail
          refine (C3.out _).mono ?_
          rintro e w' ⟨rfl, rfl⟩
          go_wp2
          go_ret
          exact ⟨by rfl, HB.out⟩
        | true =>
          by_cases c4 : o = r
          · have hr : R = false := by rw [HP.out]; simp [c4]
            have d4 : (o != r) = false := by simp [c4]
            clear c4
            subst hr
            go_enter Try.func95, Try.ntmps95
            go_wp2_with fail
            refine (C1.out _).mono ?_
            rintro e w' ⟨rfl, rfl⟩
            go_wp2_with fail
            refine (C2.out _).mono ?_
            rintro e w' ⟨rfl, rfl⟩
            go_wp2_with fail
            refine (C3.out _).mono ?_
            rintro e w' ⟨rfl, rfl⟩
            go_wp2
            go_ret
            exact ⟨by rfl, HB.out⟩
          · have hr : R = true := by rw [HP.out]; simp [c4]
            have d4 : (o != r) = true := by simp [c4]
            clear c4
            subst hr
            go_enter Try.func95, Try.ntmps95
            go_wp2_with fail
            refine (C1.out _).mono ?_
            rintro e w' ⟨rfl, rfl⟩
            go_wp2_with fail
            refine (C2.out _).mono ?_
            rintro e w' ⟨rfl, rfl⟩
            go_wp2_with fail
            refine (C3.out _).mono ?_
            rintro e w' ⟨rfl, rfl⟩
            go_wp2
            go_ret
            exact ⟨by rfl, HB.out⟩
      · have d3 : (k == 3) = false := by simpa using c3
        by_cases c4 : o = -1
        · have hr : R = true := by rw [HP.out, if_neg c3]; simp [c4]
          subst c4
          subst hr
          go_enter Try.func95, Try.ntmps95
          go_wp2_with fail
          refine (C1.out _).mono ?_
          rintro e w' ⟨rfl, rfl⟩
          go_wp2_with fail
          refine (C2.out _).mono ?_
          rintro e w' ⟨rfl, rfl⟩
          go_wp2
          go_ret
          exact ⟨by rfl, HB.out⟩
        · have hr : R = false := by rw [HP.out, if_neg c3]; simp [c4]
          have d4 : (o == -1) = false := by simpa using c4
          clear c4
          subst hr
          go_enter Try.func95, Try.ntmps95
          go_wp2_with fail
          refine (C1.out _).mono ?_
          rintro e w' ⟨rfl, rfl⟩
          go_wp2_with fail
          refine (C2.out _).mono ?_
          rintro e w' ⟨rfl, rfl⟩
          go_wp2
          go_ret
          exact ⟨by rfl, HB.out⟩

set_option maxRecDepth 100000 in
set_option maxHeartbeats 4000000 in
theorem rline_any (a b r m k n : Int) (hn : 0 ≤ n ∧ n ≤ 70368744177664) (w : World) : Calls Try.prog 96 #[.agg #[.int .i64 a, .int .i64 b, .int .i64 r, .int .i64 m, .int .i64 k], .int .i64 n] w fun e w' => e = .returned (.bool (eOk n ⟨a, b, r, m, k⟩)) ∧ Below w.heap.size w w' := by
  have HB := Lib.hid (ball (Below.refl w.heap.size w) (.cells #[.int .i64 a, .int .i64 b, .int .i64 r, .int .i64 m, .int .i64 k] 120))
  have hw : IntKind.i64.wrap (n - 1) = n - 1 := wrap_in (by omega) (by omega)
  have hp : eOk n ⟨a, b, r, m, k⟩ = (rng 0 a (n - 1) && rng 0 b (n - 1) && decide (a ≠ b) && rng 0 r 15 && rng 1 m 100000 && rng 0 k 10000) := rfl
  obtain ⟨B1, hB1⟩ : ∃ B, rng 0 a (n - 1) = B := ⟨_, rfl⟩
  obtain ⟨B2, hB2⟩ : ∃ B, rng 0 b (n - 1) = B := ⟨_, rfl⟩
  obtain ⟨B3, hB3⟩ : ∃ B, (a != b) = B := ⟨_, rfl⟩
  have hd3 : decide (a ≠ b) = B3 := by rw [← hB3]; by_cases h : a = b <;> simp [h]
  obtain ⟨B4, hB4⟩ : ∃ B, rng 0 r 15 = B := ⟨_, rfl⟩
  obtain ⟨B5, hB5⟩ : ∃ B, rng 1 m 100000 = B := ⟨_, rfl⟩
  obtain ⟨B6, hB6⟩ : ∃ B, rng 0 k 10000 = B := ⟨_, rfl⟩
  have C1 := fun w => rbetween_any 0 a (n - 1) w
  rw [hB1] at hp C1
  have C2 := fun w => rbetween_any 0 b (n - 1) w
  rw [hB2] at hp C2
  rw [hd3] at hp
  have C4 := fun w => rbetween_any 0 r 15 w
  rw [hB4] at hp C4
  have C5 := fun w => rbetween_any 1 m 100000 w
  rw [hB5] at hp C5
  have C6 := fun w => rbetween_any 0 k 10000 w
  rw [hB6] at hp C6
  obtain ⟨R, hR⟩ : ∃ R, R = eOk n ⟨a, b, r, m, k⟩ := ⟨_, rfl⟩
  rw [← hR]
  rw [← hR] at hp
  have HP := Lib.hid hp
  have C1 := Lib.hid C1
  have C2 := Lib.hid C2
  have C4 := Lib.hid C4
  have C5 := Lib.hid C5
  have C6 := Lib.hid C6
  clear hB1 hB2 hd3 hB4 hB5 hB6 hR hp hn
  cases B1 with
  | false =>
    have hr : R = false := by rw [HP.out]; rfl
    subst hr
    go_enter Try.func96, Try.ntmps96
    go_wp2_with fail
    refine (C1.out _).mono ?_
    rintro e w' ⟨rfl, rfl⟩
    go_wp2
    go_ret
    exact ⟨by rfl, HB.out⟩
  | true =>
    cases B2 with
    | false =>
      have hr : R = false := by rw [HP.out]; rfl
      subst hr
      go_enter Try.func96, Try.ntmps96
      go_wp2_with fail
      refine (C1.out _).mono ?_
      rintro e w' ⟨rfl, rfl⟩
      go_wp2_with fail
      refine (C2.out _).mono ?_
      rintro e w' ⟨rfl, rfl⟩
      go_wp2
      go_ret
      exact ⟨by rfl, HB.out⟩
    | true =>
      cases B3 with
      | false =>
        have hr : R = false := by rw [HP.out]; rfl
        subst hr
        go_enter Try.func96, Try.ntmps96
        go_wp2_with fail
        refine (C1.out _).mono ?_
        rintro e w' ⟨rfl, rfl⟩
        go_wp2_with fail
        refine (C2.out _).mono ?_
        rintro e w' ⟨rfl, rfl⟩
        go_wp2
        go_ret
        exact ⟨by rfl, HB.out⟩
      | true =>
        cases B4 with
        | false =>
          have hr : R = false := by rw [HP.out]; rfl
          subst hr
          go_enter Try.func96, Try.ntmps96
          go_wp2_with fail
          refine (C1.out _).mono ?_
          rintro e w' ⟨rfl, rfl⟩
          go_wp2_with fail
          refine (C2.out _).mono ?_
          rintro e w' ⟨rfl, rfl⟩
          go_wp2_with fail
          refine (C4.out _).mono ?_
          rintro e w' ⟨rfl, rfl⟩
          go_wp2
          go_ret
          exact ⟨by rfl, HB.out⟩
        | true =>
          cases B5 with
          | false =>
            have hr : R = false := by rw [HP.out]; rfl
            subst hr
            go_enter Try.func96, Try.ntmps96
            go_wp2_with fail
            refine (C1.out _).mono ?_
            rintro e w' ⟨rfl, rfl⟩
            go_wp2_with fail
            refine (C2.out _).mono ?_
            rintro e w' ⟨rfl, rfl⟩
            go_wp2_with fail
            refine (C4.out _).mono ?_
            rintro e w' ⟨rfl, rfl⟩
            go_wp2_with fail
            refine (C5.out _).mono ?_
            rintro e w' ⟨rfl, rfl⟩
            go_wp2
            go_ret
            exact ⟨by rfl, HB.out⟩
          | true =>
            cases B6 with
            | false =>
              have hr : R = false := by rw [HP.out]; rfl
              subst hr
              go_enter Try.func96, Try.ntmps96
              go_wp2_with fail
              refine (C1.out _).mono ?_
              rintro e w' ⟨rfl, rfl⟩
              go_wp2_with fail
              refine (C2.out _).mono ?_
              rintro e w' ⟨rfl, rfl⟩
              go_wp2_with fail
              refine (C4.out _).mono ?_
              rintro e w' ⟨rfl, rfl⟩
              go_wp2_with fail
              refine (C5.out _).mono ?_
              rintro e w' ⟨rfl, rfl⟩
              go_wp2_with fail
              refine (C6.out _).mono ?_
              rintro e w' ⟨rfl, rfl⟩
              go_wp2
              go_ret
              exact ⟨by rfl, HB.out⟩
            | true =>
              have hr : R = true := by rw [HP.out]; rfl
              subst hr
              go_enter Try.func96, Try.ntmps96
              go_wp2_with fail
              refine (C1.out _).mono ?_
              rintro e w' ⟨rfl, rfl⟩
              go_wp2_with fail
              refine (C2.out _).mono ?_
              rintro e w' ⟨rfl, rfl⟩
              go_wp2_with fail
              refine (C4.out _).mono ?_
              rintro e w' ⟨rfl, rfl⟩
              go_wp2_with fail
              refine (C5.out _).mono ?_
              rintro e w' ⟨rfl, rfl⟩
              go_wp2_with fail
              refine (C6.out _).mono ?_
              rintro e w' ⟨rfl, rfl⟩
              go_wp2
              go_ret
              exact ⟨by rfl, HB.out⟩

/-- A network's box and a line's box. -/
structure Two (w : World) (B : Nat) (c0 c1 : Array Value) (w' : World) : Prop where
  b0 : w'.heap[B]? = some (.cells c0 25 (0, 0))
  b1 : w'.heap[B + 1]? = some (.cells c1 45 (0, 0))
set_option maxRecDepth 100000 in
set_option maxHeartbeats 4000000 in
theorem vline_any {V : Value} {ps : List Pc} {es : List Ed} {w : World} (h : Nw w V ps es) (a b r m k : Int) :
    Calls Try.prog 76 #[V, .agg #[.int .i64 a, .int .i64 b, .int .i64 r, .int .i64 m, .int .i64 k]] w fun e w' => e = .returned (.bool (eOk ps.length ⟨a, b, r, m, k⟩)) ∧ Below w.heap.size w w' := by
  obtain ⟨va, vc, vb, vd, rfl, h1, h2⟩ := h.shape
  obtain ⟨n, hn⟩ : ∃ n : Int, n = ps.length := ⟨_, rfl⟩
  obtain ⟨pn, hpn⟩ : ∃ pn, pn = ps.length := ⟨_, rfl⟩
  obtain ⟨en, hen⟩ : ∃ en, en = es.length := ⟨_, rfl⟩
  have hI : ∀ {w : World}, Nw w (.agg #[.slice va ps.length vc, .slice vb es.length vd]) ps es → ∀ p : Int, Calls Try.prog 100 #[.agg #[.slice va ps.length vc, .slice vb es.length vd], .int .i64 p] w fun e w' => e = .returned (.bool (rng 0 p (ps.length - 1))) ∧ Below w.heap.size w w' := fun h p => isPlace_any h p
  rw [← hn]
  rw [← hpn, ← hen] at hI h ⊢
  have hI : ∀ {w : World}, Nw w (.agg #[.slice va pn vc, .slice vb en vd]) ps es → ∀ p : Int, Calls Try.prog 100 #[.agg #[.slice va pn vc, .slice vb en vd], .int .i64 p] w fun e w' => e = .returned (.bool (rng 0 p (n - 1))) ∧ Below w.heap.size w w' := by rw [hn, ← hpn]; exact hI
  obtain ⟨W, hW⟩ : ∃ W, W = (w.alloc (.cells #[.slice va pn vc, .slice vb en vd] 44)).alloc (.cells #[.int .i64 a, .int .i64 b, .int .i64 r, .int .i64 m, .int .i64 k] 120) := ⟨_, rfl⟩
  have HB : Hid (Below w.heap.size w W) := Lib.hid (by rw [hW]; exact ball (ball (Below.refl w.heap.size w) _) _)
  have e0 : W.heap[w.heap.size]? = some (.cells #[.slice va pn vc, .slice vb en vd] 44 (0, 0)) := by
    rw [hW]; exact bal (bnew _ _) _
  have e1 : W.heap[w.heap.size + 1]? = some (.cells #[.int .i64 a, .int .i64 b, .int .i64 r, .int .i64 m, .int .i64 k] 120 (0, 0)) := by
    rw [hW]; have := heap_alloc_new (w.alloc (.cells #[.slice va pn vc, .slice vb en vd] 44)) (.cells #[.int .i64 a, .int .i64 b, .int .i64 r, .int .i64 m, .int .i64 k] 120); rw [World.size_alloc] at this; exact this
  have hs0 : w.heap.size < W.heap.size ∧ w.heap.size + 1 < W.heap.size := by rw [hW, World.size_alloc, World.size_alloc]; omega
  have hp : eOk n ⟨a, b, r, m, k⟩ = (rng 0 a (n - 1) && rng 0 b (n - 1) && decide (a ≠ b) && rng 0 r 15 && rng 1 m 100000 && rng 0 k 10000) := rfl
  obtain ⟨B1, hB1⟩ : ∃ B, rng 0 a (n - 1) = B := ⟨_, rfl⟩
  obtain ⟨B2, hB2⟩ : ∃ B, rng 0 b (n - 1) = B := ⟨_, rfl⟩
  obtain ⟨B3, hB3⟩ : ∃ B, (a != b) = B := ⟨_, rfl⟩
  have hd3 : decide (a ≠ b) = B3 := by rw [← hB3]; by_cases h : a = b <;> simp [h]
  obtain ⟨B4, hB4⟩ : ∃ B, rng 0 r 15 = B := ⟨_, rfl⟩
  obtain ⟨B5, hB5⟩ : ∃ B, rng 1 m 100000 = B := ⟨_, rfl⟩
  obtain ⟨B6, hB6⟩ : ∃ B, rng 0 k 10000 = B := ⟨_, rfl⟩
  rw [hB1] at hp
  rw [hB2] at hp
  rw [hd3] at hp
  have C4 := fun w => rail_any r w
  rw [hB4] at hp C4
  have C5 := fun w => between_any 1 m 100000 w
  rw [hB5] at hp C5
  have C6 := fun w => between_any 0 k 10000 w
  rw [hB6] at hp C6
  have C1 := Lib.hid (hI (h.on HB.out) a)
  rw [hB1] at C1
  obtain ⟨R, hR⟩ : ∃ R, R = eOk n ⟨a, b, r, m, k⟩ := ⟨_, rfl⟩
  rw [← hR]
  rw [← hR] at hp
  have HP := Lib.hid hp
  have C4 := Lib.hid C4
  have C5 := Lib.hid C5
  have C6 := Lib.hid C6
  have HI := Lib.hid (fun (w1 : World) (hb : Below W.heap.size W w1) => hI (h.on (btrans HB.out hb)) b)
  rw [hB2] at HI
  have HE0 := Lib.hid e0; have HE1 := Lib.hid e1; have HS := Lib.hid hs0
  clear hB1 hB2 hd3 hB4 hB5 hB6 hR hp hI h h1 h2 hn hpn hen e0 e1 hs0
  cases B1 with
  | false =>
    have hr : R = false := by rw [HP.out]; rfl
    subst hr
    go_enter Try.func76, Try.ntmps76
    go_wp2_with fail
    rw [← hW]
    refine C1.out.mono ?_
    rintro e w1 ⟨rfl, hb1⟩
    have HB1 := Lib.hid (btrans HB.out hb1)
    obtain ⟨d0, d0'⟩ := box2 (bon HE0.out hb1)
    have d1 : w1.heap[w.heap.size + 1]? = some (.cells #[.int .i64 a, .int .i64 b, .int .i64 r, .int .i64 m, .int .i64 k] 120 (0, 0)) := bon HE1.out hb1
    have D1 := Lib.hid d1
    obtain ⟨x0, x1, x2, x3, x4⟩ := box5 d1
    clear d1
    have C2 := Lib.hid (HI.out w1 hb1)
    clear hb1
    go_wp2
    go_ret
    exact ⟨by rfl, HB1.out⟩
  | true =>
    cases B2 with
    | false =>
      have hr : R = false := by rw [HP.out]; rfl
      subst hr
      go_enter Try.func76, Try.ntmps76
      go_wp2_with fail
      rw [← hW]
      refine C1.out.mono ?_
      rintro e w1 ⟨rfl, hb1⟩
      have HB1 := Lib.hid (btrans HB.out hb1)
      obtain ⟨d0, d0'⟩ := box2 (bon HE0.out hb1)
      have d1 : w1.heap[w.heap.size + 1]? = some (.cells #[.int .i64 a, .int .i64 b, .int .i64 r, .int .i64 m, .int .i64 k] 120 (0, 0)) := bon HE1.out hb1
      have D1 := Lib.hid d1
      obtain ⟨x0, x1, x2, x3, x4⟩ := box5 d1
      clear d1
      have C2 := Lib.hid (HI.out w1 hb1)
      clear hb1
      go_wp2_with fail
      refine C2.out.mono ?_
      rintro e w2 ⟨rfl, hb2⟩
      replace HB1 := Lib.hid (btrans HB1.out hb2)
      obtain ⟨y0, y1, y2, y3, y4⟩ := box5 (bon D1.out hb2)
      clear hb2 d0 d0' D1 x0 x1 x2 x3 x4
      go_wp2
      go_ret
      exact ⟨by rfl, HB1.out⟩
    | true =>
      cases B3 with
      | false =>
        have hr : R = false := by rw [HP.out]; rfl
        subst hr
        go_enter Try.func76, Try.ntmps76
        go_wp2_with fail
        rw [← hW]
        refine C1.out.mono ?_
        rintro e w1 ⟨rfl, hb1⟩
        have HB1 := Lib.hid (btrans HB.out hb1)
        obtain ⟨d0, d0'⟩ := box2 (bon HE0.out hb1)
        have d1 : w1.heap[w.heap.size + 1]? = some (.cells #[.int .i64 a, .int .i64 b, .int .i64 r, .int .i64 m, .int .i64 k] 120 (0, 0)) := bon HE1.out hb1
        have D1 := Lib.hid d1
        obtain ⟨x0, x1, x2, x3, x4⟩ := box5 d1
        clear d1
        have C2 := Lib.hid (HI.out w1 hb1)
        clear hb1
        go_wp2_with fail
        refine C2.out.mono ?_
        rintro e w2 ⟨rfl, hb2⟩
        replace HB1 := Lib.hid (btrans HB1.out hb2)
        obtain ⟨y0, y1, y2, y3, y4⟩ := box5 (bon D1.out hb2)
        clear hb2 d0 d0' D1 x0 x1 x2 x3 x4
        go_wp2
        go_ret
        exact ⟨by rfl, HB1.out⟩
      | true =>
        cases B4 with
        | false =>
          have hr : R = false := by rw [HP.out]; rfl
          subst hr
          go_enter Try.func76, Try.ntmps76
          go_wp2_with fail
          rw [← hW]
          refine C1.out.mono ?_
          rintro e w1 ⟨rfl, hb1⟩
          have HB1 := Lib.hid (btrans HB.out hb1)
          obtain ⟨d0, d0'⟩ := box2 (bon HE0.out hb1)
          have d1 : w1.heap[w.heap.size + 1]? = some (.cells #[.int .i64 a, .int .i64 b, .int .i64 r, .int .i64 m, .int .i64 k] 120 (0, 0)) := bon HE1.out hb1
          have D1 := Lib.hid d1
          obtain ⟨x0, x1, x2, x3, x4⟩ := box5 d1
          clear d1
          have C2 := Lib.hid (HI.out w1 hb1)
          clear hb1
          go_wp2_with fail
          refine C2.out.mono ?_
          rintro e w2 ⟨rfl, hb2⟩
          replace HB1 := Lib.hid (btrans HB1.out hb2)
          obtain ⟨y0, y1, y2, y3, y4⟩ := box5 (bon D1.out hb2)
          clear hb2 d0 d0' D1 x0 x1 x2 x3 x4
          go_wp2_with fail
          refine (C4.out _).mono ?_
          rintro e w' ⟨rfl, rfl⟩
          go_wp2
          go_ret
          exact ⟨by rfl, HB1.out⟩
        | true =>
          cases B5 with
          | false =>
            have hr : R = false := by rw [HP.out]; rfl
            subst hr
            go_enter Try.func76, Try.ntmps76
            go_wp2_with fail
            rw [← hW]
            refine C1.out.mono ?_
            rintro e w1 ⟨rfl, hb1⟩
            have HB1 := Lib.hid (btrans HB.out hb1)
            obtain ⟨d0, d0'⟩ := box2 (bon HE0.out hb1)
            have d1 : w1.heap[w.heap.size + 1]? = some (.cells #[.int .i64 a, .int .i64 b, .int .i64 r, .int .i64 m, .int .i64 k] 120 (0, 0)) := bon HE1.out hb1
            have D1 := Lib.hid d1
            obtain ⟨x0, x1, x2, x3, x4⟩ := box5 d1
            clear d1
            have C2 := Lib.hid (HI.out w1 hb1)
            clear hb1
            go_wp2_with fail
            refine C2.out.mono ?_
            rintro e w2 ⟨rfl, hb2⟩
            replace HB1 := Lib.hid (btrans HB1.out hb2)
            obtain ⟨y0, y1, y2, y3, y4⟩ := box5 (bon D1.out hb2)
            clear hb2 d0 d0' D1 x0 x1 x2 x3 x4
            go_wp2_with fail
            refine (C4.out _).mono ?_
            rintro e w' ⟨rfl, rfl⟩
            go_wp2_with fail
            refine (C5.out _).mono ?_
            rintro e w' ⟨rfl, rfl⟩
            go_wp2
            go_ret
            exact ⟨by rfl, HB1.out⟩
          | true =>
            cases B6 with
            | false =>
              have hr : R = false := by rw [HP.out]; rfl
              subst hr
              go_enter Try.func76, Try.ntmps76
              go_wp2_with fail
              rw [← hW]
              refine C1.out.mono ?_
              rintro e w1 ⟨rfl, hb1⟩
              have HB1 := Lib.hid (btrans HB.out hb1)
              obtain ⟨d0, d0'⟩ := box2 (bon HE0.out hb1)
              have d1 : w1.heap[w.heap.size + 1]? = some (.cells #[.int .i64 a, .int .i64 b, .int .i64 r, .int .i64 m, .int .i64 k] 120 (0, 0)) := bon HE1.out hb1
              have D1 := Lib.hid d1
              obtain ⟨x0, x1, x2, x3, x4⟩ := box5 d1
              clear d1
              have C2 := Lib.hid (HI.out w1 hb1)
              clear hb1
              go_wp2_with fail
              refine C2.out.mono ?_
              rintro e w2 ⟨rfl, hb2⟩
              replace HB1 := Lib.hid (btrans HB1.out hb2)
              obtain ⟨y0, y1, y2, y3, y4⟩ := box5 (bon D1.out hb2)
              clear hb2 d0 d0' D1 x0 x1 x2 x3 x4
              go_wp2_with fail
              refine (C4.out _).mono ?_
              rintro e w' ⟨rfl, rfl⟩
              go_wp2_with fail
              refine (C5.out _).mono ?_
              rintro e w' ⟨rfl, rfl⟩
              go_wp2_with fail
              refine (C6.out _).mono ?_
              rintro e w' ⟨rfl, rfl⟩
              go_wp2
              go_ret
              exact ⟨by rfl, HB1.out⟩
            | true =>
              have hr : R = true := by rw [HP.out]; rfl
              subst hr
              go_enter Try.func76, Try.ntmps76
              go_wp2_with fail
              rw [← hW]
              refine C1.out.mono ?_
              rintro e w1 ⟨rfl, hb1⟩
              have HB1 := Lib.hid (btrans HB.out hb1)
              obtain ⟨d0, d0'⟩ := box2 (bon HE0.out hb1)
              have d1 : w1.heap[w.heap.size + 1]? = some (.cells #[.int .i64 a, .int .i64 b, .int .i64 r, .int .i64 m, .int .i64 k] 120 (0, 0)) := bon HE1.out hb1
              have D1 := Lib.hid d1
              obtain ⟨x0, x1, x2, x3, x4⟩ := box5 d1
              clear d1
              have C2 := Lib.hid (HI.out w1 hb1)
              clear hb1
              go_wp2_with fail
              refine C2.out.mono ?_
              rintro e w2 ⟨rfl, hb2⟩
              replace HB1 := Lib.hid (btrans HB1.out hb2)
              obtain ⟨y0, y1, y2, y3, y4⟩ := box5 (bon D1.out hb2)
              clear hb2 d0 d0' D1 x0 x1 x2 x3 x4
              go_wp2_with fail
              refine (C4.out _).mono ?_
              rintro e w' ⟨rfl, rfl⟩
              go_wp2_with fail
              refine (C5.out _).mono ?_
              rintro e w' ⟨rfl, rfl⟩
              go_wp2_with fail
              refine (C6.out _).mono ?_
              rintro e w' ⟨rfl, rfl⟩
              go_wp2
              go_ret
              exact ⟨by rfl, HB1.out⟩

end Go.Proofs.Ytijdjbkmkopmnaa.Net
