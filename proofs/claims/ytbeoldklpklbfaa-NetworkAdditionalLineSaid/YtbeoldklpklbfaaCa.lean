/-
  Walks: ranges of numbers, valid places and lines, both sides.
-/
import Derived.Test.YtbeoldklpklbfaaBa
namespace Go.Proofs.Ytbeoldklpklbfaa
open Go.RowKit
set_option linter.unusedVariables false
set_option linter.unusedSimpArgs false

/-- Whether y lies from x to z. -/
def rng (x y z : Int) : Bool := decide (x ≤ y ∧ y ≤ z)
theorem rng_true {x y z : Int} (h : x ≤ y ∧ y ≤ z) : rng x y z = true := decide_eq_true h
theorem rng_false {x y z : Int} (h : ¬ (x ≤ y ∧ y ≤ z)) : rng x y z = false := decide_eq_false h
theorem rng_iff {x y z : Int} : rng x y z = true ↔ x ≤ y ∧ y ≤ z := decide_eq_true_iff
theorem between_any (x y z : Int) (w : World) : Calls Try.prog 43 #[.int .i64 x, .int .i64 y, .int .i64 z] w fun e w' => e = .returned (.bool (rng x y z)) ∧ w = w' := by
  by_cases h1 : x ≤ y
  · by_cases h2 : y ≤ z
    · have d1 : decide (x ≤ y) = true := decide_eq_true h1
      have d2 : decide (y ≤ z) = true := decide_eq_true h2
      rw [rng_true (And.intro h1 h2)]
      go_enter Try.func43, Try.ntmps43
      go_wp2
      go_ret
      exact ⟨rfl, rfl⟩
    · have d1 : decide (x ≤ y) = true := decide_eq_true h1
      have d2 : decide (y ≤ z) = false := decide_eq_false h2
      rw [rng_false (fun h => h2 h.2)]
      go_enter Try.func43, Try.ntmps43
      go_wp2
      go_ret
      exact ⟨rfl, rfl⟩
  · have d1 : decide (x ≤ y) = false := decide_eq_false h1
    rw [rng_false (fun h => h1 h.1)]
    go_enter Try.func43, Try.ntmps43
    go_wp2
    go_ret
    exact ⟨rfl, rfl⟩
theorem rbetween_any (x y z : Int) (w : World) : Calls Try.prog 42 #[.int .i64 y, .int .i64 x, .int .i64 z] w fun e w' => e = .returned (.bool (rng x y z)) ∧ w = w' := by
  by_cases h1 : x ≤ y
  · by_cases h2 : y ≤ z
    · have d1 : decide (x ≤ y) = true := decide_eq_true h1
      have d2 : decide (y ≤ z) = true := decide_eq_true h2
      rw [rng_true (And.intro h1 h2)]
      go_enter Try.func42, Try.ntmps42
      go_wp2
      go_ret
      exact ⟨rfl, rfl⟩
    · have d1 : decide (x ≤ y) = true := decide_eq_true h1
      have d2 : decide (y ≤ z) = false := decide_eq_false h2
      rw [rng_false (fun h => h2 h.2)]
      go_enter Try.func42, Try.ntmps42
      go_wp2
      go_ret
      exact ⟨rfl, rfl⟩
  · have d1 : decide (x ≤ y) = false := decide_eq_false h1
    rw [rng_false (fun h => h1 h.1)]
    go_enter Try.func42, Try.ntmps42
    go_wp2
    go_ret
    exact ⟨rfl, rfl⟩
theorem rail_any (x : Int) (w : World) : Calls Try.prog 44 #[.int .i64 x] w fun e w' => e = .returned (.bool (rng 0 x 15)) ∧ w = w' := by
  have Hc := Lib.hid (between_any 0 x 15 w)
  go_enter Try.func44, Try.ntmps44
  go_wp2_with fail
  refine Hc.out.mono ?_
  rintro e w' ⟨rfl, rfl⟩
  go_wp2
  go_ret
  exact ⟨rfl, rfl⟩
theorem isPlace_any {V : Value} {ps : List Pc} {es : List Ed} {w : World} (h : Nw w V ps es) (p : Int) :
    Calls Try.prog 45 #[V, .int .i64 p] w fun e w' => e = .returned (.bool (rng 0 p (ps.length - 1))) ∧ Below w.heap.size w w' := by
  obtain ⟨a, c, b, d, rfl, h1, h2⟩ := h.shape
  have hl := h1.1
  obtain ⟨n, hn⟩ : ∃ n, n = ps.length := ⟨_, rfl⟩
  obtain ⟨m, hm⟩ : ∃ m, m = es.length := ⟨_, rfl⟩
  rw [← hn] at hl ⊢
  rw [← hm]
  have hw : IntKind.i64.wrap ((n : Int) - 1) = (n : Int) - 1 := wrap_in (by omega) (by omega)
  have Hc := Lib.hid (between_any 0 p ((n : Int) - 1) (w.alloc (.cells #[.slice a n c, .slice b m d] 25)))
  have HB := Lib.hid (ball (Below.refl w.heap.size w) (.cells #[.slice a n c, .slice b m d] 25))
  clear h h1 h2 hn hm
  go_enter Try.func45, Try.ntmps45
  go_wp2_with fail
  refine Hc.out.mono ?_
  rintro e w' ⟨rfl, rfl⟩
  go_wp2
  go_ret
  exact ⟨by first | rfl | rw [hw], HB.out⟩
theorem exists_any {V : Value} {ps : List Pc} {es : List Ed} {w : World} (h : Nw w V ps es) (p : Int) :
    Calls Try.prog 28 #[V, .int .i64 p] w fun e w' => e = .returned (.bool (rng 0 p (ps.length - 1))) ∧ Below w.heap.size w w' := by
  obtain ⟨a, c, b, d, rfl, h1, h2⟩ := h.shape
  have hl := h1.1
  obtain ⟨n, hn⟩ : ∃ n, n = ps.length := ⟨_, rfl⟩
  obtain ⟨m, hm⟩ : ∃ m, m = es.length := ⟨_, rfl⟩
  rw [← hn] at hl ⊢
  rw [← hm]
  have hw : IntKind.i64.wrap ((n : Int) - 1) = (n : Int) - 1 := wrap_in (by omega) (by omega)
  have Hc := Lib.hid (rbetween_any 0 p ((n : Int) - 1) (w.alloc (.cells #[.slice a n c, .slice b m d] 25)))
  have HB := Lib.hid (ball (Below.refl w.heap.size w) (.cells #[.slice a n c, .slice b m d] 25))
  clear h h1 h2 hn hm
  go_enter Try.func28, Try.ntmps28
  go_wp2_with fail
  refine Hc.out.mono ?_
  rintro e w' ⟨rfl, rfl⟩
  go_wp2
  go_ret
  exact ⟨by first | rfl | rw [hw], HB.out⟩
/-- Whether a network is small. -/
def smB (n m : Nat) : Bool := decide (n ≤ 12 ∧ m ≤ 40)
theorem small_any {V : Value} {ps : List Pc} {es : List Ed} {w : World} (h : Nw w V ps es) :
    Calls Try.prog 20 #[V] w fun e w' => e = .returned (.bool (smB ps.length es.length)) ∧ Below w.heap.size w w' := by
  obtain ⟨a, c, b, d, rfl, h1, h2⟩ := h.shape
  obtain ⟨n, hn⟩ : ∃ n, n = ps.length := ⟨_, rfl⟩
  obtain ⟨m, hm⟩ : ∃ m, m = es.length := ⟨_, rfl⟩
  rw [← hn, ← hm]
  have HB := Lib.hid (ball (Below.refl w.heap.size w) (.cells #[.slice a n c, .slice b m d] 25))
  clear h h1 h2 hn hm
  by_cases c1 : n ≤ 12
  · by_cases c2 : m ≤ 40
    · have d1 : decide ((n : Int) ≤ 12) = true := decide_eq_true (by omega)
      have d2 : decide ((m : Int) ≤ 40) = true := decide_eq_true (by omega)
      rw [show smB n m = true from decide_eq_true (And.intro c1 c2)]
      go_enter Try.func20, Try.ntmps20
      go_wp2
      go_ret
      exact ⟨rfl, HB.out⟩
    · have d1 : decide ((n : Int) ≤ 12) = true := decide_eq_true (by omega)
      have d2 : decide ((m : Int) ≤ 40) = false := decide_eq_false (by omega)
      rw [show smB n m = false from decide_eq_false (fun h => c2 h.2)]
      go_enter Try.func20, Try.ntmps20
      go_wp2
      go_ret
      exact ⟨rfl, HB.out⟩
  · have d1 : decide ((n : Int) ≤ 12) = false := decide_eq_false (by omega)
    rw [show smB n m = false from decide_eq_false (fun h => c1 h.1)]
    go_enter Try.func20, Try.ntmps20
    go_wp2
    go_ret
    exact ⟨rfl, HB.out⟩
end Go.Proofs.Ytbeoldklpklbfaa
