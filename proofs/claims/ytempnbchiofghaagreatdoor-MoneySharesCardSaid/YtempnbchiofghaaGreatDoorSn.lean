/-
  Walks: the examples: gives, fails, arithmetic, sane.
-/
import Derived.Test.YtempnbchiofghaaGreatDoorWa
import Derived.Test.YtempnbchiofghaaGreatDoorSf
import Derived.Test.YtempnbchiofghaaGreatDoorSg
namespace Go.Proofs.YtempnbchiofghaaGreatDoor
open Go.RowKit Go.Lib
set_option linter.unusedVariables false
set_option linter.unusedSimpArgs false

theorem gives_any (c e v : Int) (w : World) : Calls Tryz.prog 38 #[.int .i64 c, .int .i64 e, .int .i64 v] w fun x w' => x = .returned (.bool (decide (e = 0 ∧ c = v))) ∧ w = w' := by
  by_cases h1 : e = 0
  · subst h1
    by_cases h2 : c = v
    · subst h2
      have t : (c == c) = true := by simp
      rw [decide_eq_true ⟨rfl, rfl⟩]
      go_enter Tryz.func38, Tryz.ntmps38
      go_wp2
      go_ret
      exact ⟨rfl, rfl⟩
    · have t : (c == v) = false := by simpa using h2
      rw [decide_eq_false (fun h => h2 h.2)]
      clear h2
      go_enter Tryz.func38, Tryz.ntmps38
      go_wp2
      go_ret
      exact ⟨rfl, rfl⟩
  · have t : (e == 0) = false := by simpa using h1
    rw [decide_eq_false (fun h => h1 h.1)]
    clear h1
    go_enter Tryz.func38, Tryz.ntmps38
    go_wp2
    go_ret
    exact ⟨rfl, rfl⟩
theorem fails_any (c e v : Int) (w : World) : Calls Tryz.prog 39 #[.int .i64 c, .int .i64 e, .int .i64 v] w fun x w' => x = .returned (.bool (decide (e = v ∧ c = 0))) ∧ w = w' := by
  by_cases h1 : e = v
  · subst h1
    have t0 : (e == e) = true := by simp
    by_cases h2 : c = 0
    · subst h2
      rw [decide_eq_true ⟨rfl, rfl⟩]
      go_enter Tryz.func39, Tryz.ntmps39
      go_wp2
      go_ret
      exact ⟨rfl, rfl⟩
    · have t : (c == 0) = false := by simpa using h2
      rw [decide_eq_false (fun h => h2 h.2)]
      clear h2
      go_enter Tryz.func39, Tryz.ntmps39
      go_wp2
      go_ret
      exact ⟨rfl, rfl⟩
  · have t : (e == v) = false := by simpa using h1
    rw [decide_eq_false (fun h => h1 h.1)]
    clear h1
    go_enter Tryz.func39, Tryz.ntmps39
    go_wp2
    go_ret
    exact ⟨rfl, rfl⟩
theorem gives_yes (c : Int) (w : World) : Calls Tryz.prog 38 #[.int .i64 c, .int .i64 0, .int .i64 c] w fun x w' => x = .returned (.bool true) ∧ w = w' := by
  have := gives_any c 0 c w
  rw [decide_eq_true ⟨rfl, rfl⟩] at this
  exact this
theorem fails_yes (e : Int) (w : World) : Calls Tryz.prog 39 #[.int .i64 0, .int .i64 e, .int .i64 e] w fun x w' => x = .returned (.bool true) ∧ w = w' := by
  have := fails_any 0 e e w
  rw [decide_eq_true ⟨rfl, rfl⟩] at this
  exact this
/-- A new slice of ints. -/
theorem hl_new (w : World) (l : List Int) (hl : l.length ≤ 1000000) (hI : ∀ x ∈ l, I64 x) : Hl (fun k => k < (w.alloc (.cells (rowI l) 3)).heap.size) (w.alloc (.cells (rowI l) 3)) (.slice (some ⟨w.heap.size, 0, none⟩) l.length l.length) l :=
  Hr.hl (heap_alloc_new w _) (by omega) hI

set_option maxRecDepth 100000 in
set_option maxHeartbeats 8000000 in
theorem arith_true (w : World) : Calls Tryz.prog 37 #[] w fun e w' => e = .returned (.bool true) ∧ Below w.heap.size w w' := by
  have A1 : Hid (∀ w, Calls Tryz.prog 13 #[.int .i64 2, .int .i64 3] w fun e w' => e = .returned (.tuple #[.int .i64 5, .int .i64 0]) ∧ w = w') := Lib.hid (fun w => by
    have h := add_any 2 3 w
    rw [show addV 2 3 = (5, 0) by decide +kernel] at h
    exact h)
  have A2 : Hid (∀ w, Calls Tryz.prog 13 #[.int .i64 9007199254740992, .int .i64 1] w fun e w' => e = .returned (.tuple #[.int .i64 0, .int .i64 3]) ∧ w = w') := Lib.hid (fun w => by
    have h := add_any 9007199254740992 1 w
    rw [show addV 9007199254740992 1 = (0, 3) by decide +kernel] at h
    exact h)
  have A3 : Hid (∀ w, Calls Tryz.prog 17 #[.int .i64 134217728, .int .i64 (-67108864)] w fun e w' => e = .returned (.tuple #[.int .i64 (-9007199254740992), .int .i64 0]) ∧ w = w') := Lib.hid (fun w => by
    have h := mul_any 134217728 (-67108864) w
    rw [show mulV 134217728 (-67108864) = ((-9007199254740992), 0) by decide +kernel] at h
    exact h)
  have A4 : Hid (∀ w, Calls Tryz.prog 17 #[.int .i64 134217728, .int .i64 134217728] w fun e w' => e = .returned (.tuple #[.int .i64 0, .int .i64 3]) ∧ w = w') := Lib.hid (fun w => by
    have h := mul_any 134217728 134217728 w
    rw [show mulV 134217728 134217728 = (0, 3) by decide +kernel] at h
    exact h)
  have A5 : Hid (∀ w, Calls Tryz.prog 19 #[.int .i64 (-7), .int .i64 2, .int .i64 8] w fun e w' => e = .returned (.tuple #[.int .i64 (-4), .int .i64 0]) ∧ w = w') := Lib.hid (fun w => by
    have h := div_any (-7) 2 8 ⟨by decide, by decide⟩ w
    rw [show divV (-7) 2 8 = ((-4), 0) by decide +kernel] at h
    exact h)
  have A6 : Hid (∀ w, Calls Tryz.prog 19 #[.int .i64 (-7), .int .i64 2, .int .i64 9] w fun e w' => e = .returned (.tuple #[.int .i64 (-3), .int .i64 0]) ∧ w = w') := Lib.hid (fun w => by
    have h := div_any (-7) 2 9 ⟨by decide, by decide⟩ w
    rw [show divV (-7) 2 9 = ((-3), 0) by decide +kernel] at h
    exact h)
  have A7 : Hid (∀ w, Calls Tryz.prog 19 #[.int .i64 (-7), .int .i64 2, .int .i64 10] w fun e w' => e = .returned (.tuple #[.int .i64 (-3), .int .i64 0]) ∧ w = w') := Lib.hid (fun w => by
    have h := div_any (-7) 2 10 ⟨by decide, by decide⟩ w
    rw [show divV (-7) 2 10 = ((-3), 0) by decide +kernel] at h
    exact h)
  have A8 : Hid (∀ w, Calls Tryz.prog 19 #[.int .i64 7, .int .i64 2, .int .i64 10] w fun e w' => e = .returned (.tuple #[.int .i64 4, .int .i64 0]) ∧ w = w') := Lib.hid (fun w => by
    have h := div_any 7 2 10 ⟨by decide, by decide⟩ w
    rw [show divV 7 2 10 = (4, 0) by decide +kernel] at h
    exact h)
  have A9 : Hid (∀ w, Calls Tryz.prog 19 #[.int .i64 7, .int .i64 0, .int .i64 8] w fun e w' => e = .returned (.tuple #[.int .i64 0, .int .i64 70]) ∧ w = w') := Lib.hid (fun w => by
    have h := div_any 7 0 8 ⟨by decide, by decide⟩ w
    rw [show divV 7 0 8 = (0, 70) by decide +kernel] at h
    exact h)
  have A10 : Hid (∀ w, Calls Tryz.prog 19 #[.int .i64 7, .int .i64 1, .int .i64 0] w fun e w' => e = .returned (.tuple #[.int .i64 0, .int .i64 1]) ∧ w = w') := Lib.hid (fun w => by
    have h := div_any 7 1 0 ⟨by decide, by decide⟩ w
    rw [show divV 7 1 0 = (0, 1) by decide +kernel] at h
    exact h)
  have A11 : Hid (∀ w : World, Calls Tryz.prog 21 #[.slice (some ⟨w.heap.size, 0, none⟩) 3 3] (w.alloc (.cells #[.int .i64 9007199254740992, .int .i64 9007199254740992, .int .i64 (-9007199254740992)] 3)) fun e w' => e = .returned (.tuple #[.int .i64 9007199254740992, .int .i64 0]) ∧ w.alloc (.cells #[.int .i64 9007199254740992, .int .i64 9007199254740992, .int .i64 (-9007199254740992)] 3) = w') := Lib.hid (fun w => by
    have h := sum_any [9007199254740992, 9007199254740992, (-9007199254740992)] (.slice (some ⟨w.heap.size, 0, none⟩) 3 3) _ (hl_new w [9007199254740992, 9007199254740992, (-9007199254740992)] (by decide) (by intro x hx; simp only [List.mem_cons, List.not_mem_nil, or_false] at hx; unfold I64; omega)) (by decide)
    rw [show sumV [9007199254740992, 9007199254740992, (-9007199254740992)] = (9007199254740992, 0) by decide +kernel] at h
    exact h)
  have A12 : Hid (∀ w : World, Calls Tryz.prog 21 #[.slice (some ⟨w.heap.size, 0, none⟩) 1 1] (w.alloc (.cells #[.int .i64 9007199254740993] 3)) fun e w' => e = .returned (.tuple #[.int .i64 0, .int .i64 3]) ∧ w.alloc (.cells #[.int .i64 9007199254740993] 3) = w') := Lib.hid (fun w => by
    have h := sum_any [9007199254740993] (.slice (some ⟨w.heap.size, 0, none⟩) 1 1) _ (hl_new w [9007199254740993] (by decide) (by intro x hx; simp only [List.mem_cons, List.not_mem_nil, or_false] at hx; unfold I64; omega)) (by decide)
    rw [show sumV [9007199254740993] = (0, 3) by decide +kernel] at h
    exact h)
  go_enter Tryz.func37, Tryz.ntmps37
  go_wp2_with fail
  refine (A1.out _).mono ?_
  rintro e w' ⟨rfl, rfl⟩
  go_wp2_with fail
  refine (A2.out _).mono ?_
  rintro e w' ⟨rfl, rfl⟩
  go_wp2_with fail
  refine (A3.out _).mono ?_
  rintro e w' ⟨rfl, rfl⟩
  go_wp2_with fail
  refine (A4.out _).mono ?_
  rintro e w' ⟨rfl, rfl⟩
  go_wp2_with fail
  refine (gives_yes _ _).mono ?_
  rintro e w' ⟨rfl, rfl⟩
  go_wp2_with fail
  refine (fails_yes _ _).mono ?_
  rintro e w' ⟨rfl, rfl⟩
  go_wp2_with fail
  refine (gives_yes _ _).mono ?_
  rintro e w' ⟨rfl, rfl⟩
  go_wp2_with fail
  refine (fails_yes _ _).mono ?_
  rintro e w' ⟨rfl, rfl⟩
  go_wp2_with fail
  refine (A5.out _).mono ?_
  rintro e w' ⟨rfl, rfl⟩
  go_wp2_with fail
  refine (A6.out _).mono ?_
  rintro e w' ⟨rfl, rfl⟩
  go_wp2_with fail
  refine (A7.out _).mono ?_
  rintro e w' ⟨rfl, rfl⟩
  go_wp2_with fail
  refine (A8.out _).mono ?_
  rintro e w' ⟨rfl, rfl⟩
  go_wp2_with fail
  refine (gives_yes _ _).mono ?_
  rintro e w' ⟨rfl, rfl⟩
  go_wp2_with fail
  refine (gives_yes _ _).mono ?_
  rintro e w' ⟨rfl, rfl⟩
  go_wp2_with fail
  refine (gives_yes _ _).mono ?_
  rintro e w' ⟨rfl, rfl⟩
  go_wp2_with fail
  refine (gives_yes _ _).mono ?_
  rintro e w' ⟨rfl, rfl⟩
  go_wp2_with fail
  refine (A9.out _).mono ?_
  rintro e w' ⟨rfl, rfl⟩
  go_wp2_with fail
  refine (A10.out _).mono ?_
  rintro e w' ⟨rfl, rfl⟩
  go_wp2_with fail
  refine (A11.out _).mono ?_
  rintro e w1 ⟨rfl, hw1⟩
  have HB1 : Hid (Below w.heap.size w w1) := Lib.hid (hw1 ▸ ball (Below.refl _ _) _)
  clear hw1
  go_wp2_with fail
  refine (A12.out _).mono ?_
  rintro e w2 ⟨rfl, hw2⟩
  have HB2 : Hid (Below w.heap.size w w2) := Lib.hid (hw2 ▸ ball HB1.out _)
  clear hw2 HB1
  go_wp2_with fail
  refine (fails_yes _ _).mono ?_
  rintro e w' ⟨rfl, rfl⟩
  go_wp2_with fail
  refine (fails_yes _ _).mono ?_
  rintro e w' ⟨rfl, rfl⟩
  go_wp2_with fail
  refine (gives_yes _ _).mono ?_
  rintro e w' ⟨rfl, rfl⟩
  go_wp2_with fail
  refine (fails_yes _ _).mono ?_
  rintro e w' ⟨rfl, rfl⟩
  go_wp2
  go_ret
  exact ⟨rfl, HB2.out⟩
end Go.Proofs.YtempnbchiofghaaGreatDoor
