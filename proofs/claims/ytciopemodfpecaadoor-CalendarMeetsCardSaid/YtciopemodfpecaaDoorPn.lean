/-
  Plain definitions: Check, equality of lists, membership as a decision. No program.
-/
import Derived.Test.YtciopemodfpecaaDoorPm
namespace Go.Proofs.YtciopemodfpecaaDoor
set_option linter.unusedVariables false
set_option linter.unusedSimpArgs false

def chk : Int → List (Int × Int) → Int
  | _, [] => 0
  | e, s :: t => if s.1 ≤ e then 1 else if s.2 ≤ s.1 then 1 else if 1073741824 < s.2 then 1 else chk s.2 t
theorem chk_cons (e x y : Int) (t : List (Int × Int)) : chk e ((x, y) :: t) = if x ≤ e then 1 else if y ≤ x then 1 else if 1073741824 < y then 1 else chk y t := rfl
theorem chk_iff : ∀ (l : List (Int × Int)) (e : Int), chk e l = 0 ↔ Nr e l
  | [], e => by simp [chk, Nr]
  | s :: t, e => by
    have ih := chk_iff t s.2
    simp only [chk, Nr]
    split
    · simp; omega
    · split
      · simp; omega
      · split
        · simp; omega
        · rw [ih]
          constructor
          · intro h; exact ⟨by omega, by omega, by omega, h⟩
          · exact fun h => h.2.2.2
theorem chk_two : ∀ (l : List (Int × Int)) (e : Int), chk e l = 0 ∨ chk e l = 1
  | [], e => .inl rfl
  | s :: t, e => by
    have ih := chk_two t s.2
    simp only [chk]
    split
    · exact .inr rfl
    · split
      · exact .inr rfl
      · split
        · exact .inr rfl
        · exact ih
theorem chk_ok {l : List (Int × Int)} (h : Nr (-1) l) : chk (-1) l = 0 := (chk_iff l (-1)).2 h
theorem drop_cons {l : List (Int × Int)} {k : Nat} {s : Int × Int} (h : l[k]? = some s) : l.drop k = s :: l.drop (k + 1) := by
  have hk := (List.getElem?_eq_some_iff.1 h).1
  rw [List.drop_eq_getElem_cons hk]
  rw [(List.getElem?_eq_some_iff.1 h).2]

open Classical in
/-- Contains, as a decision. -/
noncomputable def inB (l : List (Int × Int)) (m : Int) : Bool := decide (mem l m)
open Classical in
theorem inB_true {l : List (Int × Int)} {m : Int} (h : mem l m) : inB l m = true := by unfold inB; exact decide_eq_true h
open Classical in
theorem inB_false {l : List (Int × Int)} {m : Int} (h : ¬ mem l m) : inB l m = false := by unfold inB; exact decide_eq_false h
open Classical in
theorem inB_iff (l : List (Int × Int)) (m : Int) : inB l m = true ↔ mem l m := by unfold inB; exact decide_eq_true_iff
/-- The first span that holds m decides. -/
theorem inB_take {l : List (Int × Int)} {m : Int} {k : Nat} {s : Int × Int} (h : l[k]? = some s) (hs : s.1 ≤ m ∧ m < s.2) : inB l m = decide (0 ≤ m ∧ m < 1073741824) := by
  have hm : s ∈ l := List.mem_of_getElem? h
  by_cases h0 : 0 ≤ m ∧ m < 1073741824
  · rw [decide_eq_true h0, inB_true ⟨h0.1, h0.2, s, hm, hs⟩]
  · rw [decide_eq_false h0, inB_false (fun h => h0 ⟨h.1, h.2.1⟩)]
theorem inB_none {l : List (Int × Int)} {m : Int} (h : ∀ (j : Nat) (s : Int × Int), l[j]? = some s → ¬ (s.1 ≤ m ∧ m < s.2)) : inB l m = false := by
  refine inB_false (fun hc => ?_)
  obtain ⟨_, _, s, hs, h1⟩ := hc
  obtain ⟨j, hj⟩ := List.getElem?_of_mem hs
  exact h j s hj h1
end Go.Proofs.YtciopemodfpecaaDoor
