/-
  Walks: ranges of numbers; the first error of several checks.
-/
import Derived.Test.YtijdjbkmkopmnaaBa
namespace Go.Proofs.Ytijdjbkmkopmnaa
open Go.RowKit
set_option linter.unusedVariables false
set_option linter.unusedSimpArgs false

/-- Whether y lies from x to z. -/
def rng (x y z : Int) : Bool := decide (x ≤ y ∧ y ≤ z)
theorem rng_true {x y z : Int} (h : x ≤ y ∧ y ≤ z) : rng x y z = true := decide_eq_true h
theorem rng_false {x y z : Int} (h : ¬ (x ≤ y ∧ y ≤ z)) : rng x y z = false := decide_eq_false h
theorem rng_iff {x y z : Int} : rng x y z = true ↔ x ≤ y ∧ y ≤ z := decide_eq_true_iff
theorem between_any (x y z : Int) (w : World) : Calls Try.prog 51 #[.int .i64 x, .int .i64 y, .int .i64 z] w fun e w' => e = .returned (.bool (rng x y z)) ∧ w = w' := by
  by_cases h1 : x ≤ y
  · by_cases h2 : y ≤ z
    · have d1 : decide (x ≤ y) = true := decide_eq_true h1
      have d2 : decide (y ≤ z) = true := decide_eq_true h2
      rw [rng_true (And.intro h1 h2)]
      go_enter Try.func51, Try.ntmps51
      go_wp2
      go_ret
      exact ⟨rfl, rfl⟩
    · have d1 : decide (x ≤ y) = true := decide_eq_true h1
      have d2 : decide (y ≤ z) = false := decide_eq_false h2
      rw [rng_false (fun h => h2 h.2)]
      go_enter Try.func51, Try.ntmps51
      go_wp2
      go_ret
      exact ⟨rfl, rfl⟩
  · have d1 : decide (x ≤ y) = false := decide_eq_false h1
    rw [rng_false (fun h => h1 h.1)]
    go_enter Try.func51, Try.ntmps51
    go_wp2
    go_ret
    exact ⟨rfl, rfl⟩
theorem within_any (x y z : Int) (w : World) : Calls Try.prog 31 #[.int .i64 y, .int .i64 x, .int .i64 z] w fun e w' => e = .returned (.bool (rng x y z)) ∧ w = w' := by
  by_cases h1 : x ≤ y
  · by_cases h2 : y ≤ z
    · have d1 : decide (x ≤ y) = true := decide_eq_true h1
      have d2 : decide (y ≤ z) = true := decide_eq_true h2
      rw [rng_true (And.intro h1 h2)]
      go_enter Try.func31, Try.ntmps31
      go_wp2
      go_ret
      exact ⟨rfl, rfl⟩
    · have d1 : decide (x ≤ y) = true := decide_eq_true h1
      have d2 : decide (y ≤ z) = false := decide_eq_false h2
      rw [rng_false (fun h => h2 h.2)]
      go_enter Try.func31, Try.ntmps31
      go_wp2
      go_ret
      exact ⟨rfl, rfl⟩
  · have d1 : decide (x ≤ y) = false := decide_eq_false h1
    rw [rng_false (fun h => h1 h.1)]
    go_enter Try.func31, Try.ntmps31
    go_wp2
    go_ret
    exact ⟨rfl, rfl⟩
theorem index_any (i n : Int) (w : World) (h : -9223372036854775807 ≤ n ∧ n ≤ 9223372036854775807) : Calls Try.prog 79 #[.int .i64 i, .int .i64 n] w fun e w' => e = .returned (.bool (rng 0 i (n - 1))) ∧ w = w' := by
  have hw : IntKind.i64.wrap (n - 1) = n - 1 := wrap_in (by omega) (by omega)
  have Hc := Lib.hid (between_any 0 i (n - 1) w)
  clear h
  go_enter Try.func79, Try.ntmps79
  go_wp2_with fail
  refine Hc.out.mono ?_
  rintro e w' ⟨rfl, rfl⟩
  go_wp2
  go_ret
  exact ⟨rfl, rfl⟩
theorem class_any (i : Int) (w : World) : Calls Try.prog 32 #[.int .i64 i] w fun e w' => e = .returned (.bool (rng 0 i 63)) ∧ w = w' := by
  have Hc := Lib.hid (index_any i 64 w (by omega))
  go_enter Try.func32, Try.ntmps32
  go_wp2_with fail
  refine Hc.out.mono ?_
  rintro e w' ⟨rfl, rfl⟩
  go_wp2
  go_ret
  exact ⟨rfl, rfl⟩

/-- The first number but 0. -/
def fst0 : List Int → Int
  | [] => 0
  | x :: l => if x = 0 then fst0 l else x
/-- A function value of the program. -/
def fv (f : Nat) (bs : Array Value) : Value := .func (.func f) #[] bs
set_option maxRecDepth 100000 in
set_option maxHeartbeats 4000000 in
theorem first_any {w : World} {g off n c b0 : Nat} (l : List (Nat × Array Value × Int)) (hn : n = l.length) (hn1 : n ≤ 1000) (hb0 : b0 ≤ w.heap.size) (hg : n ≠ 0 → g < w.heap.size)
    (hm : ∀ i f bs R, l[i]? = some (f, bs, R) → w.cell? ⟨g, off + i, none⟩ = some (fv f bs))
    (hf : ∀ (i f : Nat) (bs : Array Value) (R : Int), l[i]? = some (f, bs, R) → ∀ w', Sem.run Try.prog (callFunc f bs) w' = .ok (.enter f bs) w')
    (hc : ∀ i f bs R, l[i]? = some (f, bs, R) → ∀ w', Below w.heap.size w w' → Calls Try.prog f bs w' fun e w2 => e = .returned (.int .i64 R) ∧ (Below w'.heap.size w' w2 ∨ i + 1 = n ∧ Below b0 w' w2))
    (R : Int) (hR : R = fst0 (l.map fun x => x.2.2)) :
    Calls Try.prog 36 #[.slice (some ⟨g, off, none⟩) n c] w fun e w' => e = .returned (.int .i64 R) ∧ Below b0 w w' := by
  have HM := Lib.hid hm; have HC := Lib.hid hc; have HR := Lib.hid hR; have HN := Lib.hid hn; have HB0 := Lib.hid hb0; have HG := Lib.hid hg; have HF := Lib.hid hf
  clear hf hm hc hR hn hb0 hg
  go_enter Try.func36, Try.ntmps36
  go_wp2
  go_loopw [8] (fun s wr => ∃ k : Nat, k ≤ n ∧ s = .int .i64 (k : Int) ∧ Hid (fst0 ((l.drop k).map fun x => x.2.2) = R) ∧ Hid (Below w.heap.size w wr ∨ k = n ∧ Below b0 w wr)) (fun s _ => n - (intOf s).toNat)
  case atStart => exact ⟨0, by omega, rfl, Lib.hid HR.out.symm, Lib.hid (Or.inl (Below.refl _ _))⟩
  case round =>
    obtain ⟨k, hk, rfl, HK, HW⟩ := hrel
    by_cases hlt : k < n
    · have hlt2 : (k : Int) < (n : Int) := by omega
      have hwr : Below w.heap.size w wr := by rcases HW.out with h | ⟨h, _⟩; exact h; omega
      obtain ⟨⟨f, bs, r⟩, hx⟩ : ∃ x, l[k]? = some x := ⟨_, List.getElem?_eq_getElem (by have := HN.out; omega)⟩
      have f0 : wr.cell? ⟨g, off + k, none⟩ = some (.func (.func f) #[] bs) := (hwr.cell (p := ⟨g, off + k, none⟩) (HG.out (by omega))).trans (HM.out k f bs r hx)
      have Hc := Lib.hid (HC.out k f bs r hx wr hwr)
      have Hf := Lib.hid (HF.out k f bs r hx wr)
      have hst := HK.out
      rw [List.drop_eq_getElem_cons (by have := HN.out; omega), List.map_cons] at hst
      have hxe : l[k]'(by have := HN.out; omega) = (f, bs, r) := (List.getElem?_eq_some_iff.1 hx).2
      rw [hxe] at hst
      unfold fst0 at hst
      have HWR := Lib.hid hwr
      clear hx hxe hwr HW
      by_cases hr : r = 0
      · subst hr
        rw [if_pos rfl] at hst
        have HST := Lib.hid hst
        clear hst HK
        go_wp2_with fail
        rw [Hf.out, Oper.upon_enter]
        refine Hc.out.mono ?_
        rintro e w1 ⟨rfl, hb⟩
        have HW3 : Hid (Below w.heap.size w w1 ∨ k + 1 = n ∧ Below b0 w w1) := Lib.hid (by
          rcases hb with h | ⟨h1, h2⟩
          · exact Or.inl (btrans HWR.out h)
          · exact Or.inr ⟨h1, (HWR.out.mono HB0.out).trans h2⟩)
        clear hb f0 Hc Hf
        go_wp2
        go_roundw
        case rel => exact ⟨k + 1, by omega, by go_num, HST, HW3⟩
        case measure => simp [intOf]; omega
      · rw [if_neg hr] at hst
        subst hst
        have d0 : (r != 0) = true := by simpa using hr
        clear hr
        go_wp2_with fail
        rw [Hf.out, Oper.upon_enter]
        refine Hc.out.mono ?_
        rintro e w1 ⟨rfl, hb⟩
        have HW3 : Hid (Below b0 w w1) := Lib.hid (by
          rcases hb with h | ⟨h1, h2⟩
          · exact (btrans HWR.out h).mono HB0.out
          · exact (HWR.out.mono HB0.out).trans h2)
        clear hb f0 Hc Hf
        go_wp2
        go_ret
        exact ⟨rfl, HW3.out⟩
    · obtain rfl : k = n := by omega
      have hlt3 : ¬ ((k : Int) < (k : Int)) := by omega
      have hz : R = 0 := by rw [← HK.out, List.drop_eq_nil_of_le (by have := HN.out; omega)]; rfl
      subst hz
      have HZ : Hid (Below b0 w wr) := Lib.hid (by rcases HW.out with h | ⟨_, h⟩; exact h.mono HB0.out; exact h)
      go_wp2
      go_ret
      exact ⟨rfl, HZ.out⟩
theorem cf84 (bs : Array Value) (w : World) : Sem.run Try.prog (callFunc 84 bs) w = .ok (.enter 84 bs) w := by kernel_rfl
end Go.Proofs.Ytijdjbkmkopmnaa
