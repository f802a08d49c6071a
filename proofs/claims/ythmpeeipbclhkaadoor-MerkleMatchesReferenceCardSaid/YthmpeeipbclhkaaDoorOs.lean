/-
  Arguments opened: lists of digests, commitments.
-/
import Derived.Test.YthmpeeipbclhkaaDoorLw
import Derived.Test.YthmpeeipbclhkaaDoorGl
import Derived.Test.YthmpeeipbclhkaaDoorEq
import Derived.ChangeMaps5
namespace Go.Proofs.YthmpeeipbclhkaaDoor
open Go.Joins Go.ChangeShapes Go.WideShapes Go.ChangeAt Go.RowKit Go.Deep

theorem choose_list {α : Type} (P : Nat → α → Prop) : ∀ n : Nat, (∀ i, i < n → ∃ a, P i a) → ∃ l : List α, l.length = n ∧ ∀ i a, l[i]? = some a → P i a
  | 0, _ => ⟨[], rfl, by simp⟩
  | n + 1, h => by
    obtain ⟨l, hl, hp⟩ := choose_list P n (fun i hi => h i (by omega))
    obtain ⟨a, ha⟩ := h n (by omega)
    refine ⟨l ++ [a], by simp [hl], fun i b hb => ?_⟩
    by_cases hi : i < n
    · rw [List.getElem?_append_left (by omega)] at hb
      exact hp i b hb
    · rw [List.getElem?_append_right (by omega)] at hb
      have hi' : i = n := by
        have := (List.getElem?_eq_some_iff.1 hb).1
        simp at this
        omega
      subst hi'
      simp [hl] at hb
      subst hb
      exact ha

section
variable {H : Type} {enc : TypeId × Value → H} {w : World}
theorem bytes26 : Tryd.prog.bytesOf 26 = 32 := by kernel_rfl

theorem openDs {fuel : Nat} {v : Value} {x : DataW H × List MemPlace} (h : DataW.trod enc Tryd.prog w 0 (fun _ => true) true fuel 22 [v] = some x) (hw : ∀ n ∈ x.1.weights Tryd.prog 22, n ≤ reachBytes) :
    ∃ l, Dl (fun k => k < w.heap.size) w v l := by
  rcases DataW.trod_slice Tryd.underlying22 h with ⟨hv, _⟩ | ⟨a, len, cap, elems, rest, n', rfl, hv, rfl, _, hlc, _, hel, he, _, _⟩
  · simp only [List.cons.injEq, and_true] at hv
    subst hv
    exact ⟨[], dl_nil _ _⟩
  · simp only [List.cons.injEq, and_true] at hv
    subst hv
    have hr := reachBytes_lt
    have hlen64 := hw ((elems.length + rest.length) * 32) (by simp [DataW.weights, Tryd.underlying22, bytes26])
    have hall : ∀ i, i < len → ∃ D : List Int, (D.length = 32 ∧ ∀ u ∈ D, 0 ≤ u ∧ u ≤ 255) ∧ ∀ j, j < 32 → w.cell? ((a.add (i * 32)).add j) = (byteVals D)[j]? := by
      intro i hi
      have h5 := he i hi
      rw [cells25, List.getElem?_eq_getElem (by omega)] at h5
      obtain ⟨cs', h6, h7⟩ := Option.bind_eq_some_iff.1 h5
      obtain ⟨_, h8, h9⟩ := World.cells?_some h6
      obtain ⟨D, rfl, hl, hb⟩ := openDig0 h7
      exact ⟨D, ⟨hl, hb⟩, h9⟩
    obtain ⟨l, hll, hlp⟩ := choose_list _ len hall
    have hlt : l.length ≤ 4398046511104 := by omega
    refine ⟨l, hlt, fun x hx => ?_, some a, cap, by rw [hll], by omega, fun hp => ?_⟩
    · obtain ⟨j, hj⟩ := List.getElem?_of_mem hx
      exact (hlp j x hj).1
    obtain ⟨D0, ⟨hD0, _⟩, e0⟩ := hall 0 (by omega)
    have h0l : 0 < (byteVals D0).length := by rw [byteVals_length, hD0]; decide
    have hb0 : (byteVals D0)[0]? = some (byteVals D0)[0] := List.getElem?_eq_getElem h0l
    have e1 := (e0 0 (by decide)).trans hb0
    rw [Go.Deep.add_add] at e1
    simp only [Nat.zero_mul, Nat.add_zero] at e1
    obtain ⟨hs, hkb⟩ := cell_spot e1
    obtain ⟨g, off, spot⟩ := a
    have hs' : spot = none := hs
    subst hs'
    refine ⟨g, off, rfl, hkb, fun j x hj => ?_⟩
    obtain ⟨⟨hxl, _⟩, hc⟩ := hlp j x hj
    intro t u hu
    have htl := (List.getElem?_eq_some_iff.1 hu).1
    rw [byteVals_length, hxl] at htl
    have := (hc t htl).trans hu
    rw [Go.Deep.add_add, add_off] at this
    rw [Nat.add_assoc]
    exact this

theorem i64_wf {n : Int} (h : (Lit.int .i64 n).wf = true) : -9223372036854775808 ≤ n ∧ n ≤ 9223372036854775807 := by
  have h1 : IntKind.i64.min = -9223372036854775808 := rfl
  have h2 : IntKind.i64.max = 9223372036854775807 := rfl
  simp only [Lit.wf, Bool.and_eq_true, decide_eq_true_eq] at h
  omega
end
end Go.Proofs.YthmpeeipbclhkaaDoor
