/-
  Walks: shifts; the search among the holidays.
-/
import Derived.Test.YtciopemodfpecaaDoorKf
import Derived.Test.YtciopemodfpecaaDoorSi
namespace Go.Proofs.YtciopemodfpecaaDoor
open Go.RowKit Go.Shelf Go.Lib
set_option linter.unusedVariables false
set_option linter.unusedSimpArgs false

set_option maxHeartbeats 1000000 in
theorem shifts_any (cs : Array Value) (f t : Int) (w : World) :
    Calls Tryd.prog 43 #[.agg cs, .int .i64 f, .int .i64 t] w fun e w' => e = .returned (.func (.func 62) #[] #[.pointer (some ⟨w.heap.size + 1, 0, none⟩), .pointer (some ⟨w.heap.size, 0, none⟩), .pointer (some ⟨w.heap.size + 1 + 1, 0, none⟩)]) ∧
      w' = ((w.alloc (.cells cs 27)).alloc (.cells #[.int .i64 f] 3)).alloc (.cells #[.int .i64 t] 3) := by
  go_enter Tryd.func43, Tryd.ntmps43
  go_wp2
  go_ret
  exact ⟨rfl, rfl⟩

/-- sort.SearchInts among the holidays. -/
theorem search_any {F : Nat → Prop} (hol : List Int) (a : Option Addr) (cap : Nat) (d : Int) (w : World) (h : Hl F w (.slice a hol.length cap) hol) (hF : ∀ k, F k → k < w.heap.size) (hs : holB (-1) hol = true) :
    Calls Tryd.prog 63 #[.slice a hol.length cap, .int .i64 d] w fun e w' => ∃ j : Nat, e = .returned (.int .i64 (j : Int)) ∧ JI hol d j ∧ Below w.heap.size w w' := by
  rcases Nat.eq_zero_or_pos hol.length with h0 | hp
  · have hn : hol = [] := List.eq_nil_of_length_eq_zero h0
    subst hn
    have hcon := Any.sort_SearchInts_none Tryd.searchInts a cap d w
    change Calls Tryd.prog 63 _ _ _ at hcon
    exact hcon.mono fun e w' ⟨he, hb⟩ => ⟨0, he, ⟨by simp, fun i x hx => by simp at hx⟩, hb⟩
  · obtain ⟨g, off, x0, rfl, hg, _, _, _, _⟩ := h.pick 0 hp
    have hsz : hol.toArray.size = hol.length := by simp
    have hget : ∀ i, i < hol.length → hol.toArray[i]! = hol[i]! := by intro i hi; simp
    have hcon := Any.sort_SearchInts Tryd.searchInts g off cap hol.toArray d w (fun i hi => by
        rw [hsz] at hi
        have := (h.at (List.getElem?_eq_getElem hi)).2.1
        rw [this]
        simp [hi]) (hF g hg) (by have := h.1; rw [hsz]; omega) (fun i j hij hj hle => by
        rw [hsz] at hj
        have e1 : hol.toArray[i]! = hol[i] := by simp [show i < hol.length by omega]
        have e2 : hol.toArray[j]! = hol[j] := by simp [hj]
        rw [e1] at hle
        rw [e2]
        rcases Nat.lt_or_ge i j with hl | hl
        · have := hol_sorted hol (-1) hs i j _ _ hl (List.getElem?_eq_getElem (by omega)) (List.getElem?_eq_getElem hj)
          simp at hle ⊢; omega
        · have : i = j := by omega
          subst this; exact hle)
    change Calls Tryd.prog 63 _ _ _ at hcon
    rw [hsz] at hcon
    exact hcon.mono fun e w' ⟨he, hb⟩ => ⟨_, he, by simpa using ji_count d hs, hb⟩
end Go.Proofs.YtciopemodfpecaaDoor
