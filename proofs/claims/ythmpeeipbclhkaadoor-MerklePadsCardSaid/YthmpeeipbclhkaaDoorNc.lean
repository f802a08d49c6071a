/-
  Node at whatever level and number; lists of digests appended to slices of the call's own.
-/
import Derived.Test.YthmpeeipbclhkaaDoorWi1
import Derived.Test.YthmpeeipbclhkaaDoorSm
namespace Go.Proofs.YthmpeeipbclhkaaDoor
set_option linter.unusedSimpArgs false
set_option linter.unusedVariables false
open Go.RowKit

/-- There is no such node. -/
def nodeX0 (j k : Int) : Bool := decide (j < 0 ∨ 16 < j ∨ k < 0 ∨ (0 ≤ j ∧ j ≤ 16 ∧ ((2 ^ (16 - j.toNat) : Nat) : Int) ≤ k))
def nodeV (l : List (List Int)) (j k : Int) : List Int := if nodeX0 j k = true then List.replicate 32 0 else nd prt pdd l j.toNat k.toNat

theorem nodeV_len (l : List (List Int)) (j k : Int) (h : ∀ x ∈ l, Dg x) : (nodeV l j k).length = 32 := by
  unfold nodeV; split
  · simp
  · exact (nd_dg l _ _ h).1
theorem nodeV_dg (l : List (List Int)) (j k : Int) (h : ∀ x ∈ l, Dg x) : Dg (nodeV l j k) := by
  unfold nodeV; split
  · refine ⟨by simp, fun u hu => ?_⟩
    rw [List.mem_replicate] at hu
    omega
  · exact nd_dg l _ _ h

theorem nodeC (l : List (List Int)) (oa : Option Addr) (oc : Nat) (j k : Int) (w : World) (hk : KOk w) (hv : Dl (fun k => k < w.heap.size) w (.slice oa l.length oc) l) (hl : l.length ≤ 65536) :
    Calls Tryd.prog 13 #[.slice oa l.length oc, .int .i64 j, .int .i64 k] w fun e w' => e = .returned (.tuple #[.agg (byteVals (nodeV l j k)).toArray, .bool (!nodeX0 j k)]) ∧ Below w.heap.size w w' := by
  unfold nodeV nodeX0
  by_cases h : j < 0 ∨ 16 < j ∨ k < 0 ∨ (0 ≤ j ∧ j ≤ 16 ∧ ((2 ^ (16 - j.toNat) : Nat) : Int) ≤ k)
  · rw [decide_eq_true h, if_pos rfl]
    exact nodeBad_any l.length oa oc j k w hv.1 (Or.inr h)
  · rw [decide_eq_false h, if_neg (by decide)]
    obtain ⟨J, rfl⟩ : ∃ J : Nat, j = (J : Int) := ⟨j.toNat, by omega⟩
    obtain ⟨K, rfl⟩ : ∃ K : Nat, k = (K : Int) := ⟨k.toNat, by omega⟩
    rw [Int.toNat_natCast, Int.toNat_natCast]
    have hK : K < 2 ^ (16 - J) := by
      have h1 : ¬ (((2 ^ (16 - (J : Int).toNat) : Nat) : Int) ≤ (K : Int)) := by omega
      rw [Int.toNat_natCast] at h1
      omega
    exact nodeOk_any l oa oc J K w hk hv hl (by omega) hK

theorem append_dl (F : Nat → Prop) (base : Nat) (w : World) (v u : Value) (ds l : List (List Int)) (hown : w.ownsRow base 26 32 v ds.length (byteVals ds.flatten)) (hu : Dl F w u l) (hlen : ds.length + l.length ≤ 1000) (hbase : base ≤ w.heap.size) :
    ∃ v' w', (Builtin.append_ #[22, 22] 22 #[v, u]).run Tryd.prog w = .ok v' w' ∧ w'.ownsRow base 26 32 v' (ds ++ l).length (byteVals (ds ++ l).flatten) ∧ w.grownBy w' v.ownBlock := by
  obtain ⟨i0, hi, hz0, hz1, hz2⟩ := info_parts Tryd.info26
  obtain ⟨hbl, hdg, a, cap, rfl, hcap, hp⟩ := hu
  by_cases h0 : l.length = 0
  · have hb : l = [] := List.length_eq_zero_iff.1 h0
    subst hb
    obtain ⟨sa, sl, sc, hv, hle⟩ : ∃ sa sl sc, v = .slice sa sl sc ∧ sl ≤ sc := by
      rcases hown.2 with ⟨h, _⟩ | ⟨g, c, cur, h, _, _, hn, _⟩
      · exact ⟨none, 0, 0, h, Nat.le_refl _⟩
      · exact ⟨_, _, _, h, hn⟩
    refine ⟨v, w, ?_, ?_, ?_⟩
    · subst hv
      cases a with
      | none =>
        have hs : Src Tryd.prog i0.size 22 (.slice none 0 cap) 0 [] w := Src.ofNil w Tryd.underlying22 cap
        exact run_append_nothing w 22 22 22 26 i0 Tryd.underlying22 hi sa sl sc hle _ hs
      | some ad =>
        have hs : Src Tryd.prog i0.size 22 (.slice (some ad) 0 cap) 0 [] w := Src.ofSlice w Tryd.underlying22 ad 0 cap [] (by simp) (by simp) (by simp)
        exact run_append_nothing w 22 22 22 26 i0 Tryd.underlying22 hi sa sl sc hle _ hs
    · rw [List.append_nil]; exact hown
    · exact ⟨rfl, rfl, rfl, Nat.le_refl _, fun _ _ _ => rfl⟩
  · obtain ⟨g, off, rfl, hF, hc⟩ := hp (by omega)
    have hfl : l.flatten.length = l.length * 32 := by
      clear hcap hc hp hlen hbl h0
      induction l with
      | nil => rfl
      | cons y ys ih =>
        have := (hdg y (by simp)).1
        have := ih (fun x hx => hdg x (by simp [hx]))
        simp only [List.flatten_cons, List.length_append, List.length_cons]
        omega
    have hnews : ∀ j x, (byteVals l.flatten)[j]? = some x → w.cell? ((⟨g, off, none⟩ : Addr).add j) = some x := by
      intro j x hj
      have hjl : j < (byteVals l.flatten).length := (List.getElem?_eq_some_iff.1 hj).1
      rw [byteVals_length, hfl] at hjl
      have hq : j / 32 < l.length := by omega
      have hx := List.getElem?_eq_getElem hq
      have hr := hc (j / 32) _ hx
      have e1 := flat_get l (fun x hx => (hdg x hx).1) (j / 32) (j % 32) _ hx (by omega)
      rw [Nat.div_add_mod] at e1
      have h2 : (byteVals l[j / 32])[j % 32]? = some x := by
        unfold byteVals at hj ⊢
        rw [List.getElem?_map] at hj ⊢
        rw [← e1]
        exact hj
      have h3 := hr (j % 32) x h2
      rw [add_off]
      rw [show off + j = off + j / 32 * 32 + j % 32 from by omega]
      exact h3
    obtain ⟨v', w', hr, h2, h3, h4, h5⟩ := run_append_own_at (P := Tryd.prog) w base 22 22 26 i0 _ 32 32 Tryd.underlying22 hi hz0 hz1 hz2 (by simp [byteVals, Value.cells]) (by decide) v ds.length (byteVals ds.flatten) hown
      ⟨g, off, none⟩ l.length cap (byteVals l.flatten) (by rw [byteVals_length, hfl]) hnews (by
        intro u hu
        obtain ⟨n, _, rfl⟩ := List.mem_map.1 hu
        rfl) (by unfold maxLen; omega) (by omega) hbase
    refine ⟨v', w', hr, ?_, h3⟩
    have e1 : (ds ++ l).length = ds.length + l.length := by simp
    have e2 : (ds ++ l).flatten = ds.flatten ++ l.flatten := by simp
    rw [e1, e2, byteVals_append]
    exact h2

theorem ApS.pushL {w wr : World} {ds l : List (List Int)} {v u : Value} (h : ApS w ds v wr) (F : Nat → Prop) (hu : Dl F wr u l) (hn : ds.length + l.length ≤ 1000) :
    ∃ v' w', (Builtin.append_ #[22, 22] 22 #[v, u]).run Tryd.prog wr = .ok v' w' ∧ ApS w (ds ++ l) v' w' := by
  obtain ⟨v', w', hr, ho, hg⟩ := append_dl F w.heap.size wr v u ds l h.own hu hn h.below.size
  exact ⟨v', w', hr, ho, h.below.grown hg h.below.size (fun k hk => (h.own.lt k hk).1)⟩
end Go.Proofs.YthmpeeipbclhkaaDoor
