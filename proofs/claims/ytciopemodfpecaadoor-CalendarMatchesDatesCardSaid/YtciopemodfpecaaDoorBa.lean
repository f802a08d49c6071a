/-
  How spans lie in memory; the small functions: empty, both, cmp.Compare, the closures.
-/
import Derived.Test.YtciopemodfpecaaDoorPm
import Derived.Test.YtciopemodfpecaaDoorProg
import Derived.Below
import Derived.Deep.Draws
import Derived.Maps.AppendAt
import Derived.WalkKit
import Derived.WalkSpells
import Derived.WalkLawsBesides
import Derived.Lib.Hide
import Derived.Deep.RegionHeld3
import Derived.Deep.RegionWith
import Derived.Outline
import Derived.Deep.QuietTactic
import Derived.BigQuiet
import Derived.Deep.LoopGhost
import Derived.StillTailTactics
import Derived.Deep.MidRow
namespace Go.Proofs.YtciopemodfpecaaDoor
open Go.RowKit
set_option linter.unusedVariables false
set_option linter.unusedSimpArgs false

def I64 (n : Int) : Prop := -9223372036854775808 ≤ n ∧ n ≤ 9223372036854775807

/-- A span as a value. -/
def sp (s : Int × Int) : Value := .agg #[.int .i64 s.1, .int .i64 s.2]
/-- The cells of a list of spans. -/
def cells : List (Int × Int) → List Value
  | [] => []
  | s :: t => .int .i64 s.1 :: .int .i64 s.2 :: cells t

/-- The slice v holds the spans l. -/
def Sl (F : Nat → Prop) (w : World) (v : Value) (l : List (Int × Int)) : Prop :=
  l.length ≤ 70368744177664 ∧ (∀ s ∈ l, I64 s.1 ∧ I64 s.2) ∧ ∃ a cap, v = .slice a l.length cap ∧ l.length ≤ cap ∧
    (0 < l.length → ∃ g off, a = some ⟨g, off, none⟩ ∧ F g ∧ ∀ j s, l[j]? = some s → w.cell? ⟨g, off + j * 2, none⟩ = some (.int .i64 s.1) ∧ w.cell? ⟨g, off + j * 2 + 1, none⟩ = some (.int .i64 s.2))

theorem Sl.kept {F F' : Nat → Prop} {w w' : World} {v : Value} {b : List (Int × Int)} (h : Sl F w v b) (hw : ∀ k, F k → w'.heap[k]? = w.heap[k]?) (hF : ∀ k, F k → F' k) : Sl F' w' v b := by
  obtain ⟨h1, h2, a, cap, h3, h4, h5⟩ := h
  refine ⟨h1, h2, a, cap, h3, h4, fun hp => ?_⟩
  obtain ⟨g, off, ha, hf, hc⟩ := h5 hp
  exact ⟨g, off, ha, hF g hf, fun j u hj => ⟨(World.cell?_of_block (w := w) (hw g hf)).trans (hc j u hj).1, (World.cell?_of_block (w := w) (hw g hf)).trans (hc j u hj).2⟩⟩
theorem Sl.on {w w' : World} {v : Value} {b : List (Int × Int)} (h : Sl (fun k => k < w.heap.size) w v b) (hb : Below w.heap.size w w') : Sl (fun k => k < w'.heap.size) w' v b :=
  h.kept (fun k hk => hb.block k hk) (fun k hk => Nat.lt_of_lt_of_le hk hb.size)
theorem Sl.shape {F : Nat → Prop} {w : World} {v : Value} {l : List (Int × Int)} (h : Sl F w v l) : ∃ a c, v = .slice a l.length c := by
  obtain ⟨_, _, a, c, rfl, _⟩ := h
  exact ⟨a, c, rfl⟩
theorem sl_nil (F : Nat → Prop) (w : World) : Sl F w (.slice none 0 0) [] := ⟨by simp, by simp, none, 0, rfl, Nat.le_refl _, fun h => by simp at h⟩
/-- Element k. -/
theorem Sl.pick {F : Nat → Prop} {w : World} {a : Option Addr} {n c : Nat} {l : List (Int × Int)} (h : Sl F w (.slice a n c) l) (k : Nat) (hk : k < l.length) :
    ∃ g off x y, a = some ⟨g, off, none⟩ ∧ F g ∧ l[k]? = some (x, y) ∧ I64 x ∧ I64 y ∧ w.cell? ⟨g, off + k * 2, none⟩ = some (.int .i64 x) ∧ w.cell? ⟨g, off + k * 2 + 1, none⟩ = some (.int .i64 y) ∧ l.length ≤ c := by
  obtain ⟨_, h1, a', c', h2, h3, h4⟩ := h
  simp only [Value.slice.injEq] at h2
  obtain ⟨rfl, rfl, rfl⟩ := h2
  obtain ⟨g, off, rfl, hg, hc⟩ := h4 (by omega)
  have hm := h1 _ (List.getElem_mem hk)
  exact ⟨g, off, (l[k]).1, (l[k]).2, rfl, hg, List.getElem?_eq_getElem hk, hm.1, hm.2, (hc k _ (List.getElem?_eq_getElem hk)).1, (hc k _ (List.getElem?_eq_getElem hk)).2, h3⟩

theorem bdrewN {B : Nat} {a w : World} (h : Below B a w) (n : Nat) : Below B a (w.drewN n) := h.trans ⟨rfl, rfl, rfl, Nat.le_refl _, fun _ _ => rfl⟩
theorem ball {a w : World} (h : Below a.heap.size a w) (o : Obj) : Below a.heap.size a (w.alloc o) := h.alloc h.size o

set_option maxHeartbeats 1000000 in
theorem empty_any (x y : Int) (w : World) : Calls Tryd.prog 53 #[.agg #[.int .i64 x, .int .i64 y]] w fun e w' => e = .returned (.bool (decide (y ≤ x))) ∧ Below w.heap.size w w' := by
  go_enter Tryd.func53, Tryd.ntmps53
  go_wp2
  go_ret
  exact ⟨rfl, ball (Below.refl _ _) _⟩

theorem cells_length (l : List (Int × Int)) : (cells l).length = l.length * 2 := by
  induction l with
  | nil => rfl
  | cons s t ih => simp only [cells, List.length_cons, ih]; omega
theorem cells_append (x y : List (Int × Int)) : cells (x ++ y) = cells x ++ cells y := by
  induction x with
  | nil => rfl
  | cons s t ih => simp [cells, ih]
theorem cells_get : ∀ (l : List (Int × Int)) (j : Nat) (s : Int × Int), l[j]? = some s → (cells l)[j * 2]? = some (.int .i64 s.1) ∧ (cells l)[j * 2 + 1]? = some (.int .i64 s.2)
  | [], j, s, h => by simp at h
  | t :: l, 0, s, h => by
    simp at h
    subst h
    simp [cells]
  | t :: l, j + 1, s, h => by
    have := cells_get l j s (by simpa using h)
    have e : (j + 1) * 2 = j * 2 + 1 + 1 := by omega
    rw [e]
    simpa [cells] using this
theorem cells_one (l : List (Int × Int)) : ∀ u ∈ cells l, u.oneCell' = true := by
  induction l with
  | nil => intro u h; simp [cells] at h
  | cons s t ih =>
    intro u h
    simp only [cells, List.mem_cons] at h
    rcases h with rfl | rfl | h
    · rfl
    · rfl
    · exact ih u h

theorem Tryd.info23 : (Tryd.prog.info? 23).map (fun i => (i.zero, i.size, i.bytes)) = some (some (.agg #[.int .i64 0, .int .i64 0]), 2, 16) := by kernel_rfl
theorem size23 : (Tryd.prog.info? 23).map (·.size) = some 2 := by kernel_rfl

/-- A block of spans laid down. -/
theorem sl_block (w : World) (g : Nat) (l : List (Int × Int)) (n c : Nat) (cs : Array Value) (t : TypeId) (hn : n = l.length) (hc : n ≤ c) (hlen : l.length ≤ 4000000) (hI : ∀ s ∈ l, I64 s.1 ∧ I64 s.2) (hg : w.heap[g]? = some (.cells cs t (0, 0))) (hcs : cs = (cells l).toArray) (F : Nat → Prop) (hF : F g) :
    Sl F w (.slice (some ⟨g, 0, none⟩) n c) l := by
  subst hn
  refine ⟨by omega, hI, _, _, rfl, hc, fun hp => ⟨g, 0, rfl, hF, fun j s hj => ?_⟩⟩
  have := cells_get l j s hj
  rw [cell_of_row w g _ cs t (0, 0) hg, cell_of_row w g _ cs t (0, 0) hg, hcs]
  simpa using this
theorem sl_lit (W : World) (l : List (Int × Int)) (n : Nat) (cs : Array Value) (t : TypeId) (hn : n = l.length) (hlen : l.length ≤ 4000000) (hI : ∀ s ∈ l, I64 s.1 ∧ I64 s.2) (hcs : cs = (cells l).toArray) :
    Sl (fun k => W.heap.size ≤ k ∧ k < (W.alloc (.cells cs t)).heap.size) (W.alloc (.cells cs t)) (.slice (some ⟨W.heap.size, 0, none⟩) n n) l :=
  sl_block _ W.heap.size l n n cs t hn (Nat.le_refl _) hlen hI (heap_alloc_new _ _) hcs _ ⟨Nat.le_refl _, by simp⟩

set_option maxHeartbeats 1000000 in
theorem both_exact (a b c d : Int) (w : World) : Calls Tryd.prog 68 #[.agg #[.int .i64 a, .int .i64 b], .agg #[.int .i64 c, .int .i64 d]] w fun e w' => e = .returned (.agg #[.int .i64 (max a c), .int .i64 (min b d)]) ∧ w' = ((w.alloc (.cells #[.int .i64 a, .int .i64 b] 23)).alloc (.cells #[.int .i64 c, .int .i64 d] 23)).alloc (.cells #[.int .i64 (max a c), .int .i64 (min b d)] 23) := by
  go_enter Tryd.func68, Tryd.ntmps68
  go_wp2
  all_goals
    refine bodyPost_ret (results_cell_row (cs := #[.int .i64 _, .int .i64 _]) rfl _ _ (w.heap.size + 1 + 1) 23 (0, 0) _ rfl (by
      have := heap_alloc_new ((w.alloc (Obj.cells #[Value.int IntKind.i64 a, Value.int IntKind.i64 b] 23)).alloc (Obj.cells #[Value.int IntKind.i64 c, Value.int IntKind.i64 d] 23))
      simp only [World.size_alloc] at this
      exact this _) Tryd.underlying23 rfl size23) rfl ?_
    have e1 : ∀ p q r s : Int, p = r → q = s → Ending.returned (Value.agg #[Value.int IntKind.i64 p, Value.int IntKind.i64 q]) = Ending.returned (Value.agg #[Value.int IntKind.i64 r, Value.int IntKind.i64 s]) ∧
        ((w.alloc (.cells #[.int .i64 a, .int .i64 b] 23)).alloc (.cells #[.int .i64 c, .int .i64 d] 23)).alloc (.cells #[.int .i64 p, .int .i64 q] 23) = ((w.alloc (.cells #[.int .i64 a, .int .i64 b] 23)).alloc (.cells #[.int .i64 c, .int .i64 d] 23)).alloc (.cells #[.int .i64 r, .int .i64 s] 23) := by
      rintro p q _ _ rfl rfl; exact ⟨rfl, rfl⟩
    exact e1 _ _ _ _ (by omega) (by omega)

theorem both_any (a b c d : Int) (w : World) : Calls Tryd.prog 68 #[.agg #[.int .i64 a, .int .i64 b], .agg #[.int .i64 c, .int .i64 d]] w fun e w' => e = .returned (.agg #[.int .i64 (max a c), .int .i64 (min b d)]) ∧ Below w.heap.size w w' :=
  (both_exact a b c d w).mono fun _ _ ⟨he, hw⟩ => ⟨he, hw ▸ ball (ball (ball (Below.refl _ _) _) _) _⟩



theorem isNaN_any (x : Int) (w : World) : Calls Tryd.prog 73 #[.int .i64 x] w fun e w' => e = .returned (.bool false) ∧ w = w' := by
  have e0 : (x != x) = false := by simp
  go_enter Tryd.func73, Tryd.ntmps73
  go_wp2
  go_ret
  exact ⟨rfl, rfl⟩

/-- cmp.Compare. -/
def cmpI (x y : Int) : Int := if x < y then -1 else if y < x then 1 else 0
set_option maxHeartbeats 1000000 in
theorem compare_any (x y : Int) (w : World) : Calls Tryd.prog 60 #[.int .i64 x, .int .i64 y] w fun e w' => e = .returned (.int .i64 (cmpI x y)) ∧ w = w' := by
  have h1 := isNaN_any x w
  have h2 := isNaN_any y w
  unfold cmpI
  by_cases hlt : x < y
  · rw [if_pos hlt]
    go_enter Tryd.func60, Tryd.ntmps60
    go_wp2_with fail
    refine h1.mono ?_
    rintro e w1 ⟨rfl, rfl⟩
    go_wp2_with fail
    refine h2.mono ?_
    rintro e w1 ⟨rfl, rfl⟩
    go_wp2
    go_ret
    exact ⟨rfl, rfl⟩
  · rw [if_neg hlt]
    by_cases hgt : y < x
    · rw [if_pos hgt]
      go_enter Tryd.func60, Tryd.ntmps60
      go_wp2_with fail
      refine h1.mono ?_
      rintro e w1 ⟨rfl, rfl⟩
      go_wp2_with fail
      refine h2.mono ?_
      rintro e w1 ⟨rfl, rfl⟩
      go_wp2
      go_ret
      exact ⟨rfl, rfl⟩
    · rw [if_neg hgt]
      go_enter Tryd.func60, Tryd.ntmps60
      go_wp2_with fail
      refine h1.mono ?_
      rintro e w1 ⟨rfl, rfl⟩
      go_wp2_with fail
      refine h2.mono ?_
      rintro e w1 ⟨rfl, rfl⟩
      go_wp2
      go_ret
      exact ⟨rfl, rfl⟩

set_option maxHeartbeats 1000000 in
/-- The closure that the sort calls. -/
theorem order_any (x y : Int × Int) (w : World) : Calls Tryd.prog 59 #[.agg #[.int .i64 x.1, .int .i64 x.2], .agg #[.int .i64 y.1, .int .i64 y.2]] w fun e w' => e = .returned (.int .i64 (cmpI x.1 y.1)) ∧ ∃ os, w' = (w.alloc (.cells #[.int .i64 x.1, .int .i64 x.2] 23)).alloc (.cells #[.int .i64 y.1, .int .i64 y.2] 23) ∧ os = 0 := by
  have hc := fun w => compare_any x.1 y.1 w
  obtain ⟨r, hr⟩ : ∃ r, r = cmpI x.1 y.1 := ⟨_, rfl⟩
  rw [← hr] at hc ⊢
  have HC := Lib.hid hc
  clear hc hr
  go_enter Tryd.func59, Tryd.ntmps59
  go_wp2_with fail
  refine (HC.out _).mono ?_
  rintro e w1 ⟨rfl, rfl⟩
  go_wp2
  go_ret
  exact ⟨rfl, 0, rfl, rfl⟩

set_option maxHeartbeats 1000000 in
/-- The closure of Contains: the minute lies in block B. -/
theorem within_any (x y m : Int) (B : Nat) (w : World) (hB : w.cell? ⟨B, 0, none⟩ = some (.int .i64 m)) : Calls Tryd.prog 56 #[.agg #[.int .i64 x, .int .i64 y], .pointer (some ⟨B, 0, none⟩)] w fun e w' => e = .returned (.bool (decide (x ≤ m ∧ m < y))) ∧ Below w.heap.size w w' := by
  have hB2 : (w.alloc (.cells #[.int .i64 x, .int .i64 y] 23)).cell? ⟨B, 0, none⟩ = some (.int .i64 m) := by
    rw [World.cell?_alloc_some _ _ _ (by rw [hB]; rfl), hB]
  by_cases h1 : x ≤ m
  · by_cases h2 : m < y
    · rw [decide_eq_true ⟨h1, h2⟩]
      go_enter Tryd.func56, Tryd.ntmps56
      go_wp2
      go_ret
      exact ⟨rfl, ball (Below.refl _ _) _⟩
    · rw [decide_eq_false (fun h => h2 h.2)]
      go_enter Tryd.func56, Tryd.ntmps56
      go_wp2
      go_ret
      exact ⟨rfl, ball (Below.refl _ _) _⟩
  · rw [decide_eq_false (fun h => h1 h.1)]
    go_enter Tryd.func56, Tryd.ntmps56
    go_wp2
    go_ret
    exact ⟨rfl, ball (Below.refl _ _) _⟩

end Go.Proofs.YtciopemodfpecaaDoor
