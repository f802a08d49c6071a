/-
  The contracts over whatever slices are known.
-/
import Derived.Test.YtboojinokljelaaRg
import Derived.Test.YtboojinokljelaaCc
import Derived.Test.YtboojinokljelaaCd
import Derived.Test.YtboojinokljelaaRb
namespace Go.Proofs.Ytboojinokljelaa
open Go.RowKit

/-- The slice v holds the spans l, anywhere in w. -/
abbrev SW (w : World) (v : Value) (l : List (Int × Int)) : Prop := Sl (fun k => k < w.heap.size) w v l

theorem ApT.out {w w' : World} {l : List (Int × Int)} {v : Value} (h : ApT w l v w') (hn : Nr (-1) l) (hl : l.length ≤ 1000) : Below w.heap.size w w' ∧ SW w' v l := ⟨h.below, h.sl2 (nr_i64 hn) hl⟩

section
variable {w : World} {u v : Value} {a b : List (Int × Int)}

theorem span_s (x y : Int) (hx : I64 x) (hy : I64 y) (w : World) : Calls Try.prog 29 #[.int .i64 x, .int .i64 y] w fun e w' => ∃ v, e = .returned v ∧ Below w.heap.size w w' ∧ SW w' v [(x, y)] :=
  (span_any x y hx hy w).mono fun e w' ⟨v, he, hb, hs⟩ => ⟨v, he, hb, hs.kept (fun _ _ => rfl) (fun _ hk => hk.2)⟩
theorem few_s (ha : SW w u a) : Calls Try.prog 11 #[u] w fun e w' => e = .returned (.bool (decide (a.length ≤ 40))) ∧ w = w' := by
  obtain ⟨o, c, rfl⟩ := ha.shape
  exact (few_any a o c w).mono fun e w' ⟨he, hw⟩ => ⟨he, hw.symm⟩
theorem normal_s (ha : SW w u a) (hl : a.length ≤ 400) : Calls Try.prog 13 #[u] w fun e w' => ∃ v, e = .returned v ∧ Below w.heap.size w w' ∧ SW w' v (norm a) := by
  obtain ⟨o, c, rfl⟩ := ha.shape
  exact (normal_any a o c w ha (by omega)).mono fun e w' ⟨v, he, h⟩ => ⟨v, he, h.out (norm_nr a) (by have := norm_length a; omega)⟩
theorem rnormal_s (ha : SW w u a) (hl : a.length ≤ 400) : Calls Try.prog 14 #[u] w fun e w' => ∃ v, e = .returned v ∧ Below w.heap.size w w' ∧ SW w' v (norm a) := by
  obtain ⟨o, c, rfl⟩ := ha.shape
  exact (rnormal_any a o c w ha (by omega)).mono fun e w' ⟨v, he, h⟩ => ⟨v, he, h.out (norm_nr a) (by have := norm_length a; omega)⟩
theorem union_s (ha : SW w u a) (hb : SW w v b) (hl : a.length + b.length ≤ 400) : Calls Try.prog 15 #[u, v] w fun e w' => ∃ v, e = .returned v ∧ Below w.heap.size w w' ∧ SW w' v (uniL a b) := by
  obtain ⟨o, c, rfl⟩ := ha.shape
  obtain ⟨o', c', rfl⟩ := hb.shape
  exact (union_any a b o o' c c' w ha hb hl).mono fun e w' ⟨v, he, h⟩ => ⟨v, he, h.out (uni_nr a b) (by have := uni_length a b; unfold uniL at this; omega)⟩
theorem runion_s (ha : SW w u a) (hb : SW w v b) (hl : a.length + b.length ≤ 400) : Calls Try.prog 16 #[u, v] w fun e w' => ∃ v, e = .returned v ∧ Below w.heap.size w w' ∧ SW w' v (uniL a b) := by
  obtain ⟨o, c, rfl⟩ := ha.shape
  obtain ⟨o', c', rfl⟩ := hb.shape
  exact (runion_any a b o o' c c' w ha hb hl).mono fun e w' ⟨v, he, h⟩ => ⟨v, he, h.out (uni_nr a b) (by have := uni_length a b; omega)⟩
theorem intersect_s (ha : SW w u a) (hb : SW w v b) (hl : a.length + b.length ≤ 400) : Calls Try.prog 17 #[u, v] w fun e w' => ∃ v, e = .returned v ∧ Below w.heap.size w w' ∧ SW w' v (intL a b) := by
  obtain ⟨o, c, rfl⟩ := ha.shape
  obtain ⟨o', c', rfl⟩ := hb.shape
  exact (intersect_any a b o o' c c' w ha hb (by omega)).mono fun e w' ⟨v, he, h⟩ => ⟨v, he, ApT.out (l := intL a b) h (int_nr a b) (by have := int_length a b; omega)⟩
theorem rintersect_s (ha : SW w u a) (hb : SW w v b) (hl : a.length + b.length ≤ 400) : Calls Try.prog 18 #[u, v] w fun e w' => ∃ v, e = .returned v ∧ Below w.heap.size w w' ∧ SW w' v (intL a b) := by
  obtain ⟨o, c, rfl⟩ := ha.shape
  obtain ⟨o', c', rfl⟩ := hb.shape
  exact (rintersect_any a b o o' c c' w ha hb hl).mono fun e w' ⟨v, he, h⟩ => ⟨v, he, h.out (int_nr a b) (by have := int_length a b; omega)⟩
theorem minus_s (ha : SW w u a) (hb : SW w v b) (hl : a.length + b.length ≤ 400) : Calls Try.prog 19 #[u, v] w fun e w' => ∃ v, e = .returned v ∧ Below w.heap.size w w' ∧ SW w' v (minL a b) := by
  obtain ⟨o, c, rfl⟩ := ha.shape
  obtain ⟨o', c', rfl⟩ := hb.shape
  exact (minus_any a b o o' c c' w ha hb (by omega)).mono fun e w' ⟨v, he, h⟩ => ⟨v, he, ApT.out (l := minL a b) h (min_nr a b) (by have := min_length a b; omega)⟩
theorem rminus_s (ha : SW w u a) (hb : SW w v b) (hl : a.length + b.length ≤ 400) : Calls Try.prog 20 #[u, v] w fun e w' => ∃ v, e = .returned v ∧ Below w.heap.size w w' ∧ SW w' v (minL a b) := by
  obtain ⟨o, c, rfl⟩ := ha.shape
  obtain ⟨o', c', rfl⟩ := hb.shape
  exact (rminus_any a b o o' c c' w ha hb hl).mono fun e w' ⟨v, he, h⟩ => ⟨v, he, h.out (min_nr a b) (by have := min_length a b; omega)⟩
theorem same_s (ha : SW w u a) (hb : SW w v b) (r : Bool) (hr : r = decide (a = b)) : Calls Try.prog 12 #[u, v] w fun e w' => e = .returned (.bool r) ∧ Below w.heap.size w w' := by
  obtain ⟨o, c, rfl⟩ := ha.shape
  obtain ⟨o', c', rfl⟩ := hb.shape
  subst hr
  exact same_any a b o o' c c' w ha hb
theorem check_s (ha : SW w u a) (r : Int) (hr : r = chk (-1) a) : Calls Try.prog 21 #[u] w fun e w' => e = .returned (.int .i64 r) ∧ Below w.heap.size w w' := by
  obtain ⟨o, c, rfl⟩ := ha.shape
  subst hr
  exact check_any a o c w ha
theorem rcheck_s (ha : SW w u a) (r : Int) (hr : r = chk (-1) a) : Calls Try.prog 22 #[u] w fun e w' => e = .returned (.int .i64 r) ∧ Below w.heap.size w w' := by
  obtain ⟨o, c, rfl⟩ := ha.shape
  subst hr
  exact rcheck_any a o c w ha
theorem minutes_s (ha : SW w u a) (hl : a.length ≤ 400) (r : Int) (hr : r = tot (norm a)) : Calls Try.prog 23 #[u] w fun e w' => e = .returned (.int .i64 r) ∧ Below w.heap.size w w' := by
  obtain ⟨o, c, rfl⟩ := ha.shape
  subst hr
  exact minutes_any a o c w ha (by omega)
theorem rminutes_s (ha : SW w u a) (hl : a.length ≤ 400) (r : Int) (hr : r = tot (norm a)) : Calls Try.prog 24 #[u] w fun e w' => e = .returned (.int .i64 r) ∧ Below w.heap.size w w' := by
  obtain ⟨o, c, rfl⟩ := ha.shape
  subst hr
  exact rminutes_any a o c w ha hl
theorem advance_s (ha : SW w u a) (hl : a.length ≤ 400) (f n : Int) (hf : I64 f) (hn : I64 n) (m : Int) (ok : Bool) (hm : m = advM (ahead a f) f n) (ho : ok = advB (ahead a f) n) : Calls Try.prog 25 #[u, .int .i64 f, .int .i64 n] w fun e w' => e = .returned (.tuple #[.int .i64 m, .bool ok]) ∧ Below w.heap.size w w' := by
  obtain ⟨o, c, rfl⟩ := ha.shape
  subst hm ho
  exact advance_any a o c f n w ha hl hf hn
theorem radvance_s (ha : SW w u a) (hl : a.length ≤ 400) (f n : Int) (hf : I64 f) (hn : I64 n) (m : Int) (ok : Bool) (hm : m = advM (ahead a f) f n) (ho : ok = advB (ahead a f) n) : Calls Try.prog 26 #[u, .int .i64 f, .int .i64 n] w fun e w' => e = .returned (.tuple #[.int .i64 m, .bool ok]) ∧ Below w.heap.size w w' := by
  obtain ⟨o, c, rfl⟩ := ha.shape
  subst hm ho
  exact radvance_any a o c f n w ha hl hf hn
theorem contains_s (ha : SW w u a) (m : Int) (r : Bool) (hr : r = inB a m) : Calls Try.prog 27 #[u, .int .i64 m] w fun e w' => e = .returned (.bool r) ∧ Below w.heap.size w w' := by
  obtain ⟨o, c, rfl⟩ := ha.shape
  subst hr
  exact contains_any a m o c w ha
theorem rcontains_s (ha : SW w u a) (m : Int) (r : Bool) (hr : r = inB a m) : Calls Try.prog 28 #[u, .int .i64 m] w fun e w' => e = .returned (.bool r) ∧ w = w' := by
  obtain ⟨o, c, rfl⟩ := ha.shape
  subst hr
  exact (rcontains_any a m o c w ha).mono fun e w' ⟨he, hw⟩ => ⟨he, hw.symm⟩
end

/-- Known slices of a world that has grown from w. -/
structure Kn (w : World) (M : List (Value × List (Int × Int))) (w' : World) : Prop where
  below : Below w.heap.size w w'
  all : ∀ y ∈ M, SW w' y.1 y.2
theorem Kn.call {w w' w2 : World} {M : List (Value × List (Int × Int))} (h : Kn w M w') (hb : Below w'.heap.size w' w2) : Kn w M w2 := ⟨h.below.trans (hb.mono h.below.size), fun y hy => (h.all y hy).on hb⟩
theorem Kn.also {w w' w2 : World} {M : List (Value × List (Int × Int))} {v : Value} {l : List (Int × Int)} (h : Kn w M w') (hb : Below w'.heap.size w' w2) (hs : SW w2 v l) : Kn w ((v, l) :: M) w2 := by
  have h2 := h.call hb
  refine ⟨h2.below, fun y hy => ?_⟩
  rcases List.mem_cons.1 hy with rfl | hy
  · exact hs
  · exact h2.all y hy
theorem Kn.get {w w' : World} {M : List (Value × List (Int × Int))} (h : Kn w M w') (v : Value) (l : List (Int × Int)) (hm : (v, l) ∈ M) : SW w' v l := h.all (v, l) hm
theorem Kn.nil (w : World) : Kn w [] w := ⟨Below.refl _ _, by simp⟩
/-- A literal. -/
theorem Kn.lit {w w' : World} {M : List (Value × List (Int × Int))} (h : Kn w M w') (l : List (Int × Int)) (n : Nat) (cs : Array Value) (hn : n = l.length) (hl : l.length ≤ 1000) (hI : ∀ s ∈ l, I64 s.1 ∧ I64 s.2) (hcs : cs = (cells l).toArray) :
    Kn w ((.slice (some ⟨w'.heap.size, 0, none⟩) n n, l) :: M) (w'.alloc (.cells cs 36)) :=
  h.also (ball (Below.refl _ _) _) ((sl_lit w' l n cs 36 hn hl hI hcs).kept (fun _ _ => rfl) (fun _ hk => hk.2))
end Go.Proofs.Ytboojinokljelaa
