/-
  The check of a network, both sides: its data, its ranges, its places and lines.
-/
import Derived.Test.YtijdjbkmkopmnaaCa
namespace Go.Proofs.Ytijdjbkmkopmnaa.Net
open Go.RowKit Go.Lib
set_option linter.unusedVariables false
set_option linter.unusedSimpArgs false

theorem bal {w : World} {B : Nat} {o : Obj} (h : w.heap[B]? = some o) (x : Obj) : (w.alloc x).heap[B]? = some o := bon h (ball (Below.refl _ _) x)
/-- The slice v holds structs of n ints. -/
def Sk {α : Type} (n : Nat) (f : α → List Int) (F : Nat → Prop) (w : World) (v : Value) (l : List α) : Prop :=
  l.length ≤ 70368744177664 ∧ (∀ x ∈ l, ∀ y ∈ f x, I64 y) ∧ ∃ a cap, v = .slice a l.length cap ∧ l.length ≤ cap ∧
    (0 < l.length → ∃ g off, a = some ⟨g, off, none⟩ ∧ F g ∧ ∀ j x, l[j]? = some x → ∀ i y, (f x)[i]? = some y → w.cell? ⟨g, off + j * n + i, none⟩ = some (.int .i64 y))
section
variable {α : Type} {n : Nat} {f : α → List Int}
theorem Sk.kept {F F' : Nat → Prop} {w w' : World} {v : Value} {b : List α} (h : Sk n f F w v b) (hw : ∀ k, F k → w'.heap[k]? = w.heap[k]?) (hF : ∀ k, F k → F' k) : Sk n f F' w' v b := by
  obtain ⟨h1, h2, a, cap, h3, h4, h5⟩ := h
  refine ⟨h1, h2, a, cap, h3, h4, fun hp => ?_⟩
  obtain ⟨g, off, ha, hf, hc⟩ := h5 hp
  exact ⟨g, off, ha, hF g hf, fun j u hj i y hi => (World.cell?_of_block (w := w) (hw g hf)).trans (hc j u hj i y hi)⟩
theorem Sk.on {w w' : World} {v : Value} {b : List α} (h : Sk n f (fun k => k < w.heap.size) w v b) (hb : Below w.heap.size w w') : Sk n f (fun k => k < w'.heap.size) w' v b :=
  h.kept (fun k hk => hb.block k hk) (fun k hk => Nat.lt_of_lt_of_le hk hb.size)
theorem Sk.shape {F : Nat → Prop} {w : World} {v : Value} {l : List α} (h : Sk n f F w v l) : ∃ a c, v = .slice a l.length c := by
  obtain ⟨_, _, a, c, rfl, _⟩ := h
  exact ⟨a, c, rfl⟩
theorem Sk.pick {F : Nat → Prop} {w : World} {a : Option Addr} {m c : Nat} {l : List α} (h : Sk n f F w (.slice a m c) l) (k : Nat) (hk : k < l.length) :
    ∃ g off x, a = some ⟨g, off, none⟩ ∧ F g ∧ l[k]? = some x ∧ (∀ y ∈ f x, I64 y) ∧ (∀ i y, (f x)[i]? = some y → w.cell? ⟨g, off + k * n + i, none⟩ = some (.int .i64 y)) ∧ l.length ≤ c := by
  obtain ⟨_, h1, a', c', h2, h3, h4⟩ := h
  simp only [Value.slice.injEq] at h2
  obtain ⟨rfl, rfl, rfl⟩ := h2
  obtain ⟨g, off, rfl, hg, hc⟩ := h4 (by omega)
  exact ⟨g, off, l[k], rfl, hg, List.getElem?_eq_getElem hk, h1 _ (List.getElem_mem hk), hc k _ (List.getElem?_eq_getElem hk), h3⟩
theorem sk_nil (F : Nat → Prop) (w : World) (a : Option Addr) (c : Nat) : Sk n f F w (.slice a 0 c) [] := ⟨by simp, by simp, a, c, rfl, Nat.zero_le _, fun h => by simp at h⟩
end

structure Pc where
  k : Int
  r : Int
  o : Int
structure Ed where
  a : Int
  b : Int
  r : Int
  m : Int
  k : Int
def Pc.cs (p : Pc) : List Int := [p.k, p.r, p.o]
def Ed.cs (x : Ed) : List Int := [x.a, x.b, x.r, x.m, x.k]
def Pc.v (p : Pc) : Value := .agg #[.int .i64 p.k, .int .i64 p.r, .int .i64 p.o]
def Ed.v (x : Ed) : Value := .agg #[.int .i64 x.a, .int .i64 x.b, .int .i64 x.r, .int .i64 x.m, .int .i64 x.k]
abbrev Ps := Sk 3 Pc.cs
abbrev Es := Sk 5 Ed.cs
theorem Ps.cells {F : Nat → Prop} {w : World} {a : Option Addr} {m c : Nat} {l : List Pc} (h : Ps F w (.slice a m c) l) (k : Nat) (hk : k < l.length) :
    ∃ g off x, a = some ⟨g, off, none⟩ ∧ F g ∧ l[k]? = some x ∧ w.cell? ⟨g, off + k * 3, none⟩ = some (.int .i64 x.k) ∧ w.cell? ⟨g, off + k * 3 + 1, none⟩ = some (.int .i64 x.r) ∧ w.cell? ⟨g, off + k * 3 + 2, none⟩ = some (.int .i64 x.o) ∧ l.length ≤ c := by
  obtain ⟨g, off, x, h1, h2, h3, h4, h5, h6⟩ := h.pick k hk
  exact ⟨g, off, x, h1, h2, h3, h5 0 _ rfl, h5 1 _ rfl, h5 2 _ rfl, h6⟩
theorem Es.cells {F : Nat → Prop} {w : World} {a : Option Addr} {m c : Nat} {l : List Ed} (h : Es F w (.slice a m c) l) (k : Nat) (hk : k < l.length) :
    ∃ g off x, a = some ⟨g, off, none⟩ ∧ F g ∧ l[k]? = some x ∧ w.cell? ⟨g, off + k * 5, none⟩ = some (.int .i64 x.a) ∧ w.cell? ⟨g, off + k * 5 + 1, none⟩ = some (.int .i64 x.b) ∧ w.cell? ⟨g, off + k * 5 + 2, none⟩ = some (.int .i64 x.r) ∧ w.cell? ⟨g, off + k * 5 + 3, none⟩ = some (.int .i64 x.m) ∧ w.cell? ⟨g, off + k * 5 + 4, none⟩ = some (.int .i64 x.k) ∧ l.length ≤ c := by
  obtain ⟨g, off, x, h1, h2, h3, h4, h5, h6⟩ := h.pick k hk
  exact ⟨g, off, x, h1, h2, h3, h5 0 _ rfl, h5 1 _ rfl, h5 2 _ rfl, h5 3 _ rfl, h5 4 _ rfl, h6⟩

/-- The value V is a network. -/
def Nw (w : World) (V : Value) (ps : List Pc) (es : List Ed) : Prop :=
  ∃ vp ve, V = .agg #[vp, ve] ∧ Ps (fun k => k < w.heap.size) w vp ps ∧ Es (fun k => k < w.heap.size) w ve es
theorem Nw.on {w w' : World} {V : Value} {ps : List Pc} {es : List Ed} (h : Nw w V ps es) (hb : Below w.heap.size w w') : Nw w' V ps es := by
  obtain ⟨vp, ve, e, h1, h2⟩ := h
  exact ⟨vp, ve, e, h1.on hb, h2.on hb⟩
theorem Nw.shape {w : World} {V : Value} {ps : List Pc} {es : List Ed} (h : Nw w V ps es) : ∃ a c b d, V = .agg #[.slice a ps.length c, .slice b es.length d] ∧ Ps (fun k => k < w.heap.size) w (.slice a ps.length c) ps ∧ Es (fun k => k < w.heap.size) w (.slice b es.length d) es := by
  obtain ⟨vp, ve, e, h1, h2⟩ := h
  obtain ⟨a, c, rfl⟩ := h1.shape
  obtain ⟨b, d, rfl⟩ := h2.shape
  exact ⟨a, c, b, d, e, h1, h2⟩
/-- The cells of a box. -/
theorem box1 {w : World} {B : Nat} {t : TypeId} {v0 : Value} (h : w.heap[B]? = some (.cells #[v0] t (0, 0))) : w.cell? ⟨B, 0, none⟩ = some v0 := by rw [cell_of_row w B 0 _ t (0, 0) h]; rfl
theorem box2 {w : World} {B : Nat} {t : TypeId} {v0 v1 : Value} (h : w.heap[B]? = some (.cells #[v0, v1] t (0, 0))) : w.cell? ⟨B, 0, none⟩ = some v0 ∧ w.cell? ⟨B, 1, none⟩ = some v1 := by
  rw [cell_of_row w B 0 _ t (0, 0) h, cell_of_row w B 1 _ t (0, 0) h]; exact ⟨rfl, rfl⟩
theorem box3 {w : World} {B : Nat} {t : TypeId} {v0 v1 v2 : Value} (h : w.heap[B]? = some (.cells #[v0, v1, v2] t (0, 0))) : w.cell? ⟨B, 0, none⟩ = some v0 ∧ w.cell? ⟨B, 1, none⟩ = some v1 ∧ w.cell? ⟨B, 2, none⟩ = some v2 := by
  rw [cell_of_row w B 0 _ t (0, 0) h, cell_of_row w B 1 _ t (0, 0) h, cell_of_row w B 2 _ t (0, 0) h]; exact ⟨rfl, rfl, rfl⟩
theorem box5 {w : World} {B : Nat} {t : TypeId} {v0 v1 v2 v3 v4 : Value} (h : w.heap[B]? = some (.cells #[v0, v1, v2, v3, v4] t (0, 0))) :
    w.cell? ⟨B, 0, none⟩ = some v0 ∧ w.cell? ⟨B, 1, none⟩ = some v1 ∧ w.cell? ⟨B, 2, none⟩ = some v2 ∧ w.cell? ⟨B, 3, none⟩ = some v3 ∧ w.cell? ⟨B, 4, none⟩ = some v4 := by
  rw [cell_of_row w B 0 _ t (0, 0) h, cell_of_row w B 1 _ t (0, 0) h, cell_of_row w B 2 _ t (0, 0) h, cell_of_row w B 3 _ t (0, 0) h, cell_of_row w B 4 _ t (0, 0) h]; exact ⟨rfl, rfl, rfl, rfl, rfl⟩
/-- Whether y lies from x to z. -/
def rng (x y z : Int) : Bool := decide (x ≤ y ∧ y ≤ z)
theorem rng_true {x y z : Int} (h : x ≤ y ∧ y ≤ z) : rng x y z = true := decide_eq_true h
theorem rng_false {x y z : Int} (h : ¬ (x ≤ y ∧ y ≤ z)) : rng x y z = false := decide_eq_false h
theorem rng_iff {x y z : Int} : rng x y z = true ↔ x ≤ y ∧ y ≤ z := decide_eq_true_iff
theorem between_any (x y z : Int) (w : World) : Calls Try.prog 98 #[.int .i64 x, .int .i64 y, .int .i64 z] w fun e w' => e = .returned (.bool (rng x y z)) ∧ w = w' := by
  by_cases h1 : x ≤ y
  · by_cases h2 : y ≤ z
    · have d1 : decide (x ≤ y) = true := decide_eq_true h1
      have d2 : decide (y ≤ z) = true := decide_eq_true h2
      rw [rng_true (And.intro h1 h2)]
      go_enter Try.func98, Try.ntmps98
      go_wp2
      go_ret
      exact ⟨rfl, rfl⟩
    · have d1 : decide (x ≤ y) = true := decide_eq_true h1
      have d2 : decide (y ≤ z) = false := decide_eq_false h2
      rw [rng_false (fun h => h2 h.2)]
      go_enter Try.func98, Try.ntmps98
      go_wp2
      go_ret
      exact ⟨rfl, rfl⟩
  · have d1 : decide (x ≤ y) = false := decide_eq_false h1
    rw [rng_false (fun h => h1 h.1)]
    go_enter Try.func98, Try.ntmps98
    go_wp2
    go_ret
    exact ⟨rfl, rfl⟩
theorem rbetween_any (x y z : Int) (w : World) : Calls Try.prog 105 #[.int .i64 y, .int .i64 x, .int .i64 z] w fun e w' => e = .returned (.bool (rng x y z)) ∧ w = w' := by
  by_cases h1 : x ≤ y
  · by_cases h2 : y ≤ z
    · have d1 : decide (x ≤ y) = true := decide_eq_true h1
      have d2 : decide (y ≤ z) = true := decide_eq_true h2
      rw [rng_true (And.intro h1 h2)]
      go_enter Try.func105, Try.ntmps105
      go_wp2
      go_ret
      exact ⟨rfl, rfl⟩
    · have d1 : decide (x ≤ y) = true := decide_eq_true h1
      have d2 : decide (y ≤ z) = false := decide_eq_false h2
      rw [rng_false (fun h => h2 h.2)]
      go_enter Try.func105, Try.ntmps105
      go_wp2
      go_ret
      exact ⟨rfl, rfl⟩
  · have d1 : decide (x ≤ y) = false := decide_eq_false h1
    rw [rng_false (fun h => h1 h.1)]
    go_enter Try.func105, Try.ntmps105
    go_wp2
    go_ret
    exact ⟨rfl, rfl⟩
theorem rail_any (x : Int) (w : World) : Calls Try.prog 99 #[.int .i64 x] w fun e w' => e = .returned (.bool (rng 0 x 15)) ∧ w = w' := by
  have Hc := Lib.hid (between_any 0 x 15 w)
  go_enter Try.func99, Try.ntmps99
  go_wp2_with fail
  refine Hc.out.mono ?_
  rintro e w' ⟨rfl, rfl⟩
  go_wp2
  go_ret
  exact ⟨rfl, rfl⟩
theorem isPlace_any {V : Value} {ps : List Pc} {es : List Ed} {w : World} (h : Nw w V ps es) (p : Int) :
    Calls Try.prog 100 #[V, .int .i64 p] w fun e w' => e = .returned (.bool (rng 0 p (ps.length - 1))) ∧ Below w.heap.size w w' := by
  obtain ⟨a, c, b, d, rfl, h1, h2⟩ := h.shape
  have hl := h1.1
  obtain ⟨n, hn⟩ : ∃ n, n = ps.length := ⟨_, rfl⟩
  obtain ⟨m, hm⟩ : ∃ m, m = es.length := ⟨_, rfl⟩
  rw [← hn] at hl ⊢
  rw [← hm]
  have hw : IntKind.i64.wrap ((n : Int) - 1) = (n : Int) - 1 := wrap_in (by omega) (by omega)
  have Hc := Lib.hid (between_any 0 p ((n : Int) - 1) (w.alloc (.cells #[.slice a n c, .slice b m d] 44)))
  have HB := Lib.hid (ball (Below.refl w.heap.size w) (.cells #[.slice a n c, .slice b m d] 44))
  clear h h1 h2 hn hm
  go_enter Try.func100, Try.ntmps100
  go_wp2_with fail
  refine Hc.out.mono ?_
  rintro e w' ⟨rfl, rfl⟩
  go_wp2
  go_ret
  exact ⟨by first | rfl | rw [hw], HB.out⟩
end Go.Proofs.Ytijdjbkmkopmnaa.Net
