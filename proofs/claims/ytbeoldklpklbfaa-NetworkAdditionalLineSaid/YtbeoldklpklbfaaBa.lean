/-
  Base: integers of 64 bits, slices of ints and of structs of ints in memory, networks.
-/
import Derived.Test.YtbeoldklpklbfaaProg
import Derived.Below
import Derived.Deep.Draws
import Derived.Maps.AppendAt
import Derived.WalkKit
import Derived.WalkSpells
import Derived.WalkLawsBesides
import Derived.Lib.Hide
import Derived.Deep.RegionHeld3
import Derived.Deep.RegionWith
import Derived.Outline
import Derived.Deep.QuietTactic
import Derived.BigQuiet
import Derived.Deep.LoopGhost
import Derived.StillTailTactics
import Derived.Deep.MidRow
import Derived.Deep.CutRange
namespace Go.Proofs.Ytbeoldklpklbfaa
open Go.RowKit
set_option linter.unusedVariables false
set_option linter.unusedSimpArgs false

def I64 (n : Int) : Prop := -9223372036854775808 ≤ n ∧ n ≤ 9223372036854775807
theorem wrap_in {n : Int} (h1 : -9223372036854775808 ≤ n) (h2 : n ≤ 9223372036854775807) : IntKind.i64.wrap n = n := by rw [IntKind.wrap_i64]; omega

theorem bdrewN {B : Nat} {a w : World} (h : Below B a w) (n : Nat) : Below B a (w.drewN n) := h.trans ⟨rfl, rfl, rfl, Nat.le_refl _, fun _ _ => rfl⟩
theorem ball {a w : World} (h : Below a.heap.size a w) (o : Obj) : Below a.heap.size a (w.alloc o) := h.alloc h.size o
theorem btrans {a b c : World} (h : Below a.heap.size a b) (k : Below b.heap.size b c) : Below a.heap.size a c := h.trans (k.mono h.size)

/-- The slice v holds the ints l. -/
def Hl (F : Nat → Prop) (w : World) (v : Value) (l : List Int) : Prop :=
  l.length ≤ 70368744177664 ∧ (∀ x ∈ l, I64 x) ∧ ∃ a cap, v = .slice a l.length cap ∧ l.length ≤ cap ∧
    (0 < l.length → ∃ g off, a = some ⟨g, off, none⟩ ∧ F g ∧ ∀ j x, l[j]? = some x → w.cell? ⟨g, off + j, none⟩ = some (.int .i64 x))
theorem Hl.kept {F F' : Nat → Prop} {w w' : World} {v : Value} {b : List Int} (h : Hl F w v b) (hw : ∀ k, F k → w'.heap[k]? = w.heap[k]?) (hF : ∀ k, F k → F' k) : Hl F' w' v b := by
  obtain ⟨h1, h2, a, cap, h3, h4, h5⟩ := h
  refine ⟨h1, h2, a, cap, h3, h4, fun hp => ?_⟩
  obtain ⟨g, off, ha, hf, hc⟩ := h5 hp
  exact ⟨g, off, ha, hF g hf, fun j u hj => (World.cell?_of_block (w := w) (hw g hf)).trans (hc j u hj)⟩
theorem Hl.on {w w' : World} {v : Value} {b : List Int} (h : Hl (fun k => k < w.heap.size) w v b) (hb : Below w.heap.size w w') : Hl (fun k => k < w'.heap.size) w' v b :=
  h.kept (fun k hk => hb.block k hk) (fun k hk => Nat.lt_of_lt_of_le hk hb.size)
theorem Hl.pick {F : Nat → Prop} {w : World} {a : Option Addr} {n c : Nat} {l : List Int} (h : Hl F w (.slice a n c) l) (k : Nat) (hk : k < l.length) :
    ∃ g off x, a = some ⟨g, off, none⟩ ∧ F g ∧ l[k]? = some x ∧ I64 x ∧ w.cell? ⟨g, off + k, none⟩ = some (.int .i64 x) ∧ l.length ≤ c := by
  obtain ⟨_, h1, a', c', h2, h3, h4⟩ := h
  simp only [Value.slice.injEq] at h2
  obtain ⟨rfl, rfl, rfl⟩ := h2
  obtain ⟨g, off, rfl, hg, hc⟩ := h4 (by omega)
  exact ⟨g, off, l[k], rfl, hg, List.getElem?_eq_getElem hk, h1 _ (List.getElem_mem hk), hc k _ (List.getElem?_eq_getElem hk), h3⟩
theorem Hl.at {F : Nat → Prop} {w : World} {g off n c : Nat} {l : List Int} (h : Hl F w (.slice (some ⟨g, off, none⟩) n c) l) {k : Nat} {x : Int} (hk : l[k]? = some x) : F g ∧ w.cell? ⟨g, off + k, none⟩ = some (.int .i64 x) ∧ I64 x := by
  have hl : k < l.length := (List.getElem?_eq_some_iff.1 hk).1
  obtain ⟨g', off', x', e, h1, h2, h3, h4, _⟩ := h.pick k hl
  simp only [Option.some.injEq, Addr.mk.injEq, and_true] at e
  obtain ⟨rfl, rfl⟩ := e
  rw [hk] at h2
  cases h2
  exact ⟨h1, h4, h3⟩
theorem Hl.shape {F : Nat → Prop} {w : World} {v : Value} {l : List Int} (h : Hl F w v l) : ∃ a c, v = .slice a l.length c := by
  obtain ⟨_, _, a, c, rfl, _⟩ := h
  exact ⟨a, c, rfl⟩
theorem hl_nil (F : Nat → Prop) (w : World) (a : Option Addr) (c : Nat) : Hl F w (.slice a 0 c) [] := ⟨by simp, by simp, a, c, rfl, Nat.zero_le _, fun h => by simp at h⟩

/-- The slice v holds structs of n ints. -/
def Sk {α : Type} (n : Nat) (f : α → List Int) (F : Nat → Prop) (w : World) (v : Value) (l : List α) : Prop :=
  l.length ≤ 70368744177664 ∧ (∀ x ∈ l, ∀ y ∈ f x, I64 y) ∧ ∃ a cap, v = .slice a l.length cap ∧ l.length ≤ cap ∧
    (0 < l.length → ∃ g off, a = some ⟨g, off, none⟩ ∧ F g ∧ ∀ j x, l[j]? = some x → ∀ i y, (f x)[i]? = some y → w.cell? ⟨g, off + j * n + i, none⟩ = some (.int .i64 y))
section
variable {α : Type} {n : Nat} {f : α → List Int}
theorem Sk.kept {F F' : Nat → Prop} {w w' : World} {v : Value} {b : List α} (h : Sk n f F w v b) (hw : ∀ k, F k → w'.heap[k]? = w.heap[k]?) (hF : ∀ k, F k → F' k) : Sk n f F' w' v b := by
  obtain ⟨h1, h2, a, cap, h3, h4, h5⟩ := h
  refine ⟨h1, h2, a, cap, h3, h4, fun hp => ?_⟩
  obtain ⟨g, off, ha, hf, hc⟩ := h5 hp
  exact ⟨g, off, ha, hF g hf, fun j u hj i y hi => (World.cell?_of_block (w := w) (hw g hf)).trans (hc j u hj i y hi)⟩
theorem Sk.on {w w' : World} {v : Value} {b : List α} (h : Sk n f (fun k => k < w.heap.size) w v b) (hb : Below w.heap.size w w') : Sk n f (fun k => k < w'.heap.size) w' v b :=
  h.kept (fun k hk => hb.block k hk) (fun k hk => Nat.lt_of_lt_of_le hk hb.size)
theorem Sk.shape {F : Nat → Prop} {w : World} {v : Value} {l : List α} (h : Sk n f F w v l) : ∃ a c, v = .slice a l.length c := by
  obtain ⟨_, _, a, c, rfl, _⟩ := h
  exact ⟨a, c, rfl⟩
theorem Sk.pick {F : Nat → Prop} {w : World} {a : Option Addr} {m c : Nat} {l : List α} (h : Sk n f F w (.slice a m c) l) (k : Nat) (hk : k < l.length) :
    ∃ g off x, a = some ⟨g, off, none⟩ ∧ F g ∧ l[k]? = some x ∧ (∀ y ∈ f x, I64 y) ∧ (∀ i y, (f x)[i]? = some y → w.cell? ⟨g, off + k * n + i, none⟩ = some (.int .i64 y)) ∧ l.length ≤ c := by
  obtain ⟨_, h1, a', c', h2, h3, h4⟩ := h
  simp only [Value.slice.injEq] at h2
  obtain ⟨rfl, rfl, rfl⟩ := h2
  obtain ⟨g, off, rfl, hg, hc⟩ := h4 (by omega)
  exact ⟨g, off, l[k], rfl, hg, List.getElem?_eq_getElem hk, h1 _ (List.getElem_mem hk), hc k _ (List.getElem?_eq_getElem hk), h3⟩
theorem sk_nil (F : Nat → Prop) (w : World) (a : Option Addr) (c : Nat) : Sk n f F w (.slice a 0 c) [] := ⟨by simp, by simp, a, c, rfl, Nat.zero_le _, fun h => by simp at h⟩
end

structure Pc where
  k : Int
  r : Int
  o : Int
structure Ed where
  a : Int
  b : Int
  r : Int
  m : Int
  k : Int
structure Sh where
  r : Int
  k : Int
  deriving DecidableEq
def Pc.cs (p : Pc) : List Int := [p.k, p.r, p.o]
def Ed.cs (x : Ed) : List Int := [x.a, x.b, x.r, x.m, x.k]
def Sh.cs (x : Sh) : List Int := [x.r, x.k]
def Pc.v (p : Pc) : Value := .agg #[.int .i64 p.k, .int .i64 p.r, .int .i64 p.o]
def Ed.v (x : Ed) : Value := .agg #[.int .i64 x.a, .int .i64 x.b, .int .i64 x.r, .int .i64 x.m, .int .i64 x.k]
abbrev Ps := Sk 3 Pc.cs
abbrev Es := Sk 5 Ed.cs
abbrev Ss := Sk 2 Sh.cs
theorem Ps.cells {F : Nat → Prop} {w : World} {a : Option Addr} {m c : Nat} {l : List Pc} (h : Ps F w (.slice a m c) l) (k : Nat) (hk : k < l.length) :
    ∃ g off x, a = some ⟨g, off, none⟩ ∧ F g ∧ l[k]? = some x ∧ w.cell? ⟨g, off + k * 3, none⟩ = some (.int .i64 x.k) ∧ w.cell? ⟨g, off + k * 3 + 1, none⟩ = some (.int .i64 x.r) ∧ w.cell? ⟨g, off + k * 3 + 2, none⟩ = some (.int .i64 x.o) ∧ l.length ≤ c := by
  obtain ⟨g, off, x, h1, h2, h3, h4, h5, h6⟩ := h.pick k hk
  exact ⟨g, off, x, h1, h2, h3, h5 0 _ rfl, h5 1 _ rfl, h5 2 _ rfl, h6⟩
theorem Es.cells {F : Nat → Prop} {w : World} {a : Option Addr} {m c : Nat} {l : List Ed} (h : Es F w (.slice a m c) l) (k : Nat) (hk : k < l.length) :
    ∃ g off x, a = some ⟨g, off, none⟩ ∧ F g ∧ l[k]? = some x ∧ w.cell? ⟨g, off + k * 5, none⟩ = some (.int .i64 x.a) ∧ w.cell? ⟨g, off + k * 5 + 1, none⟩ = some (.int .i64 x.b) ∧ w.cell? ⟨g, off + k * 5 + 2, none⟩ = some (.int .i64 x.r) ∧ w.cell? ⟨g, off + k * 5 + 3, none⟩ = some (.int .i64 x.m) ∧ w.cell? ⟨g, off + k * 5 + 4, none⟩ = some (.int .i64 x.k) ∧ l.length ≤ c := by
  obtain ⟨g, off, x, h1, h2, h3, h4, h5, h6⟩ := h.pick k hk
  exact ⟨g, off, x, h1, h2, h3, h5 0 _ rfl, h5 1 _ rfl, h5 2 _ rfl, h5 3 _ rfl, h5 4 _ rfl, h6⟩

/-- The value V is a network. -/
def Nw (w : World) (V : Value) (ps : List Pc) (es : List Ed) : Prop :=
  ∃ vp ve, V = .agg #[vp, ve] ∧ Ps (fun k => k < w.heap.size) w vp ps ∧ Es (fun k => k < w.heap.size) w ve es
theorem Nw.on {w w' : World} {V : Value} {ps : List Pc} {es : List Ed} (h : Nw w V ps es) (hb : Below w.heap.size w w') : Nw w' V ps es := by
  obtain ⟨vp, ve, e, h1, h2⟩ := h
  exact ⟨vp, ve, e, h1.on hb, h2.on hb⟩
theorem Nw.shape {w : World} {V : Value} {ps : List Pc} {es : List Ed} (h : Nw w V ps es) : ∃ a c b d, V = .agg #[.slice a ps.length c, .slice b es.length d] ∧ Ps (fun k => k < w.heap.size) w (.slice a ps.length c) ps ∧ Es (fun k => k < w.heap.size) w (.slice b es.length d) es := by
  obtain ⟨vp, ve, e, h1, h2⟩ := h
  obtain ⟨a, c, rfl⟩ := h1.shape
  obtain ⟨b, d, rfl⟩ := h2.shape
  exact ⟨a, c, b, d, e, h1, h2⟩
/-- The cells of a box. -/
theorem box1 {w : World} {B : Nat} {t : TypeId} {v0 : Value} (h : w.heap[B]? = some (.cells #[v0] t (0, 0))) : w.cell? ⟨B, 0, none⟩ = some v0 := by rw [cell_of_row w B 0 _ t (0, 0) h]; rfl
theorem box2 {w : World} {B : Nat} {t : TypeId} {v0 v1 : Value} (h : w.heap[B]? = some (.cells #[v0, v1] t (0, 0))) : w.cell? ⟨B, 0, none⟩ = some v0 ∧ w.cell? ⟨B, 1, none⟩ = some v1 := by
  rw [cell_of_row w B 0 _ t (0, 0) h, cell_of_row w B 1 _ t (0, 0) h]; exact ⟨rfl, rfl⟩
theorem box3 {w : World} {B : Nat} {t : TypeId} {v0 v1 v2 : Value} (h : w.heap[B]? = some (.cells #[v0, v1, v2] t (0, 0))) : w.cell? ⟨B, 0, none⟩ = some v0 ∧ w.cell? ⟨B, 1, none⟩ = some v1 ∧ w.cell? ⟨B, 2, none⟩ = some v2 := by
  rw [cell_of_row w B 0 _ t (0, 0) h, cell_of_row w B 1 _ t (0, 0) h, cell_of_row w B 2 _ t (0, 0) h]; exact ⟨rfl, rfl, rfl⟩
theorem box5 {w : World} {B : Nat} {t : TypeId} {v0 v1 v2 v3 v4 : Value} (h : w.heap[B]? = some (.cells #[v0, v1, v2, v3, v4] t (0, 0))) :
    w.cell? ⟨B, 0, none⟩ = some v0 ∧ w.cell? ⟨B, 1, none⟩ = some v1 ∧ w.cell? ⟨B, 2, none⟩ = some v2 ∧ w.cell? ⟨B, 3, none⟩ = some v3 ∧ w.cell? ⟨B, 4, none⟩ = some v4 := by
  rw [cell_of_row w B 0 _ t (0, 0) h, cell_of_row w B 1 _ t (0, 0) h, cell_of_row w B 2 _ t (0, 0) h, cell_of_row w B 3 _ t (0, 0) h, cell_of_row w B 4 _ t (0, 0) h]; exact ⟨rfl, rfl, rfl, rfl, rfl⟩
theorem blt {w : World} {B : Nat} {o : Obj} (h : w.heap[B]? = some o) : B < w.heap.size := (Array.getElem?_eq_some_iff.1 h).1
/-- What lies in a block lies there still. -/
theorem bon {w w' : World} {B : Nat} {o : Obj} (h : w.heap[B]? = some o) (hb : Below w.heap.size w w') : w'.heap[B]? = some o := (hb.block _ (blt h)).trans h
theorem bal {w : World} {B : Nat} {o : Obj} (h : w.heap[B]? = some o) (x : Obj) : (w.alloc x).heap[B]? = some o := bon h (ball (Below.refl _ _) x)
theorem bnew (w : World) (x : Obj) : (w.alloc x).heap[w.heap.size]? = some x := heap_alloc_new w x
end Go.Proofs.Ytbeoldklpklbfaa
