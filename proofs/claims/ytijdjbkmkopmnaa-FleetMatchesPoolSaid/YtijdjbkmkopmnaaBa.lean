/-
  Base: integers of 64 bits, slices of structs in memory, fleets.
-/
import Derived.Test.YtijdjbkmkopmnaaProg
import Derived.Test.YtijdjbkmkopmnaaPl
import Derived.Below
import Derived.Deep.Draws
import Derived.Maps.AppendAt
import Derived.WalkKit
import Derived.WalkSpells
import Derived.WalkLawsBesides
import Derived.Lib.Hide
import Derived.Deep.RegionHeld3
import Derived.Deep.RegionWith
import Derived.Outline
import Derived.Deep.QuietTactic
import Derived.BigQuiet
import Derived.Deep.LoopGhost
import Derived.StillTailTactics
import Derived.Deep.MidRow
import Derived.Deep.CutRange
namespace Go.Proofs.Ytijdjbkmkopmnaa
open Go.RowKit
set_option linter.unusedVariables false
set_option linter.unusedSimpArgs false

def I64 (n : Int) : Prop := -9223372036854775808 ≤ n ∧ n ≤ 9223372036854775807
theorem wrap_in {n : Int} (h1 : -9223372036854775808 ≤ n) (h2 : n ≤ 9223372036854775807) : IntKind.i64.wrap n = n := by rw [IntKind.wrap_i64]; omega

theorem bdrewN {B : Nat} {a w : World} (h : Below B a w) (n : Nat) : Below B a (w.drewN n) := h.trans ⟨rfl, rfl, rfl, Nat.le_refl _, fun _ _ => rfl⟩
theorem ball {a w : World} (h : Below a.heap.size a w) (o : Obj) : Below a.heap.size a (w.alloc o) := h.alloc h.size o
theorem btrans {a b c : World} (h : Below a.heap.size a b) (k : Below b.heap.size b c) : Below a.heap.size a c := h.trans (k.mono h.size)
theorem blt {w : World} {B : Nat} {o : Obj} (h : w.heap[B]? = some o) : B < w.heap.size := (Array.getElem?_eq_some_iff.1 h).1
theorem bon {w w' : World} {B : Nat} {o : Obj} (h : w.heap[B]? = some o) (hb : Below w.heap.size w w') : w'.heap[B]? = some o := (hb.block B (blt h)).trans h
theorem bnew (w : World) (o : Obj) : (w.alloc o).heap[w.heap.size]? = some o := heap_alloc_new w o
theorem bold {w : World} {B : Nat} {o o' : Obj} (h : w.heap[B]? = some o) : (w.alloc o').heap[B]? = some o := (heap_alloc_old w o' (blt h)).trans h
theorem bsetRow {B : Nat} {a w : World} (h : Below B a w) {k : Nat} (hk : B ≤ k) (cs : Array Value) : Below B a (w.setRow k cs) :=
  h.trans ⟨rfl, rfl, rfl, by simp, fun i hi => setRow_other _ _ _ _ (by omega)⟩
/-- Cells one behind the other. -/
theorem rangeAt_kept {w w' : World} {g o : Nat} {cs : List Value} (h : w.rangeAt g o cs) (e : w'.heap[g]? = w.heap[g]?) : w'.rangeAt g o cs :=
  fun j v hv => (World.cell?_of_block (w := w) (a := ⟨g, o + j, none⟩) e).trans (h j v hv)
theorem rangeAt_row {w : World} {B : Nat} {cs : Array Value} {t : TypeId} (h : w.heap[B]? = some (.cells cs t (0, 0))) : w.rangeAt B 0 cs.toList := by
  intro j u hu
  rw [Nat.zero_add, cell_of_row w B j cs t (0, 0) h]
  simpa using hu

/-- The slice v holds the elements l, of n cells each. -/
def Sk {α : Type} (n : Nat) (f : α → List Value) (ok : α → Prop) (F : Nat → Prop) (w : World) (v : Value) (l : List α) : Prop :=
  l.length ≤ 70368744177664 ∧ (∀ x ∈ l, ok x) ∧ ∃ a cap, v = .slice a l.length cap ∧ l.length ≤ cap ∧
    (0 < l.length → ∃ g off, a = some ⟨g, off, none⟩ ∧ F g ∧ ∀ j x, l[j]? = some x → w.rangeAt g (off + j * n) (f x))
section
variable {α : Type} {n : Nat} {f : α → List Value} {ok : α → Prop}
theorem Sk.kept {F F' : Nat → Prop} {w w' : World} {v : Value} {b : List α} (h : Sk n f ok F w v b) (hw : ∀ k, F k → w'.heap[k]? = w.heap[k]?) (hF : ∀ k, F k → F' k) : Sk n f ok F' w' v b := by
  obtain ⟨h1, h2, a, cap, h3, h4, h5⟩ := h
  refine ⟨h1, h2, a, cap, h3, h4, fun hp => ?_⟩
  obtain ⟨g, off, ha, hf, hc⟩ := h5 hp
  exact ⟨g, off, ha, hF g hf, fun j u hj => rangeAt_kept (hc j u hj) (hw g hf)⟩
theorem Sk.on {w w' : World} {v : Value} {b : List α} (h : Sk n f ok (fun k => k < w.heap.size) w v b) (hb : Below w.heap.size w w') : Sk n f ok (fun k => k < w'.heap.size) w' v b :=
  h.kept (fun k hk => hb.block k hk) (fun k hk => Nat.lt_of_lt_of_le hk hb.size)
theorem Sk.shape {F : Nat → Prop} {w : World} {v : Value} {l : List α} (h : Sk n f ok F w v l) : ∃ a c, v = .slice a l.length c := by
  obtain ⟨_, _, a, c, rfl, _⟩ := h
  exact ⟨a, c, rfl⟩
theorem Sk.pick {F : Nat → Prop} {w : World} {a : Option Addr} {m c : Nat} {l : List α} (h : Sk n f ok F w (.slice a m c) l) (k : Nat) (hk : k < l.length) :
    ∃ g off x, a = some ⟨g, off, none⟩ ∧ F g ∧ l[k]? = some x ∧ ok x ∧ w.rangeAt g (off + k * n) (f x) ∧ l.length ≤ c := by
  obtain ⟨_, h1, a', c', h2, h3, h4⟩ := h
  simp only [Value.slice.injEq] at h2
  obtain ⟨rfl, rfl, rfl⟩ := h2
  obtain ⟨g, off, rfl, hg, hc⟩ := h4 (by omega)
  exact ⟨g, off, l[k], rfl, hg, List.getElem?_eq_getElem hk, h1 _ (List.getElem_mem hk), hc k _ (List.getElem?_eq_getElem hk), h3⟩
theorem Sk.at {F : Nat → Prop} {w : World} {g off m c : Nat} {l : List α} (h : Sk n f ok F w (.slice (some ⟨g, off, none⟩) m c) l) {k : Nat} {x : α} (hk : l[k]? = some x) : F g ∧ w.rangeAt g (off + k * n) (f x) ∧ ok x := by
  obtain ⟨g', off', x', e, h1, h2, h3, h4, _⟩ := h.pick k (List.getElem?_eq_some_iff.1 hk).1
  simp only [Option.some.injEq, Addr.mk.injEq, and_true] at e
  obtain ⟨rfl, rfl⟩ := e
  rw [hk] at h2
  cases h2
  exact ⟨h1, h4, h3⟩
theorem sk_nil (F : Nat → Prop) (w : World) (a : Option Addr) (c : Nat) : Sk n f ok F w (.slice a 0 c) [] := ⟨by simp, by simp, a, c, rfl, Nat.zero_le _, fun h => by simp at h⟩
end

/-- A type, a wagon, a swap, a wash. -/
structure Ty where
  ld : Int
  ta : Int
  ln : Int
  ga : Int
  br : Int
  cl : Int
  li : Int
  fl : Int
structure Wn where
  ty : Int
  ow : Int
  ho : Int
  bu : Int
  wo : Int
structure Sw where
  wa : Int
  gi : Int
  co : Int
  deriving DecidableEq
structure Wh where
  fr : Int
  tt : Int
  mi : Int
def Ty.cs (x : Ty) : List Value := [.int .i64 x.ld, .int .i64 x.ta, .int .i64 x.ln, .int .i64 x.ga, .int .i64 x.br, .int .u64 x.cl, .int .i64 x.li, .int .i64 x.fl]
def Wn.cs (x : Wn) : List Value := [.int .i64 x.ty, .int .i64 x.ow, .int .i64 x.ho, .int .i64 x.bu, .int .i64 x.wo]
def Sw.cs (x : Sw) : List Value := [.int .i64 x.wa, .int .i64 x.gi, .int .i64 x.co]
def Wh.cs (x : Wh) : List Value := [.int .i64 x.fr, .int .i64 x.tt, .int .i64 x.mi]
def Ty.ok (x : Ty) : Prop := 0 ≤ x.cl ∧ x.cl ≤ 18446744073709551615
def Sw.ok (x : Sw) : Prop := I64 x.wa ∧ I64 x.gi ∧ I64 x.co
abbrev Ts := Sk 8 Ty.cs Ty.ok
abbrev Ws := Sk 5 Wn.cs (fun _ => True)
abbrev Ss := Sk 3 Sw.cs Sw.ok
abbrev Hs := Sk 3 Wh.cs (fun _ => True)

/-- The value V is a fleet. -/
def Fl (w : World) (V : Value) (ts : List Ty) (ws : List Wn) (ss : List Sw) (hs : List Wh) : Prop :=
  ∃ vt vw vs vh, V = .agg #[vt, vw, vs, vh] ∧ Ts (fun k => k < w.heap.size) w vt ts ∧ Ws (fun k => k < w.heap.size) w vw ws ∧ Ss (fun k => k < w.heap.size) w vs ss ∧ Hs (fun k => k < w.heap.size) w vh hs
theorem Fl.on {w w' : World} {V : Value} {ts : List Ty} {ws : List Wn} {ss : List Sw} {hs : List Wh} (h : Fl w V ts ws ss hs) (hb : Below w.heap.size w w') : Fl w' V ts ws ss hs := by
  obtain ⟨vt, vw, vs, vh, e, h1, h2, h3, h4⟩ := h
  exact ⟨vt, vw, vs, vh, e, h1.on hb, h2.on hb, h3.on hb, h4.on hb⟩
theorem Fl.shape {w : World} {V : Value} {ts : List Ty} {ws : List Wn} {ss : List Sw} {hs : List Wh} (h : Fl w V ts ws ss hs) : ∃ a1 c1 a2 c2 a3 c3 a4 c4, V = .agg #[.slice a1 ts.length c1, .slice a2 ws.length c2, .slice a3 ss.length c3, .slice a4 hs.length c4] ∧
    Ts (fun k => k < w.heap.size) w (.slice a1 ts.length c1) ts ∧ Ws (fun k => k < w.heap.size) w (.slice a2 ws.length c2) ws ∧ Ss (fun k => k < w.heap.size) w (.slice a3 ss.length c3) ss ∧ Hs (fun k => k < w.heap.size) w (.slice a4 hs.length c4) hs := by
  obtain ⟨vt, vw, vs, vh, e, h1, h2, h3, h4⟩ := h
  obtain ⟨a1, c1, rfl⟩ := h1.shape
  obtain ⟨a2, c2, rfl⟩ := h2.shape
  obtain ⟨a3, c3, rfl⟩ := h3.shape
  obtain ⟨a4, c4, rfl⟩ := h4.shape
  exact ⟨a1, c1, a2, c2, a3, c3, a4, c4, e, h1, h2, h3, h4⟩
/-- Cells of a box. -/
theorem box1 {w : World} {B : Nat} {a : Value} {t : TypeId} (h : w.heap[B]? = some (.cells #[a] t (0, 0))) : w.cell? ⟨B, 0, none⟩ = some a := by rw [cell_of_row w B 0 _ t (0, 0) h]; rfl
theorem box4 {w : World} {B : Nat} {a b c d : Value} {t : TypeId} (h : w.heap[B]? = some (.cells #[a, b, c, d] t (0, 0))) : w.cell? ⟨B, 0, none⟩ = some a ∧ w.cell? ⟨B, 1, none⟩ = some b ∧ w.cell? ⟨B, 2, none⟩ = some c ∧ w.cell? ⟨B, 3, none⟩ = some d := by
  refine ⟨?_, ?_, ?_, ?_⟩
  · rw [cell_of_row w B 0 _ t (0, 0) h]; rfl
  · rw [cell_of_row w B 1 _ t (0, 0) h]; rfl
  · rw [cell_of_row w B 2 _ t (0, 0) h]; rfl
  · rw [cell_of_row w B 3 _ t (0, 0) h]; rfl
end Go.Proofs.Ytijdjbkmkopmnaa
