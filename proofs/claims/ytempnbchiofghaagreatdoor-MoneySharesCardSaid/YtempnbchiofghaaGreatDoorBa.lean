/-
  Base: integers of 64 bits, slices of ints in memory, results.
-/
import Derived.Test.YtempnbchiofghaaGreatDoorProg
import Derived.Below
import Derived.Deep.Draws
import Derived.Maps.AppendAt
import Derived.WalkKit
import Derived.WalkSpells
import Derived.WalkLawsBesides
import Derived.Lib.Hide
import Derived.Deep.RegionHeld3
import Derived.Deep.RegionWith
import Derived.Outline
import Derived.Deep.QuietTactic
import Derived.BigQuiet
import Derived.Deep.LoopGhost
import Derived.StillTailTactics
import Derived.Deep.MidRow
import Derived.Deep.CutRange
namespace Go.Proofs.YtempnbchiofghaaGreatDoor
open Go.RowKit
set_option linter.unusedVariables false
set_option linter.unusedSimpArgs false

def I64 (n : Int) : Prop := -9223372036854775808 ≤ n ∧ n ≤ 9223372036854775807

theorem bdrewN {B : Nat} {a w : World} (h : Below B a w) (n : Nat) : Below B a (w.drewN n) := h.trans ⟨rfl, rfl, rfl, Nat.le_refl _, fun _ _ => rfl⟩
theorem ball {a w : World} (h : Below a.heap.size a w) (o : Obj) : Below a.heap.size a (w.alloc o) := h.alloc h.size o
theorem btrans {a b c : World} (h : Below a.heap.size a b) (k : Below b.heap.size b c) : Below a.heap.size a c := h.trans (k.mono h.size)

theorem retB {a b : Bool} (h : a = b) : Ending.returned (Value.bool a) = Ending.returned (Value.bool b) := by rw [h]
theorem retI {a b : Int} (h : a = b) : Ending.returned (Value.int .i64 a) = Ending.returned (Value.int .i64 b) := by rw [h]
theorem retP {a b c d : Int} (h : a = b ∧ c = d) : Ending.returned (.tuple #[Value.int .i64 a, Value.int .i64 c]) = Ending.returned (.tuple #[Value.int .i64 b, Value.int .i64 d]) := by rw [h.1, h.2]

/-- The slice v holds the ints l. -/
def Hl (F : Nat → Prop) (w : World) (v : Value) (l : List Int) : Prop :=
  l.length ≤ 70368744177664 ∧ (∀ x ∈ l, I64 x) ∧ ∃ a cap, v = .slice a l.length cap ∧ l.length ≤ cap ∧
    (0 < l.length → ∃ g off, a = some ⟨g, off, none⟩ ∧ F g ∧ ∀ j x, l[j]? = some x → w.cell? ⟨g, off + j, none⟩ = some (.int .i64 x))
theorem Hl.kept {F F' : Nat → Prop} {w w' : World} {v : Value} {b : List Int} (h : Hl F w v b) (hw : ∀ k, F k → w'.heap[k]? = w.heap[k]?) (hF : ∀ k, F k → F' k) : Hl F' w' v b := by
  obtain ⟨h1, h2, a, cap, h3, h4, h5⟩ := h
  refine ⟨h1, h2, a, cap, h3, h4, fun hp => ?_⟩
  obtain ⟨g, off, ha, hf, hc⟩ := h5 hp
  exact ⟨g, off, ha, hF g hf, fun j u hj => (World.cell?_of_block (w := w) (hw g hf)).trans (hc j u hj)⟩
theorem Hl.on {w w' : World} {v : Value} {b : List Int} (h : Hl (fun k => k < w.heap.size) w v b) (hb : Below w.heap.size w w') : Hl (fun k => k < w'.heap.size) w' v b :=
  h.kept (fun k hk => hb.block k hk) (fun k hk => Nat.lt_of_lt_of_le hk hb.size)
theorem Hl.pick {F : Nat → Prop} {w : World} {a : Option Addr} {n c : Nat} {l : List Int} (h : Hl F w (.slice a n c) l) (k : Nat) (hk : k < l.length) :
    ∃ g off x, a = some ⟨g, off, none⟩ ∧ F g ∧ l[k]? = some x ∧ I64 x ∧ w.cell? ⟨g, off + k, none⟩ = some (.int .i64 x) ∧ l.length ≤ c := by
  obtain ⟨_, h1, a', c', h2, h3, h4⟩ := h
  simp only [Value.slice.injEq] at h2
  obtain ⟨rfl, rfl, rfl⟩ := h2
  obtain ⟨g, off, rfl, hg, hc⟩ := h4 (by omega)
  exact ⟨g, off, l[k], rfl, hg, List.getElem?_eq_getElem hk, h1 _ (List.getElem_mem hk), hc k _ (List.getElem?_eq_getElem hk), h3⟩
theorem Hl.at {F : Nat → Prop} {w : World} {g off n c : Nat} {l : List Int} (h : Hl F w (.slice (some ⟨g, off, none⟩) n c) l) {k : Nat} {x : Int} (hk : l[k]? = some x) : F g ∧ w.cell? ⟨g, off + k, none⟩ = some (.int .i64 x) ∧ I64 x := by
  have hl : k < l.length := (List.getElem?_eq_some_iff.1 hk).1
  obtain ⟨g', off', x', e, h1, h2, h3, h4, _⟩ := h.pick k hl
  simp only [Option.some.injEq, Addr.mk.injEq, and_true] at e
  obtain ⟨rfl, rfl⟩ := e
  rw [hk] at h2
  cases h2
  exact ⟨h1, h4, h3⟩
theorem Hl.shape {F : Nat → Prop} {w : World} {v : Value} {l : List Int} (h : Hl F w v l) : ∃ a c, v = .slice a l.length c := by
  obtain ⟨_, _, a, c, rfl, _⟩ := h
  exact ⟨a, c, rfl⟩
theorem hl_nil (F : Nat → Prop) (w : World) (a : Option Addr) (c : Nat) : Hl F w (.slice a 0 c) [] := ⟨by simp, by simp, a, c, rfl, Nat.zero_le _, fun h => by simp at h⟩
end Go.Proofs.YtempnbchiofghaaGreatDoor
