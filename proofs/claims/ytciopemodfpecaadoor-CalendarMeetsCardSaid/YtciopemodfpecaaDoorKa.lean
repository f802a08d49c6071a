/-
  How calendars lie in memory.
-/
import Derived.Test.YtciopemodfpecaaDoorPe
import Derived.Test.YtciopemodfpecaaDoorDp
namespace Go.Proofs.YtciopemodfpecaaDoor
open Go.RowKit
set_option linter.unusedVariables false
set_option linter.unusedSimpArgs false

/-- The slice v holds the days l. -/
def Hl (F : Nat → Prop) (w : World) (v : Value) (l : List Int) : Prop :=
  l.length ≤ 70368744177664 ∧ (∀ x ∈ l, I64 x) ∧ ∃ a cap, v = .slice a l.length cap ∧ l.length ≤ cap ∧
    (0 < l.length → ∃ g off, a = some ⟨g, off, none⟩ ∧ F g ∧ ∀ j x, l[j]? = some x → w.cell? ⟨g, off + j, none⟩ = some (.int .i64 x))
theorem Hl.kept {F F' : Nat → Prop} {w w' : World} {v : Value} {b : List Int} (h : Hl F w v b) (hw : ∀ k, F k → w'.heap[k]? = w.heap[k]?) (hF : ∀ k, F k → F' k) : Hl F' w' v b := by
  obtain ⟨h1, h2, a, cap, h3, h4, h5⟩ := h
  refine ⟨h1, h2, a, cap, h3, h4, fun hp => ?_⟩
  obtain ⟨g, off, ha, hf, hc⟩ := h5 hp
  exact ⟨g, off, ha, hF g hf, fun j u hj => (World.cell?_of_block (w := w) (hw g hf)).trans (hc j u hj)⟩
theorem Hl.pick {F : Nat → Prop} {w : World} {a : Option Addr} {n c : Nat} {l : List Int} (h : Hl F w (.slice a n c) l) (k : Nat) (hk : k < l.length) :
    ∃ g off x, a = some ⟨g, off, none⟩ ∧ F g ∧ l[k]? = some x ∧ I64 x ∧ w.cell? ⟨g, off + k, none⟩ = some (.int .i64 x) ∧ l.length ≤ c := by
  obtain ⟨_, h1, a', c', h2, h3, h4⟩ := h
  simp only [Value.slice.injEq] at h2
  obtain ⟨rfl, rfl, rfl⟩ := h2
  obtain ⟨g, off, rfl, hg, hc⟩ := h4 (by omega)
  exact ⟨g, off, l[k], rfl, hg, List.getElem?_eq_getElem hk, h1 _ (List.getElem_mem hk), hc k _ (List.getElem?_eq_getElem hk), h3⟩
theorem Hl.at {F : Nat → Prop} {w : World} {g off n c : Nat} {l : List Int} (h : Hl F w (.slice (some ⟨g, off, none⟩) n c) l) {k : Nat} {x : Int} (hk : l[k]? = some x) : F g ∧ w.cell? ⟨g, off + k, none⟩ = some (.int .i64 x) ∧ I64 x := by
  have hl : k < l.length := (List.getElem?_eq_some_iff.1 hk).1
  obtain ⟨g', off', x', e, h1, h2, h3, h4, _⟩ := h.pick k hl
  simp only [Option.some.injEq, Addr.mk.injEq, and_true] at e
  obtain ⟨rfl, rfl⟩ := e
  rw [hk] at h2
  cases h2
  exact ⟨h1, h4, h3⟩
theorem hl_nil (F : Nat → Prop) (w : World) (a : Option Addr) (c : Nat) : Hl F w (.slice a 0 c) [] := ⟨by simp, by simp, a, c, rfl, Nat.zero_le _, fun h => by simp at h⟩

/-- cs are the cells of the calendar of the spans op and the holidays hol. -/
structure Cal (F : Nat → Prop) (w : World) (cs : Array Value) (op : List (Int × Int)) (hol : List Int) : Prop where
  len : op.length = 7
  ok : ∀ s ∈ op, I64 s.1 ∧ I64 s.2
  row : ∃ v, cs = (cells op ++ [v]).toArray ∧ Hl F w v hol
theorem Cal.kept {F F' : Nat → Prop} {w w' : World} {cs : Array Value} {op : List (Int × Int)} {hol : List Int} (h : Cal F w cs op hol) (hw : ∀ k, F k → w'.heap[k]? = w.heap[k]?) (hF : ∀ k, F k → F' k) : Cal F' w' cs op hol := by
  obtain ⟨v, h1, h2⟩ := h.row
  exact ⟨h.len, h.ok, v, h1, h2.kept hw hF⟩
theorem Cal.on {w w' : World} {cs : Array Value} {op : List (Int × Int)} {hol : List Int} (h : Cal (fun k => k < w.heap.size) w cs op hol) (hb : Below w.heap.size w w') : Cal (fun k => k < w'.heap.size) w' cs op hol :=
  h.kept (fun k hk => hb.block k hk) (fun k hk => Nat.lt_of_lt_of_le hk hb.size)
theorem Cal.size {F : Nat → Prop} {w : World} {cs : Array Value} {op : List (Int × Int)} {hol : List Int} (h : Cal F w cs op hol) : cs.size = 15 := by
  obtain ⟨v, rfl, _⟩ := h.row
  simp [cells_length, h.len]
/-- The cells of the boxed calendar. -/
theorem Cal.box {F : Nat → Prop} {w W : World} {cs : Array Value} {op : List (Int × Int)} {hol : List Int} (h : Cal F w cs op hol) {B : Nat} {t : TypeId} (hB : W.heap[B]? = some (.cells cs t (0, 0))) :
    W.rangeAt B 0 (cells op) ∧ (∀ k s, op[k]? = some s → W.cell? ⟨B, k * 2, none⟩ = some (.int .i64 s.1) ∧ W.cell? ⟨B, k * 2 + 1, none⟩ = some (.int .i64 s.2)) ∧ ∃ a cap, W.cell? ⟨B, 14, none⟩ = some (.slice a hol.length cap) ∧ Hl F w (.slice a hol.length cap) hol := by
  obtain ⟨v, rfl, hv⟩ := h.row
  have hl : (cells op).length = 14 := by rw [cells_length, h.len]
  have key : ∀ i, W.cell? ⟨B, i, none⟩ = (cells op ++ [v])[i]? := by
    intro i
    rw [cell_of_row W B i _ t (0, 0) hB]
    simp
  refine ⟨?_, fun k s hk => ?_, ?_⟩
  · intro j u hj
    have hjl := (List.getElem?_eq_some_iff.1 hj).1
    rw [Nat.zero_add, key, List.getElem?_append_left hjl]; exact hj
  · obtain ⟨e0, e1⟩ := cells_get op k s hk
    have hk7 := (List.getElem?_eq_some_iff.1 hk).1
    rw [h.len] at hk7
    rw [key, key, List.getElem?_append_left (by omega), List.getElem?_append_left (by omega)]
    exact ⟨e0, e1⟩
  · obtain ⟨h1, h2, a, cap, rfl, h4, h5⟩ := hv
    refine ⟨a, cap, ?_, h1, h2, a, cap, rfl, h4, h5⟩
    rw [key, List.getElem?_append_right (by omega), hl]
    rfl

theorem size27 {n : Nat} (h : n = 15) : (Tryd.prog.info? 27).map (·.size) = some n := by rw [h]; kernel_rfl
theorem size24 {n : Nat} (h : n = 14) : (Tryd.prog.info? 24).map (·.size) = some n := by rw [h]; kernel_rfl

theorem seven {op : List (Int × Int)} (h : op.length = 7) : ∃ a b c d e f g, op = [a, b, c, d, e, f, g] := by
  match op, h with
  | [a, b, c, d, e, f, g], _ => exact ⟨a, b, c, d, e, f, g, rfl⟩
theorem idx24_0 (a b c d e f g : Int × Int) (w : World) : (Instr.index 24 (.agg (cells [a, b, c, d, e, f, g]).toArray) (.int .i64 ((0 : Nat) : Int))).run Tryd.prog w = .ok (.agg #[.int .i64 a.1, .int .i64 a.2]) w := by kernel_rfl
theorem idx24_1 (a b c d e f g : Int × Int) (w : World) : (Instr.index 24 (.agg (cells [a, b, c, d, e, f, g]).toArray) (.int .i64 ((1 : Nat) : Int))).run Tryd.prog w = .ok (.agg #[.int .i64 b.1, .int .i64 b.2]) w := by kernel_rfl
theorem idx24_2 (a b c d e f g : Int × Int) (w : World) : (Instr.index 24 (.agg (cells [a, b, c, d, e, f, g]).toArray) (.int .i64 ((2 : Nat) : Int))).run Tryd.prog w = .ok (.agg #[.int .i64 c.1, .int .i64 c.2]) w := by kernel_rfl
theorem idx24_3 (a b c d e f g : Int × Int) (w : World) : (Instr.index 24 (.agg (cells [a, b, c, d, e, f, g]).toArray) (.int .i64 ((3 : Nat) : Int))).run Tryd.prog w = .ok (.agg #[.int .i64 d.1, .int .i64 d.2]) w := by kernel_rfl
theorem idx24_4 (a b c d e f g : Int × Int) (w : World) : (Instr.index 24 (.agg (cells [a, b, c, d, e, f, g]).toArray) (.int .i64 ((4 : Nat) : Int))).run Tryd.prog w = .ok (.agg #[.int .i64 e.1, .int .i64 e.2]) w := by kernel_rfl
theorem idx24_5 (a b c d e f g : Int × Int) (w : World) : (Instr.index 24 (.agg (cells [a, b, c, d, e, f, g]).toArray) (.int .i64 ((5 : Nat) : Int))).run Tryd.prog w = .ok (.agg #[.int .i64 f.1, .int .i64 f.2]) w := by kernel_rfl
theorem idx24_6 (a b c d e f g : Int × Int) (w : World) : (Instr.index 24 (.agg (cells [a, b, c, d, e, f, g]).toArray) (.int .i64 ((6 : Nat) : Int))).run Tryd.prog w = .ok (.agg #[.int .i64 g.1, .int .i64 g.2]) w := by kernel_rfl
/-- An element of the array of spans. -/
theorem idx24 {op : List (Int × Int)} (h : op.length = 7) (k : Nat) (s : Int × Int) (hk : op[k]? = some s) (w : World) :
    (Instr.index 24 (.agg (cells op).toArray) (.int .i64 (k : Int))).run Tryd.prog w = .ok (.agg #[.int .i64 s.1, .int .i64 s.2]) w := by
  have hk7 := (List.getElem?_eq_some_iff.1 hk).1
  obtain ⟨a, b, c, d, e, f, g, rfl⟩ := seven h
  simp only [List.length_cons, List.length_nil] at hk7
  rcases (show k = 0 ∨ k = 1 ∨ k = 2 ∨ k = 3 ∨ k = 4 ∨ k = 5 ∨ k = 6 by omega) with rfl | rfl | rfl | rfl | rfl | rfl | rfl
  · obtain rfl := Option.some.inj hk; exact idx24_0 a b c d e f g w
  · obtain rfl := Option.some.inj hk; exact idx24_1 a b c d e f g w
  · obtain rfl := Option.some.inj hk; exact idx24_2 a b c d e f g w
  · obtain rfl := Option.some.inj hk; exact idx24_3 a b c d e f g w
  · obtain rfl := Option.some.inj hk; exact idx24_4 a b c d e f g w
  · obtain rfl := Option.some.inj hk; exact idx24_5 a b c d e f g w
  · obtain rfl := Option.some.inj hk; exact idx24_6 a b c d e f g w
end Go.Proofs.YtciopemodfpecaaDoor
