/-
  Plain definitions and small laws: rows of integers in memory, the number of a digest.
-/
import Derived.Test.YthmpeeipbclhkaaDoorRows
import Derived.Test.YthmpeeipbclhkaaDoorAp
import Derived.WalkKit
import Derived.WalkSpells
import Derived.WalkLawsBesides
import Derived.Lib.Hide
import Derived.Below
import Derived.Laws.IdiomRangeMap
namespace Go.Proofs.YthmpeeipbclhkaaDoor
open Go.RowKit

/-- The words l as values. -/
def words (l : List Int) : List Value := l.map (Value.int .u32)

theorem words_length (l : List Int) : (words l).length = l.length := by simp [words]
theorem bv_length (l : List Int) : (byteVals l).length = l.length := by simp [byteVals]

/-- Block B of w holds the bytes l and nothing else. -/
def RowB (w : World) (B : Nat) (t : TypeId) (l : List Int) : Prop := w.heap[B]? = some (.cells (byteVals l).toArray t (0, 0))
/-- Block B of w holds the words l and nothing else. -/
def RowW (w : World) (B : Nat) (t : TypeId) (l : List Int) : Prop := w.heap[B]? = some (.cells (words l).toArray t (0, 0))

section
variable {w w' : World} {B : Nat} {t : TypeId} {l : List Int}

theorem RowB.cell (h : RowB w B t l) {j : Nat} {x : Int} (hj : l[j]? = some x) : w.cell? ⟨B, j, none⟩ = some (.int .u8 x) := by
  rw [cell_of_row w B j _ t (0, 0) h]; simp [byteVals, hj]
theorem RowW.cell (h : RowW w B t l) {j : Nat} {x : Int} (hj : l[j]? = some x) : w.cell? ⟨B, j, none⟩ = some (.int .u32 x) := by
  rw [cell_of_row w B j _ t (0, 0) h]; simp [words, hj]
theorem RowB.set (h : RowB w B t l) (i : Nat) (x : Int) : RowB (w.setCell ⟨B, i, none⟩ (.int .u8 x)) B t (l.set i x) := by
  unfold RowB
  rw [heap_setCell_same w B i _ t _ h]
  simp [byteVals, List.map_set]
theorem RowW.set (h : RowW w B t l) (i : Nat) (x : Int) : RowW (w.setCell ⟨B, i, none⟩ (.int .u32 x)) B t (l.set i x) := by
  unfold RowW
  rw [heap_setCell_same w B i _ t _ h]
  simp [words, List.map_set]
theorem RowB.kept (h : RowB w B t l) (e : w'.heap[B]? = w.heap[B]?) : RowB w' B t l := e.trans h
theorem RowW.kept (h : RowW w B t l) (e : w'.heap[B]? = w.heap[B]?) : RowW w' B t l := e.trans h
theorem RowB.new (w : World) (t : TypeId) (l : List Int) : RowB (w.alloc (.cells (byteVals l).toArray t)) w.heap.size t l := heap_alloc_new w _
theorem RowW.new (w : World) (t : TypeId) (l : List Int) : RowW (w.alloc (.cells (words l).toArray t)) w.heap.size t l := heap_alloc_new w _
end

theorem RowB.new' {B : Nat} {t : TypeId} {l : List Int} (w : World) {cs : Array Value} (hB : B = w.heap.size) (h : cs = (byteVals l).toArray) : RowB (w.alloc (.cells cs t)) B t l := by
  subst hB h; exact RowB.new w t l
theorem RowW.new' {B : Nat} {t : TypeId} {l : List Int} (w : World) {cs : Array Value} (hB : B = w.heap.size) (h : cs = (words l).toArray) : RowW (w.alloc (.cells cs t)) B t l := by
  subst hB h; exact RowW.new w t l
theorem RowB.put {w : World} {B : Nat} {t : TypeId} {l l' : List Int} (h : RowB w B t l) : RowB (w.setRow B (byteVals l').toArray) B t l' := setRow_heap w B _ _ t _ h
theorem RowW.put {w : World} {B : Nat} {t : TypeId} {l l' : List Int} (h : RowW w B t l) : RowW (w.setRow B (words l').toArray) B t l' := setRow_heap w B _ _ t _ h
theorem bsetRow {B0 B : Nat} {a w : World} (h : Below B0 a w) (hB : B0 ≤ B) (cs : Array Value) : Below B0 a (w.setRow B cs) :=
  h.trans ⟨rfl, rfl, rfl, by simp, fun k hk => setRow_other w B k cs (by omega)⟩

theorem all_byteVals (l : List Int) : (byteVals l).toArray.all (·.oneCell') = true := by
  rw [List.all_toArray]; simp [byteVals, Value.oneCell']
theorem all_words (l : List Int) : (words l).toArray.all (·.oneCell') = true := by
  rw [List.all_toArray]; simp [words, Value.oneCell']
theorem size25 (l : List Int) (h : l.length = 32) : (Tryd.prog.info? 26).map (·.size) = some (byteVals l).toArray.size := by
  have e : (Tryd.prog.info? 26).map (·.size) = some 32 := by kernel_rfl
  rw [e]; simp [byteVals, h]
theorem size56 (l : List Int) (h : l.length = 8) : (Tryd.prog.info? 73).map (·.size) = some (words l).toArray.size := by
  have e : (Tryd.prog.info? 73).map (·.size) = some 8 := by kernel_rfl
  rw [e]; simp [words, h]
theorem size55 (l : List Int) (h : l.length = 8) : (Tryd.prog.info? 72).map (·.size) = some (words l).toArray.size := by
  have e : (Tryd.prog.info? 72).map (·.size) = some 8 := by kernel_rfl
  rw [e]; simp [words, h]
theorem size73 (l : List Int) (h : l.length = 64) : (Tryd.prog.info? 81).map (·.size) = some (words l).toArray.size := by
  have e : (Tryd.prog.info? 81).map (·.size) = some 64 := by kernel_rfl
  rw [e]; simp [words, h]

/-- The number whose digits in base 256 are l. -/
def num (l : List Int) : Int := l.foldl (fun n c => n * 256 + c) 0

theorem num_take (l : List Int) (k : Nat) (hk : k < l.length) : num (l.take (k + 1)) = num (l.take k) * 256 + l[k] := by
  unfold num
  rw [List.take_succ_eq_append_getElem hk, List.foldl_append]
  rfl

theorem num_range (l : List Int) (hl : ∀ u ∈ l, 0 ≤ u ∧ u ≤ 255) : ∀ k, k ≤ l.length → 0 ≤ num (l.take k) ∧ num (l.take k) < 256 ^ k := by
  intro k
  induction k with
  | zero => intro _; simp [num]
  | succ k ih =>
    intro hk
    obtain ⟨a, b⟩ := ih (by omega)
    rw [num_take l k (by omega)]
    have := hl l[k] (List.getElem_mem _)
    rw [Int.pow_succ]
    omega

theorem num_join (n c : Int) (h0 : 0 ≤ n) (h1 : n < 72057594037927936) (hc0 : 0 ≤ c) (hc1 : c ≤ 255) : bits .or .u64 (n * 256) c = n * 256 + c := by
  refine bits_join .u64 64 (by decide) (fun n h0 h1 => ?_) 8 _ _ (by omega) (by omega) (by omega) hc0 (by omega) (by omega)
  rw [IntKind.wrap_u64]; omega

end Go.Proofs.YthmpeeipbclhkaaDoor
