/-
  Walks: leaves, the closure of node, climb.
-/
import Derived.Test.YthmpeeipbclhkaaDoorGc
namespace Go.Proofs.YthmpeeipbclhkaaDoor
open Go.RowKit

/-- Block B, a new one, will hold the result: a row of the tree. -/
structure ResC (w : World) (B : Nat) (t : TypeId) (w' : World) : Prop where
  below : Below w.heap.size w w'
  ge : w.heap.size ≤ B
  size : B < w'.heap.size
  row : ∃ v l, l.length = 32 ∧ RowC w' B t v l
theorem ResC.drew {w w' : World} {B : Nat} {t : TypeId} (h : ResC w B t w') : ResC w B t w'.drew := ⟨h.below.drew, h.ge, h.size, h.row⟩
theorem ResC.alloc {w w' : World} {B : Nat} {t : TypeId} (h : ResC w B t w') (o : Obj) : ResC w B t (w'.alloc o) :=
  ⟨h.below.alloc h.below.size o, h.ge, by have := h.size; simp; omega, h.row.elim fun v hv => hv.elim fun l hl => ⟨v, l, hl.1, hl.2.kept (heap_alloc_old _ _ h.size)⟩⟩
theorem ResC.call {w w' w2 : World} {B : Nat} {t : TypeId} (h : ResC w B t w') (hb : Below w'.heap.size w' w2) : ResC w B t w2 :=
  ⟨h.below.trans (hb.mono h.below.size), h.ge, Nat.lt_of_lt_of_le h.size hb.size, h.row.elim fun v hv => hv.elim fun l hl => ⟨v, l, hl.1, hl.2.kept (hb.block _ h.size)⟩⟩
theorem ResC.new (w : World) (t : TypeId) (v : Value) (cs : Array Value) (h : cs = (v :: byteVals (List.replicate 32 0)).toArray) : ResC w w.heap.size t (w.alloc (.cells cs t)) :=
  ⟨ball (Below.refl _ _) _, Nat.le_refl _, by simp, v, List.replicate 32 0, by simp, RowC.new' _ rfl h⟩

theorem fold_setO (o : Nat) (l : List Value) : ∀ (k : Nat) (cs : Array Value), cs.size = o + k + l.length → (List.foldl (fun (cs : Array Value) (x : Value × Nat) => cs.setIfInBounds (o + x.snd) x.fst) cs (l.zipIdx k)).toList = cs.toList.take (o + k) ++ l := by
  induction l with
  | nil =>
    intro k cs h
    simp only [List.zipIdx_nil, List.foldl_nil, List.append_nil]
    rw [List.take_of_length_le (by simpa using Nat.le_of_eq h)]
  | cons x l ih =>
    intro k cs h
    rw [List.zipIdx_cons, List.foldl_cons, ih (k + 1) _ (by simp only [Array.size_setIfInBounds]; simp at h; omega)]
    have hk : o + k < cs.toList.length := by simp at h ⊢; omega
    have e : (cs.setIfInBounds (o + k) x).toList = cs.toList.set (o + k) x := by simp
    rw [e, ← Nat.add_assoc, List.take_succ_eq_append_getElem (by simpa using hk), List.getElem_set_self, List.take_set]
    rw [List.set_eq_of_length_le (by rw [List.length_take]; omega), List.append_assoc]
    rfl

/-- A digest written behind a first cell. -/
theorem fold_row (s : Value) (d : List Int) (hd : d.length = 32) : List.foldl (fun (cs : Array Value) (x : Value × Nat) => cs.setIfInBounds (1 + x.snd) x.fst) #[s, .int .u8 0, .int .u8 0, .int .u8 0, .int .u8 0, .int .u8 0, .int .u8 0, .int .u8 0, .int .u8 0, .int .u8 0, .int .u8 0, .int .u8 0, .int .u8 0, .int .u8 0, .int .u8 0, .int .u8 0, .int .u8 0, .int .u8 0, .int .u8 0, .int .u8 0, .int .u8 0, .int .u8 0, .int .u8 0, .int .u8 0, .int .u8 0, .int .u8 0, .int .u8 0, .int .u8 0, .int .u8 0, .int .u8 0, .int .u8 0, .int .u8 0, .int .u8 0] (byteVals d).zipIdx = (s :: byteVals d).toArray := by
  apply Array.toList_inj.1
  have := fold_setO 1 (byteVals d) 0 #[s, .int .u8 0, .int .u8 0, .int .u8 0, .int .u8 0, .int .u8 0, .int .u8 0, .int .u8 0, .int .u8 0, .int .u8 0, .int .u8 0, .int .u8 0, .int .u8 0, .int .u8 0, .int .u8 0, .int .u8 0, .int .u8 0, .int .u8 0, .int .u8 0, .int .u8 0, .int .u8 0, .int .u8 0, .int .u8 0, .int .u8 0, .int .u8 0, .int .u8 0, .int .u8 0, .int .u8 0, .int .u8 0, .int .u8 0, .int .u8 0, .int .u8 0, .int .u8 0] (by rw [byteVals_length, hd]; rfl)
  exact this
/-- A digest written over zeros. -/
theorem fold_zero (d : List Int) (hd : d.length = 32) : List.foldl (fun (cs : Array Value) (x : Value × Nat) => cs.setIfInBounds x.snd x.fst) #[.int .u8 0, .int .u8 0, .int .u8 0, .int .u8 0, .int .u8 0, .int .u8 0, .int .u8 0, .int .u8 0, .int .u8 0, .int .u8 0, .int .u8 0, .int .u8 0, .int .u8 0, .int .u8 0, .int .u8 0, .int .u8 0, .int .u8 0, .int .u8 0, .int .u8 0, .int .u8 0, .int .u8 0, .int .u8 0, .int .u8 0, .int .u8 0, .int .u8 0, .int .u8 0, .int .u8 0, .int .u8 0, .int .u8 0, .int .u8 0, .int .u8 0, .int .u8 0] (byteVals d).zipIdx = (byteVals d).toArray := by
  apply Array.toList_inj.1
  have := fold_setO 0 (byteVals d) 0 #[.int .u8 0, .int .u8 0, .int .u8 0, .int .u8 0, .int .u8 0, .int .u8 0, .int .u8 0, .int .u8 0, .int .u8 0, .int .u8 0, .int .u8 0, .int .u8 0, .int .u8 0, .int .u8 0, .int .u8 0, .int .u8 0, .int .u8 0, .int .u8 0, .int .u8 0, .int .u8 0, .int .u8 0, .int .u8 0, .int .u8 0, .int .u8 0, .int .u8 0, .int .u8 0, .int .u8 0, .int .u8 0, .int .u8 0, .int .u8 0, .int .u8 0, .int .u8 0] (by rw [byteVals_length, hd]; rfl)
  simp only [Nat.zero_add] at this
  exact this
theorem all_row (s : Value) (l : List Int) (h : s.oneCell' = true) : (s :: byteVals l).toArray.all (·.oneCell') = true := by
  rw [List.all_toArray, List.all_cons, h, Bool.true_and]; simp [byteVals, Value.oneCell']

set_option maxRecDepth 100000 in
set_option maxHeartbeats 1000000 in
/-- leaves' contract. -/
theorem leaves_any (a : Option Addr) (n c : Nat) (w : World) (hk : KOk w) :
    Calls Tryd.prog 42 #[.slice a n c] w fun e w' => e = .returned (.agg (.slice a n c :: byteVals pdd).toArray) ∧ Below w.heap.size w w' := by
  have HK := Lib.hid hk
  have hp : ∀ w', Below w.heap.size w w' → Calls Tryd.prog 20 #[] w' fun e w'' => e = .returned (.agg (byteVals pdd).toArray) ∧ Below w'.heap.size w' w'' :=
    fun w' hb => pad_any w' (hk.below hb)
  have HP := Lib.hid hp
  clear hp hk
  obtain ⟨D, hD⟩ : ∃ D, D = pdd := ⟨_, rfl⟩
  have hDl : D.length = 32 := by rw [hD]; exact pdd_dg.1
  rw [← hD] at HP ⊢
  clear hD
  have hf := fold_row (.slice a n c) D hDl
  have hbl : (byteVals D).length = 32 := by rw [byteVals_length, hDl]
  go_enter Tryd.func42, Tryd.ntmps42
  go_wp2_with (first | (go_at_call 20; refine (HP.out _ (ResC.new w 58 (.slice none 0 0) _ rfl).below).mono ?_; rintro e w3 ⟨rfl, hb3⟩; obtain ⟨v0, l0, hl0, hrl⟩ := ((ResC.new w 58 (.slice none 0 0) _ rfl).call hb3).row; have HB := Lib.hid ((ResC.new w 58 (.slice none 0 0) _ rfl).call hb3).below; clear hb3) | (refine wpList_store_row rfl 58 (.tmp 2) (.tmp 5) rfl w.heap.size _ rfl rfl 58 _ hrl (size58 _ _ hDl) (by rw [List.size_toArray, List.size_toArray, List.length_cons, List.length_cons, bv_length, bv_length]; omega) (all_row _ _ rfl) ?_))
  refine bodyPost_ret (results_cell_row rfl _ _ w.heap.size 58 _ (0, 0) _ rfl (RowC.put hrl) Tryd.underlying58 rfl (size58 _ _ hDl)) rfl ?_
  exact ⟨rfl, bsetRow HB.out (Nat.le_refl _) _⟩

end Go.Proofs.YthmpeeipbclhkaaDoor
