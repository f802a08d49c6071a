/-
  Lists of digests in memory. Walks: leaves, at.
-/
import Derived.Test.YthmpeeipbclhkaaDoorGb
namespace Go.Proofs.YthmpeeipbclhkaaDoor
open Go.RowKit

/-- The slice v holds the digests l. -/
def Dl (F : Nat → Prop) (w : World) (v : Value) (l : List (List Int)) : Prop :=
  l.length ≤ 4398046511104 ∧ (∀ x ∈ l, Dg x) ∧ ∃ a cap, v = .slice a l.length cap ∧ l.length ≤ cap ∧
    (0 < l.length → ∃ g off, a = some ⟨g, off, none⟩ ∧ F g ∧ ∀ (j : Nat) x, l[j]? = some x → w.rangeAt g (off + j * 32) (byteVals x))

theorem rangeAt_kept {w w' : World} {g o : Nat} {cs : List Value} (h : w.rangeAt g o cs) (e : w'.heap[g]? = w.heap[g]?) : w'.rangeAt g o cs :=
  fun j v hv => (World.cell?_of_block (w := w) (a := ⟨g, o + j, none⟩) e).trans (h j v hv)

theorem Dl.kept {F F' : Nat → Prop} {w w' : World} {v : Value} {l : List (List Int)} (h : Dl F w v l) (hw : ∀ k, F k → w'.heap[k]? = w.heap[k]?) (hF : ∀ k, F k → F' k) : Dl F' w' v l := by
  obtain ⟨h0, h1, a, cap, h2, h3, h4⟩ := h
  refine ⟨h0, h1, a, cap, h2, h3, fun hp => ?_⟩
  obtain ⟨g, off, ha, hg, hc⟩ := h4 hp
  exact ⟨g, off, ha, hF g hg, fun j x hj => rangeAt_kept (hc j x hj) (hw g hg)⟩
theorem Dl.up2 {w w' : World} {v : Value} {l : List (List Int)} (h : Dl (fun k => k < w.heap.size) w v l) (hw : ∀ k, k < w.heap.size → w'.heap[k]? = w.heap[k]?) (hs : w.heap.size ≤ w'.heap.size) : Dl (fun k => k < w'.heap.size) w' v l :=
  h.kept hw (fun _ hk => Nat.lt_of_lt_of_le hk hs)
theorem Dl.on {w w' : World} {v : Value} {l : List (List Int)} (h : Dl (fun k => k < w.heap.size) w v l) (hb : Below w.heap.size w w') : Dl (fun k => k < w'.heap.size) w' v l :=
  h.up2 (fun k hk => hb.block k hk) hb.size
theorem Bs.on {w w' : World} {v : Value} {l : List Int} (h : Bs (fun k => k < w.heap.size) w v l) (hb : Below w.heap.size w w') : Bs (fun k => k < w'.heap.size) w' v l :=
  h.up2 (fun k hk => hb.block k hk) hb.size
theorem dl_nil (w : World) (cap : Nat) : Dl (fun k => k < w.heap.size) w (.slice none 0 cap) [] := ⟨by simp, by simp, none, cap, rfl, by simp, by simp⟩

theorem getD_dg {l : List (List Int)} {b : List Int} (hl : ∀ x ∈ l, Dg x) (hb : Dg b) (k : Nat) : Dg (l.getD k b) := by
  rw [List.getD_eq_getElem?_getD]
  cases h : l[k]? with
  | none => exact hb
  | some x => exact hl x (List.mem_of_getElem? h)

/-- A row of the tree, as a value. -/
def rowV (v : Value) (b : List Int) : Value := .agg (v :: byteVals b).toArray

theorem size58 (v : Value) (l : List Int) (h : l.length = 32) : (Tryd.prog.info? 58).map (·.size) = some (v :: byteVals l).toArray.size := by
  have e : (Tryd.prog.info? 58).map (·.size) = some 33 := by kernel_rfl
  rw [e]; simp [byteVals, h]
theorem size26 (l : List Int) (h : l.length = 32) : (Tryd.prog.info? 26).map (·.size) = some (byteVals l).length := by
  have := size25 l h; simpa using this

/-- A block that holds a value and a digest. -/
def RowC (w : World) (B : Nat) (t : TypeId) (v : Value) (b : List Int) : Prop := w.heap[B]? = some (.cells (v :: byteVals b).toArray t (0, 0))
section
variable {w w' : World} {B : Nat} {t : TypeId} {v : Value} {b : List Int}
theorem RowC.head (h : RowC w B t v b) : w.cell? ⟨B, 0, none⟩ = some v := by rw [cell_of_row w B 0 _ t (0, 0) h]; simp
theorem RowC.tail (h : RowC w B t v b) : w.rangeAt B 1 (byteVals b) := by
  intro j u hu
  rw [cell_of_row w B (1 + j) _ t (0, 0) h, Nat.add_comm]
  simpa using hu
theorem RowC.kept (h : RowC w B t v b) (e : w'.heap[B]? = w.heap[B]?) : RowC w' B t v b := e.trans h
theorem RowC.new (w : World) (t : TypeId) (v : Value) (b : List Int) : RowC (w.alloc (.cells (v :: byteVals b).toArray t)) w.heap.size t v b := heap_alloc_new w _
theorem RowC.new' {B : Nat} (w : World) {cs : Array Value} (hB : B = w.heap.size) (h : cs = (v :: byteVals b).toArray) : RowC (w.alloc (.cells cs t)) B t v b := by
  subst hB h; exact RowC.new w t v b
theorem RowC.put {v' : Value} {b' : List Int} (h : RowC w B t v b) : RowC (w.setRow B (v' :: byteVals b').toArray) B t v' b' := setRow_heap w B _ _ t _ h
theorem RowC.lt (h : RowC w B t v b) : B < w.heap.size := (Array.getElem?_eq_some_iff.1 h).1
end

set_option maxRecDepth 100000 in
set_option maxHeartbeats 1000000 in
/-- at's contract. -/
theorem at_any (l : List (List Int)) (b : List Int) (v : Value) (k : Nat) (w : World) (hv : Dl (fun k => k < w.heap.size) w v l) (hb : Dg b) (hk : k < 4611686018427387904) :
    Calls Tryd.prog 43 #[.agg (v :: byteVals b).toArray, .int .i64 (k : Int)] w fun e w' => e = .returned (.agg (byteVals (l.getD k b)).toArray) ∧ Below w.heap.size w w' := by
  have hR0 : RowC (w.alloc (.cells (v :: byteVals b).toArray 58)) w.heap.size 58 v b := RowC.new w 58 v b
  have hs0 : (w.alloc (.cells (v :: byteVals b).toArray 58)).heap.size = w.heap.size + 1 := by simp
  have hb0 : Below w.heap.size w (w.alloc (.cells (v :: byteVals b).toArray 58)) := ball (Below.refl _ _) _
  have hbl := hb.1
  obtain ⟨a, cap, hvs, hcap, hcell⟩ := hv.2.2
  subst hvs
  have hlen := hv.1
  have HV := Lib.hid hv; have HB := Lib.hid hb; have HC := Lib.hid hcell
  clear hv hb hcell
  by_cases hlt : k < l.length
  · obtain ⟨g, off, rfl, hg, hcs⟩ := HC.out (by omega)
    obtain ⟨x, hx⟩ : ∃ x, l[k]? = some x := ⟨_, List.getElem?_eq_getElem hlt⟩
    have hr := hcs k x hx
    have hgd : l.getD k b = x := by rw [List.getD_eq_getElem?_getD, hx]; rfl
    have hxl : x.length = 32 := (HV.out.2.1 x (List.mem_of_getElem? hx)).1
    rw [hgd]
    have Hr := Lib.hid hr
    clear hr hcs hgd hx
    go_enter Tryd.func43, Tryd.ntmps43
    go_wp2_with (first | (refine wpList_load_mid rfl 26 (.tmp 13) rfl g (off + k * 32) rfl (byteVals x) _ (rangeAt_kept Hr.out ((heap_alloc_old _ _ (by simp; omega)).trans (heap_alloc_old _ _ hg))) Tryd.underlying26 rfl (size26 _ hxl) ?_) | (refine wpList_store_row rfl 26 (.tmp 4) (.tmp 14) rfl (w.heap.size + 1) _ rfl rfl 26 _ (RowB.new' (l := List.replicate 32 0) _ (by simp) rfl) (size25 _ hxl) (by rw [List.size_toArray, List.size_toArray, bv_length, bv_length]; simp; omega) (all_byteVals _) ?_))
    refine bodyPost_ret (results_cell_row rfl _ _ (w.heap.size + 1) 26 _ (0, 0) _ rfl (RowB.put (RowB.new' (l := List.replicate 32 0) _ (by simp) rfl)) Tryd.underlying26 rfl (size25 _ hxl)) rfl ?_
    exact ⟨rfl, bsetRow (hb0.alloc (by simp) _) (by omega) _⟩
  · have hgd : l.getD k b = b := by rw [List.getD_eq_getElem?_getD, List.getElem?_eq_none (by omega)]; rfl
    rw [hgd]
    clear hgd
    go_enter Tryd.func43, Tryd.ntmps43
    go_wp2_with (first | (refine wpList_load_mid rfl 26 (.tmp 15) rfl w.heap.size 1 rfl (byteVals b) _ (hR0.kept (heap_alloc_old _ _ (by simp))).tail Tryd.underlying26 rfl (size26 _ hbl) ?_) | (refine wpList_store_row rfl 26 (.tmp 4) (.tmp 16) rfl (w.heap.size + 1) _ rfl rfl 26 _ (RowB.new' (l := List.replicate 32 0) _ (by simp) rfl) (size25 _ hbl) (by rw [List.size_toArray, List.size_toArray, bv_length, bv_length]; simp; omega) (all_byteVals _) ?_))
    refine bodyPost_ret (results_cell_row rfl _ _ (w.heap.size + 1) 26 _ (0, 0) _ rfl (RowB.put (RowB.new' (l := List.replicate 32 0) _ (by simp) rfl)) Tryd.underlying26 rfl (size25 _ hbl)) rfl ?_
    exact ⟨rfl, bsetRow (hb0.alloc (by simp) _) (by omega) _⟩

end Go.Proofs.YthmpeeipbclhkaaDoor
