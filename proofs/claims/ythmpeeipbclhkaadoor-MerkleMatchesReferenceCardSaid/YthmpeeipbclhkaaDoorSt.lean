/-
  Worlds with several known blocks and known lists.
-/
import Derived.Test.YthmpeeipbclhkaaDoorSm
import Derived.Test.YthmpeeipbclhkaaDoorEv
namespace Go.Proofs.YthmpeeipbclhkaaDoor
open Go.RowKit

/-- The known blocks L (cells) and lists M of a world that has grown from w. No list lies in a known block. -/
structure St4 (w : World) (L : List (Nat × TypeId × List Value)) (M : List (Value × List (List Int))) (w' : World) : Prop where
  below : Below w.heap.size w w'
  rows : ∀ x ∈ L, w.heap.size ≤ x.1 ∧ w'.heap[x.1]? = some (.cells x.2.2.toArray x.2.1 (0, 0))
  dls : ∀ y ∈ M, Dl (fun k => k < w'.heap.size ∧ ∀ x ∈ L, x.1 ≠ k) w' y.1 y.2

section
variable {w w' w2 : World} {L : List (Nat × TypeId × List Value)} {M : List (Value × List (List Int))}

theorem St4.nil (w : World) : St4 w [] [] w := ⟨Below.refl _ _, by simp, by simp⟩
theorem St4.lt (h : St4 w L M w') {B : Nat} {t : TypeId} {cs : List Value} (hm : (B, t, cs) ∈ L) : B < w'.heap.size := (Array.getElem?_eq_some_iff.1 (h.rows _ hm).2).1
theorem St4.call (h : St4 w L M w') (hb : Below w'.heap.size w' w2) : St4 w L M w2 := by
  refine ⟨h.below.trans (hb.mono h.below.size), fun x hx => ⟨(h.rows x hx).1, (hb.block _ (Array.getElem?_eq_some_iff.1 (h.rows x hx).2).1).trans (h.rows x hx).2⟩, fun y hy => ?_⟩
  exact (h.dls y hy).kept (fun k hk => hb.block k hk.1) (fun k hk => ⟨Nat.lt_of_lt_of_le hk.1 hb.size, hk.2⟩)
theorem St4.drew (h : St4 w L M w') : St4 w L M w'.drew := h.call (Below.drew (Below.refl _ _))
theorem St4.drewN (h : St4 w L M w') (n : Nat) : St4 w L M (w'.drewN n) := h.call (bdrewN (Below.refl _ _) n)
theorem St4.alloc (h : St4 w L M w') (o : Obj) : St4 w L M (w'.alloc o) := h.call (ball (Below.refl _ _) o)
theorem St4.new (h : St4 w L M w') (t : TypeId) (cs : List Value) : St4 w ((w'.heap.size, t, cs) :: L) M (w'.alloc (.cells cs.toArray t)) := by
  have h2 := h.alloc (.cells cs.toArray t)
  refine ⟨h2.below, fun x hx => ?_, fun y hy => ?_⟩
  · rcases List.mem_cons.1 hx with rfl | hx
    · exact ⟨h.below.size, heap_alloc_new w' _⟩
    · exact h2.rows x hx
  · refine (h.dls y hy).kept (fun k hk => heap_alloc_old _ _ hk.1) (fun k hk => ⟨by simp; omega, fun x hx => ?_⟩)
    rcases List.mem_cons.1 hx with rfl | hx
    · exact fun e => by have := hk.1; simp at e; omega
    · exact hk.2 x hx
/-- Another known list, in blocks that came later than all known ones. -/
theorem St4.also (h : St4 w L M w') {v : Value} {l : List (List Int)} {n : Nat} (hd : Dl (fun k => n ≤ k ∧ k < w'.heap.size) w' v l) (hn : ∀ x ∈ L, x.1 < n) : St4 w L ((v, l) :: M) w' := by
  refine ⟨h.below, h.rows, fun y hy => ?_⟩
  rcases List.mem_cons.1 hy with rfl | hy
  · exact hd.kept (fun _ _ => rfl) (fun k hk => ⟨hk.2, fun x hx => by have := hn x hx; have := hk.1; omega⟩)
  · exact h.dls y hy
theorem St4.callAlso (h : St4 w L M w') (hb : Below w'.heap.size w' w2) {v : Value} {l : List (List Int)} (hd : Dl (fun k => w'.heap.size ≤ k ∧ k < w2.heap.size) w2 v l) : St4 w L ((v, l) :: M) w2 :=
  (h.call hb).also hd (fun x hx => (Array.getElem?_eq_some_iff.1 (h.rows x hx).2).1)
/-- A whole block written anew; L' is L with B's cells replaced, its first entry. -/
theorem St4.put0 (h : St4 w L M w') (B : Nat) (t : TypeId) (cs cs' : List Value) (hm : (B, t, cs) ∈ L) : St4 w ((B, t, cs') :: L.filter (fun x => x.1 != B)) M (w'.setRow B cs'.toArray) := by
  refine ⟨bsetRow h.below (h.rows _ hm).1 _, fun x hx => ?_, fun y hy => ?_⟩
  · rcases List.mem_cons.1 hx with rfl | hx
    · exact ⟨(h.rows _ hm).1, setRow_heap w' B _ _ t _ (h.rows _ hm).2⟩
    · obtain ⟨hx, hne⟩ := List.mem_filter.1 hx
      have hne : x.1 ≠ B := by simpa using hne
      exact ⟨(h.rows x hx).1, (setRow_other w' B x.1 _ hne).trans (h.rows x hx).2⟩
  · refine (h.dls y hy).kept (fun k hk => setRow_other w' B k _ (fun e => hk.2 _ hm e.symm)) (fun k hk => ⟨by simpa using hk.1, fun x hx => ?_⟩)
    rcases List.mem_cons.1 hx with rfl | hx
    · exact hk.2 (B, t, cs) hm
    · exact hk.2 x (List.mem_filter.1 hx).1
/-- Fewer known blocks and lists. -/
theorem St4.sub (h : St4 w L M w') (L' : List (Nat × TypeId × List Value)) (M' : List (Value × List (List Int))) (hL : ∀ x ∈ L', x ∈ L) (hM : ∀ x ∈ M', x ∈ M) : St4 w L' M' w' :=
  ⟨h.below, fun x hx => h.rows x (hL x hx), fun y hy => (h.dls y (hM y hy)).kept (fun _ _ => rfl) (fun k hk => ⟨hk.1, fun x hx => hk.2 x (hL x hx)⟩)⟩
theorem St4.row (h : St4 w L M w') {B : Nat} {t : TypeId} {cs : List Value} (hm : (B, t, cs) ∈ L) : w'.heap[B]? = some (.cells cs.toArray t (0, 0)) := (h.rows _ hm).2
theorem St4.range (h : St4 w L M w') {B : Nat} {t : TypeId} {cs : List Value} (hm : (B, t, cs) ∈ L) : w'.rangeAt B 0 cs := by
  intro j u hu
  rw [Nat.zero_add, cell_of_row w' B j _ t (0, 0) (h.row hm)]
  simpa using hu
theorem St4.dl (h : St4 w L M w') {v : Value} {l : List (List Int)} (hm : (v, l) ∈ M) : Dl (fun k => k < w'.heap.size) w' v l := (h.dls _ hm).kept (fun _ _ => rfl) (fun _ hk => hk.1)
end

/-- A list of digests laid down as one new block. -/
theorem dl_lit (W : World) (l : List (List Int)) (t : TypeId) (cs : List Value) (n : Nat) (hn : n = l.length) (hlen : l.length ≤ 1000) (hd : ∀ x ∈ l, Dg x) (hcs : cs = (l.map byteVals).flatten) :
    Dl (fun k => W.heap.size ≤ k ∧ k < (W.alloc (.cells cs.toArray t)).heap.size) (W.alloc (.cells cs.toArray t)) (.slice (some ⟨W.heap.size, 0, none⟩) n n) l := by
  subst hn
  refine ⟨by omega, hd, _, _, rfl, Nat.le_refl _, fun hp => ⟨W.heap.size, 0, rfl, ⟨Nat.le_refl _, by simp⟩, fun j x hj i u hu => ?_⟩⟩
  have hi : i < 32 := by
    have := (List.getElem?_eq_some_iff.1 hu).1
    rw [byteVals_length, (hd x (List.mem_of_getElem? hj)).1] at this
    exact this
  rw [cell_of_row _ W.heap.size _ _ t (0, 0) (heap_alloc_new W _), hcs]
  have e : (l.map byteVals).flatten = byteVals l.flatten := by simp [byteVals, List.map_flatten]; rfl
  rw [e]
  have e1 := flat_get l (fun x hx => (hd x hx).1) j i x hj hi
  unfold byteVals at hu ⊢
  rw [List.getElem?_map] at hu
  rw [Nat.zero_add, Nat.mul_comm]
  simp only [List.getElem?_toArray, List.getElem?_map, e1]
  exact hu

theorem St4.slice {w w' : World} {L : List (Nat × TypeId × List Value)} {M : List (Value × List (List Int))} (h : St4 w L M w') (l : List (List Int)) (n : Nat) (hn : n = l.length) (hlen : l.length ≤ 1000) (hd : ∀ x ∈ l, Dg x) (t : TypeId) (cs : List Value) (hcs : cs = (l.map byteVals).flatten) :
    St4 w L ((.slice (some ⟨w'.heap.size, 0, none⟩) n n, l) :: M) (w'.alloc (.cells cs.toArray t)) :=
  h.callAlso (ball (Below.refl _ _) _) (dl_lit w' l t cs n hn hlen hd hcs)

/-- The two digests of the examples. -/
def xx : List Int := [1, 0, 0, 0, 0, 0, 0, 0, 0, 0, 0, 0, 0, 0, 0, 0, 0, 0, 0, 0, 0, 0, 0, 0, 0, 0, 0, 0, 0, 0, 0, 0]
def yy : List Int := [2, 0, 0, 0, 0, 0, 0, 0, 0, 0, 0, 0, 0, 0, 0, 0, 0, 0, 0, 0, 0, 0, 0, 0, 0, 0, 0, 0, 0, 0, 0, 0]
theorem xx_dg : Dg xx := ⟨rfl, by decide⟩
theorem yy_dg : Dg yy := ⟨rfl, by decide⟩
end Go.Proofs.YthmpeeipbclhkaaDoor
