/-
  Walks of the program's digest: Sum.
-/
import Derived.Test.YthmpeeipbclhkaaDoorDg
namespace Go.Proofs.YthmpeeipbclhkaaDoor
open Go.RowKit

/-- The digest of a message. -/
def sha (b : List Int) : List Int :=
  bytesOf (((st0.blocks (b.take (64 * (b.length / 64))) (b.length / 64)).blocks (tail (b.drop (64 * (b.length / 64))) b.length) ((tail (b.drop (64 * (b.length / 64))) b.length).length / 64)).ws)

theorem slice_nil {a : Option Addr} {w : World} {F : Nat → Prop} {cap : Nat} {b : List Int} (h : Bs F w (.slice a b.length cap) b) (h0 : a = none) : b = [] := by
  obtain ⟨_, _, a', c', e, _, hp⟩ := h
  simp only [Value.slice.injEq] at e
  obtain ⟨rfl, _, _⟩ := e
  subst h0
  rcases Nat.eq_zero_or_pos b.length with h | h
  · exact List.length_eq_zero_iff.1 h
  · obtain ⟨g, off, e, _⟩ := hp h
    cases e

theorem Bs.take {F : Nat → Prop} {w : World} {a : Option Addr} {cap : Nat} {b : List Int} (h : Bs F w (.slice a b.length cap) b) (m : Nat) (hm : m ≤ b.length) : Bs F w (.slice a m cap) (b.take m) := by
  obtain ⟨h1, h2, a', c', e, h4, h5⟩ := h
  simp only [Value.slice.injEq] at e
  obtain ⟨rfl, _, rfl⟩ := e
  have hl : (b.take m).length = m := by simp; omega
  refine ⟨by omega, fun u hu => h2 u (List.mem_of_mem_take hu), a, cap, by rw [hl], by omega, fun hp => ?_⟩
  obtain ⟨g, off, ha, hf, hc⟩ := h5 (by omega)
  refine ⟨g, off, ha, hf, fun j u hj => hc j u ?_⟩
  rw [List.getElem?_take] at hj
  split at hj
  · exact hj
  · cases hj

theorem RowB.cells {B : Nat} {t : TypeId} : ∀ (vs : List Int) (o : Nat) (w : World) (l : List Int), RowB w B t l → o + vs.length ≤ l.length → RowB (w.setCells B o (byteVals vs)) B t (l.take o ++ vs ++ l.drop (o + vs.length))
  | [], o, w, l, h, _ => by simpa [byteVals, World.setCells] using h
  | v :: r, o, w, l, h, hl => by
    have hlo : o < l.length := by simp at hl; omega
    have ih := RowB.cells r (o + 1) (w.setCell ⟨B, o, none⟩ (.int .u8 v)) (l.set o v) (h.set o v) (by simp at hl ⊢; omega)
    have e : (l.set o v).take (o + 1) ++ r ++ (l.set o v).drop (o + 1 + r.length) = l.take o ++ (v :: r) ++ l.drop (o + (v :: r).length) := by
      rw [List.take_succ_eq_append_getElem (by simpa using hlo), List.take_set_of_le (Nat.le_refl _), List.drop_set_of_lt (by omega)]
      simp [Nat.add_assoc, Nat.add_comm 1]
    rw [e] at ih
    exact ih
theorem below_cells {B B0 : Nat} {a : World} (hB : B0 ≤ B) : ∀ (vs : List Value) (o : Nat) (w : World), Below B0 a w → Below B0 a (w.setCells B o vs)
  | [], _, _, h => h
  | v :: r, o, w, h => below_cells hB r (o + 1) _ (h.setCell (p := ⟨B, o, none⟩) hB v)
theorem size_cells {B : Nat} : ∀ (vs : List Value) (o : Nat) (w : World), (w.setCells B o vs).heap.size = w.heap.size
  | [], _, _ => rfl
  | v :: r, o, w => by rw [World.setCells, size_cells r]; simp
theorem other_cells {B k : Nat} (hk : k ≠ B) : ∀ (vs : List Value) (o : Nat) (w : World), (w.setCells B o vs).heap[k]? = w.heap[k]?
  | [], _, _ => rfl
  | v :: r, o, w => by rw [World.setCells, other_cells hk r]; exact heap_setCell_other _ _ _ _ hk

/-- What holds of the worlds in Sum: the result's block is there. -/
structure SumS (w w' : World) : Prop where
  below : Below w.heap.size w w'
  size : w.heap.size < w'.heap.size
  row : ∃ l : List Int, l.length = 32 ∧ RowB w' w.heap.size 26 l
theorem SumS.drew {w w' : World} (h : SumS w w') : SumS w w'.drew := ⟨h.below.drew, h.size, h.row⟩
theorem SumS.alloc {w w' : World} (h : SumS w w') (o : Obj) : SumS w (w'.alloc o) :=
  ⟨h.below.alloc h.below.size o, by have := h.size; simp; omega, h.row.elim fun l hl => ⟨l, hl.1, hl.2.kept (heap_alloc_old _ _ h.size)⟩⟩
theorem SumS.call {w w' w2 : World} (h : SumS w w') (hb : Below w'.heap.size w' w2) : SumS w w2 :=
  ⟨h.below.trans (hb.mono h.below.size), Nat.lt_of_lt_of_le h.size hb.size, h.row.elim fun l hl => ⟨l, hl.1, hl.2.kept (hb.block _ h.size)⟩⟩
theorem SumS.set {w w' : World} (h : SumS w w') {a : Addr} (ha : w.heap.size < a.block) (v : Value) : SumS w (w'.setCell a v) :=
  ⟨h.below.setCell (by omega) v, by simpa using h.size, h.row.elim fun l hl => ⟨l, hl.1, hl.2.kept (heap_setCell_other _ _ _ _ (by omega))⟩⟩

theorem SumS.sets8 {w w' : World} {B : Nat} (h : SumS w w') (hB : w.heap.size < B) (s : St) : SumS w ((((((((w'.setCell ⟨B, 0, none⟩ (.int .u32 s.a)).setCell ⟨B, 1, none⟩ (.int .u32 s.b)).setCell ⟨B, 2, none⟩ (.int .u32 s.c)).setCell ⟨B, 3, none⟩ (.int .u32 s.d)).setCell ⟨B, 4, none⟩ (.int .u32 s.e)).setCell ⟨B, 5, none⟩ (.int .u32 s.f)).setCell ⟨B, 6, none⟩ (.int .u32 s.g)).setCell ⟨B, 7, none⟩ (.int .u32 s.h)) :=
  (((((((h.set hB _).set hB _).set hB _).set hB _).set hB _).set hB _).set hB _).set hB _

/-- Block B holds eight zero words. -/
def Z8 (w : World) (B : Nat) : Prop := RowW w B 73 [0, 0, 0, 0, 0, 0, 0, 0] ∧ B < w.heap.size
theorem z8first {w0 w1 : World} (hb : Below ((w0.alloc (Obj.cells #[.int .u32 0, .int .u32 0, .int .u32 0, .int .u32 0, .int .u32 0, .int .u32 0, .int .u32 0, .int .u32 0] 73)).drew).heap.size ((w0.alloc (Obj.cells #[.int .u32 0, .int .u32 0, .int .u32 0, .int .u32 0, .int .u32 0, .int .u32 0, .int .u32 0, .int .u32 0] 73)).drew) w1) : Z8 w1 w0.heap.size :=
  ⟨RowW.kept (RowW.new' w0 rfl rfl) (hb.block _ (by show _ < (w0.alloc _).heap.size; simp)), Nat.lt_of_lt_of_le (by show _ < (w0.alloc _).heap.size; simp) hb.size⟩
theorem z8between {w0 w1 : World} (hb : Below (w0.alloc (Obj.cells #[.int .u32 0, .int .u32 0, .int .u32 0, .int .u32 0, .int .u32 0, .int .u32 0, .int .u32 0, .int .u32 0] 73)).heap.size (w0.alloc (Obj.cells #[.int .u32 0, .int .u32 0, .int .u32 0, .int .u32 0, .int .u32 0, .int .u32 0, .int .u32 0, .int .u32 0] 73)) w1) : Z8 w1 w0.heap.size :=
  ⟨RowW.kept (RowW.new' w0 rfl rfl) (hb.block _ (by simp)), Nat.lt_of_lt_of_le (by simp) hb.size⟩
theorem z8call {w0 w1 : World} {B : Nat} (h : Z8 w0 B) (hb : Below w0.heap.size w0 w1) : Z8 w1 B :=
  ⟨RowW.kept h.1 (hb.block _ h.2), Nat.lt_of_lt_of_le h.2 hb.size⟩
theorem z8cells {w : World} {B : Nat} (h : Z8 w B) : (w.cell? ⟨B, 0, none⟩ = some (.int .u32 0) ∧ w.cell? ⟨B, 1, none⟩ = some (.int .u32 0) ∧ w.cell? ⟨B, 2, none⟩ = some (.int .u32 0) ∧ w.cell? ⟨B, 3, none⟩ = some (.int .u32 0) ∧
    w.cell? ⟨B, 4, none⟩ = some (.int .u32 0) ∧ w.cell? ⟨B, 5, none⟩ = some (.int .u32 0) ∧ w.cell? ⟨B, 6, none⟩ = some (.int .u32 0) ∧ w.cell? ⟨B, 7, none⟩ = some (.int .u32 0)) ∧
    (w.frozen? ⟨B, 0, none⟩ = false ∧ w.frozen? ⟨B, 1, none⟩ = false ∧ w.frozen? ⟨B, 2, none⟩ = false ∧ w.frozen? ⟨B, 3, none⟩ = false ∧ w.frozen? ⟨B, 4, none⟩ = false ∧ w.frozen? ⟨B, 5, none⟩ = false ∧ w.frozen? ⟨B, 6, none⟩ = false ∧ w.frozen? ⟨B, 7, none⟩ = false) :=
  ⟨⟨h.1.cell rfl, h.1.cell rfl, h.1.cell rfl, h.1.cell rfl, h.1.cell rfl, h.1.cell rfl, h.1.cell rfl, h.1.cell rfl⟩,
   frozen_of_row w _ _ _ _ h.1, frozen_of_row w _ _ _ _ h.1, frozen_of_row w _ _ _ _ h.1, frozen_of_row w _ _ _ _ h.1, frozen_of_row w _ _ _ _ h.1, frozen_of_row w _ _ _ _ h.1, frozen_of_row w _ _ _ _ h.1, frozen_of_row w _ _ _ _ h.1⟩
theorem Z8.sets {w : World} {B : Nat} (h : Z8 w B) (s : St) : RowW ((((((((w.setCell ⟨B, 0, none⟩ (.int .u32 s.a)).setCell ⟨B, 1, none⟩ (.int .u32 s.b)).setCell ⟨B, 2, none⟩ (.int .u32 s.c)).setCell ⟨B, 3, none⟩ (.int .u32 s.d)).setCell ⟨B, 4, none⟩ (.int .u32 s.e)).setCell ⟨B, 5, none⟩ (.int .u32 s.f)).setCell ⟨B, 6, none⟩ (.int .u32 s.g)).setCell ⟨B, 7, none⟩ (.int .u32 s.h)) B 73 s.ws :=
  (((((((h.1.set 0 s.a).set 1 s.b).set 2 s.c).set 3 s.d).set 4 s.e).set 5 s.f).set 6 s.g).set 7 s.h

/-- Behind the first half of Sum: block B holds the words of s. -/
structure T3 (w : World) (B : Nat) (s : St) (w' : World) : Prop where
  sum : SumS w w'
  row : RowW w' B 73 s.ws
  lt : B < w'.heap.size
  gt : w.heap.size < B
theorem T3.drew {w w' : World} {B : Nat} {s : St} (h : T3 w B s w') : T3 w B s w'.drew := ⟨h.sum.drew, h.row, h.lt, h.gt⟩
theorem T3.call {w w' w2 : World} {B : Nat} {s : St} (h : T3 w B s w') (hb : Below w'.heap.size w' w2) : T3 w B s w2 :=
  ⟨h.sum.call hb, h.row.kept (hb.block _ h.lt), Nat.lt_of_lt_of_le h.lt hb.size, h.gt⟩
theorem T3.cells {w w' : World} {B : Nat} {s : St} (h : T3 w B s w') {D : List Int} (hD : D.length = 32) : T3 w B s (w'.setCells w.heap.size 0 (byteVals D)) :=
  ⟨⟨below_cells (Nat.le_refl _) _ _ _ h.sum.below, by rw [size_cells]; exact h.sum.size, by
      obtain ⟨l, hl, hr⟩ := h.sum.row
      have := RowB.cells D 0 w' l hr (by omega)
      exact ⟨_, by simp; omega, this⟩⟩,
    h.row.kept (other_cells (by have := h.gt; omega) _ _ _), by rw [size_cells]; exact h.lt, h.gt⟩
theorem T3.there {w w' : World} {B : Nat} {s : St} (h : T3 w B s w') : w'.there w.heap.size 0 32 := by
  obtain ⟨l, hl, hr⟩ := h.sum.row
  intro j hj
  refine ⟨?_, frozen_of_row w' _ _ _ _ hr⟩
  rw [Nat.zero_add, hr.cell (List.getElem?_eq_getElem (by omega))]
  rfl
theorem T3.all {w w' : World} {B : Nat} {s : St} (h : T3 w B s w') : w'.cell? ⟨B, 0, none⟩ = some (.int .u32 s.a) ∧ w'.cell? ⟨B, 1, none⟩ = some (.int .u32 s.b) ∧ w'.cell? ⟨B, 2, none⟩ = some (.int .u32 s.c) ∧ w'.cell? ⟨B, 3, none⟩ = some (.int .u32 s.d) ∧
    w'.cell? ⟨B, 4, none⟩ = some (.int .u32 s.e) ∧ w'.cell? ⟨B, 5, none⟩ = some (.int .u32 s.f) ∧ w'.cell? ⟨B, 6, none⟩ = some (.int .u32 s.g) ∧ w'.cell? ⟨B, 7, none⟩ = some (.int .u32 s.h) ∧ T3 w B s w' :=
  ⟨h.row.cell rfl, h.row.cell rfl, h.row.cell rfl, h.row.cell rfl, h.row.cell rfl, h.row.cell rfl, h.row.cell rfl, h.row.cell rfl, h⟩

set_option maxRecDepth 100000 in
set_option maxHeartbeats 1000000 in
theorem sum_some (D b : List Int) (w : World) (ad : Option Addr) (cap : Nat) (hk : KOk w) (hv : Bs (fun k => k < w.heap.size) w (.slice ad b.length cap) b) (hD : Hid (D = sha b)) :
    Calls Tryd.prog 48 #[.slice ad b.length cap] w fun e w' => e = .returned (.agg (byteVals D).toArray) ∧ Below w.heap.size w w' := by
  have hv0 := hv
  obtain ⟨hlen, _, a', c', e, hcap, right_1⟩ := hv0
  simp only [Value.slice.injEq] at e
  obtain ⟨rfl, _, rfl⟩ := e
  obtain ⟨r, hr⟩ : ∃ r, r = b.length % 64 := ⟨_, rfl⟩
  obtain ⟨m, hm⟩ : ∃ m, m = 64 * (b.length / 64) := ⟨_, rfl⟩
  have e1 : (b.length : Int).tmod 64 = (r : Int) := by rw [Int.tmod_eq_emod_of_nonneg (by omega)]; omega
  have e2 : (b.length : Int) % 64 = (r : Int) := by omega
  have e3 : IntKind.i64.wrap ((b.length : Int) - (r : Int)) = (m : Int) := by rw [IntKind.wrap_i64]; omega
  have hmr : m + r = b.length := by omega
  have y1 : (m : Int) ≤ (cap : Int) := by omega
  have y2 : m ≤ cap := by omega
  have y3 : (m : Int) ≤ (b.length : Int) := by omega
  have y4 : m ≤ b.length := by omega
  have HK := Lib.hid hk; have HV := Lib.hid hv
  have Hm := Lib.hid hm; have Hr := Lib.hid hr
  clear hk hv hm hr
  have hi : ∀ w', Calls Tryd.prog 56 #[] w' fun e w'' => e = .returned (.agg (words st0.ws).toArray) ∧ Below w'.heap.size w' w'' := initial_any
  have Hi := Lib.hid hi; clear hi
  obtain ⟨s1, hs1⟩ : ∃ s1, s1 = st0.blocks (b.take m) (b.length / 64) := ⟨_, rfl⟩
  have hc1 : ∀ w', Below w.heap.size w w' → Calls Tryd.prog 57 #[.agg (words st0.ws).toArray, .slice ad m cap] w' fun e w'' => e = .returned (.agg #[.int .u32 s1.a, .int .u32 s1.b, .int .u32 s1.c, .int .u32 s1.d, .int .u32 s1.e, .int .u32 s1.f, .int .u32 s1.g, .int .u32 s1.h]) ∧ Below w'.heap.size w' w'' := by
    intro w' hb
    have := blocks_any st0 (b.take m) w' (.slice ad m cap) (HK.out.below hb) ((Bs.take ((HV.out.below (fun k hk => hk) hb).kept (fun _ _ => rfl) (fun k hk => Nat.lt_of_lt_of_le hk hb.size)) m y4))
    have hl : (b.take m).length / 64 = b.length / 64 := by have := Hm.out; simp; omega
    rw [hl, ← hs1] at this
    exact this
  have Hc1 := Lib.hid hc1; have Hs1 := Lib.hid hs1; clear hc1 hs1
  go_enter Tryd.func48, Tryd.ntmps48
  go_wp2_with fail
  have hS00 : SumS w (w.alloc (Obj.cells (byteVals (List.replicate 32 0)).toArray 26)) := ⟨ball (Below.refl _ _) _, by simp, List.replicate 32 0, by simp, RowB.new' _ rfl rfl⟩
  change Code.wp _ _ _ _ (w.alloc (Obj.cells (byteVals (List.replicate 32 0)).toArray 26))
  obtain ⟨w0, hw0⟩ : ∃ w0, w0 = w.alloc (Obj.cells (byteVals (List.replicate 32 0)).toArray 26) := ⟨_, rfl⟩
  have hlt0 : w.heap.size < w0.heap.size := by rw [hw0]; simp
  rw [← hw0] at hS00 ⊢
  have hS0 : SumS w w0.drew := hS00.drew
  clear hw0
  refine Code.wp_mono (Q := fun e a w' => e = .normal ∧ ∃ B : Nat, a = { tmps := #[.slice ad b.length cap, undef, .pointer (some ⟨w.heap.size, 0, none⟩), .int .i64 (r : Int), .pointer (some ⟨B, 0, none⟩), .slice ad b.length cap, .int .i64 (b.length : Int), .int .i64 (r : Int), .agg (words st0.ws).toArray, .slice ad b.length cap, .slice ad b.length cap, .int .i64 (b.length : Int), .int .i64 (r : Int), .int .i64 (m : Int), .slice ad m cap, .agg #[.int .u32 s1.a, .int .u32 s1.b, .int .u32 s1.c, .int .u32 s1.d, .int .u32 s1.e, .int .u32 s1.f, .int .u32 s1.g, .int .u32 s1.h], undef, undef, undef, undef, undef, undef, undef, undef, undef, undef, undef, undef], defers := [] } ∧ T3 w B s1 w') ?_ ?_
  rotate_left
  · go_region_held3 (fun w' => SumS w w') (first | (with_reducible assumption) | (with_reducible refine SumS.alloc ?_ _; with_reducible assumption) | (with_reducible refine SumS.drew ?_; with_reducible assumption) | (with_reducible refine SumS.drew ?_; with_reducible refine SumS.alloc ?_ _; with_reducible assumption) | (with_reducible exact SumS.sets8 (by with_reducible assumption) (by first | with_reducible assumption | exact SumS.size (by with_reducible assumption)) _))
     (first | (go_at_call 56; refine (Hi.out _).mono ?_; rintro e w1 ⟨rfl, hb1⟩; have hn1 := SumS.call (by with_reducible assumption) hb1; (try (have hz1 := z8first hb1)); clear hb1) | (go_at_call 57; refine (Hc1.out _ (SumS.below (by with_reducible assumption))).mono ?_; rintro e w2 ⟨rfl, hb2⟩; have hn2 := SumS.call (by with_reducible assumption) hb2; (first | (have hz2 := z8call hz1 hb2; obtain ⟨⟨c0, c1, c2, c3, c4, c5, c6, c7⟩, d0, d1, d2, d3, d4, d5, d6, d7⟩ := z8cells hz2) | (have hz2 := z8between hb2; obtain ⟨⟨c0, c1, c2, c3, c4, c5, c6, c7⟩, d0, d1, d2, d3, d4, d5, d6, d7⟩ := z8cells hz2) | skip); clear hb2))
    · exact ⟨rfl, _, rfl, hn2.alloc _, RowW.new' _ rfl rfl, by simp, hn2.size⟩
    · exact ⟨rfl, _, rfl, hn2.sets8 hn1.size s1, Z8.sets hz2 s1, by simpa using hz2.2, hn1.size⟩
    · exact ⟨rfl, _, rfl, hn2.sets8 hlt0 s1, Z8.sets hz2 s1, by simpa using hz2.2, hlt0⟩
  clear hS0 hS00 hlt0
  clear w0
  rintro e a w1 ⟨rfl, B, rfl, hT⟩
  have hTd := hT.drew
  obtain ⟨T, hTT⟩ : ∃ T, T = tail (b.drop m) b.length := ⟨_, rfl⟩
  have hrl : (b.drop m).length = r := by simp; omega
  have hr64 : r < 64 := by have := Hr.out; omega
  have hTlen : T.length ≤ 200 := by rw [hTT]; unfold tail; simp; omega
  have hTrange : ∀ u ∈ T, 0 ≤ u ∧ u ≤ 255 := by
    rw [hTT]
    intro u hu
    unfold tail at hu
    rcases List.mem_append.1 hu with h | h
    · exact HV.out.2.1 u (List.mem_of_mem_drop h)
    · rcases List.mem_cons.1 h with rfl | h
      · omega
      · rcases List.mem_append.1 h with h | h
        · rw [List.mem_replicate] at h; omega
        · obtain ⟨i, _, rfl⟩ := List.mem_map.1 h; exact lenByte_range _ i
  obtain ⟨s2, hs2⟩ : ∃ s2, s2 = s1.blocks T (T.length / 64) := ⟨_, rfl⟩
  have hrest : ∀ w', Below w.heap.size w w' → Bs (fun k => k < w'.heap.size) w' (.slice (if cap = m then ad else Option.map (fun x => x.add m) ad) (b.length - m) (cap - m)) (b.drop m) := by
    intro w' hb
    have hbv := (HV.out.below (fun k hk => hk) hb)
    by_cases h0 : r = 0
    · have e : b.drop m = [] := List.drop_eq_nil_of_le (by omega)
      rw [e, show b.length - m = 0 from by omega]
      exact ⟨by simp, by simp, _, _, rfl, by simp, fun h => absurd h (by simp)⟩
    · rw [if_neg (by omega)]
      obtain ⟨g, off, hx, hg, _⟩ := right_1 (by omega)
      subst hx
      have := hbv.sub m r (cap - m) (by omega) (by omega)
      rw [List.take_of_length_le (by simp; omega)] at this
      rw [show b.length - m = r from by omega]
      simp only [Option.map_some, add_off]
      exact Bs.kept this (fun _ _ => rfl) (fun k hk => Nat.lt_of_lt_of_le hk hb.size)
  have hc30 : ∀ w', Below w.heap.size w w' → Calls Tryd.prog 58 #[.slice (if cap = m then ad else Option.map (fun x => x.add m) ad) (b.length - m) (cap - m), .int .i64 (b.length : Int)] w' fun e w'' => ∃ u, e = .returned u ∧ Below w'.heap.size w' w'' ∧ Bs (fun k => k < w''.heap.size) w'' u T := by
    intro w' hb
    refine (last_any (b.drop m) b.length _ w' (hrest w' hb) (by omega) hlen).mono ?_
    rintro e w'' ⟨u, rfl, hb2, ho⟩
    rw [← hTT] at ho
    exact ⟨u, rfl, hb2, Bs.kept (Bs.ofOwn ho (by omega) hTrange) (fun _ _ => rfl) (fun k hk => hk.2.1)⟩
  have hc29 : ∀ w' u, Below w.heap.size w w' → Bs (fun k => k < w'.heap.size) w' u T → Calls Tryd.prog 57 #[.agg #[.int .u32 s1.a, .int .u32 s1.b, .int .u32 s1.c, .int .u32 s1.d, .int .u32 s1.e, .int .u32 s1.f, .int .u32 s1.g, .int .u32 s1.h], u] w' fun e w'' => e = .returned (.agg #[.int .u32 s2.a, .int .u32 s2.b, .int .u32 s2.c, .int .u32 s2.d, .int .u32 s2.e, .int .u32 s2.f, .int .u32 s2.g, .int .u32 s2.h]) ∧ Below w'.heap.size w' w'' := by
    intro w' u hb hu
    have := blocks_any s1 T w' u (HK.out.below hb) hu
    rw [← hs2] at this
    exact this
  have hDs : bytesOf s2.ws = D := by
    rw [hD.out, hs2, hTT, Hs1.out]
    unfold sha
    rw [← Hm.out]
  have hc31 : ∀ w', Calls Tryd.prog 59 #[.agg #[.int .u32 s2.a, .int .u32 s2.b, .int .u32 s2.c, .int .u32 s2.d, .int .u32 s2.e, .int .u32 s2.f, .int .u32 s2.g, .int .u32 s2.h]] w' fun e w'' => e = .returned (.agg (byteVals D).toArray) ∧ Below w'.heap.size w' w'' := by
    intro w'
    have := digest_any s2.ws w' rfl
    rw [hDs] at this
    exact this
  have hDl : D.length = 32 := by rw [← hDs]; simp [bytesOf]
  have q1 : (Tryd.prog.info? 26).map (·.size) = some (byteVals D).length := by have := size25 D hDl; simpa using this
  have q2 : (byteVals D).length = 32 := by rw [bv_length]; exact hDl
  have q3 : ∀ v ∈ byteVals D, v.oneCell' = true := by
    intro v hv
    obtain ⟨x, _, rfl⟩ := List.mem_map.1 hv
    rfl
  have Hc30 := Lib.hid hc30; have Hc29 := Lib.hid hc29; have Hc31 := Lib.hid hc31
  clear hc30 hc29 hc31 hrest hTrange hTlen hTT hs2 hDs hrl hr64 right_1
  obtain ⟨q, hq⟩ : ∃ q, (if cap = m then ad else Option.map (fun x => x.add m) ad) = q := ⟨_, rfl⟩
  rw [hq] at Hc30
  go_wp2_with fail
  go_region_held3 (fun w' => w'.cell? ⟨B, 0, none⟩ = some (.int .u32 s1.a) ∧ w'.cell? ⟨B, 1, none⟩ = some (.int .u32 s1.b) ∧ w'.cell? ⟨B, 2, none⟩ = some (.int .u32 s1.c) ∧ w'.cell? ⟨B, 3, none⟩ = some (.int .u32 s1.d) ∧ w'.cell? ⟨B, 4, none⟩ = some (.int .u32 s1.e) ∧ w'.cell? ⟨B, 5, none⟩ = some (.int .u32 s1.f) ∧ w'.cell? ⟨B, 6, none⟩ = some (.int .u32 s1.g) ∧ w'.cell? ⟨B, 7, none⟩ = some (.int .u32 s1.h) ∧ T3 w B s1 w') (first | (with_reducible exact T3.all (by with_reducible assumption)) | (exact T3.all (T3.cells (by with_reducible assumption) hDl)))
    (first | (go_at_call 58; refine (Hc30.out _ (T3.sum hTd).below).mono ?_; rintro e w2 ⟨u, rfl, hb2, hu2⟩; have hn2 := T3.call hTd hb2; clear hb2) | (go_at_call 57; refine (Hc29.out _ _ (T3.sum hn2).below hu2).mono ?_; rintro e w3 ⟨rfl, hb3⟩; have hn3 := T3.call hn2 hb3; clear hb3) | (go_at_call 59; refine (Hc31.out _).mono ?_; rintro e w4 ⟨rfl, hb4⟩; have hn4 := T3.call hn3 hb4; have hth := hn4.there; clear hb4))
  have hfin : RowB (w4.setCells w.heap.size 0 (byteVals D)) w.heap.size 26 D := by
    obtain ⟨l, hl, hrl⟩ := hn4.sum.row
    have := RowB.cells D 0 w4 l hrl (by omega)
    rw [List.take_zero, List.nil_append, List.drop_eq_nil_of_le (by omega), List.append_nil] at this
    exact this
  have hbf : Below w.heap.size w (w4.setCells w.heap.size 0 (byteVals D)) := below_cells (Nat.le_refl _) _ _ _ hn4.sum.below
  generalize w4.setCells w.heap.size 0 (byteVals D) = w5 at *
  have Hfin := Lib.hid hfin; have Hbf := Lib.hid hbf
  clear hfin hbf
  go_wp2_with fail
  refine bodyPost_ret (results_cell_row rfl _ _ w.heap.size 26 _ (0, 0) _ rfl Hfin.out Tryd.underlying26 rfl (size25 _ hDl)) rfl ?_
  exact ⟨rfl, Hbf.out⟩

/-- Sum's contract. -/
theorem sum_any (b : List Int) (v : Value) (w : World) (hk : KOk w) (hv : Bs (fun k => k < w.heap.size) w v b) :
    Calls Tryd.prog 48 #[v] w fun e w' => e = .returned (.agg (byteVals (sha b)).toArray) ∧ Below w.heap.size w w' := by
  have hv0 := hv
  obtain ⟨_, _, a', c', rfl, _, _⟩ := hv0
  exact sum_some (sha b) b w a' c' hk hv rfl

end Go.Proofs.YthmpeeipbclhkaaDoor
