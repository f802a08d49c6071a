/-
  The search's state in memory: the times and the places that wait.
-/
import Derived.Test.YtbeoldklpklbfaaTa
namespace Go.Proofs.Ytbeoldklpklbfaa
open Go.RowKit
set_option linter.unusedVariables false
set_option linter.unusedSimpArgs false

/-- Block g begins with the ints l. -/
def Hc (w : World) (g : Nat) (l : List Int) : Prop := ∃ cur, w.heap[g]? = some (.cells cur 3 (0, 0)) ∧ cur.toList.take l.length = cI l
theorem Hc.cell {w : World} {g : Nat} {l : List Int} (h : Hc w g l) {i : Nat} {x : Int} (hx : l[i]? = some x) : w.cell? ⟨g, i, none⟩ = some (.int .i64 x) := by
  obtain ⟨cur, hh, ht⟩ := h
  have e1 : (cI l)[i]? = some (.int .i64 x) := by rw [cI_get, hx]; rfl
  rw [← ht, List.getElem?_take] at e1
  rw [cell_of_row w g _ cur 3 (0, 0) hh]
  split at e1
  · simpa using e1
  · cases e1
theorem Hc.free {w : World} {g : Nat} {l : List Int} (h : Hc w g l) (i : Nat) : w.frozen? ⟨g, i, none⟩ = false := by
  obtain ⟨cur, hh, _⟩ := h
  exact frozen_of_row w g i _ 3 hh
theorem Hc.lt {w : World} {g : Nat} {l : List Int} (h : Hc w g l) : g < w.heap.size := by
  obtain ⟨cur, hh, _⟩ := h
  exact (Array.getElem?_eq_some_iff.1 hh).1
theorem Hc.put {w : World} {g : Nat} {l : List Int} (h : Hc w g l) (i : Nat) (x : Int) (hi : i < l.length) : Hc (w.setCell ⟨g, i, none⟩ (.int .i64 x)) g (l.set i x) := by
  obtain ⟨cur, hh, ht⟩ := h
  refine ⟨_, heap_setCell_same w g i cur 3 (.int .i64 x) hh, ?_⟩
  rw [List.length_set, Array.toList_setIfInBounds, List.take_set, ht]
  unfold cI
  rw [List.map_set]
theorem Hc.kept {w w' : World} {g : Nat} {l : List Int} (h : Hc w g l) (hh : w'.heap[g]? = w.heap[g]?) : Hc w' g l := by
  obtain ⟨cur, h1, ht⟩ := h
  exact ⟨cur, hh.trans h1, ht⟩
theorem Hc.other {w : World} {g : Nat} {l : List Int} (h : Hc w g l) (a : Addr) (v : Value) (hne : g ≠ a.block) : Hc (w.setCell a v) g l := h.kept (heap_setCell_other w a g v hne)
theorem Hc.on {w w' : World} {g : Nat} {l : List Int} (h : Hc w g l) (hb : Below w.heap.size w w') : Hc w' g l := h.kept (hb.block g h.lt)
theorem Hc.hl {w : World} {g c : Nat} {l : List Int} (h : Hc w g l) (hl : l.length ≤ 70368744177664) (hc : l.length ≤ c) (hI : ∀ x ∈ l, I64 x) : Hl (fun k => k < w.heap.size) w (.slice (some ⟨g, 0, none⟩) l.length c) l :=
  ⟨hl, hI, some ⟨g, 0, none⟩, c, rfl, hc, fun _ => ⟨g, 0, rfl, h.lt, fun j x hx => by rw [Nat.zero_add]; exact h.cell hx⟩⟩
theorem hc_made (w : World) (n : Nat) : Hc (w.alloc (.cells (madeCells #[.int .i64 0] n) 3)) w.heap.size (List.replicate n 0) := by
  refine ⟨_, heap_alloc_new _ _, ?_⟩
  rw [toList_madeCells_one, List.length_replicate, List.take_of_length_le (by simp)]
  simp [cI]
theorem own_one (base : Nat) (w : World) (x : Int) (hb : base ≤ w.heap.size) : Own base (w.alloc (.cells #[.int .i64 x] 3)) (.slice (some ⟨w.heap.size, 0, none⟩) 1 1) [x] :=
  ⟨rfl, Or.inr ⟨w.heap.size, 1, #[.int .i64 x], rfl, hb, heap_alloc_new w _, Nat.le_refl _, by unfold maxLen; omega, rfl, rfl⟩⟩

structure TS (W0 : World) (gL : Nat) (L : List Int) (vW : Value) (P : List Nat) (w : World) : Prop where
  below : Below W0.heap.size W0 w
  bL : W0.heap.size ≤ gL
  hL : Hc w gL L
  hW : Own W0.heap.size w vW (ints P)
  ne : vW.ownBlock ≠ some gL
section
variable {W0 w : World} {gL : Nat} {L : List Int} {vW : Value} {P : List Nat}
theorem TS.on {w' : World} (h : TS W0 gL L vW P w) (hb : Below w.heap.size w w') : TS W0 gL L vW P w' := ⟨btrans h.below hb, h.bL, h.hL.on hb, h.hW.on hb, h.ne⟩
theorem TS.set (h : TS W0 gL L vW P w) (p : Nat) (t : Int) (hp : p < L.length) : TS W0 gL (L.set p t) vW P (w.setCell ⟨gL, p, none⟩ (.int .i64 t)) :=
  ⟨Below.setCell h.below (show W0.heap.size ≤ gL from h.bL) _, h.bL, h.hL.put p t hp,
    World.ownsRow.kept h.hW (row := some gL) ⟨rfl, rfl, rfl, by rw [World.size_setCell]; exact Nat.le_refl _, fun i hi hne => heap_setCell_other w ⟨gL, p, none⟩ i _ (fun e => hne (by rw [e]))⟩ (Or.inr h.ne), h.ne⟩
theorem TS.push (h : TS W0 gL L vW P w) (b : Nat) (hn : P.length ≤ 100000) : ∃ a c w', (Builtin.append_ #[29, 29] 29 #[vW, .slice (some ⟨w.heap.size, 0, none⟩) 1 1]).run Try.prog (w.alloc (.cells #[.int .i64 (b : Int)] 3)) = .ok (.slice a (P.length + 1) c) w' ∧
    TS W0 gL L (.slice a (P.length + 1) c) (P ++ [b]) w' ∧ ∀ X, X < W0.heap.size → w'.heap[X]? = w.heap[X]? := by
  obtain ⟨v', w', hr, h1, h2, h3⟩ := h.hW.push h.below.size (b : Int) (by rw [ints_length]; omega)
  have eb : [(b : Int)] = ints [b] := rfl
  rw [eb, ← ints_append] at h1
  obtain ⟨a, c, rfl⟩ := h1.shape
  rw [ints_length, List.length_append] at h1 hr h3
  have hbl : Below W0.heap.size W0 w' := h.below.grown h2 h.below.size (fun k hk => (World.ownsRow.lt h.hW k hk).1)
  refine ⟨a, c, w', hr, ⟨hbl, h.bL, h.hL.kept (h2.block gL h.hL.lt (fun e => h.ne e.symm)), h1, ?_⟩, fun X hX => (hbl.block X hX).trans (h.below.block X hX).symm⟩
  rcases h3 with e | ⟨g, e, hge⟩
  · have := h.ne; rw [← e] at this; exact this
  · intro e2
    have e3 : (some g : Option Nat) = some gL := e.symm.trans e2
    simp only [Option.some.injEq] at e3
    have := h.hL.lt
    omega
theorem TS.del {w' : World} {a : Option Addr} {c i : Nat} (h : TS W0 gL L vW P w) (ho : Own W0.heap.size w' (.slice a ((ints P).length - 1) c) ((ints P).eraseIdx i)) (hg : w.grownBy w' vW.ownBlock) (he : (Value.slice a ((ints P).length - 1) c).ownBlock = vW.ownBlock) :
    TS W0 gL L (.slice a (P.length - 1) c) (P.eraseIdx i) w' ∧ Below W0.heap.size W0 w' := by
  have hbl : Below W0.heap.size W0 w' := h.below.grown hg h.below.size (fun k hk => (World.ownsRow.lt h.hW k hk).1)
  rw [ints_length] at ho he
  have e1 : (ints P).eraseIdx i = ints (P.eraseIdx i) := by unfold ints; simp [List.eraseIdx_eq_take_drop_succ]
  rw [e1] at ho
  exact ⟨⟨hbl, h.bL, h.hL.kept (hg.block gL h.hL.lt (fun e => h.ne e.symm)), ho, by rw [he]; exact h.ne⟩, hbl⟩
end
/-- The search between two rounds. -/
structure Ou (n : Nat) (es : List Ln) (f C : Nat) (L : List Int) (P : List Nat) : Prop where
  len : L.length = n
  dj : Dj (wt es) f (dv L) P
  cnt : cneg L + P.length = C
  top : ∀ p, dv L p ≤ 100000 * ((n : Int) - C)
  plt : ∀ p ∈ P, p < n
/-- The search in a round: a is taken, the neighbours R are seen. -/
structure Iu (n : Nat) (es : List Ln) (f C a : Nat) (t : Int) (R : List Nat) (L : List Int) (P : List Nat) : Prop where
  len : L.length = n
  dq : Dq (wt es) f a t R (dv L) P
  cnt : cneg L + P.length = C
  top : ∀ p, dv L p ≤ 100000 * ((n : Int) - C)
  ta : t + 100000 ≤ 100000 * ((n : Int) - C)
  plt : ∀ p ∈ P, p < n
theorem eraseIdx_mem {P : List Nat} (hnd : P.Nodup) {i a : Nat} (ha : P[i]? = some a) (p : Nat) : p ∈ P.eraseIdx i ↔ p ∈ P ∧ p ≠ a := by
  induction P generalizing i with
  | nil => simp at ha
  | cons x t ih =>
    rw [List.nodup_cons] at hnd
    cases i with
    | zero =>
      simp only [List.getElem?_cons_zero, Option.some.injEq] at ha
      subst ha
      simp only [List.eraseIdx_zero, List.tail_cons, List.mem_cons]
      constructor
      · intro h; exact ⟨Or.inr h, by rintro rfl; exact hnd.1 h⟩
      · rintro ⟨h | h, hne⟩
        · exact absurd h hne
        · exact h
    | succ i =>
      simp only [List.getElem?_cons_succ] at ha
      simp only [List.eraseIdx_cons_succ, List.mem_cons, ih hnd.2 ha]
      constructor
      · rintro (h | ⟨h, hne⟩)
        · exact ⟨Or.inl h, by rintro rfl; rw [h] at *; exact hnd.1 (List.mem_of_getElem? ha)⟩
        · exact ⟨Or.inr h, hne⟩
      · rintro ⟨h | h, hne⟩
        · exact Or.inl h
        · exact Or.inr ⟨h, hne⟩
theorem Ou.take {n f C : Nat} {es : List Ln} {L : List Int} {P : List Nat} (h : Ou n es f C L P) {i a : Nat} (ha : P[i]? = some a) (hmin : ∀ (j q : Nat), P[j]? = some q → dv L a ≤ dv L q) : Iu n es f (C - 1) a (dv L a) [] L (P.eraseIdx i) ∧ 1 ≤ C := by
  have hi := (List.getElem?_eq_some_iff.1 ha).1
  have hl : (P.eraseIdx i).length = P.length - 1 := by rw [List.length_eraseIdx, if_pos hi]
  have hc := h.cnt
  have hC : 1 ≤ C := by omega
  refine ⟨⟨h.len, ?_, by omega, fun p => ?_, ?_, fun p hp => h.plt p ((eraseIdx_mem h.dj.nd ha p).1 hp).1⟩, hC⟩
  · refine h.dj.take (List.mem_of_getElem? ha) (fun p hp => ?_) (fun p => eraseIdx_mem h.dj.nd ha p) (h.dj.nd.sublist (List.eraseIdx_sublist ..))
    obtain ⟨j, hj⟩ := List.getElem?_of_mem hp
    exact hmin j p hj
  · have := h.top p; omega
  · have := h.top a; omega
theorem Iu.done {n f C a : Nat} {t : Int} {es : List Ln} {R : List Nat} {L : List Int} {P : List Nat} (h : Iu n es f C a t R L P) (hR : ∀ q m, wt es a q = some m → q ∈ R) : Ou n es f C L P :=
  ⟨h.len, h.dq.done hR, h.cnt, h.top, h.plt⟩
theorem Iu.add {n f C a : Nat} {t : Int} {es : List Ln} {R : List Nat} {L : List Int} {P : List Nat} (G : Wt n (wt es)) (h : Iu n es f C a t R L P) {q m : Nat} (e : wt es a q = some m) (hq : dv L q < 0) : Iu n es f C a t (R ++ [q]) (L.set q (t + m)) (P ++ [q]) := by
  have hm := G.pos e
  have hql := (G.lt e).2
  have h0 := h.dq.d0
  have hlen : q < L.length := by rw [h.len]; exact hql
  have hc := cneg_set (t := t + m) (by omega) hlen hq
  have hcc := h.cnt
  have hta := h.ta
  refine ⟨by rw [List.length_set]; exact h.len, h.dq.add G e hq (dv_set_same _ hlen) (fun p hp => dv_set_other _ hp), by rw [List.length_append]; simp; omega, fun p => ?_, h.ta, fun p hp => ?_⟩
  · by_cases ep : p = q
    · rw [ep, dv_set_same _ hlen]; omega
    · rw [dv_set_other _ ep]; exact h.top p
  · rcases List.mem_append.1 hp with hp | hp
    · exact h.plt p hp
    · simp only [List.mem_singleton] at hp; omega
theorem Iu.less {n f C a : Nat} {t : Int} {es : List Ln} {R : List Nat} {L : List Int} {P : List Nat} (G : Wt n (wt es)) (h : Iu n es f C a t R L P) {q m : Nat} (e : wt es a q = some m) (hq : 0 ≤ dv L q) (hl : t + m < dv L q) : Iu n es f C a t (R ++ [q]) (L.set q (t + m)) P := by
  have hm := G.pos e
  have hql := (G.lt e).2
  have h0 := h.dq.d0
  have hlen : q < L.length := by rw [h.len]; exact hql
  have hc := cneg_same (t := t + m) (by omega) hq
  have hcc := h.cnt
  have hta := h.ta
  refine ⟨by rw [List.length_set]; exact h.len, h.dq.less G e hq hl (dv_set_same _ hlen) (fun p hp => dv_set_other _ hp), by omega, fun p => ?_, h.ta, h.plt⟩
  by_cases ep : p = q
  · rw [ep, dv_set_same _ hlen]; omega
  · rw [dv_set_other _ ep]; exact h.top p
theorem Iu.same {n f C a : Nat} {t : Int} {es : List Ln} {R : List Nat} {L : List Int} {P : List Nat} (h : Iu n es f C a t R L P) {q m : Nat} (e : wt es a q = some m) (hq : 0 ≤ dv L q) (hl : ¬ t + m < dv L q) : Iu n es f C a t (R ++ [q]) L P :=
  ⟨h.len, h.dq.same e hq (by omega), h.cnt, h.top, h.ta, h.plt⟩
theorem dv_rep (n p : Nat) : dv (List.replicate n (-1)) p = -1 := by
  unfold dv
  rw [List.getElem?_replicate]
  split <;> rfl
theorem ou_start {n f : Nat} (es : List Ln) (hf : f < n) : Ou n es f n ((List.replicate n (-1)).set f 0) [f] := by
  have hl : f < (List.replicate n (-1 : Int)).length := by rw [List.length_replicate]; exact hf
  refine ⟨by rw [List.length_set, List.length_replicate], dj_start _ _ _ (dv_set_same _ hl) (fun p hp => by rw [dv_set_other _ hp, dv_rep]), ?_, fun p => ?_, fun p hp => by simp only [List.mem_singleton] at hp; omega⟩
  · have := cneg_set (t := 0) (by omega) hl (by rw [dv_rep]; omega)
    rw [cneg_rep] at this
    simp only [List.length_singleton]
    omega
  · by_cases e : p = f
    · rw [e, dv_set_same _ hl]; omega
    · rw [dv_set_other _ e, dv_rep]; omega
theorem Ou.tm {n f C : Nat} {es : List Ln} {L : List Int} (h : Ou n es f C L []) : Tm n es f L ∧ ∀ p, dv L p ≤ 100000 * n := by
  refine ⟨⟨h.len, h.dj.done⟩, fun p => ?_⟩
  have := h.top p
  omega
end Go.Proofs.Ytbeoldklpklbfaa
