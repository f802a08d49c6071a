/-
  Walks: the graph of a network.
-/
import Derived.Test.YtbeoldklpklbfaaGd
import Derived.Deep.OwnRows
namespace Go.Proofs.Ytbeoldklpklbfaa
open Go.RowKit
set_option linter.unusedVariables false
set_option linter.unusedSimpArgs false

/-- A graph in memory. -/
structure Gr (w : World) (ea : Option Addr) (en ec B G n : Nat) (es : List Ln) : Prop where
  E : Es (fun k => k < w.heap.size) w (.slice ea en ec) (es.map Ln.ed)
  M : ∃ N, Mp w B N (fd es)
  near : ∀ p, p < n → ∃ a c L, w.cell? ⟨G, p, none⟩ = some (.slice a (List.length L) c) ∧ Hl (fun k => k < w.heap.size) w (.slice a L.length c) (ints L) ∧ L.length ≤ 10000 ∧ (∀ q ∈ L, q < n) ∧ ∀ q, q ∈ L ↔ (fd es p q).isSome = true
  lt : G < w.heap.size
theorem Gr.on {w w' : World} {ea : Option Addr} {en ec B G n : Nat} {es : List Ln} (h : Gr w ea en ec B G n es) (hb : Below w.heap.size w w') : Gr w' ea en ec B G n es := by
  refine ⟨h.E.on hb, ?_, fun p hp => ?_, Nat.lt_of_lt_of_le h.lt hb.size⟩
  · obtain ⟨N, hm⟩ := h.M
    exact ⟨N, hm.on hb⟩
  · obtain ⟨a, c, L, h1, h2, h3⟩ := h.near p hp
    exact ⟨a, c, L, (hb.cell (p := ⟨G, p, none⟩) h.lt).trans h1, h2.on hb, h3⟩
theorem upd_at (f : Nat → Nat → Option Nat) (a b i p q : Nat) (h : p = a ∧ q = b) : upd f a b i p q = some i := if_pos h
theorem upd_off (f : Nat → Nat → Option Nat) (a b i p q : Nat) (h : ¬ (p = a ∧ q = b)) : upd f a b i p q = f p q := if_neg h
theorem ent_at (es : List Ln) (f : Nat → Nat → Option Nat) (a b i m : Nat) : ent es f a b i m a b = match f a b with | none => some i | some j => if m < mi es j then some i else some j := by
  unfold ent
  cases h : f a b with
  | none => exact upd_at _ _ _ _ _ _ ⟨rfl, rfl⟩
  | some j =>
    simp only
    split
    · exact upd_at _ _ _ _ _ _ ⟨rfl, rfl⟩
    · exact h
theorem ent_off (es : List Ln) (f : Nat → Nat → Option Nat) (a b i m p q : Nat) (h : ¬ (p = a ∧ q = b)) : ent es f a b i m p q = f p q := by
  unfold ent
  cases hf : f a b with
  | none => exact upd_off _ _ _ _ _ _ h
  | some j =>
    simp only
    by_cases hl : m < mi es j
    · rw [if_pos hl]; exact upd_off _ _ _ _ _ _ h
    · rw [if_neg hl]
/-- Both directions of line k. -/
theorem ent_two {n : Nat} {es : List Ln} {k : Nat} {x : Ln} (hx : es[k]? = some x) (hok : x.ok n) (p q : Nat) : ent es (ent es (fun p q => fnd es p q k) x.a x.b k x.m) x.b x.a k x.m p q = fnd es p q (k + 1) := by
  have hne : x.a ≠ x.b := hok.2.2.1
  rw [fnd_next hx]
  by_cases h1 : p = x.b ∧ q = x.a
  · obtain ⟨rfl, rfl⟩ := h1
    rw [ent_at, ent_off _ _ _ _ _ _ _ _ (fun h => hne h.1.symm), if_pos (show jn x x.b x.a from Or.inr ⟨rfl, rfl⟩)]
    cases fnd es x.b x.a k <;> rfl
  · rw [ent_off _ _ _ _ _ _ _ _ h1]
    by_cases h2 : p = x.a ∧ q = x.b
    · obtain ⟨rfl, rfl⟩ := h2
      rw [ent_at, if_pos (show jn x x.a x.b from Or.inl ⟨rfl, rfl⟩)]
      cases fnd es x.a x.b k <;> rfl
    · rw [ent_off _ _ _ _ _ _ _ _ h2, if_neg]
      rintro (⟨e1, e2⟩ | ⟨e1, e2⟩)
      · exact h2 ⟨e1.symm, e2.symm⟩
      · exact h1 ⟨e2.symm, e1.symm⟩
theorem ent_lt {es : List Ln} {f : Nat → Nat → Option Nat} {a b i m k : Nat} (hf : ∀ p q j, f p q = some j → j < k) (hi : i < k) : ∀ p q j, ent es f a b i m p q = some j → j < k := by
  intro p q j h
  by_cases e : p = a ∧ q = b
  · obtain ⟨rfl, rfl⟩ := e
    rw [ent_at] at h
    split at h
    · cases h; exact hi
    · rename_i j0 h0
      split at h
      · cases h; exact hi
      · cases h; exact hf _ _ _ h0
  · rw [ent_off _ _ _ _ _ _ _ _ e] at h
    exact hf _ _ _ h
theorem bsetRow {B : Nat} {a w : World} (h : Below B a w) {k : Nat} (hk : B ≤ k) (cs : Array Value) : Below B a (w.setRow k cs) :=
  h.trans ⟨rfl, rfl, rfl, by simp, fun i hi => setRow_other _ _ _ _ (by omega)⟩
theorem setRow_grown (w : World) (r : Nat) (cs : Array Value) : w.grownBy (w.setRow r cs) (some r) := by
  have hb := bsetRow (Below.refl r w) (Nat.le_refl r) cs
  refine ⟨hb.os, hb.tape, hb.output, hb.size, fun i hi hne => ?_⟩
  exact setRow_other w r i cs (fun e => hne (by rw [e]))
theorem mp_at {w : World} {B : Nat} (h : w.heap[B]? = some (.map #[] 0)) : Mp w B 0 (fun _ _ => none) := by
  obtain ⟨D, ⟨es, cl, hb, rest⟩, h2⟩ := mp_new w
  rw [heap_alloc_new] at hb
  cases hb
  exact ⟨D, ⟨_, _, h, rest⟩, h2⟩
theorem gs_start {w0 w : World} {B G gB n : Nat} (hb : Below w0.heap.size w0 w) (h1 : w.heap[B]? = some (.map #[] 0)) (h2 : w.heap[G]? = some (.cells (madeCells #[.slice none 0 0] n) 29 (0, 0))) (h3 : gB < w.heap.size) (b1 : w0.heap.size ≤ B) (b2 : w0.heap.size ≤ G) (n1 : gB ≠ B) (n2 : gB ≠ G) :
    GS w0 B G n 0 0 (fun X => X = gB) (fun _ _ => none) (fun p q => ((fun _ _ => none : Nat → Nat → Option Nat) p q).isSome = true) w := by
  have hm : ∀ (p : Nat) (v : Value), (madeCells #[Value.slice none 0 0] n)[p]? = some v → v = .slice none 0 0 := by
    intro p v hv
    have h := congrArg (fun l : List Value => l[p]?) (toList_madeCells_one (Value.slice none 0 0) n)
    simp only [Array.getElem?_toList, hv, List.getElem?_replicate] at h
    split at h
    · exact (Option.some.inj h)
    · cases h
  refine ⟨hb, b2, b1, mp_at h1, fun X hX => by rw [hX]; exact ⟨h3, n1, n2⟩, _, List.replicate n [], h2, size_madeCells _ n, List.length_replicate, fun p v L hv hL => ?_, fun p p' v v' g _ hv hv' hg => ?_⟩
  · rw [hm p v hv]
    have : L = [] := by
      rw [List.getElem?_replicate] at hL
      split at hL
      · cases hL; rfl
      · cases hL
    subst this
    exact ⟨own_nil _ _, by simp [Value.ownBlock], by simp [Value.ownBlock], fun X _ => by simp [Value.ownBlock], by simp, by simp, by simp⟩
  · rw [hm p v hv] at hg
    simp [Value.ownBlock] at hg
theorem GS.done {w0 w w' : World} {B G n N M r : Nat} {Fo : Nat → Prop} {f : Nat → Nat → Option Nat} {nf : Nat → Nat → Prop} (h : GS w0 B G n N M Fo f nf w) (hg : w.grownBy w' (some r)) (hr : r < w0.heap.size) :
    Mp w' B N f ∧ G < w'.heap.size ∧ ∀ p, p < n → ∃ v L, w'.cell? ⟨G, p, none⟩ = some v ∧ Own w0.heap.size w' v (ints L) ∧ L.length ≤ M ∧ (∀ q ∈ L, q < n) ∧ ∀ q, q ∈ L ↔ nf p q := by
  have hB := h.bB; have hG := h.bG
  refine ⟨h.mp.kept hg (by intro e; simp only [Option.some.injEq] at e; omega), Nat.lt_of_lt_of_le h.lt hg.size, fun p hp => ?_⟩
  obtain ⟨vs, ls, hn⟩ := h.nr
  obtain ⟨v, h1⟩ : ∃ v, vs[p]? = some v := ⟨_, Array.getElem?_eq_getElem (by rw [hn.sz]; exact hp)⟩
  obtain ⟨L, h2⟩ : ∃ L, ls[p]? = some L := ⟨_, List.getElem?_eq_getElem (by rw [hn.len]; exact hp)⟩
  obtain ⟨a, _, _, _, b, c, d⟩ := hn.row p _ _ h1 h2
  refine ⟨v, L, cell29 ((hg.block G h.lt (by intro e; simp only [Option.some.injEq] at e; omega)).trans hn.hp) h1, World.ownsRow.kept a hg (Or.inr fun e => ?_), b, c, d⟩
  have := (World.ownsRow.lt a r e).1
  omega
theorem info29 : (Try.prog.info? 29).map (fun i => (i.zero, i.size, i.bytes)) = some (some (.slice none 0 0), 1, 24) := by kernel_rfl
theorem run_mm (x : Int) (w : World) : (Instr.makeMap 60 (some (.int .i64 x))).run Try.prog w = .ok (.map (some w.heap.size)) (w.alloc (.map #[] 0)) := by
  simp [Instr.makeMap, run_underlying Try.underlying60, asInt]
  rfl
theorem size63 : (Try.prog.info? 63).map (·.size) = some 3 := by kernel_rfl

set_option maxRecDepth 100000 in
set_option maxHeartbeats 8000000 in
theorem graph_any {V : Value} {ps : List Pc} {es : List Ln} {w : World} {n : Nat} (h : Nw w V ps (es.map Ln.ed)) (hn : ps.length = n) (hn2 : n ≤ 600) (hm2 : es.length ≤ 2100) (hok : ∀ x ∈ es, x.ok n) :
    Calls Try.prog 37 #[V] w fun e w' => ∃ ea en ec B G, e = .returned (.agg #[.slice ea en ec, .map (some B), .slice (some ⟨G, 0, none⟩) n n]) ∧ Below w.heap.size w w' ∧ Gr w' ea en ec B G n es := by
  obtain ⟨va, vc, vb, vd, rfl, h1, h2⟩ := h.shape
  obtain ⟨m, hm⟩ : ∃ m, m = (es.map Ln.ed).length := ⟨_, rfl⟩
  have hml : m = es.length := by rw [hm, List.length_map]
  rw [hn] at h1 h ⊢
  rw [← hm] at h2 h ⊢
  obtain ⟨W, hW⟩ : ∃ W, W = (w.alloc (.cells #[.slice va n vc, .slice vb m vd] 25)).alloc (.cells #[.slice none 0 0, .map none, .slice none 0 0] 63) := ⟨_, rfl⟩
  have hB : Below w.heap.size w W := by rw [hW]; exact ball (ball (Below.refl w.heap.size w) _) _
  have e0 : W.heap[w.heap.size]? = some (.cells #[.slice va n vc, .slice vb m vd] 25 (0, 0)) := by rw [hW]; exact bal (bnew _ _) _
  have e1 : W.heap[w.heap.size + 1]? = some (.cells #[.slice none 0 0, .map none, .slice none 0 0] 63 (0, 0)) := by
    rw [hW]; have := heap_alloc_new (w.alloc (.cells #[.slice va n vc, .slice vb m vd] 25)) (.cells #[.slice none 0 0, .map none, .slice none 0 0] 63); rw [World.size_alloc] at this; exact this
  obtain ⟨b0, b1⟩ := box2 e0
  have HB := Lib.hid hB; have HE0 := Lib.hid e0; have HE1 := Lib.hid e1
  have HES := Lib.hid (h2.on hB); have HOK := Lib.hid hok; have HML := Lib.hid hml; have HEW := Lib.hid h2
  have hmm := run_mm
  have hmk := run_make_row' (P := Try.prog) 61 29 (.slice none 0 0) 24 Try.underlying61 info29 rfl .i64 .i64 n (by omega) (by omega)
  have hwm : IntKind.i64.wrap (2 * (m : Int)) = 2 * (m : Int) := wrap_in (by omega) (by omega)
  have hm3 : m ≤ 2100 := by omega
  clear h h1 h2 hn hm hB e0 e1 hok hml
  go_enter Try.func37, Try.ntmps37
  go_upto_region 1 with (fail)
  rw [← hW]
  have HSZ : Hid (W.heap.size = w.heap.size + 2) := Lib.hid (by rw [hW, World.size_alloc, World.size_alloc])
  clear hW
  go_cut [3] from 7 to 18 (fun s3 wx => ∃ gB B G, s3 = .pointer (some ⟨gB, 0, none⟩) ∧ GS W B G n 0 0 (fun X => X = gB) (fun _ _ => none) (fun p q => ((fun _ _ => none : Nat → Nat → Option Nat) p q).isSome = true) wx ∧ wx.heap[gB]? = some (.cells #[.slice vb m vd, .map (some B), .slice (some ⟨G, 0, none⟩) n n] 63 (0, 0)))
  case first =>
    refine wp_region_held_drew (S := fun w' => w'.cell? ⟨w.heap.size, 0, none⟩ = some (.slice va n vc) ∧ w'.cell? ⟨w.heap.size, 1, none⟩ = some (.slice vb m vd)) (by kernel_rfl) (box2 HE0.out) (fun hHeld => ?_)
    change wpAnyH _ _ _ _ _ 14 #[false, false, false, false, false, false, false, false, false, false, false, false, false, false] _ _
    refine wpAnyH_take (i := 0) (oi := _) (v := .pointer (some ⟨w.heap.size, 1, none⟩)) rfl (by kernel_rfl) (by kernel_rfl) (by kernel_rfl) (fun _ _ _ h => h) (Or.inl ⟨by rfl, fun wx hSw => ?_⟩) (by assumption) ?_
    · go_simp
      try (first | omega | (rw [IntKind.wrap_i64]; omega))
    (try simp only [Act.put, List.setIfInBounds_toArray, List.set_cons_zero, List.set_cons_succ, List.getElem_toArray, List.getElem_cons_zero, List.getElem_cons_succ])
    refine wpAnyH_take (i := 1) (oi := _) (v := .slice vb m vd) rfl (by kernel_rfl) (by kernel_rfl) (by kernel_rfl) (fun _ _ _ h => h) (Or.inl ⟨by rfl, fun wx hSw => ?_⟩) (by assumption) ?_
    · go_simp
      try (first | omega | (rw [IntKind.wrap_i64]; omega))
    (try simp only [Act.put, List.setIfInBounds_toArray, List.set_cons_zero, List.set_cons_succ, List.getElem_toArray, List.getElem_cons_zero, List.getElem_cons_succ])
    refine wpAnyH_take (i := 2) (oi := _) (v := .pointer (some ⟨w.heap.size, 1, none⟩)) rfl (by kernel_rfl) (by kernel_rfl) (by kernel_rfl) (fun _ _ _ h => h) (Or.inl ⟨by rfl, fun wx hSw => ?_⟩) (by assumption) ?_
    · go_simp
      try (first | omega | (rw [IntKind.wrap_i64]; omega))
    (try simp only [Act.put, List.setIfInBounds_toArray, List.set_cons_zero, List.set_cons_succ, List.getElem_toArray, List.getElem_cons_zero, List.getElem_cons_succ])
    refine wpAnyH_take (i := 3) (oi := _) (v := .slice vb m vd) rfl (by kernel_rfl) (by kernel_rfl) (by kernel_rfl) (fun _ _ _ h => h) (Or.inl ⟨by rfl, fun wx hSw => ?_⟩) (by assumption) ?_
    · go_simp
      try (first | omega | (rw [IntKind.wrap_i64]; omega))
    (try simp only [Act.put, List.setIfInBounds_toArray, List.set_cons_zero, List.set_cons_succ, List.getElem_toArray, List.getElem_cons_zero, List.getElem_cons_succ])
    refine wpAnyH_take (i := 4) (oi := _) (v := .int .i64 (m : Int)) rfl (by kernel_rfl) (by kernel_rfl) (by kernel_rfl) (fun _ _ _ h => h) (Or.inl ⟨by rfl, fun wx hSw => ?_⟩) (by assumption) ?_
    · go_simp
      try (first | omega | (rw [IntKind.wrap_i64]; omega))
    (try simp only [Act.put, List.setIfInBounds_toArray, List.set_cons_zero, List.set_cons_succ, List.getElem_toArray, List.getElem_cons_zero, List.getElem_cons_succ])
    refine wpAnyH_take (i := 5) (oi := _) (v := .int .i64 (2 * (m : Int))) rfl (by kernel_rfl) (by kernel_rfl) (by kernel_rfl) (fun _ _ _ h => h) (Or.inl ⟨by rfl, fun wx hSw => ?_⟩) (by assumption) ?_
    · go_simp
      try (first | omega | (rw [IntKind.wrap_i64]; omega))
    (try simp only [Act.put, List.setIfInBounds_toArray, List.set_cons_zero, List.set_cons_succ, List.getElem_toArray, List.getElem_cons_zero, List.getElem_cons_succ])
    refine wpAnyH_take (i := 7) (oi := _) (v := .pointer (some ⟨w.heap.size, 0, none⟩)) rfl (by kernel_rfl) (by kernel_rfl) (by kernel_rfl) (fun _ _ _ h => h) (Or.inl ⟨by rfl, fun wx hSw => ?_⟩) (by assumption) ?_
    · go_simp
      try (first | omega | (rw [IntKind.wrap_i64]; omega))
    (try simp only [Act.put, List.setIfInBounds_toArray, List.set_cons_zero, List.set_cons_succ, List.getElem_toArray, List.getElem_cons_zero, List.getElem_cons_succ])
    refine wpAnyH_take (i := 8) (oi := _) (v := .slice va n vc) rfl (by kernel_rfl) (by kernel_rfl) (by kernel_rfl) (fun _ _ _ h => h) (Or.inl ⟨by rfl, fun wx hSw => ?_⟩) (by assumption) ?_
    · go_simp
      try (first | omega | (rw [IntKind.wrap_i64]; omega))
    (try simp only [Act.put, List.setIfInBounds_toArray, List.set_cons_zero, List.set_cons_succ, List.getElem_toArray, List.getElem_cons_zero, List.getElem_cons_succ])
    refine wpAnyH_take (i := 9) (oi := _) (v := .int .i64 (n : Int)) rfl (by kernel_rfl) (by kernel_rfl) (by kernel_rfl) (fun _ _ _ h => h) (Or.inl ⟨by rfl, fun wx hSw => ?_⟩) (by assumption) ?_
    · go_simp
      try (first | omega | (rw [IntKind.wrap_i64]; omega))
    (try simp only [Act.put, List.setIfInBounds_toArray, List.set_cons_zero, List.set_cons_succ, List.getElem_toArray, List.getElem_cons_zero, List.getElem_cons_succ])
    refine wpAnyH_ready (rs := [6, 10, 12]) (by kernel_rfl) (by simp) ?_
    refine AllReadyH.cons (o := _) rfl (fun K hK => ?_) (AllReadyH.cons (o := _) rfl (fun K hK => ?_) (AllReadyH.cons (o := _) rfl (fun K hK => ?_) AllReadyH.nil))
    · skip
      go_simp
      refine hK.out _ _ ((box2 (bal HE0.out (.map #[] 0)))) (fun hHeld => ?_)
      clear hK K
      (try simp only [Act.put, List.setIfInBounds_toArray, List.set_cons_zero, List.set_cons_succ, List.getElem_toArray, List.getElem_cons_zero, List.getElem_cons_succ])
      refine wpAnyH_ready (rs := [10, 12]) (by kernel_rfl) (by simp) ?_
      refine AllReadyH.cons (o := _) rfl (fun K hK => ?_) (AllReadyH.cons (o := _) rfl (fun K hK => ?_) AllReadyH.nil)
      · skip
        go_simp
        refine hK.out _ _ ((box2 (bal (bal HE0.out (.map #[] 0)) (.cells (madeCells #[.slice none 0 0] n) 29)))) (fun hHeld => ?_)
        clear hK K
        (try simp only [Act.put, List.setIfInBounds_toArray, List.set_cons_zero, List.set_cons_succ, List.getElem_toArray, List.getElem_cons_zero, List.getElem_cons_succ])
        refine wpAnyH_take (i := 11) (oi := _) (v := .agg #[.slice vb m vd, .map (some (W.heap.size)), .slice (some ⟨W.heap.size + 1, 0, none⟩) n n]) rfl (by kernel_rfl) (by kernel_rfl) (by kernel_rfl) (fun _ _ _ h => h) (Or.inl ⟨by rfl, fun wx hSw => ?_⟩) (by assumption) ?_
        · go_simp
          try (first | omega | (rw [IntKind.wrap_i64]; omega))
        (try simp only [Act.put, List.setIfInBounds_toArray, List.set_cons_zero, List.set_cons_succ, List.getElem_toArray, List.getElem_cons_zero, List.getElem_cons_succ])
        refine wpAnyH_ready (rs := [12]) (by kernel_rfl) (by simp) ?_
        refine AllReadyH.cons (o := _) rfl (fun K hK => ?_) AllReadyH.nil
        go_simp
        refine hK.out _ _ ((box2 (bal (bal (bal HE0.out (.map #[] 0)) (.cells (madeCells #[.slice none 0 0] n) 29)) (.cells #[.slice none 0 0, .map none, .slice none 0 0] 63)))) (fun hHeld => ?_)
        clear hK K
        (try simp only [Act.put, List.setIfInBounds_toArray, List.set_cons_zero, List.set_cons_succ, List.getElem_toArray, List.getElem_cons_zero, List.getElem_cons_succ])
        refine wpAnyH_ready (rs := [13]) (by kernel_rfl) (by simp) ?_
        refine AllReadyH.cons (o := _) rfl (fun K hK => ?_) AllReadyH.nil
        go_simp
        refine hK.out _ _ ((box2 (bal (bal (bal HE0.out (.map #[] 0)) (.cells (madeCells #[.slice none 0 0] n) 29)) (.cells #[.slice vb m vd, .map (some (W.heap.size)), .slice (some ⟨W.heap.size + 1, 0, none⟩) n n] 63)))) (fun hHeld => ?_)
        clear hK K
        (try simp only [Act.put, List.setIfInBounds_toArray, List.set_cons_zero, List.set_cons_succ, List.getElem_toArray, List.getElem_cons_zero, List.getElem_cons_succ])
        refine wpAnyH_done (by kernel_rfl) ?_ _
        go_wp2_with fail
        go_meet
        have hm0 := (bal (bal (bnew W (.map #[] 0)) (.cells (madeCells #[.slice none 0 0] n) 29)) (.cells #[.slice vb m vd, .map (some (W.heap.size)), .slice (some ⟨W.heap.size + 1, 0, none⟩) n n] 63))
        have hm1 := (bal (bnew (W.alloc (.map #[] 0)) (.cells (madeCells #[.slice none 0 0] n) 29)) (.cells #[.slice vb m vd, .map (some (W.heap.size)), .slice (some ⟨W.heap.size + 1, 0, none⟩) n n] 63))
        have hm2 := (bnew ((W.alloc (.map #[] 0)).alloc (.cells (madeCells #[.slice none 0 0] n) 29)) (.cells #[.slice vb m vd, .map (some (W.heap.size)), .slice (some ⟨W.heap.size + 1, 0, none⟩) n n] 63))
        have hbb := (ball (ball (ball (Below.refl W.heap.size W) (.map #[] 0)) (.cells (madeCells #[.slice none 0 0] n) 29)) (.cells #[.slice vb m vd, .map (some (W.heap.size)), .slice (some ⟨W.heap.size + 1, 0, none⟩) n n] 63))
        simp only [World.size_alloc] at hm0 hm1 hm2
        refine ⟨_, W.heap.size, W.heap.size + 1, rfl, ?_, hm2⟩
        exact gs_start (hbb.drew) hm0 hm1 (blt hm2) (by omega) (by omega) (by omega) (by omega)
      · skip
        go_simp
        refine hK.out _ _ ((box2 (bal (bal HE0.out (.map #[] 0)) (.cells #[.slice none 0 0, .map none, .slice none 0 0] 63)))) (fun hHeld => ?_)
        clear hK K
        (try simp only [Act.put, List.setIfInBounds_toArray, List.set_cons_zero, List.set_cons_succ, List.getElem_toArray, List.getElem_cons_zero, List.getElem_cons_succ])
        refine wpAnyH_ready (rs := [10]) (by kernel_rfl) (by simp) ?_
        refine AllReadyH.cons (o := _) rfl (fun K hK => ?_) AllReadyH.nil
        go_simp
        refine hK.out _ _ ((box2 (bal (bal (bal HE0.out (.map #[] 0)) (.cells #[.slice none 0 0, .map none, .slice none 0 0] 63)) (.cells (madeCells #[.slice none 0 0] n) 29)))) (fun hHeld => ?_)
        clear hK K
        (try simp only [Act.put, List.setIfInBounds_toArray, List.set_cons_zero, List.set_cons_succ, List.getElem_toArray, List.getElem_cons_zero, List.getElem_cons_succ])
        refine wpAnyH_take (i := 11) (oi := _) (v := .agg #[.slice vb m vd, .map (some (W.heap.size)), .slice (some ⟨W.heap.size + 1 + 1, 0, none⟩) n n]) rfl (by kernel_rfl) (by kernel_rfl) (by kernel_rfl) (fun _ _ _ h => h) (Or.inl ⟨by rfl, fun wx hSw => ?_⟩) (by assumption) ?_
        · go_simp
          try (first | omega | (rw [IntKind.wrap_i64]; omega))
        (try simp only [Act.put, List.setIfInBounds_toArray, List.set_cons_zero, List.set_cons_succ, List.getElem_toArray, List.getElem_cons_zero, List.getElem_cons_succ])
        refine wpAnyH_ready (rs := [13]) (by kernel_rfl) (by simp) ?_
        refine AllReadyH.cons (o := _) rfl (fun K hK => ?_) AllReadyH.nil
        go_simp
        refine hK.out _ _ ((box2 (bal (bal (bal HE0.out (.map #[] 0)) (.cells #[.slice vb m vd, .map (some (W.heap.size)), .slice (some ⟨W.heap.size + 1 + 1, 0, none⟩) n n] 63)) (.cells (madeCells #[.slice none 0 0] n) 29)))) (fun hHeld => ?_)
        clear hK K
        (try simp only [Act.put, List.setIfInBounds_toArray, List.set_cons_zero, List.set_cons_succ, List.getElem_toArray, List.getElem_cons_zero, List.getElem_cons_succ])
        refine wpAnyH_done (by kernel_rfl) ?_ _
        go_wp2_with fail
        go_meet
        have hm0 := (bal (bal (bnew W (.map #[] 0)) (.cells #[.slice vb m vd, .map (some (W.heap.size)), .slice (some ⟨W.heap.size + 1 + 1, 0, none⟩) n n] 63)) (.cells (madeCells #[.slice none 0 0] n) 29))
        have hm1 := (bnew ((W.alloc (.map #[] 0)).alloc (.cells #[.slice vb m vd, .map (some (W.heap.size)), .slice (some ⟨W.heap.size + 1 + 1, 0, none⟩) n n] 63)) (.cells (madeCells #[.slice none 0 0] n) 29))
        have hm2 := (bal (bnew (W.alloc (.map #[] 0)) (.cells #[.slice vb m vd, .map (some (W.heap.size)), .slice (some ⟨W.heap.size + 1 + 1, 0, none⟩) n n] 63)) (.cells (madeCells #[.slice none 0 0] n) 29))
        have hbb := (ball (ball (ball (Below.refl W.heap.size W) (.map #[] 0)) (.cells #[.slice vb m vd, .map (some (W.heap.size)), .slice (some ⟨W.heap.size + 1 + 1, 0, none⟩) n n] 63)) (.cells (madeCells #[.slice none 0 0] n) 29))
        simp only [World.size_alloc] at hm0 hm1 hm2
        refine ⟨_, W.heap.size, W.heap.size + 1 + 1, rfl, ?_, hm2⟩
        exact gs_start (hbb.drew) hm0 hm1 (blt hm2) (by omega) (by omega) (by omega) (by omega)
    · skip
      go_simp
      refine hK.out _ _ ((box2 (bal HE0.out (.cells (madeCells #[.slice none 0 0] n) 29)))) (fun hHeld => ?_)
      clear hK K
      (try simp only [Act.put, List.setIfInBounds_toArray, List.set_cons_zero, List.set_cons_succ, List.getElem_toArray, List.getElem_cons_zero, List.getElem_cons_succ])
      refine wpAnyH_ready (rs := [6, 12]) (by kernel_rfl) (by simp) ?_
      refine AllReadyH.cons (o := _) rfl (fun K hK => ?_) (AllReadyH.cons (o := _) rfl (fun K hK => ?_) AllReadyH.nil)
      · skip
        go_simp
        refine hK.out _ _ ((box2 (bal (bal HE0.out (.cells (madeCells #[.slice none 0 0] n) 29)) (.map #[] 0)))) (fun hHeld => ?_)
        clear hK K
        (try simp only [Act.put, List.setIfInBounds_toArray, List.set_cons_zero, List.set_cons_succ, List.getElem_toArray, List.getElem_cons_zero, List.getElem_cons_succ])
        refine wpAnyH_take (i := 11) (oi := _) (v := .agg #[.slice vb m vd, .map (some (W.heap.size + 1)), .slice (some ⟨W.heap.size, 0, none⟩) n n]) rfl (by kernel_rfl) (by kernel_rfl) (by kernel_rfl) (fun _ _ _ h => h) (Or.inl ⟨by rfl, fun wx hSw => ?_⟩) (by assumption) ?_
        · go_simp
          try (first | omega | (rw [IntKind.wrap_i64]; omega))
        (try simp only [Act.put, List.setIfInBounds_toArray, List.set_cons_zero, List.set_cons_succ, List.getElem_toArray, List.getElem_cons_zero, List.getElem_cons_succ])
        refine wpAnyH_ready (rs := [12]) (by kernel_rfl) (by simp) ?_
        refine AllReadyH.cons (o := _) rfl (fun K hK => ?_) AllReadyH.nil
        go_simp
        refine hK.out _ _ ((box2 (bal (bal (bal HE0.out (.cells (madeCells #[.slice none 0 0] n) 29)) (.map #[] 0)) (.cells #[.slice none 0 0, .map none, .slice none 0 0] 63)))) (fun hHeld => ?_)
        clear hK K
        (try simp only [Act.put, List.setIfInBounds_toArray, List.set_cons_zero, List.set_cons_succ, List.getElem_toArray, List.getElem_cons_zero, List.getElem_cons_succ])
        refine wpAnyH_ready (rs := [13]) (by kernel_rfl) (by simp) ?_
        refine AllReadyH.cons (o := _) rfl (fun K hK => ?_) AllReadyH.nil
        go_simp
        refine hK.out _ _ ((box2 (bal (bal (bal HE0.out (.cells (madeCells #[.slice none 0 0] n) 29)) (.map #[] 0)) (.cells #[.slice vb m vd, .map (some (W.heap.size + 1)), .slice (some ⟨W.heap.size, 0, none⟩) n n] 63)))) (fun hHeld => ?_)
        clear hK K
        (try simp only [Act.put, List.setIfInBounds_toArray, List.set_cons_zero, List.set_cons_succ, List.getElem_toArray, List.getElem_cons_zero, List.getElem_cons_succ])
        refine wpAnyH_done (by kernel_rfl) ?_ _
        go_wp2_with fail
        go_meet
        have hm0 := (bal (bnew (W.alloc (.cells (madeCells #[.slice none 0 0] n) 29)) (.map #[] 0)) (.cells #[.slice vb m vd, .map (some (W.heap.size + 1)), .slice (some ⟨W.heap.size, 0, none⟩) n n] 63))
        have hm1 := (bal (bal (bnew W (.cells (madeCells #[.slice none 0 0] n) 29)) (.map #[] 0)) (.cells #[.slice vb m vd, .map (some (W.heap.size + 1)), .slice (some ⟨W.heap.size, 0, none⟩) n n] 63))
        have hm2 := (bnew ((W.alloc (.cells (madeCells #[.slice none 0 0] n) 29)).alloc (.map #[] 0)) (.cells #[.slice vb m vd, .map (some (W.heap.size + 1)), .slice (some ⟨W.heap.size, 0, none⟩) n n] 63))
        have hbb := (ball (ball (ball (Below.refl W.heap.size W) (.cells (madeCells #[.slice none 0 0] n) 29)) (.map #[] 0)) (.cells #[.slice vb m vd, .map (some (W.heap.size + 1)), .slice (some ⟨W.heap.size, 0, none⟩) n n] 63))
        simp only [World.size_alloc] at hm0 hm1 hm2
        refine ⟨_, W.heap.size + 1, W.heap.size, rfl, ?_, hm2⟩
        exact gs_start (hbb.drew) hm0 hm1 (blt hm2) (by omega) (by omega) (by omega) (by omega)
      · skip
        go_simp
        refine hK.out _ _ ((box2 (bal (bal HE0.out (.cells (madeCells #[.slice none 0 0] n) 29)) (.cells #[.slice none 0 0, .map none, .slice none 0 0] 63)))) (fun hHeld => ?_)
        clear hK K
        (try simp only [Act.put, List.setIfInBounds_toArray, List.set_cons_zero, List.set_cons_succ, List.getElem_toArray, List.getElem_cons_zero, List.getElem_cons_succ])
        refine wpAnyH_ready (rs := [6]) (by kernel_rfl) (by simp) ?_
        refine AllReadyH.cons (o := _) rfl (fun K hK => ?_) AllReadyH.nil
        go_simp
        refine hK.out _ _ ((box2 (bal (bal (bal HE0.out (.cells (madeCells #[.slice none 0 0] n) 29)) (.cells #[.slice none 0 0, .map none, .slice none 0 0] 63)) (.map #[] 0)))) (fun hHeld => ?_)
        clear hK K
        (try simp only [Act.put, List.setIfInBounds_toArray, List.set_cons_zero, List.set_cons_succ, List.getElem_toArray, List.getElem_cons_zero, List.getElem_cons_succ])
        refine wpAnyH_take (i := 11) (oi := _) (v := .agg #[.slice vb m vd, .map (some (W.heap.size + 1 + 1)), .slice (some ⟨W.heap.size, 0, none⟩) n n]) rfl (by kernel_rfl) (by kernel_rfl) (by kernel_rfl) (fun _ _ _ h => h) (Or.inl ⟨by rfl, fun wx hSw => ?_⟩) (by assumption) ?_
        · go_simp
          try (first | omega | (rw [IntKind.wrap_i64]; omega))
        (try simp only [Act.put, List.setIfInBounds_toArray, List.set_cons_zero, List.set_cons_succ, List.getElem_toArray, List.getElem_cons_zero, List.getElem_cons_succ])
        refine wpAnyH_ready (rs := [13]) (by kernel_rfl) (by simp) ?_
        refine AllReadyH.cons (o := _) rfl (fun K hK => ?_) AllReadyH.nil
        go_simp
        refine hK.out _ _ ((box2 (bal (bal (bal HE0.out (.cells (madeCells #[.slice none 0 0] n) 29)) (.cells #[.slice vb m vd, .map (some (W.heap.size + 1 + 1)), .slice (some ⟨W.heap.size, 0, none⟩) n n] 63)) (.map #[] 0)))) (fun hHeld => ?_)
        clear hK K
        (try simp only [Act.put, List.setIfInBounds_toArray, List.set_cons_zero, List.set_cons_succ, List.getElem_toArray, List.getElem_cons_zero, List.getElem_cons_succ])
        refine wpAnyH_done (by kernel_rfl) ?_ _
        go_wp2_with fail
        go_meet
        have hm0 := (bnew ((W.alloc (.cells (madeCells #[.slice none 0 0] n) 29)).alloc (.cells #[.slice vb m vd, .map (some (W.heap.size + 1 + 1)), .slice (some ⟨W.heap.size, 0, none⟩) n n] 63)) (.map #[] 0))
        have hm1 := (bal (bal (bnew W (.cells (madeCells #[.slice none 0 0] n) 29)) (.cells #[.slice vb m vd, .map (some (W.heap.size + 1 + 1)), .slice (some ⟨W.heap.size, 0, none⟩) n n] 63)) (.map #[] 0))
        have hm2 := (bal (bnew (W.alloc (.cells (madeCells #[.slice none 0 0] n) 29)) (.cells #[.slice vb m vd, .map (some (W.heap.size + 1 + 1)), .slice (some ⟨W.heap.size, 0, none⟩) n n] 63)) (.map #[] 0))
        have hbb := (ball (ball (ball (Below.refl W.heap.size W) (.cells (madeCells #[.slice none 0 0] n) 29)) (.cells #[.slice vb m vd, .map (some (W.heap.size + 1 + 1)), .slice (some ⟨W.heap.size, 0, none⟩) n n] 63)) (.map #[] 0))
        simp only [World.size_alloc] at hm0 hm1 hm2
        refine ⟨_, W.heap.size + 1 + 1, W.heap.size, rfl, ?_, hm2⟩
        exact gs_start (hbb.drew) hm0 hm1 (blt hm2) (by omega) (by omega) (by omega) (by omega)
    · skip
      go_simp
      refine hK.out _ _ ((box2 (bal HE0.out (.cells #[.slice none 0 0, .map none, .slice none 0 0] 63)))) (fun hHeld => ?_)
      clear hK K
      (try simp only [Act.put, List.setIfInBounds_toArray, List.set_cons_zero, List.set_cons_succ, List.getElem_toArray, List.getElem_cons_zero, List.getElem_cons_succ])
      refine wpAnyH_ready (rs := [6, 10]) (by kernel_rfl) (by simp) ?_
      refine AllReadyH.cons (o := _) rfl (fun K hK => ?_) (AllReadyH.cons (o := _) rfl (fun K hK => ?_) AllReadyH.nil)
      · skip
        go_simp
        refine hK.out _ _ ((box2 (bal (bal HE0.out (.cells #[.slice none 0 0, .map none, .slice none 0 0] 63)) (.map #[] 0)))) (fun hHeld => ?_)
        clear hK K
        (try simp only [Act.put, List.setIfInBounds_toArray, List.set_cons_zero, List.set_cons_succ, List.getElem_toArray, List.getElem_cons_zero, List.getElem_cons_succ])
        refine wpAnyH_ready (rs := [10]) (by kernel_rfl) (by simp) ?_
        refine AllReadyH.cons (o := _) rfl (fun K hK => ?_) AllReadyH.nil
        go_simp
        refine hK.out _ _ ((box2 (bal (bal (bal HE0.out (.cells #[.slice none 0 0, .map none, .slice none 0 0] 63)) (.map #[] 0)) (.cells (madeCells #[.slice none 0 0] n) 29)))) (fun hHeld => ?_)
        clear hK K
        (try simp only [Act.put, List.setIfInBounds_toArray, List.set_cons_zero, List.set_cons_succ, List.getElem_toArray, List.getElem_cons_zero, List.getElem_cons_succ])
        refine wpAnyH_take (i := 11) (oi := _) (v := .agg #[.slice vb m vd, .map (some (W.heap.size + 1)), .slice (some ⟨W.heap.size + 1 + 1, 0, none⟩) n n]) rfl (by kernel_rfl) (by kernel_rfl) (by kernel_rfl) (fun _ _ _ h => h) (Or.inl ⟨by rfl, fun wx hSw => ?_⟩) (by assumption) ?_
        · go_simp
          try (first | omega | (rw [IntKind.wrap_i64]; omega))
        (try simp only [Act.put, List.setIfInBounds_toArray, List.set_cons_zero, List.set_cons_succ, List.getElem_toArray, List.getElem_cons_zero, List.getElem_cons_succ])
        refine wpAnyH_ready (rs := [13]) (by kernel_rfl) (by simp) ?_
        refine AllReadyH.cons (o := _) rfl (fun K hK => ?_) AllReadyH.nil
        go_simp
        refine hK.out _ _ ((box2 (bal (bal (bal HE0.out (.cells #[.slice vb m vd, .map (some (W.heap.size + 1)), .slice (some ⟨W.heap.size + 1 + 1, 0, none⟩) n n] 63)) (.map #[] 0)) (.cells (madeCells #[.slice none 0 0] n) 29)))) (fun hHeld => ?_)
        clear hK K
        (try simp only [Act.put, List.setIfInBounds_toArray, List.set_cons_zero, List.set_cons_succ, List.getElem_toArray, List.getElem_cons_zero, List.getElem_cons_succ])
        refine wpAnyH_done (by kernel_rfl) ?_ _
        go_wp2_with fail
        go_meet
        have hm0 := (bal (bnew (W.alloc (.cells #[.slice vb m vd, .map (some (W.heap.size + 1)), .slice (some ⟨W.heap.size + 1 + 1, 0, none⟩) n n] 63)) (.map #[] 0)) (.cells (madeCells #[.slice none 0 0] n) 29))
        have hm1 := (bnew ((W.alloc (.cells #[.slice vb m vd, .map (some (W.heap.size + 1)), .slice (some ⟨W.heap.size + 1 + 1, 0, none⟩) n n] 63)).alloc (.map #[] 0)) (.cells (madeCells #[.slice none 0 0] n) 29))
        have hm2 := (bal (bal (bnew W (.cells #[.slice vb m vd, .map (some (W.heap.size + 1)), .slice (some ⟨W.heap.size + 1 + 1, 0, none⟩) n n] 63)) (.map #[] 0)) (.cells (madeCells #[.slice none 0 0] n) 29))
        have hbb := (ball (ball (ball (Below.refl W.heap.size W) (.cells #[.slice vb m vd, .map (some (W.heap.size + 1)), .slice (some ⟨W.heap.size + 1 + 1, 0, none⟩) n n] 63)) (.map #[] 0)) (.cells (madeCells #[.slice none 0 0] n) 29))
        simp only [World.size_alloc] at hm0 hm1 hm2
        refine ⟨_, W.heap.size + 1, W.heap.size + 1 + 1, rfl, ?_, hm2⟩
        exact gs_start (hbb.drew) hm0 hm1 (blt hm2) (by omega) (by omega) (by omega) (by omega)
      · skip
        go_simp
        refine hK.out _ _ ((box2 (bal (bal HE0.out (.cells #[.slice none 0 0, .map none, .slice none 0 0] 63)) (.cells (madeCells #[.slice none 0 0] n) 29)))) (fun hHeld => ?_)
        clear hK K
        (try simp only [Act.put, List.setIfInBounds_toArray, List.set_cons_zero, List.set_cons_succ, List.getElem_toArray, List.getElem_cons_zero, List.getElem_cons_succ])
        refine wpAnyH_ready (rs := [6]) (by kernel_rfl) (by simp) ?_
        refine AllReadyH.cons (o := _) rfl (fun K hK => ?_) AllReadyH.nil
        go_simp
        refine hK.out _ _ ((box2 (bal (bal (bal HE0.out (.cells #[.slice none 0 0, .map none, .slice none 0 0] 63)) (.cells (madeCells #[.slice none 0 0] n) 29)) (.map #[] 0)))) (fun hHeld => ?_)
        clear hK K
        (try simp only [Act.put, List.setIfInBounds_toArray, List.set_cons_zero, List.set_cons_succ, List.getElem_toArray, List.getElem_cons_zero, List.getElem_cons_succ])
        refine wpAnyH_take (i := 11) (oi := _) (v := .agg #[.slice vb m vd, .map (some (W.heap.size + 1 + 1)), .slice (some ⟨W.heap.size + 1, 0, none⟩) n n]) rfl (by kernel_rfl) (by kernel_rfl) (by kernel_rfl) (fun _ _ _ h => h) (Or.inl ⟨by rfl, fun wx hSw => ?_⟩) (by assumption) ?_
        · go_simp
          try (first | omega | (rw [IntKind.wrap_i64]; omega))
        (try simp only [Act.put, List.setIfInBounds_toArray, List.set_cons_zero, List.set_cons_succ, List.getElem_toArray, List.getElem_cons_zero, List.getElem_cons_succ])
        refine wpAnyH_ready (rs := [13]) (by kernel_rfl) (by simp) ?_
        refine AllReadyH.cons (o := _) rfl (fun K hK => ?_) AllReadyH.nil
        go_simp
        refine hK.out _ _ ((box2 (bal (bal (bal HE0.out (.cells #[.slice vb m vd, .map (some (W.heap.size + 1 + 1)), .slice (some ⟨W.heap.size + 1, 0, none⟩) n n] 63)) (.cells (madeCells #[.slice none 0 0] n) 29)) (.map #[] 0)))) (fun hHeld => ?_)
        clear hK K
        (try simp only [Act.put, List.setIfInBounds_toArray, List.set_cons_zero, List.set_cons_succ, List.getElem_toArray, List.getElem_cons_zero, List.getElem_cons_succ])
        refine wpAnyH_done (by kernel_rfl) ?_ _
        go_wp2_with fail
        go_meet
        have hm0 := (bnew ((W.alloc (.cells #[.slice vb m vd, .map (some (W.heap.size + 1 + 1)), .slice (some ⟨W.heap.size + 1, 0, none⟩) n n] 63)).alloc (.cells (madeCells #[.slice none 0 0] n) 29)) (.map #[] 0))
        have hm1 := (bal (bnew (W.alloc (.cells #[.slice vb m vd, .map (some (W.heap.size + 1 + 1)), .slice (some ⟨W.heap.size + 1, 0, none⟩) n n] 63)) (.cells (madeCells #[.slice none 0 0] n) 29)) (.map #[] 0))
        have hm2 := (bal (bal (bnew W (.cells #[.slice vb m vd, .map (some (W.heap.size + 1 + 1)), .slice (some ⟨W.heap.size + 1, 0, none⟩) n n] 63)) (.cells (madeCells #[.slice none 0 0] n) 29)) (.map #[] 0))
        have hbb := (ball (ball (ball (Below.refl W.heap.size W) (.cells #[.slice vb m vd, .map (some (W.heap.size + 1 + 1)), .slice (some ⟨W.heap.size + 1, 0, none⟩) n n] 63)) (.cells (madeCells #[.slice none 0 0] n) 29)) (.map #[] 0))
        simp only [World.size_alloc] at hm0 hm1 hm2
        refine ⟨_, W.heap.size + 1 + 1, W.heap.size + 1, rfl, ?_, hm2⟩
        exact gs_start (hbb.drew) hm0 hm1 (blt hm2) (by omega) (by omega) (by omega) (by omega)
  case rest =>
    obtain ⟨gB, B, G, rfl, hgs, hgb⟩ := hcut
    clear hmm hmk hwm b0 b1
    obtain ⟨b0, b1⟩ := box2 (bon HE0.out hgs.below)
    have HGS : Hid (GS W B G n (2 * 0) (2 * 0) (fun X => X = gB) (fun p q => fnd es p q 0) (fun p q => (fnd es p q 0).isSome = true) wc ∧ wc.heap[gB]? = some (.cells #[.slice vb m vd, .map (some B), .slice (some ⟨G, 0, none⟩) n n] 63 (0, 0))) := Lib.hid ⟨hgs, hgb⟩
    clear hgs hgb
    go_wp2
    clear b0 b1
    go_loopw [22] (fun s wr => ∃ k : Nat, k ≤ m ∧ s = .int .i64 (k : Int) ∧ Hid (GS W B G n (2 * k) (2 * k) (fun X => X = gB) (fun p q => fnd es p q k) (fun p q => (fnd es p q k).isSome = true) wr ∧ wr.heap[gB]? = some (.cells #[.slice vb m vd, .map (some B), .slice (some ⟨G, 0, none⟩) n n] 63 (0, 0)))) (fun s _ => m - (intOf s).toNat)
    case atStart => exact ⟨0, by omega, rfl, HGS⟩
    case round =>
      clear HGS
      obtain ⟨k, hk, rfl, HK⟩ := hrel
      by_cases hlt : k < m
      · have hlt2 : (k : Int) < (m : Int) := by omega
        have hmm := HML.out
        obtain ⟨x, hx⟩ : ∃ x, es[k]? = some x := ⟨_, List.getElem?_eq_getElem (by omega)⟩
        have hxo := HOK.out x (List.mem_of_getElem? hx)
        obtain ⟨g, off, y, rfl, hg, hy, c0, c1, c2, c3, c4, hcap⟩ := Es.cells HES.out k (by rw [List.length_map]; omega)
        rw [List.getElem?_map, hx] at hy
        obtain rfl : x.ed = y := Option.some.inj hy
        have hb0 := HK.out.1.below
        have f0 : wr.cell? ⟨g, off + k * 5, none⟩ = some (.int .i64 (x.a : Int)) := (hb0.cell (p := ⟨g, off + k * 5, none⟩) hg).trans c0
        have f1 : wr.cell? ⟨g, off + k * 5 + 1, none⟩ = some (.int .i64 (x.b : Int)) := (hb0.cell (p := ⟨g, off + k * 5 + 1, none⟩) hg).trans c1
        have f2 : wr.cell? ⟨g, off + k * 5 + 2, none⟩ = some (.int .i64 (x.r : Int)) := (hb0.cell (p := ⟨g, off + k * 5 + 2, none⟩) hg).trans c2
        have f3 : wr.cell? ⟨g, off + k * 5 + 3, none⟩ = some (.int .i64 (x.m : Int)) := (hb0.cell (p := ⟨g, off + k * 5 + 3, none⟩) hg).trans c3
        have f4 : wr.cell? ⟨g, off + k * 5 + 4, none⟩ = some (.int .i64 (x.k : Int)) := (hb0.cell (p := ⟨g, off + k * 5 + 4, none⟩) hg).trans c4
        have hb2 : Below wr.heap.size wr ((wr.alloc (.cells #[.int .i64 (k : Int)] 3)).alloc (.cells #[.int .i64 (x.a : Int), .int .i64 (x.b : Int), .int .i64 (x.r : Int), .int .i64 (x.m : Int), .int .i64 (x.k : Int)] 45)) := ball (ball (Below.refl _ _) _) _
        have hgs2 := HK.out.1.more (Fo' := fun X => X = gB ∨ X = wr.heap.size + 1 ∨ X = wr.heap.size) hb2 (fun X hX => by rw [World.size_alloc, World.size_alloc]; omega)
        have hi2 := bal (bnew wr (.cells #[.int .i64 (k : Int)] 3)) (.cells #[.int .i64 (x.a : Int), .int .i64 (x.b : Int), .int .i64 (x.r : Int), .int .i64 (x.m : Int), .int .i64 (x.k : Int)] 45)
        have hl2 := bnew (wr.alloc (.cells #[.int .i64 (k : Int)] 3)) (.cells #[.int .i64 (x.a : Int), .int .i64 (x.b : Int), .int .i64 (x.r : Int), .int .i64 (x.m : Int), .int .i64 (x.k : Int)] 45)
        rw [World.size_alloc] at hl2
        have hEn : En W B G n (2 * k) (2 * k) (fun X => X = gB ∨ X = wr.heap.size + 1 ∨ X = wr.heap.size) (fun p q => fnd es p q k) (some ⟨g, off, none⟩) m vd es gB (wr.heap.size + 1) wr.heap.size x k _ := ⟨hgs2, bal (bal HK.out.2 _) _, hl2, hi2, Or.inl rfl, Or.inr (Or.inl rfl), Or.inr (Or.inr rfl)⟩
        have hfk : ∀ p q j, fnd es p q k = some j → j < es.length := fun p q j h => by have := (fnd_some h).1; omega
        have Hc := Lib.hid (enter_any hEn HES.out hfk (a := x.a) (b := x.b) hxo.1 hxo.2.1 (by omega) (by omega) (by omega) (by omega))
        have hf2 : ∀ p q j, ent es (fun p q => fnd es p q k) x.a x.b k x.m p q = some j → j < es.length := ent_lt hfk (by omega)
        have HF2 := Lib.hid hf2
        have HX := Lib.hid hx; have HXO := Lib.hid hxo
        have HEF : Hid (ent es (ent es (fun p q => fnd es p q k) x.a x.b k x.m) x.b x.a k x.m = fun p q => fnd es p q (k + 1)) := Lib.hid (by funext p q; exact ent_two hx hxo p q)
        clear hx hxo hg hy c0 c1 c2 c3 c4 hcap hb0 hb2 hgs2 hi2 hl2 hEn hfk hmm hf2
        go_wp2_with fail
        refine Hc.out.mono ?_
        rintro e w3 ⟨rfl, hEn1, hX1⟩
        obtain ⟨l0, l1, l2, l3, l4⟩ := box5 hEn1.hl
        have Hc2 := Lib.hid (enter_any hEn1 HES.out HF2.out (a := x.b) (b := x.a) HXO.out.2.1 HXO.out.1 (by omega) (by have := HML.out; omega) (by have := HML.out; omega) (by have := HML.out; omega))
        clear Hc hEn1 hX1 l2 l3 l4 f0 f1 f2 f3 f4
        go_wp2_with fail
        refine Hc2.out.mono ?_
        rintro e w4 ⟨rfl, hEn2, hX2⟩
        rw [HEF.out] at hEn2
        have HQ := Lib.hid (And.intro (hEn2.gs.less (Fo' := fun X => X = gB) (fun X hX => Or.inl hX)) hEn2.hg)
        rw [show 2 * k + 1 + 1 = 2 * (k + 1) by omega] at HQ
        clear hEn2 hX2 l0 l1 Hc2
        go_wp2
        go_roundw
        case rel => exact ⟨k + 1, by omega, by go_num, HQ⟩
        case measure => simp [intOf]; omega
      · obtain rfl : k = m := by omega
        have hlt2 : ¬ ((k : Int) < (k : Int)) := by omega
        obtain ⟨hgs, hgb⟩ := HK.out
        obtain ⟨g0, g1, g2⟩ := box3 hgb
        have hr1 := bon HE1.out hgs.below
        have HR1 := Lib.hid hr1
        have hd := hgs.done (setRow_grown wr (w.heap.size + 1) #[.slice vb k vd, .map (some B), .slice (some ⟨G, 0, none⟩) n n]) (by have := HSZ.out; omega)
        have HD := Lib.hid hd
        have hbw : Below w.heap.size w (wr.setRow (w.heap.size + 1) #[.slice vb k vd, .map (some B), .slice (some ⟨G, 0, none⟩) n n]) := bsetRow (btrans HB.out hgs.below) (by omega) _
        have HBW := Lib.hid hbw
        have heq : (fun p q => fnd es p q k) = fd es := by funext p q; unfold fd; rw [HML.out]
        rw [heq] at HD
        have hiff : ∀ p q, (fnd es p q k).isSome = true ↔ (fd es p q).isSome = true := fun p q => by unfold fd; rw [HML.out]
        have HIFF := Lib.hid hiff
        have hone : (#[Value.slice vb k vd, .map (some B), .slice (some ⟨G, 0, none⟩) n n] : Array Value).all (·.oneCell') = true := by simp [Value.oneCell']
        have HONE := Lib.hid hone
        clear hone hgs hgb hr1 hd hbw heq hiff
        go_wp2_with (refine wpList_store_row rfl 63 (.tmp 2) (.tmp 41) rfl (w.heap.size + 1) #[.slice vb k vd, .map (some B), .slice (some ⟨G, 0, none⟩) n n] rfl rfl 63 _ HR1.out size63 rfl HONE.out ?_)
        (try simp only [Exit.inBlock, Exit.then])
        refine bodyPost_ret (results_cell_row (cs := #[.slice vb k vd, .map (some B), .slice (some ⟨G, 0, none⟩) n n]) rfl _ _ (w.heap.size + 1) 63 (0, 0) _ rfl (setRow_heap _ _ _ _ _ _ HR1.out) Try.underlying63 rfl size63) rfl ?_
        refine ⟨_, _, _, _, _, rfl, HBW.out, HEW.out.on HBW.out, ⟨_, HD.out.1⟩, fun p hp => ?_, HD.out.2.1⟩
        obtain ⟨v, L, h1, h2, h3, h4, h5⟩ := HD.out.2.2 p hp
        obtain ⟨a, c, rfl⟩ := h2.shape
        rw [ints_length] at h1 h2
        refine ⟨a, c, L, h1, h2.hl (fun y hy => ?_) (by rw [ints_length]; have := HML.out; omega), by have := HML.out; omega, h4, fun q => (h5 q).trans (HIFF.out p q)⟩
        obtain ⟨q, hq, rfl⟩ := List.mem_map.1 hy
        have := h4 q hq
        exact ⟨by omega, by omega⟩
end Go.Proofs.Ytbeoldklpklbfaa
