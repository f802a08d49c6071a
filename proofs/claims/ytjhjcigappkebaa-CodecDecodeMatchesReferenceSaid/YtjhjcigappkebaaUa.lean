/-
  Arguments of bounded bulk opened: a struct reads as a tree, whose encoding has at most nine bytes for each value and letter.
-/
import Derived.Test.YtjhjcigappkebaaMc
import Derived.JoinedCond
namespace Go.Proofs.Ytjhjcigappkebaa
open Go.Joins Go.ChangeShapes Go.WideShapes Go.ChangeAt Go.RowKit Go.Deep

section
variable {H : Type} {enc0 : TypeId × Value → H} {w : World}

theorem bulk_pos (d : DataW H) : 1 ≤ Rows.uptoBulk d := by
  cases d with
  | lit l => cases l <;> simp [Rows.uptoBulk]
  | _ => simp [Rows.uptoBulk]

theorem bulk_len (l : List (DataW H)) : l.length ≤ Rows.uptoBulkAll l := by
  induction l with
  | nil => simp [Rows.uptoBulkAll]
  | cons x r ih => have := bulk_pos x; simp only [Rows.uptoBulkAll, List.length_cons]; omega

theorem openUB {fuel : Nat} {v : Value} {x : DataW H × List MemPlace} (h : DataW.trod enc0 Try.prog w 0 (fun _ => true) true fuel 22 [v] = some x) (hw : Rows.uptoBulk x.1 ≤ 1048576) :
    ∃ b, Bs (fun k => k < w.heap.size) w v b ∧ b.length ≤ Rows.uptoBulk x.1 := by
  have hx : ∀ n ∈ x.1.weights Try.prog 22, n ≤ reachBytes := by
    rcases open_ints Try.underlying22 Try.underlying5 cells5 h with ⟨hv, rfl⟩ | ⟨a, len, cap, zs, hv, hb, hl, hm, hlen, rfl, hc, hz⟩
    · intro n hn; simp [DataW.weights] at hn
    · intro n hn
      have h1 := bulk_len (lits (H := H) .u8 (zs.take len))
      have h2 := bulk_len (lits (H := H) .u8 (zs.drop len))
      simp only [Rows.uptoBulk] at hw
      have hall : ∀ (l : List Int), DataW.weightsAll (H := H) Try.prog 5 (lits .u8 l) = [] := by
        intro l
        induction l with
        | nil => rfl
        | cons y ys ih => simp only [lits, List.map_cons, DataW.weightsAll, DataW.weights, List.nil_append] at ih ⊢; exact ih
      simp only [DataW.weights, Try.underlying22, bytes5, hall, List.append_nil, List.mem_cons, List.not_mem_nil, or_false] at hn
      have := reachBytes_lt
      have hr : (2097152 : Nat) ≤ reachBytes := by decide
      omega
  obtain ⟨b, hb⟩ := openB h hx
  refine ⟨b, hb, ?_⟩
  obtain ⟨_, _, a0, c0, rfl, _⟩ := hb
  rcases open_ints Try.underlying22 Try.underlying5 cells5 h with ⟨hv, rfl⟩ | ⟨a, len, cap, zs, hv, hb', hl, hm, hlen, rfl, hc, hz⟩
  · simp only [List.cons.injEq, and_true, Value.slice.injEq] at hv
    omega
  · simp only [List.cons.injEq, and_true, Value.slice.injEq] at hv
    obtain ⟨_, h1, _⟩ := hv
    have h2 := bulk_len (lits (H := H) .u8 (zs.take len))
    simp only [if_true] at hlen
    simp only [Rows.uptoBulk]
    have h3 : (lits (H := H) .u8 (zs.take len)).length = len := by
      simp only [lits, List.length_map, List.length_take]; omega
    omega

theorem bulk_mem (es : List (DataW H × List MemPlace)) (l : List T) (hl : l.length = es.length) (h : ∀ (i : Nat) (t : T), l[i]? = some t → ∀ z : DataW H × List MemPlace, es[i]? = some z → (enc t).length ≤ 9 * Rows.uptoBulk z.1) :
    (encL l).length ≤ 9 * Rows.uptoBulkAll (es.map (·.1)) := by
  induction es generalizing l with
  | nil =>
    have : l = [] := List.length_eq_zero_iff.1 hl
    subst this
    simp [encL]
  | cons z zs ih =>
    cases l with
    | nil => simp at hl
    | cons t ts =>
      have h0 := h 0 t rfl z rfl
      have h1 := ih ts (by simpa using hl) (fun i t hi z hz => h (i + 1) t (by simpa using hi) z (by simpa using hz))
      simp only [encL, List.length_append, List.map_cons, Rows.uptoBulkAll]
      omega

theorem enc_len (k n : Int) (b : List Int) (l : List T) (hn : I64 n) : (enc (.mk k n b l)).length ≤ 9 ∨ (enc (.mk k n b l)).length ≤ 3 + 2 * b.length ∨ (enc (.mk k n b l)).length = 2 + (encL l).length := by
  unfold enc
  split
  · left
    have := encInt_length n
    have := wid_le (mag n)
    omega
  · split
    · right; left
      have h := encB_length b
      have hz : zeros b ≤ b.length := List.length_filter_le _ _
      omega
    · right; right
      simp
      omega

theorem openU : ∀ (fuel : Nat) (cs : List Value) (x : DataW H × List MemPlace), DataW.trod enc0 Try.prog w 0 (fun _ => true) true fuel 25 cs = some x → Rows.uptoBulk x.1 ≤ 1048576 →
    ∃ t, Rd (fun k => k < w.heap.size) w t (.agg cs.toArray) ∧ (enc t).length ≤ 9 * Rows.uptoBulk x.1 := by
  intro fuel
  induction fuel using Nat.strongRecOn with
  | _ fuel ih =>
  intro cs x h hw
  obtain ⟨xs, n, rfl, rfl, hl, hlen, hf⟩ := DataW.trod_struct Try.underlying25 h
  rw [cells25] at hl
  match xs, hlen, cs, hl with
  | [y0, y1, y2, y3], _, [c0, c1, c2, c3], _ =>
    have g0 : DataW.trod enc0 Try.prog w 0 (fun _ => true) true n 3 (List.take (Try.prog.cellsOf 3) (List.drop 0 [c0, c1, c2, c3])) = some y0 := hf 0 _ rfl
    have g1 : DataW.trod enc0 Try.prog w 0 (fun _ => true) true n 3 (List.take (Try.prog.cellsOf 3) (List.drop 1 [c0, c1, c2, c3])) = some y1 := hf 1 _ rfl
    have g2 : DataW.trod enc0 Try.prog w 0 (fun _ => true) true n 22 (List.take (Try.prog.cellsOf 22) (List.drop 2 [c0, c1, c2, c3])) = some y2 := hf 2 _ rfl
    have g3 : DataW.trod enc0 Try.prog w 0 (fun _ => true) true n 23 (List.take (Try.prog.cellsOf 23) (List.drop 3 [c0, c1, c2, c3])) = some y3 := hf 3 _ rfl
    rw [cells3] at g0 g1
    rw [cells22] at g2
    rw [cells23] at g3
    have h0 : DataW.trod enc0 Try.prog w 0 (fun _ => true) true n 3 [c0] = some y0 := g0
    have h1 : DataW.trod enc0 Try.prog w 0 (fun _ => true) true n 3 [c1] = some y1 := g1
    have h2 : DataW.trod enc0 Try.prog w 0 (fun _ => true) true n 22 [c2] = some y2 := g2
    have h3 : DataW.trod enc0 Try.prog w 0 (fun _ => true) true n 23 [c3] = some y3 := g3
    clear g0 g1 g2 g3 hf
    obtain ⟨k, rfl, hk⟩ := openI h0
    obtain ⟨m, rfl, hm⟩ := openI h1
    simp only [List.map_cons, List.map_nil, Rows.uptoBulk, Rows.uptoBulkAll] at hw ⊢
    have p0 := bulk_pos y0.1
    have p1 := bulk_pos y1.1
    have p2 := bulk_pos y2.1
    have p3 := bulk_pos y3.1
    obtain ⟨b, hb, hbl⟩ := openUB h2 (by omega)
    rcases DataW.trod_slice Try.underlying23 h3 with ⟨hv, _⟩ | ⟨a, len, cap, elems, rest, n', rfl, hv, rfl, _, hlc, _, hel, he, _, _⟩
    · simp only [List.cons.injEq, and_true] at hv
      subst hv
      refine ⟨.mk k m b [], ?_, ?_⟩
      · unfold Rd
        exact ⟨c2, none, 0, rfl, hk, hm, hb, by simp, by simp, by simp⟩
      · rcases enc_len k m b [] hm with h | h | h
        · omega
        · omega
        · simp [encL] at h; omega
    · simp only [List.cons.injEq, and_true] at hv
      subst hv
      have hle := bulk_len (elems.map (·.1))
      have hr := reachBytes_lt
      simp only [List.length_map] at hle
      simp only [Rows.uptoBulk] at hw p3 ⊢
      have hbm : ∀ i (hi : i < elems.length), Rows.uptoBulk elems[i].1 ≤ Rows.uptoBulkAll (elems.map (·.1)) := by
        intro i hi
        have hmem : elems[i] ∈ elems := List.getElem_mem _
        generalize elems[i] = z at *
        clear he hle hw p3 hel
        generalize elems = es at hmem ⊢
        induction es with
        | nil => cases hmem
        | cons e es ihe =>
          simp only [List.map_cons, Rows.uptoBulkAll]
          rcases List.mem_cons.1 hmem with h | h
          · rw [h]; omega
          · have := ihe h; omega
      have hall : ∀ i, i < len → ∃ t, (∃ x0 x1 x2 x3, w.cell? (a.add (i * 4)) = some x0 ∧ w.cell? (a.add (i * 4 + 1)) = some x1 ∧ w.cell? (a.add (i * 4 + 2)) = some x2 ∧ w.cell? (a.add (i * 4 + 3)) = some x3 ∧ Rd (fun k => k < w.heap.size) w t (.agg #[x0, x1, x2, x3])) ∧
          ∀ z, elems[i]? = some z → (enc t).length ≤ 9 * Rows.uptoBulk z.1 := by
        intro i hi
        have h5 := he i hi
        rw [cells25, List.getElem?_eq_getElem (by omega)] at h5
        obtain ⟨cs', h6, h7⟩ := Option.bind_eq_some_iff.1 h5
        obtain ⟨_, h8, h9⟩ := World.cells?_some h6
        obtain ⟨t, ht, htl⟩ := ih n' (by omega) cs' _ h7 (by have := hbm i (by omega); omega)
        match cs', h8 with
        | [x0, x1, x2, x3], _ =>
          have e0 := h9 0 (by omega)
          have e1 := h9 1 (by omega)
          have e2 := h9 2 (by omega)
          have e3 := h9 3 (by omega)
          rw [Go.Deep.add_add] at e0 e1 e2 e3
          refine ⟨t, ⟨x0, x1, x2, x3, e0, e1, e2, e3, ht⟩, fun z hz => ?_⟩
          rw [List.getElem?_eq_getElem (by omega)] at hz
          cases hz
          exact htl
      obtain ⟨l, hll, hlp⟩ := choose_list _ len hall
      refine ⟨.mk k m b l, ?_, ?_⟩
      · unfold Rd
        refine ⟨c2, some a, cap, by rw [hll], hk, hm, hb, by omega, by omega, fun hp => ?_⟩
        obtain ⟨t0, ⟨x0, _, _, _, e0, _⟩, _⟩ := hall 0 (by omega)
        obtain ⟨hs, hkb⟩ := cell_spot e0
        obtain ⟨g, off, spot⟩ := a
        have hs' : spot = none := hs
        subst hs'
        refine ⟨g, off, rfl, hkb, RdL.mk fun j t hj => ?_⟩
        obtain ⟨⟨x0, x1, x2, x3, e0, e1, e2, e3, ht⟩, _⟩ := hlp j t hj
        rw [add_off] at e0 e1 e2 e3
        exact ⟨x0, x1, x2, x3, e0, e1, e2, e3, ht⟩
      · have hsum := bulk_mem elems l (by omega) (fun i t hi z hz => (hlp i t hi).2 z hz)
        rcases enc_len k m b l hm with h | h | h
        · omega
        · omega
        · omega

theorem openUV {r : Reach} {b0 : Nat} {v : Value} {d : DataW H} {p : List MemPlace} (hv : Value.okWide Try.prog w r b0 25 v) (h : DataW.Trod enc0 Try.prog w 0 (fun _ => true) true 25 v d p) (hw : Rows.uptoBulk d ≤ 1048576) :
    ∃ t, Rd (fun k => k < w.heap.size) w t v ∧ (enc t).length ≤ 9437184 := by
  obtain ⟨cs, rfl, hsz⟩ := okWide_struct Try.underlying25 hv
  obtain ⟨fuel, hf⟩ := h
  obtain ⟨t, ht, hl⟩ := openU fuel cs.toList _ hf hw
  exact ⟨t, ht, by simp only at hl; omega⟩

end
end Go.Proofs.Ytjhjcigappkebaa
