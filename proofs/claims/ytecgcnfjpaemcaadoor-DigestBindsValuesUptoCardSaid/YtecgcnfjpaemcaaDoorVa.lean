/-
  Values of bounded bulk opened: a struct reads as a tree, whose encoding has at most nine bytes for each value and letter; the frame of the laws whose arguments are of bounded bulk.
-/
import Derived.Test.YtecgcnfjpaemcaaDoorHa
import Derived.JoinedCond
import Derived.ChangeMaps5
namespace Go.Proofs.YtecgcnfjpaemcaaDoor
open Go.Joins Go.ChangeShapes Go.WideShapes Go.ChangeAt Go.RowKit Go.Deep

theorem cells38 : Tryd.prog.cellsOf 38 = 4 := by kernel_rfl
theorem cells3 : Tryd.prog.cellsOf 3 = 1 := by kernel_rfl
theorem cells22 : Tryd.prog.cellsOf 22 = 1 := by kernel_rfl
theorem cells36 : Tryd.prog.cellsOf 36 = 1 := by kernel_rfl

section
variable {H : Type} {enc0 : TypeId × Value → H} {w : World}

theorem openI {fuel : Nat} {v : Value} {x : DataW H × List MemPlace} (h : DataW.trod enc0 Tryd.prog w 0 (fun _ => true) true fuel 3 [v] = some x) : ∃ n, v = .int .i64 n ∧ I64 n := by
  obtain ⟨n, hv, _, hw⟩ := DataW.trod_int Tryd.underlying3 h
  simp only [List.cons.injEq, and_true] at hv
  have h1 : IntKind.i64.min = -9223372036854775808 := rfl
  have h2 : IntKind.i64.max = 9223372036854775807 := rfl
  simp only [Lit.wf, Bool.and_eq_true, decide_eq_true_eq] at hw
  exact ⟨n, hv, by unfold I64; omega⟩

theorem choose_list {α : Type} (P : Nat → α → Prop) : ∀ n : Nat, (∀ i, i < n → ∃ a, P i a) → ∃ l : List α, l.length = n ∧ ∀ i a, l[i]? = some a → P i a
  | 0, _ => ⟨[], rfl, by simp⟩
  | n + 1, h => by
    obtain ⟨l, hl, hp⟩ := choose_list P n (fun i hi => h i (by omega))
    obtain ⟨a, ha⟩ := h n (by omega)
    refine ⟨l ++ [a], by simp [hl], fun i b hb => ?_⟩
    by_cases hi : i < n
    · rw [List.getElem?_append_left (by omega)] at hb
      exact hp i b hb
    · rw [List.getElem?_append_right (by omega)] at hb
      have hi' : i = n := by
        have := (List.getElem?_eq_some_iff.1 hb).1
        simp at this
        omega
      subst hi'
      simp [hl] at hb
      subst hb
      exact ha

theorem RdL.mk {F : Nat → Prop} {g : Nat} : ∀ {l : List T} {off : Nat}, (∀ j t, l[j]? = some t → ∃ x0 x1 x2 x3, w.cell? ⟨g, off + j * 4, none⟩ = some x0 ∧ w.cell? ⟨g, off + j * 4 + 1, none⟩ = some x1 ∧ w.cell? ⟨g, off + j * 4 + 2, none⟩ = some x2 ∧ w.cell? ⟨g, off + j * 4 + 3, none⟩ = some x3 ∧ Rd F w t (.agg #[x0, x1, x2, x3])) → RdL F w l g off
  | [], _, _ => by unfold RdL; trivial
  | t :: ts, off, h => by
    unfold RdL
    refine ⟨by simpa using h 0 t rfl, RdL.mk fun j u hj => ?_⟩
    have := h (j + 1) u (by simpa using hj)
    have e : off + (j + 1) * 4 = off + 4 + j * 4 := by omega
    rw [e] at this
    exact this

theorem bulk_pos (d : DataW H) : 1 ≤ Rows.uptoBulk d := by
  cases d with
  | lit l => cases l <;> simp [Rows.uptoBulk]
  | _ => simp [Rows.uptoBulk]

theorem bulk_len (l : List (DataW H)) : l.length ≤ Rows.uptoBulkAll l := by
  induction l with
  | nil => simp [Rows.uptoBulkAll]
  | cons x r ih => have := bulk_pos x; simp only [Rows.uptoBulkAll, List.length_cons]; omega

theorem openUB {fuel : Nat} {v : Value} {x : DataW H × List MemPlace} (h : DataW.trod enc0 Tryd.prog w 0 (fun _ => true) true fuel 22 [v] = some x) (hw : Rows.uptoBulk x.1 ≤ 1048576) :
    ∃ b, Bs (fun k => k < w.heap.size) w v b ∧ b.length ≤ Rows.uptoBulk x.1 := by
  have hx : ∀ n ∈ x.1.weights Tryd.prog 22, n ≤ reachBytes := by
    rcases open_ints Tryd.underlying22 Tryd.underlying5 cells5 h with ⟨hv, rfl⟩ | ⟨a, len, cap, zs, hv, hb, hl, hm, hlen, rfl, hc, hz⟩
    · intro n hn; simp [DataW.weights] at hn
    · intro n hn
      have h1 := bulk_len (lits (H := H) .u8 (zs.take len))
      have h2 := bulk_len (lits (H := H) .u8 (zs.drop len))
      simp only [Rows.uptoBulk] at hw
      have hall : ∀ (l : List Int), DataW.weightsAll (H := H) Tryd.prog 5 (lits .u8 l) = [] := by
        intro l
        induction l with
        | nil => rfl
        | cons y ys ih => simp only [lits, List.map_cons, DataW.weightsAll, DataW.weights, List.nil_append] at ih ⊢; exact ih
      simp only [DataW.weights, Tryd.underlying22, bytes5, hall, List.append_nil, List.mem_cons, List.not_mem_nil, or_false] at hn
      have := reachBytes_lt
      have hr : (2097152 : Nat) ≤ reachBytes := by decide
      omega
  obtain ⟨b, hb⟩ := openB h hx
  refine ⟨b, hb, ?_⟩
  obtain ⟨_, _, a0, c0, rfl, _⟩ := hb
  rcases open_ints Tryd.underlying22 Tryd.underlying5 cells5 h with ⟨hv, rfl⟩ | ⟨a, len, cap, zs, hv, hb', hl, hm, hlen, rfl, hc, hz⟩
  · simp only [List.cons.injEq, and_true, Value.slice.injEq] at hv
    omega
  · simp only [List.cons.injEq, and_true, Value.slice.injEq] at hv
    obtain ⟨_, h1, _⟩ := hv
    have h2 := bulk_len (lits (H := H) .u8 (zs.take len))
    simp only [if_true] at hlen
    simp only [Rows.uptoBulk]
    have h3 : (lits (H := H) .u8 (zs.take len)).length = len := by
      simp only [lits, List.length_map, List.length_take]; omega
    omega

theorem bulk_mem (es : List (DataW H × List MemPlace)) (l : List T) (hl : l.length = es.length) (h : ∀ (i : Nat) (t : T), l[i]? = some t → ∀ z : DataW H × List MemPlace, es[i]? = some z → (enc t).length ≤ 9 * Rows.uptoBulk z.1) :
    (encL l).length ≤ 9 * Rows.uptoBulkAll (es.map (·.1)) := by
  induction es generalizing l with
  | nil =>
    have : l = [] := List.length_eq_zero_iff.1 hl
    subst this
    simp [encL]
  | cons z zs ih =>
    cases l with
    | nil => simp at hl
    | cons t ts =>
      have h0 := h 0 t rfl z rfl
      have h1 := ih ts (by simpa using hl) (fun i t hi z hz => h (i + 1) t (by simpa using hi) z (by simpa using hz))
      simp only [encL, List.length_append, List.map_cons, Rows.uptoBulkAll]
      omega

theorem enc_len (k n : Int) (b : List Int) (l : List T) (hn : I64 n) : (enc (.mk k n b l)).length ≤ 9 ∨ (enc (.mk k n b l)).length ≤ 3 + 2 * b.length ∨ (enc (.mk k n b l)).length = 2 + (encL l).length := by
  unfold enc
  split
  · left
    have := encInt_length n
    have := wid_le (mag n)
    omega
  · split
    · right; left
      have h := encB_length b
      have hz : zeros b ≤ b.length := List.length_filter_le _ _
      omega
    · right; right
      simp
      omega

theorem openU : ∀ (fuel : Nat) (cs : List Value) (x : DataW H × List MemPlace), DataW.trod enc0 Tryd.prog w 0 (fun _ => true) true fuel 38 cs = some x → Rows.uptoBulk x.1 ≤ 1048576 →
    ∃ t, Rd (fun k => k < w.heap.size) w t (.agg cs.toArray) ∧ (enc t).length ≤ 9 * Rows.uptoBulk x.1 := by
  intro fuel
  induction fuel using Nat.strongRecOn with
  | _ fuel ih =>
  intro cs x h hw
  obtain ⟨xs, n, rfl, rfl, hl, hlen, hf⟩ := DataW.trod_struct Tryd.underlying38 h
  rw [cells38] at hl
  match xs, hlen, cs, hl with
  | [y0, y1, y2, y3], _, [c0, c1, c2, c3], _ =>
    have g0 : DataW.trod enc0 Tryd.prog w 0 (fun _ => true) true n 3 (List.take (Tryd.prog.cellsOf 3) (List.drop 0 [c0, c1, c2, c3])) = some y0 := hf 0 _ rfl
    have g1 : DataW.trod enc0 Tryd.prog w 0 (fun _ => true) true n 3 (List.take (Tryd.prog.cellsOf 3) (List.drop 1 [c0, c1, c2, c3])) = some y1 := hf 1 _ rfl
    have g2 : DataW.trod enc0 Tryd.prog w 0 (fun _ => true) true n 22 (List.take (Tryd.prog.cellsOf 22) (List.drop 2 [c0, c1, c2, c3])) = some y2 := hf 2 _ rfl
    have g3 : DataW.trod enc0 Tryd.prog w 0 (fun _ => true) true n 36 (List.take (Tryd.prog.cellsOf 36) (List.drop 3 [c0, c1, c2, c3])) = some y3 := hf 3 _ rfl
    rw [cells3] at g0 g1
    rw [cells22] at g2
    rw [cells36] at g3
    have h0 : DataW.trod enc0 Tryd.prog w 0 (fun _ => true) true n 3 [c0] = some y0 := g0
    have h1 : DataW.trod enc0 Tryd.prog w 0 (fun _ => true) true n 3 [c1] = some y1 := g1
    have h2 : DataW.trod enc0 Tryd.prog w 0 (fun _ => true) true n 22 [c2] = some y2 := g2
    have h3 : DataW.trod enc0 Tryd.prog w 0 (fun _ => true) true n 36 [c3] = some y3 := g3
    clear g0 g1 g2 g3 hf
    obtain ⟨k, rfl, hk⟩ := openI h0
    obtain ⟨m, rfl, hm⟩ := openI h1
    simp only [List.map_cons, List.map_nil, Rows.uptoBulk, Rows.uptoBulkAll] at hw ⊢
    have p0 := bulk_pos y0.1
    have p1 := bulk_pos y1.1
    have p2 := bulk_pos y2.1
    have p3 := bulk_pos y3.1
    obtain ⟨b, hb, hbl⟩ := openUB h2 (by omega)
    rcases DataW.trod_slice Tryd.underlying36 h3 with ⟨hv, _⟩ | ⟨a, len, cap, elems, rest, n', rfl, hv, rfl, _, hlc, _, hel, he, _, _⟩
    · simp only [List.cons.injEq, and_true] at hv
      subst hv
      refine ⟨.mk k m b [], ?_, ?_⟩
      · unfold Rd
        exact ⟨c2, none, 0, rfl, hk, hm, hb, by simp, by simp, by simp⟩
      · rcases enc_len k m b [] hm with h | h | h
        · omega
        · omega
        · simp [encL] at h; omega
    · simp only [List.cons.injEq, and_true] at hv
      subst hv
      have hle := bulk_len (elems.map (·.1))
      have hr := reachBytes_lt
      simp only [List.length_map] at hle
      simp only [Rows.uptoBulk] at hw p3 ⊢
      have hbm : ∀ i (hi : i < elems.length), Rows.uptoBulk elems[i].1 ≤ Rows.uptoBulkAll (elems.map (·.1)) := by
        intro i hi
        have hmem : elems[i] ∈ elems := List.getElem_mem _
        generalize elems[i] = z at *
        clear he hle hw p3 hel
        generalize elems = es at hmem ⊢
        induction es with
        | nil => cases hmem
        | cons e es ihe =>
          simp only [List.map_cons, Rows.uptoBulkAll]
          rcases List.mem_cons.1 hmem with h | h
          · rw [h]; omega
          · have := ihe h; omega
      have hall : ∀ i, i < len → ∃ t, (∃ x0 x1 x2 x3, w.cell? (a.add (i * 4)) = some x0 ∧ w.cell? (a.add (i * 4 + 1)) = some x1 ∧ w.cell? (a.add (i * 4 + 2)) = some x2 ∧ w.cell? (a.add (i * 4 + 3)) = some x3 ∧ Rd (fun k => k < w.heap.size) w t (.agg #[x0, x1, x2, x3])) ∧
          ∀ z, elems[i]? = some z → (enc t).length ≤ 9 * Rows.uptoBulk z.1 := by
        intro i hi
        have h5 := he i hi
        rw [cells38, List.getElem?_eq_getElem (by omega)] at h5
        obtain ⟨cs', h6, h7⟩ := Option.bind_eq_some_iff.1 h5
        obtain ⟨_, h8, h9⟩ := World.cells?_some h6
        obtain ⟨t, ht, htl⟩ := ih n' (by omega) cs' _ h7 (by have := hbm i (by omega); omega)
        match cs', h8 with
        | [x0, x1, x2, x3], _ =>
          have e0 := h9 0 (by omega)
          have e1 := h9 1 (by omega)
          have e2 := h9 2 (by omega)
          have e3 := h9 3 (by omega)
          rw [Go.Deep.add_add] at e0 e1 e2 e3
          refine ⟨t, ⟨x0, x1, x2, x3, e0, e1, e2, e3, ht⟩, fun z hz => ?_⟩
          rw [List.getElem?_eq_getElem (by omega)] at hz
          cases hz
          exact htl
      obtain ⟨l, hll, hlp⟩ := choose_list _ len hall
      refine ⟨.mk k m b l, ?_, ?_⟩
      · unfold Rd
        refine ⟨c2, some a, cap, by rw [hll], hk, hm, hb, by omega, by omega, fun hp => ?_⟩
        obtain ⟨t0, ⟨x0, _, _, _, e0, _⟩, _⟩ := hall 0 (by omega)
        obtain ⟨hs, hkb⟩ := cell_spot e0
        obtain ⟨g, off, spot⟩ := a
        have hs' : spot = none := hs
        subst hs'
        refine ⟨g, off, rfl, hkb, RdL.mk fun j t hj => ?_⟩
        obtain ⟨⟨x0, x1, x2, x3, e0, e1, e2, e3, ht⟩, _⟩ := hlp j t hj
        rw [add_off] at e0 e1 e2 e3
        exact ⟨x0, x1, x2, x3, e0, e1, e2, e3, ht⟩
      · have hsum := bulk_mem elems l (by omega) (fun i t hi z hz => (hlp i t hi).2 z hz)
        rcases enc_len k m b l hm with h | h | h
        · omega
        · omega
        · omega

theorem openUV {r : Reach} {b0 : Nat} {v : Value} {d : DataW H} {p : List MemPlace} (hv : Value.okWide Tryd.prog w r b0 38 v) (h : DataW.Trod enc0 Tryd.prog w 0 (fun _ => true) true 38 v d p) (hw : Rows.uptoBulk d ≤ 1048576) :
    ∃ t, Rd (fun k => k < w.heap.size) w t v ∧ (enc t).length ≤ 9437184 := by
  obtain ⟨cs, rfl, hsz⟩ := okWide_struct Tryd.underlying38 hv
  obtain ⟨fuel, hf⟩ := h
  obtain ⟨t, ht, hl⟩ := openU fuel cs.toList _ hf hw
  exact ⟨t, ht, by simp only at hl; omega⟩

end

theorem rdForm4 {F : Nat → Prop} {w : World} {t : T} {v : Value} (h : Rd F w t v) : ∃ (a2 : Option Addr) (c2 : Nat) (a3 : Option Addr) (c3 : Nat), v = .agg #[.int .i64 t.kind, .int .i64 t.num, .slice a2 t.bs.length c2, .slice a3 t.els.length c3] := by
  obtain ⟨a2, c2, a3, c3, e, _⟩ := h.form
  exact ⟨a2, c2, a3, c3, e⟩

/-- A struct of four cells lies in block g. -/
def Box (w : World) (g : Nat) (x0 x1 x2 x3 : Value) : Prop :=
  w.cell? ⟨g, 0, none⟩ = some x0 ∧ w.cell? ⟨g, 1, none⟩ = some x1 ∧ w.cell? ⟨g, 2, none⟩ = some x2 ∧ w.cell? ⟨g, 3, none⟩ = some x3

theorem Box.below {B : Nat} {w w' : World} {g : Nat} {x0 x1 x2 x3 : Value} (h : Box w g x0 x1 x2 x3) (hg : g < B) (hb : Below B w w') : Box w' g x0 x1 x2 x3 :=
  ⟨(hb.cell (p := ⟨g, 0, none⟩) hg).trans h.1, (hb.cell (p := ⟨g, 1, none⟩) hg).trans h.2.1, (hb.cell (p := ⟨g, 2, none⟩) hg).trans h.2.2.1, (hb.cell (p := ⟨g, 3, none⟩) hg).trans h.2.2.2⟩

theorem Box.new (w : World) (x0 x1 x2 x3 : Value) : Box (w.alloc (.cells #[x0, x1, x2, x3] 38)) w.heap.size x0 x1 x2 x3 := by
  refine ⟨?_, ?_, ?_, ?_⟩ <;> simp

theorem Box.drew {w : World} {g : Nat} {x0 x1 x2 x3 : Value} (h : Box w g x0 x1 x2 x3) : Box w.drew g x0 x1 x2 x3 := h

theorem nextB {a w w' : World} (h : Below a.heap.size a w) (hb : Below w.heap.size w w') : Below a.heap.size a w' := h.trans (hb.mono h.size)

/-- Block g holds the struct of the tree t, at the slices' addresses given. -/
def Held (w : World) (g : Nat) (t : T) (a2 : Option Addr) (c2 : Nat) (a3 : Option Addr) (c3 : Nat) : Prop :=
  g < w.heap.size ∧ Box w g (.int .i64 t.kind) (.int .i64 t.num) (.slice a2 t.bs.length c2) (.slice a3 t.els.length c3) ∧ Rd (fun k => k < w.heap.size) w t (.agg #[.int .i64 t.kind, .int .i64 t.num, .slice a2 t.bs.length c2, .slice a3 t.els.length c3])

theorem Held.below {w w' : World} {g : Nat} {t : T} {a2 : Option Addr} {c2 : Nat} {a3 : Option Addr} {c3 : Nat} (h : Held w g t a2 c2 a3 c3) (hb : Below w.heap.size w w') : Held w' g t a2 c2 a3 c3 :=
  ⟨Nat.lt_of_lt_of_le h.1 hb.size, h.2.1.below h.1 hb, Rd.kept (fun k hk => hb.block k hk) (fun _ hk => Nat.lt_of_lt_of_le hk hb.size) t _ h.2.2⟩

theorem heldBox {W : World} {t : T} {a2 : Option Addr} {c2 : Nat} {a3 : Option Addr} {c3 : Nat} (h : Rd (fun k => k < W.heap.size) W t (.agg #[.int .i64 t.kind, .int .i64 t.num, .slice a2 t.bs.length c2, .slice a3 t.els.length c3])) :
    Held (W.alloc (.cells #[.int .i64 t.kind, .int .i64 t.num, .slice a2 t.bs.length c2, .slice a3 t.els.length c3] 38)) W.heap.size t a2 c2 a3 c3 :=
  ⟨by simp, Box.new W _ _ _ _, Rd.kept (fun k hk => Below.heap_alloc _ _ _ hk) (fun k hk => by simp; omega) _ _ h⟩

theorem encodeX (t : T) (w : World) (g : Nat) (a2 : Option Addr) (c2 : Nat) (a3 : Option Addr) (c3 : Nat) (h : Held w g t a2 c2 a3 c3) (hsz : (enc t).length ≤ 140737488355328) (hc : chk t = 0) :
    Calls Tryd.prog 22 #[.agg #[.int .i64 t.kind, .int .i64 t.num, .slice a2 t.bs.length c2, .slice a3 t.els.length c3]] w fun e w' => ∃ a c, e = .returned (.tuple #[.slice a (enc t).length c, .int .i64 0]) ∧ Below w.heap.size w w' ∧ Bs (fun k => k < w'.heap.size) w' (.slice a (enc t).length c) (enc t) := by
  refine (encode_any _ t w _ (fun _ h => h) h.2.2 hsz).mono ?_
  rintro e w' ⟨vb, rfl, hb, hB, _⟩
  have hB' := hB hc
  obtain ⟨a, c, rfl⟩ : ∃ a c, vb = .slice a (enc t).length c := by
    obtain ⟨_, _, a, c, h, _⟩ := hB'
    exact ⟨a, c, h⟩
  exact ⟨a, c, by rw [hc], hb, Bs.kept hB' (fun _ _ => rfl) (fun k hk => hk.2)⟩

theorem Bs.up {w w' : World} {v : Value} {b : List Int} (h : Bs (fun k => k < w.heap.size) w v b) (hb : Below w.heap.size w w') : Bs (fun k => k < w'.heap.size) w' v b :=
  Bs.kept h (fun k hk => hb.block k hk) (fun k hk => Nat.lt_of_lt_of_le hk hb.size)

theorem encodeE (t : T) (c : Int) (w : World) (g : Nat) (a2 : Option Addr) (c2 : Nat) (a3 : Option Addr) (c3 : Nat) (h : Held w g t a2 c2 a3 c3) (hsz : (enc t).length ≤ 140737488355328) (hc : chk t = c) (h0 : c ≠ 0) :
    Calls Tryd.prog 22 #[.agg #[.int .i64 t.kind, .int .i64 t.num, .slice a2 t.bs.length c2, .slice a3 t.els.length c3]] w fun e w' => e = .returned (.tuple #[.slice none 0 0, .int .i64 c]) ∧ Below w.heap.size w w' := by
  subst hc
  refine (encode_any _ t w _ (fun _ h => h) h.2.2 hsz).mono ?_
  rintro e w' ⟨vb, rfl, hb, _, hn⟩
  obtain rfl := hn h0
  exact ⟨rfl, hb⟩


/-- The wrap of a law whose arguments are of bounded bulk and whose variables are laid. -/
theorem returnsUpto {H : Type} {enc : TypeId × Value → H} {C : Checked} {os : Os} {f : FuncId} {fn : Func} {s : OpenSpec} {k : (H : Type) → List (DataW H) → Bool} (hk : s.cond = some k) {F : Stop.Interp} {laid : List (String × DataW Unit)}
    (own : ownKnob C.prog.godebug = none) (started : os.Started) (noInit : C.prog.inits.idxOf? f = none) (hfn : C.prog.funcs[f]? = some fn)
    (w0 : World) (args : Array Value) (fuel : Nat) (hos : w0.os = os)
    (hsh : (w0.forCall (fun _ _ => 0) ⟨#[], args, []⟩).Shaped C.prog)
    (hok : Input.okWideB C.prog (w0.forCall (fun _ _ => 0) ⟨#[], args, []⟩) f ⟨#[], args, []⟩ = true)
    {x : List (DataW H) × List (DataW H) × List MemPlace} (hx : DataW.whole enc C.prog (w0.forCall (fun _ _ => 0) ⟨#[], args, []⟩).memory fn.params.toList s.vars false args.toList fuel = some x)
    (hkk : k H (x.1 ++ x.2.1) = true)
    (hsz : s.bare.sizedB enc C.prog fn false (w0.forCall (fun _ _ => 0) ⟨#[], args, []⟩).memory args fuel = true)
    (hl : laidMetH C.prog laid (w0.forCall (fun _ _ => 0) ⟨#[], args, []⟩).memory)
    (contract : ∀ (W : World) (base : Nat) (args : Array Value) (ds gs : List (DataW H)) (before : List MemPlace),
      (∀ (j : Nat) t v, fn.params[j]? = some t → args[j]? = some v → Value.okWide C.prog W .any base t v) →
      DataW.Whole enc C.prog fn.params.toList s.vars false W args.toList ds gs before → k H (ds ++ gs) = true → laidMetH C.prog laid W →
      Calls C.prog f args W fun e W' => ∃ v, e = .returned v ∧ (s.at F).post enc C.prog fn false true false false W args v W') :
    ReturnsInHanded {} C os f .any (fun w args => (s.pre enc C.prog fn [] false w args ∧ laidMetH C.prog laid w) ∧ sizedMet enc C.prog fn s false w args) ((s.at F).post enc C.prog fn false true false false) := by
  refine returnsInHanded_of_calls own started noInit ⟨w0, fun _ _ => 0, ⟨#[], args, []⟩, hos, hsh, (Input.okWide_of_okWideB (base := 0) hok).1, (Input.okWide_of_okWideB hok).2,
    ⟨⟨(OpenSpec.pre_some hk [] false _ _).2 ⟨x.1, x.2.1, x.2.2, DataW.Whole_of_whole hx, rfl, hkk⟩, hl⟩, sizedMet_of_sizedB hsz⟩, by
    simp only [Assume.holds]
    exact ⟨by simp, by simp, fun _ => Modest.zero, by simp, by simp⟩⟩ ?_
  intro w tape i _ _ _ hok hpre hholds
  obtain ⟨_, _, _, fn', hfn', _, _, _, _, hval⟩ := hok
  have e : fn' = fn := Option.some.inj (hfn'.symm.trans hfn)
  subst e
  obtain ⟨ds, gs, before, hw, _, hkk⟩ := (OpenSpec.pre_some hk [] false _ _).1 hpre.1.1
  have hw' := DataW.Whole.of_heap (w' := w.forCall tape i) (by rfl) hw
  refine (contract (w.forCall tape i) w.heap.size i.args ds gs before hval hw' hkk (hpre.1.2.of_heap (by rfl))).mono fun e W' ⟨v, he, hp⟩ => ?_
  subst he
  exact ChangeSpec.post_blind hp

end Go.Proofs.YtecgcnfjpaemcaaDoor
