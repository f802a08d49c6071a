/-
  The frame of the laws: arguments opened, the laid table, the post.
-/
import Derived.Test.YtdmlnjgbfkkjdaaDoorSn
import Derived.Test.YtdmlnjgbfkkjdaaDoorRows
import Derived.Test.YtdmlnjgbfkkjdaaDoorCards
import Derived.Test.YtdmlnjgbfkkjdaaDoorTie
import Derived.WalkKit
import Derived.ProofKit
import Derived.OpenShut
import Derived.LaidMore
import Derived.Stop.Joined
import Derived.SevenTiedAt
import Derived.Deep.Slices
import Derived.Lib.SmallJoins
import Derived.ChangeSlices
import Derived.SizedLaws
import Derived.JoinedCond
import Derived.ChangeMaps5
import Derived.Deep.Strs
namespace Go.Proofs.YtdmlnjgbfkkjdaaDoor
open Go.Joins Go.ChangeShapes Go.WideShapes Go.ChangeAt Go.RowKit Go.Deep
set_option linter.unusedVariables false
set_option linter.unusedSimpArgs false

theorem cells5 : Tryd.prog.cellsOf 5 = 1 := by kernel_rfl
theorem bytes5 : Tryd.prog.bytesOf 5 = 1 := by kernel_rfl
theorem cells42 : Tryd.prog.cellsOf 42 = 4 := by kernel_rfl
theorem cells48 : Tryd.prog.cellsOf 48 = 16 := by kernel_rfl
theorem cells27 : Tryd.prog.cellsOf 27 = 1 := by kernel_rfl
theorem cells22 : Tryd.prog.cellsOf 22 = 1 := by kernel_rfl
theorem cells4 : Tryd.prog.cellsOf 4 = 1 := by kernel_rfl
theorem cells31 : Tryd.prog.cellsOf 31 = 4 := by kernel_rfl
theorem bytes22 : Tryd.prog.bytesOf 22 = 24 := by kernel_rfl

/-- What reads as data in old memory reads so still. -/
theorem trodAll_below {H : Type} {enc : TypeId × Value → H} {P : Program} (hl : laidOutB P = true) {W W' : World} (hb : Below W.heap.size W W') :
    ∀ (ts : List TypeId) (vs : List Value) (ds : List (DataW H)) (ps : List MemPlace), (∀ t ∈ ts, P.readableRec t = true ∧ t < P.types.size) → DataW.TrodAll enc P W 0 (fun _ => true) true ts vs ds ps → (∀ x ∈ ps, x.block < W.heap.size) →
      DataW.TrodAll enc P W' 0 (fun b => decide (b < W.heap.size)) true ts vs ds ps
  | [], vs, ds, ps, _, h, _ => by
    obtain ⟨rfl, rfl, rfl⟩ := trodAll_nil h
    exact trodAll_mk0
  | t :: ts, vs, ds, ps, ht, h, hp => by
    obtain ⟨v, vs1, d, ds1, a, b, rfl, rfl, rfl, h1, h2⟩ := trodAll_cons h
    exact trodAll_cons_mk (Below.trod hl (ht t (by simp)).1 (ht t (by simp)).2 h1 hb (fun x hx => hp x (by simp [hx]))) (trodAll_below hl hb ts vs1 ds1 b (fun t h => ht t (by simp [h])) h2 (fun x hx => hp x (by simp [hx])))

/-- A law's post: it returned true, and what was there is as it was. -/
theorem post_law {H : Type} {enc : TypeId × Value → H} {f : Func} {s : ChangeSpec} {W W' : World} {args : Array Value} {ds gs : List (DataW H)} {before : List MemPlace}
    (hl : laidOutB Tryd.prog = true) (hpar : ∀ t ∈ f.params.toList, Tryd.prog.readableRec t = true ∧ t < Tryd.prog.types.size) (hsv : s.vars = []) (hr : f.resultTypes = #[4])
    (hW : DataW.Whole enc Tryd.prog f.params.toList s.vars false W args.toList ds gs before)
    (hres : (s.fn H (ds ++ gs)).results = [.lit (.bool true)]) (hargs : (s.fn H (ds ++ gs)).args = ds) (hvs : (s.fn H (ds ++ gs)).vars = []) (hb : Below W.heap.size W W') :
    s.post enc Tryd.prog f false true false false W args (.bool true) W' := by
  have hW' := hW
  obtain ⟨p, q, hA, hV, rfl, _, _⟩ := hW
  rw [hsv] at hV
  obtain ⟨rfl, rfl⟩ := trodVars_none hV
  simp only [List.append_nil] at *
  have hlt : ∀ x ∈ p, x.block < W.heap.size := fun x hx => by simpa using hW'.lt x hx
  refine ⟨_, _, _, [], p, [], hW', ?_, ?_, ?_, hb.frame _, fun h => by cases h⟩
  · rw [List.append_nil, hres, hr]
    exact trodAll_cons_mk (shut_bool Tryd.underlying4 _) trodAll_mk0
  · rw [List.append_nil, hargs]
    exact trodAll_below hl hb _ _ _ _ hpar hA hlt
  · rw [List.append_nil, hsv, hvs]
    rfl

section
variable {H : Type} {enc : TypeId × Value → H} {w : World}
theorem cell_spot {a : Addr} {v : Value} (h : w.cell? a = some v) : a.spot = none ∧ a.block < w.heap.size := by
  unfold World.cell? at h
  have hl : a.block < w.heap.size := by
    rcases Nat.lt_or_ge a.block w.heap.size with h' | h'
    · exact h'
    · rw [Array.getElem?_eq_none h'] at h; simp at h
  refine ⟨?_, hl⟩
  split at h
  · split at h
    · cases h
    · rename_i hs
      cases hx : a.spot with
      | none => rfl
      | some x => rw [hx] at hs; simp at hs
  · cases h

theorem openB {fuel : Nat} {v : Value} {x : DataW H × List MemPlace} (h : DataW.trod enc Tryd.prog w 0 (fun _ => true) true fuel 22 [v] = some x) (hw : ∀ n ∈ x.1.weights Tryd.prog 22, n ≤ reachBytes) :
    ∃ b, Bs (fun k => k < w.heap.size) w v b := by
  rcases open_ints Tryd.underlying22 Tryd.underlying5 cells5 h with ⟨hv, rfl⟩ | ⟨a, len, cap, zs, hv, hb, hl, hm, hlen, rfl, hc, hz⟩
  · simp only [List.cons.injEq, and_true] at hv
    subst hv
    exact ⟨[], bs_nil _ _⟩
  · simp only [List.cons.injEq, and_true] at hv
    subst hv
    simp only [if_true] at hlen
    have hwt := hw ((zs.take len).length + (zs.drop len).length) (by
      simp [DataW.weights, Tryd.underlying22, bytes5, lits])
    have hr := reachBytes_lt
    have hlt : (zs.take len).length = len := by rw [List.length_take]; omega
    refine ⟨zs.take len, by omega, fun u hu => ?_, some a, cap, by rw [hlt], by omega, fun hp => ?_⟩
    · have h1 := hz u (List.mem_of_mem_take hu)
      have h2 : IntKind.u8.min = 0 := rfl
      have h3 : IntKind.u8.max = 255 := rfl
      simp only [Lit.wf, Bool.and_eq_true, decide_eq_true_eq] at h1
      omega
    · have h0 := hc 0 (by omega)
      obtain ⟨hs, hk⟩ := cell_spot h0
      obtain ⟨g, off, spot⟩ := a
      have hs' : spot = none := hs
      subst hs'
      refine ⟨g, off, rfl, hk, fun j u hj => ?_⟩
      have hjl : j < (zs.take len).length := (List.getElem?_eq_some_iff.1 hj).1
      have h1 := hc j (by omega)
      rw [List.getElem?_take_of_lt (by omega)] at hj
      rw [List.getD_eq_getElem?_getD, hj] at h1
      simp only [Option.getD_some] at h1
      rw [add_off] at h1
      exact h1
theorem openA0 {fuel : Nat} {cs : List Value} {x : DataW H × List MemPlace} (h : DataW.trod enc Tryd.prog w 0 (fun _ => true) true fuel 42 cs = some x) : ∃ D, cs = byteVals D ∧ D.length = 4 ∧ ∀ u ∈ D, 0 ≤ u ∧ u ≤ 255 := by
  obtain ⟨xs, m, rfl, rfl, hl, hlen, hf⟩ := DataW.trod_array Tryd.underlying42 h
  rw [cells42] at hl
  have hall : ∀ i, i < 4 → ∃ k : Int, cs[i]? = some (.int .u8 k) ∧ 0 ≤ k ∧ k ≤ 255 := by
    intro i hi
    have h1 := hf i hi
    rw [cells5, Nat.mul_one, List.getElem?_eq_getElem (by omega)] at h1
    have h2 : (cs.drop i).take 1 = [cs[i]] := by
      rw [List.drop_eq_getElem_cons (by omega)]; rfl
    rw [h2] at h1
    obtain ⟨k, hv, _, hw⟩ := DataW.trod_int Tryd.underlying5 h1
    simp only [List.cons.injEq, and_true] at hv
    have e2 : IntKind.u8.min = 0 := rfl
    have e3 : IntKind.u8.max = 255 := rfl
    simp only [Lit.wf, Bool.and_eq_true, decide_eq_true_eq] at hw
    exact ⟨k, by rw [List.getElem?_eq_getElem (by omega), hv], by omega, by omega⟩
  refine ⟨cs.map fun v => (match v with | .int _ n => n | _ => 0), ?_, by simp [hl], ?_⟩
  · apply List.ext_getElem?
    intro i
    unfold byteVals
    rw [List.map_map, List.getElem?_map]
    by_cases hi : i < 4
    · obtain ⟨k, hk, _⟩ := hall i hi
      rw [hk]; rfl
    · rw [List.getElem?_eq_none (by omega)]; rfl
  · intro u hu
    obtain ⟨v, hv, rfl⟩ := List.mem_map.1 hu
    obtain ⟨i, hi, rfl⟩ := List.mem_iff_getElem.1 hv
    obtain ⟨k, hk, h0, h1⟩ := hall i (by omega)
    rw [List.getElem?_eq_getElem hi] at hk
    rw [Option.some.inj hk]
    exact ⟨h0, h1⟩

theorem openA {r : Reach} {b0 : Nat} {v : Value} {d : DataW H} {p : List MemPlace} (hv : Value.okWide Tryd.prog w r b0 42 v) (h : DataW.Trod enc Tryd.prog w 0 (fun _ => true) true 42 v d p) :
    ∃ D, v = .agg (byteVals D).toArray ∧ D.length = 4 ∧ ∀ u ∈ D, 0 ≤ u ∧ u ≤ 255 := by
  simp only [Value.okWide, Tryd.underlying42] at hv
  obtain ⟨cs, rfl, _, _⟩ := hv
  obtain ⟨fuel, hf⟩ := h
  obtain ⟨D, h1, h2, h3⟩ := openA0 hf
  refine ⟨D, ?_, h2, h3⟩
  rw [← h1]
  rfl
end

theorem gK : Tryd.prog.globalNamed "wagonpool/frame.remainders" = some 0 := by kernel_rfl
theorem tK : (Tryd.prog.globals[0]?).map (·.type) = some 48 := by kernel_rfl
theorem laidOut : laidOutB Tryd.prog = true := by kernel_rfl
theorem own : ownKnob Tryd.prog.godebug = none := by kernel_rfl
def kk : List Int := tab.map fun x : Nat => (x : Int)
theorem laidK {H : Type} : (Rows.laid_wagonpool_frame_remainders : DataW H) = .agg (kk.map fun x => .lit (.int .u32 x)) := rfl
/-- The laid constants are there. -/
theorem kok_of_laid {W : World} (h : laidMetH Tryd.prog [("wagonpool/frame.remainders", Rows.laid_wagonpool_frame_remainders)] W) : KOk W := by
  rw [MakeChecks.laidMetH_plain _ _ _ (by kernel_rfl)] at h
  obtain ⟨ps, ⟨g0, t0, cs0, f0, p0, q0, hg0, ht0, hv0, hd0, _⟩, _, _⟩ := h
  obtain rfl := Option.some.inj (gK.symm.trans hg0)
  obtain rfl := Option.some.inj (tK.symm.trans ht0)
  obtain ⟨xs, m1, rfl, hx1, hlen, hn3, hel⟩ := DataW.trod_array Tryd.underlying48 hd0
  rw [cells48] at hlen
  simp only [Prod.mk.injEq] at hx1
  have hxs := hx1.1
  rw [laidK] at hxs
  simp only [DataW.agg.injEq] at hxs
  have key : ∀ i x, kk[i]? = some x → W.cell? ⟨0, i, none⟩ = some (.int .u32 x) := by
    intro i x hi
    have hil : i < 16 := by
      have := (List.getElem?_eq_some_iff.1 hi).1
      exact this
    have h0 := hel i hil
    rw [cells27, Nat.mul_one, List.getElem?_eq_getElem (by omega)] at h0
    have h2 : (cs0.toList.drop i).take 1 = [cs0.toList[i]] := by
      rw [List.drop_eq_getElem_cons (by omega)]; rfl
    rw [h2] at h0
    obtain ⟨k, e1, e2, _⟩ := DataW.trod_int Tryd.underlying27 h0
    simp only [List.cons.injEq, and_true] at e1
    have h3 := congrArg (fun l => l[i]?) hxs
    simp only [List.getElem?_map, hi, Option.map_some] at h3
    rw [List.getElem?_eq_getElem (by omega : i < xs.length)] at h3
    simp only [Option.map_some, Option.some.injEq] at h3
    rw [e2] at h3
    simp at h3
    have := World.var?_cell hg0 hv0 i
    rw [this, ← Array.getElem?_toList, List.getElem?_eq_getElem (by omega), e1, h3]
  refine ⟨?_, fun i x hx => key i _ (by unfold kk; rw [List.getElem?_map, hx]; rfl)⟩
  have h1 := key 0 0 rfl
  exact (cell_spot h1).2

section
variable {H : Type} {enc0 : TypeId × Value → H} {w : World}
theorem choose_list {α : Type} (P : Nat → α → Prop) : ∀ n : Nat, (∀ i, i < n → ∃ a, P i a) → ∃ l : List α, l.length = n ∧ ∀ i a, l[i]? = some a → P i a
  | 0, _ => ⟨[], rfl, by simp⟩
  | n + 1, h => by
    obtain ⟨l, hl, hp⟩ := choose_list P n (fun i hi => h i (by omega))
    obtain ⟨a, ha⟩ := h n (by omega)
    refine ⟨l ++ [a], by simp [hl], fun i b hb => ?_⟩
    by_cases hi : i < n
    · rw [List.getElem?_append_left (by omega)] at hb
      exact hp i b hb
    · rw [List.getElem?_append_right (by omega)] at hb
      have hi' : i = n := by
        have := (List.getElem?_eq_some_iff.1 hb).1
        simp at this
        omega
      subst hi'
      simp [hl] at hb
      subst hb
      exact ha

theorem bulk_pos (d : DataW H) : 1 ≤ Rows.uptoBulk d := by
  cases d with
  | lit l => cases l <;> simp [Rows.uptoBulk]
  | _ => simp [Rows.uptoBulk]

theorem bulk_len (l : List (DataW H)) : l.length ≤ Rows.uptoBulkAll l := by
  induction l with
  | nil => simp [Rows.uptoBulkAll]
  | cons x r ih => have := bulk_pos x; simp only [Rows.uptoBulkAll, List.length_cons]; omega

theorem openUB {fuel : Nat} {v : Value} {x : DataW H × List MemPlace} (h : DataW.trod enc0 Tryd.prog w 0 (fun _ => true) true fuel 22 [v] = some x) (hw : Rows.uptoBulk x.1 ≤ 1048576) :
    ∃ b, Bs (fun k => k < w.heap.size) w v b ∧ b.length ≤ Rows.uptoBulk x.1 := by
  have hx : ∀ n ∈ x.1.weights Tryd.prog 22, n ≤ reachBytes := by
    rcases open_ints Tryd.underlying22 Tryd.underlying5 cells5 h with ⟨hv, rfl⟩ | ⟨a, len, cap, zs, hv, hb, hl, hm, hlen, rfl, hc, hz⟩
    · intro n hn; simp [DataW.weights] at hn
    · intro n hn
      have h1 := bulk_len (lits (H := H) .u8 (zs.take len))
      have h2 := bulk_len (lits (H := H) .u8 (zs.drop len))
      simp only [Rows.uptoBulk] at hw
      have hall : ∀ (l : List Int), DataW.weightsAll (H := H) Tryd.prog 5 (lits .u8 l) = [] := by
        intro l
        induction l with
        | nil => rfl
        | cons y ys ih => simp only [lits, List.map_cons, DataW.weightsAll, DataW.weights, List.nil_append] at ih ⊢; exact ih
      simp only [DataW.weights, Tryd.underlying22, bytes5, hall, List.append_nil, List.mem_cons, List.not_mem_nil, or_false] at hn
      have := reachBytes_lt
      have hr : (2097152 : Nat) ≤ reachBytes := by decide
      omega
  obtain ⟨b, hb⟩ := openB h hx
  refine ⟨b, hb, ?_⟩
  obtain ⟨_, _, a0, c0, rfl, _⟩ := hb
  rcases open_ints Tryd.underlying22 Tryd.underlying5 cells5 h with ⟨hv, rfl⟩ | ⟨a, len, cap, zs, hv, hb', hl, hm, hlen, rfl, hc, hz⟩
  · simp only [List.cons.injEq, and_true, Value.slice.injEq] at hv
    omega
  · simp only [List.cons.injEq, and_true, Value.slice.injEq] at hv
    obtain ⟨_, h1, _⟩ := hv
    have h2 := bulk_len (lits (H := H) .u8 (zs.take len))
    simp only [if_true] at hlen
    simp only [Rows.uptoBulk]
    have h3 : (lits (H := H) .u8 (zs.take len)).length = len := by
      simp only [lits, List.length_map, List.length_take]; omega
    omega

theorem openI {r : Reach} {b0 : Nat} {v : Value} {d : DataW H} {p : List MemPlace} (hv : Value.okWide Tryd.prog w r b0 3 v) (h : DataW.Trod enc0 Tryd.prog w 0 (fun _ => true) true 3 v d p) : ∃ n, v = .int .i64 n ∧ I64 n := by
  obtain ⟨n, rfl, _, _, hw⟩ := open_int Tryd.underlying3 hv h
  have h1 : IntKind.i64.min = -9223372036854775808 := rfl
  have h2 : IntKind.i64.max = 9223372036854775807 := rfl
  simp only [Lit.wf, Bool.and_eq_true, decide_eq_true_eq] at hw
  exact ⟨n, rfl, by unfold I64; omega⟩
theorem bulk_memL (es : List (DataW H × List MemPlace)) (l : List (List Int)) (hl : l.length = es.length) (h : ∀ (i : Nat) (t : List Int), l[i]? = some t → ∀ z : DataW H × List MemPlace, es[i]? = some z → t.length ≤ Rows.uptoBulk z.1) :
    l.flatten.length ≤ Rows.uptoBulkAll (es.map (·.1)) := by
  induction es generalizing l with
  | nil =>
    have : l = [] := List.length_eq_zero_iff.1 hl
    subst this
    simp
  | cons z zs ih =>
    cases l with
    | nil => simp at hl
    | cons t ts =>
      have h0 := h 0 t rfl z rfl
      have h1 := ih ts (by simpa using hl) (fun i t hi z hz => h (i + 1) t (by simpa using hi) z (by simpa using hz))
      simp only [List.flatten_cons, List.length_append, List.map_cons, Rows.uptoBulkAll]
      omega
theorem bulk_at (es : List (DataW H × List MemPlace)) (i : Nat) (hi : i < es.length) : Rows.uptoBulk es[i].1 ≤ Rows.uptoBulkAll (es.map (·.1)) := by
  have hmem : es[i] ∈ es := List.getElem_mem _
  generalize es[i] = z at *
  clear hi
  induction es with
  | nil => cases hmem
  | cons e es ihe =>
    simp only [List.map_cons, Rows.uptoBulkAll]
    rcases List.mem_cons.1 hmem with h | h
    · rw [h]; omega
    · have := ihe h; omega
theorem openUL {fuel : Nat} {v : Value} {x : DataW H × List MemPlace} (h : DataW.trod enc0 Tryd.prog w 0 (fun _ => true) true fuel 32 [v] = some x) (hw : Rows.uptoBulk x.1 ≤ 1048576) :
    ∃ b, Ls (fun k => k < w.heap.size) w v b ∧ b.length ≤ Rows.uptoBulk x.1 ∧ b.flatten.length ≤ Rows.uptoBulk x.1 := by
  rcases DataW.trod_slice Tryd.underlying32 h with ⟨hv, _⟩ | ⟨a, len, cap, elems, rest, n', rfl, hv, rfl, _, hlc, _, hel, he, _, _⟩
  · simp only [List.cons.injEq, and_true] at hv
    subst hv
    exact ⟨[], Ls.nil _ _ _ _, by simp, by simp⟩
  · simp only [List.cons.injEq, and_true] at hv
    subst hv
    have hle := bulk_len (elems.map (·.1))
    simp only [List.length_map] at hle
    simp only [Rows.uptoBulk] at hw ⊢
    have hall : ∀ i, i < len → ∃ t : List Int, (∃ u, w.cell? (a.add i) = some u ∧ Bs (fun k => k < w.heap.size) w u t) ∧ ∀ z, elems[i]? = some z → t.length ≤ Rows.uptoBulk z.1 := by
      intro i hi
      have h5 := he i hi
      have hie : i < elems.length := by omega
      rw [cells22, List.getElem?_eq_getElem hie] at h5
      obtain ⟨cs', h6, h7⟩ := Option.bind_eq_some_iff.1 h5
      obtain ⟨_, h8, h9⟩ := World.cells?_some h6
      match cs', h8 with
      | [u], _ =>
        have hb := bulk_at elems i hie
        obtain ⟨t, ht, htl⟩ := openUB h7 (by omega)
        have e0 := h9 0 (by omega)
        rw [Go.Deep.add_add] at e0
        simp only [Nat.mul_one, Nat.add_zero] at e0
        refine ⟨t, ⟨u, e0, ht⟩, fun z hz => ?_⟩
        rw [List.getElem?_eq_getElem hie] at hz
        cases hz
        exact htl
    obtain ⟨l, hll, hlp⟩ := choose_list _ len hall
    have hsum := bulk_memL elems l (by omega) (fun i t hi z hz => (hlp i t hi).2 z hz)
    refine ⟨l, ⟨by omega, some a, cap, by rw [hll], by omega, fun hp => ?_⟩, by omega, by omega⟩
    obtain ⟨t0, ⟨u0, e0, _⟩, _⟩ := hall 0 (by omega)
    obtain ⟨hs, hkb⟩ := cell_spot e0
    obtain ⟨g, off, spot⟩ := a
    have hs' : spot = none := hs
    subst hs'
    refine ⟨g, off, rfl, hkb, fun j t hj => ?_⟩
    obtain ⟨⟨u, e, ht⟩, _⟩ := hlp j t hj
    rw [add_off] at e
    exact ⟨u, e, ht⟩
theorem openBool {fuel : Nat} {c : Value} {x : DataW H × List MemPlace} (h : DataW.trod enc0 Tryd.prog w 0 (fun _ => true) true fuel 4 [c] = some x) : ∃ b, c = .bool b := by
  obtain ⟨b, hv, _⟩ := DataW.trod_bool Tryd.underlying4 h
  simp only [List.cons.injEq, and_true] at hv
  exact ⟨b, hv⟩
theorem openUD {r : Reach} {b0 : Nat} {v : Value} {d : DataW H} {p : List MemPlace} (hv : Value.okWide Tryd.prog w r b0 31 v) (h : DataW.Trod enc0 Tryd.prog w 0 (fun _ => true) true 31 v d p) (hw : Rows.uptoBulk d ≤ 1048576) :
    ∃ s, SV (fun k => k < w.heap.size) w v s ∧ s.rest.length ≤ Rows.uptoBulk d := by
  obtain ⟨cs, rfl, hsz⟩ := okWide_struct Tryd.underlying31 hv
  obtain ⟨fuel, hf⟩ := h
  obtain ⟨xs, n, rfl, hx, hl, hlen, hfs⟩ := DataW.trod_struct Tryd.underlying31 hf
  obtain ⟨cs⟩ := cs
  change cs.length = _ at hl
  simp only [Prod.mk.injEq] at hx
  obtain ⟨rfl, _⟩ := hx
  rw [cells31] at hl
  match xs, hlen, cs, hl with
  | [y0, y1, y2, y3], _, [c0, c1, c2, c3], _ =>
    have g0 : DataW.trod enc0 Tryd.prog w 0 (fun _ => true) true n 22 (List.take (Tryd.prog.cellsOf 22) (List.drop 0 [c0, c1, c2, c3])) = some y0 := hfs 0 _ rfl
    have g1 : DataW.trod enc0 Tryd.prog w 0 (fun _ => true) true n 4 (List.take (Tryd.prog.cellsOf 4) (List.drop 1 [c0, c1, c2, c3])) = some y1 := hfs 1 _ rfl
    have g2 : DataW.trod enc0 Tryd.prog w 0 (fun _ => true) true n 4 (List.take (Tryd.prog.cellsOf 4) (List.drop 2 [c0, c1, c2, c3])) = some y2 := hfs 2 _ rfl
    have g3 : DataW.trod enc0 Tryd.prog w 0 (fun _ => true) true n 4 (List.take (Tryd.prog.cellsOf 4) (List.drop 3 [c0, c1, c2, c3])) = some y3 := hfs 3 _ rfl
    rw [cells22] at g0
    rw [cells4] at g1 g2 g3
    have h0 : DataW.trod enc0 Tryd.prog w 0 (fun _ => true) true n 22 [c0] = some y0 := g0
    have h1 : DataW.trod enc0 Tryd.prog w 0 (fun _ => true) true n 4 [c1] = some y1 := g1
    have h2 : DataW.trod enc0 Tryd.prog w 0 (fun _ => true) true n 4 [c2] = some y2 := g2
    have h3 : DataW.trod enc0 Tryd.prog w 0 (fun _ => true) true n 4 [c3] = some y3 := g3
    obtain ⟨b1, rfl⟩ := openBool h1
    obtain ⟨b2, rfl⟩ := openBool h2
    obtain ⟨b3, rfl⟩ := openBool h3
    simp only [List.map_cons, List.map_nil, Rows.uptoBulk, Rows.uptoBulkAll] at hw ⊢
    obtain ⟨b, hb, hbl⟩ := openUB h0 (by omega)
    obtain ⟨a, c, rfl⟩ := hb.shape
    exact ⟨⟨b, b1, b2, b3⟩, ⟨a, c, rfl, hb⟩, by simp only; omega⟩
end

/-- The wrap of a law whose arguments are of bounded bulk and whose variables are laid. -/
theorem returnsUpto {H : Type} {enc : TypeId × Value → H} {C : Checked} {os : Os} {f : FuncId} {fn : Func} {s : OpenSpec} {k : (H : Type) → List (DataW H) → Bool} (hk : s.cond = some k) {F : Stop.Interp} {laid : List (String × DataW Unit)}
    (own : ownKnob C.prog.godebug = none) (started : os.Started) (noInit : C.prog.inits.idxOf? f = none) (hfn : C.prog.funcs[f]? = some fn)
    (w0 : World) (args : Array Value) (fuel : Nat) (hos : w0.os = os)
    (hsh : (w0.forCall (fun _ _ => 0) ⟨#[], args, []⟩).Shaped C.prog)
    (hok : Input.okWideB C.prog (w0.forCall (fun _ _ => 0) ⟨#[], args, []⟩) f ⟨#[], args, []⟩ = true)
    {x : List (DataW H) × List (DataW H) × List MemPlace} (hx : DataW.whole enc C.prog (w0.forCall (fun _ _ => 0) ⟨#[], args, []⟩).memory fn.params.toList s.vars false args.toList fuel = some x)
    (hkk : k H (x.1 ++ x.2.1) = true)
    (hsz : s.bare.sizedB enc C.prog fn false (w0.forCall (fun _ _ => 0) ⟨#[], args, []⟩).memory args fuel = true)
    (hl : laidMetH C.prog laid (w0.forCall (fun _ _ => 0) ⟨#[], args, []⟩).memory)
    (contract : ∀ (W : World) (base : Nat) (args : Array Value) (ds gs : List (DataW H)) (before : List MemPlace),
      (∀ (j : Nat) t v, fn.params[j]? = some t → args[j]? = some v → Value.okWide C.prog W .any base t v) →
      DataW.Whole enc C.prog fn.params.toList s.vars false W args.toList ds gs before → k H (ds ++ gs) = true → laidMetH C.prog laid W →
      Calls C.prog f args W fun e W' => ∃ v, e = .returned v ∧ (s.at F).post enc C.prog fn false true false false W args v W') :
    ReturnsInHanded {} C os f .any (fun w args => (s.pre enc C.prog fn [] false w args ∧ laidMetH C.prog laid w) ∧ sizedMet enc C.prog fn s false w args) ((s.at F).post enc C.prog fn false true false false) := by
  refine returnsInHanded_of_calls own started noInit ⟨w0, fun _ _ => 0, ⟨#[], args, []⟩, hos, hsh, (Input.okWide_of_okWideB (base := 0) hok).1, (Input.okWide_of_okWideB hok).2,
    ⟨⟨(OpenSpec.pre_some hk [] false _ _).2 ⟨x.1, x.2.1, x.2.2, DataW.Whole_of_whole hx, rfl, hkk⟩, hl⟩, sizedMet_of_sizedB hsz⟩, by
    simp only [Assume.holds]
    exact ⟨by simp, by simp, fun _ => Modest.zero, by simp, by simp⟩⟩ ?_
  intro w tape i _ _ _ hok hpre hholds
  obtain ⟨_, _, _, fn', hfn', _, _, _, _, hval⟩ := hok
  have e : fn' = fn := Option.some.inj (hfn'.symm.trans hfn)
  subst e
  obtain ⟨ds, gs, before, hw, _, hkk⟩ := (OpenSpec.pre_some hk [] false _ _).1 hpre.1.1
  have hw' := DataW.Whole.of_heap (w' := w.forCall tape i) (by rfl) hw
  refine (contract (w.forCall tape i) w.heap.size i.args ds gs before hval hw' hkk (hpre.1.2.of_heap (by rfl))).mono fun e W' ⟨v, he, hp⟩ => ?_
  subst he
  exact ChangeSpec.post_blind hp
end Go.Proofs.YtdmlnjgbfkkjdaaDoor
