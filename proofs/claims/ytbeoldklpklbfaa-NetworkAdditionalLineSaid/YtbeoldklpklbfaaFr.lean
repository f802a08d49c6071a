/-
  The frame of the laws: arguments opened, the post.
-/
import Derived.Test.YtbeoldklpklbfaaSb
import Derived.Test.YtbeoldklpklbfaaRows
import Derived.WalkKit
import Derived.ProofKit
import Derived.OpenShut
import Derived.Deep.Slices
import Derived.Lib.SmallJoins
import Derived.ChangeSlices
import Derived.SizedLaws
namespace Go.Proofs.Ytbeoldklpklbfaa
open Go.Joins Go.ChangeShapes Go.WideShapes Go.ChangeAt Go.RowKit Go.Deep
set_option linter.unusedVariables false
set_option linter.unusedSimpArgs false

theorem own : ownKnob Try.prog.godebug = none := by kernel_rfl
theorem cells55 : Try.prog.cellsOf 55 = 3 := by kernel_rfl
theorem cells45 : Try.prog.cellsOf 45 = 5 := by kernel_rfl
theorem cells25 : Try.prog.cellsOf 25 = 2 := by kernel_rfl
theorem cells22 : Try.prog.cellsOf 22 = 1 := by kernel_rfl
theorem cells23 : Try.prog.cellsOf 23 = 1 := by kernel_rfl
theorem bytes55 : Try.prog.bytesOf 55 = 24 := by kernel_rfl
theorem bytes45 : Try.prog.bytesOf 45 = 40 := by kernel_rfl
theorem bytes3 : Try.prog.bytesOf 3 = 8 := by kernel_rfl

/-- What reads as data in old memory reads so still. -/
theorem trodAll_below {H : Type} {enc : TypeId × Value → H} {P : Program} (hl : laidOutB P = true) {W W' : World} (hb : Below W.heap.size W W') :
    ∀ (ts : List TypeId) (vs : List Value) (ds : List (DataW H)) (ps : List MemPlace), (∀ t ∈ ts, P.readableRec t = true ∧ t < P.types.size) → DataW.TrodAll enc P W 0 (fun _ => true) true ts vs ds ps → (∀ x ∈ ps, x.block < W.heap.size) →
      DataW.TrodAll enc P W' 0 (fun b => decide (b < W.heap.size)) true ts vs ds ps
  | [], vs, ds, ps, _, h, _ => by
    obtain ⟨rfl, rfl, rfl⟩ := trodAll_nil h
    exact trodAll_mk0
  | t :: ts, vs, ds, ps, ht, h, hp => by
    obtain ⟨v, vs1, d, ds1, a, b, rfl, rfl, rfl, h1, h2⟩ := trodAll_cons h
    exact trodAll_cons_mk (Below.trod hl (ht t (by simp)).1 (ht t (by simp)).2 h1 hb (fun x hx => hp x (by simp [hx]))) (trodAll_below hl hb ts vs1 ds1 b (fun t h => ht t (by simp [h])) h2 (fun x hx => hp x (by simp [hx])))

/-- A law's post: it returned true, and what was there is as it was. -/
theorem post_law {H : Type} {enc : TypeId × Value → H} {f : Func} {s : ChangeSpec} {W W' : World} {args : Array Value} {ds gs : List (DataW H)} {before : List MemPlace}
    (hl : laidOutB Try.prog = true) (hpar : ∀ t ∈ f.params.toList, Try.prog.readableRec t = true ∧ t < Try.prog.types.size) (hsv : s.vars = []) (hr : f.resultTypes = #[4])
    (hW : DataW.Whole enc Try.prog f.params.toList s.vars false W args.toList ds gs before)
    (hres : (s.fn H (ds ++ gs)).results = [.lit (.bool true)]) (hargs : (s.fn H (ds ++ gs)).args = ds) (hvs : (s.fn H (ds ++ gs)).vars = []) (hb : Below W.heap.size W W') :
    s.post enc Try.prog f false true false false W args (.bool true) W' := by
  have hW' := hW
  obtain ⟨p, q, hA, hV, rfl, _, _⟩ := hW
  rw [hsv] at hV
  obtain ⟨rfl, rfl⟩ := trodVars_none hV
  simp only [List.append_nil] at *
  have hlt : ∀ x ∈ p, x.block < W.heap.size := fun x hx => by simpa using hW'.lt x hx
  refine ⟨_, _, _, [], p, [], hW', ?_, ?_, ?_, hb.frame _, fun h => by cases h⟩
  · rw [List.append_nil, hres, hr]
    exact trodAll_cons_mk (shut_bool Try.underlying4 _) trodAll_mk0
  · rw [List.append_nil, hargs]
    exact trodAll_below hl hb _ _ _ _ hpar hA hlt
  · rw [List.append_nil, hsv, hvs]
    rfl

section
variable {H : Type} {enc : TypeId × Value → H} {w : World}

theorem cell_spot {a : Addr} {v : Value} (h : w.cell? a = some v) : a.spot = none ∧ a.block < w.heap.size := by
  unfold World.cell? at h
  have hl : a.block < w.heap.size := by
    rcases Nat.lt_or_ge a.block w.heap.size with h' | h'
    · exact h'
    · rw [Array.getElem?_eq_none h'] at h; simp at h
  refine ⟨?_, hl⟩
  split at h
  · split at h
    · cases h
    · rename_i hs
      cases hx : a.spot with
      | none => rfl
      | some x => rw [hx] at hs; simp at hs
  · cases h

theorem i64_wf {n : Int} (h : (Lit.int .i64 n).wf = true) : I64 n := by
  have h1 : IntKind.i64.min = -9223372036854775808 := rfl
  have h2 : IntKind.i64.max = 9223372036854775807 := rfl
  simp only [Lit.wf, Bool.and_eq_true, decide_eq_true_eq] at h
  unfold I64
  omega

theorem openI {fuel : Nat} {v : Value} {x : DataW H × List MemPlace} (h : DataW.trod enc Try.prog w 0 (fun _ => true) true fuel 3 [v] = some x) : ∃ n, v = .int .i64 n ∧ I64 n := by
  obtain ⟨n, hv, _, hw⟩ := DataW.trod_int Try.underlying3 h
  simp only [List.cons.injEq, and_true] at hv
  exact ⟨n, hv, i64_wf hw⟩

theorem openPc {fuel : Nat} {cs : List Value} {x : DataW H × List MemPlace} (h : DataW.trod enc Try.prog w 0 (fun _ => true) true fuel 55 cs = some x) : ∃ s : Pc, cs = [.int .i64 s.k, .int .i64 s.r, .int .i64 s.o] ∧ ∀ y ∈ s.cs, I64 y := by
  obtain ⟨xs, n, rfl, rfl, hl, hlen, hf⟩ := DataW.trod_struct Try.underlying55 h
  rw [cells55] at hl
  match xs, hlen, cs, hl with
  | [y0, y1, y2], _, [c0, c1, c2], _ =>
    have g0 : DataW.trod enc Try.prog w 0 (fun _ => true) true n 3 (List.take (Try.prog.cellsOf 3) (List.drop 0 [c0, c1, c2])) = some y0 := hf 0 _ rfl
    have g1 : DataW.trod enc Try.prog w 0 (fun _ => true) true n 3 (List.take (Try.prog.cellsOf 3) (List.drop 1 [c0, c1, c2])) = some y1 := hf 1 _ rfl
    have g2 : DataW.trod enc Try.prog w 0 (fun _ => true) true n 3 (List.take (Try.prog.cellsOf 3) (List.drop 2 [c0, c1, c2])) = some y2 := hf 2 _ rfl
    rw [cells3] at g0 g1 g2
    have h0 : DataW.trod enc Try.prog w 0 (fun _ => true) true n 3 [c0] = some y0 := g0
    obtain ⟨k0, rfl, hk0⟩ := openI h0
    have h1 : DataW.trod enc Try.prog w 0 (fun _ => true) true n 3 [c1] = some y1 := g1
    obtain ⟨k1, rfl, hk1⟩ := openI h1
    have h2 : DataW.trod enc Try.prog w 0 (fun _ => true) true n 3 [c2] = some y2 := g2
    obtain ⟨k2, rfl, hk2⟩ := openI h2
    refine ⟨⟨k0, k1, k2⟩, rfl, fun y hy => ?_⟩
    simp only [Pc.cs, List.mem_cons, List.not_mem_nil, or_false] at hy
    rcases hy with rfl | rfl | rfl
    · exact hk0
    · exact hk1
    · exact hk2
theorem openEd {fuel : Nat} {cs : List Value} {x : DataW H × List MemPlace} (h : DataW.trod enc Try.prog w 0 (fun _ => true) true fuel 45 cs = some x) : ∃ s : Ed, cs = [.int .i64 s.a, .int .i64 s.b, .int .i64 s.r, .int .i64 s.m, .int .i64 s.k] ∧ ∀ y ∈ s.cs, I64 y := by
  obtain ⟨xs, n, rfl, rfl, hl, hlen, hf⟩ := DataW.trod_struct Try.underlying45 h
  rw [cells45] at hl
  match xs, hlen, cs, hl with
  | [y0, y1, y2, y3, y4], _, [c0, c1, c2, c3, c4], _ =>
    have g0 : DataW.trod enc Try.prog w 0 (fun _ => true) true n 3 (List.take (Try.prog.cellsOf 3) (List.drop 0 [c0, c1, c2, c3, c4])) = some y0 := hf 0 _ rfl
    have g1 : DataW.trod enc Try.prog w 0 (fun _ => true) true n 3 (List.take (Try.prog.cellsOf 3) (List.drop 1 [c0, c1, c2, c3, c4])) = some y1 := hf 1 _ rfl
    have g2 : DataW.trod enc Try.prog w 0 (fun _ => true) true n 3 (List.take (Try.prog.cellsOf 3) (List.drop 2 [c0, c1, c2, c3, c4])) = some y2 := hf 2 _ rfl
    have g3 : DataW.trod enc Try.prog w 0 (fun _ => true) true n 3 (List.take (Try.prog.cellsOf 3) (List.drop 3 [c0, c1, c2, c3, c4])) = some y3 := hf 3 _ rfl
    have g4 : DataW.trod enc Try.prog w 0 (fun _ => true) true n 3 (List.take (Try.prog.cellsOf 3) (List.drop 4 [c0, c1, c2, c3, c4])) = some y4 := hf 4 _ rfl
    rw [cells3] at g0 g1 g2 g3 g4
    have h0 : DataW.trod enc Try.prog w 0 (fun _ => true) true n 3 [c0] = some y0 := g0
    obtain ⟨k0, rfl, hk0⟩ := openI h0
    have h1 : DataW.trod enc Try.prog w 0 (fun _ => true) true n 3 [c1] = some y1 := g1
    obtain ⟨k1, rfl, hk1⟩ := openI h1
    have h2 : DataW.trod enc Try.prog w 0 (fun _ => true) true n 3 [c2] = some y2 := g2
    obtain ⟨k2, rfl, hk2⟩ := openI h2
    have h3 : DataW.trod enc Try.prog w 0 (fun _ => true) true n 3 [c3] = some y3 := g3
    obtain ⟨k3, rfl, hk3⟩ := openI h3
    have h4 : DataW.trod enc Try.prog w 0 (fun _ => true) true n 3 [c4] = some y4 := g4
    obtain ⟨k4, rfl, hk4⟩ := openI h4
    refine ⟨⟨k0, k1, k2, k3, k4⟩, rfl, fun y hy => ?_⟩
    simp only [Ed.cs, List.mem_cons, List.not_mem_nil, or_false] at hy
    rcases hy with rfl | rfl | rfl | rfl | rfl
    · exact hk0
    · exact hk1
    · exact hk2
    · exact hk3
    · exact hk4
theorem choose_list {α : Type} (P : Nat → α → Prop) : ∀ n : Nat, (∀ i, i < n → ∃ a, P i a) → ∃ l : List α, l.length = n ∧ ∀ i a, l[i]? = some a → P i a
  | 0, _ => ⟨[], rfl, by simp⟩
  | n + 1, h => by
    obtain ⟨l, hl, hp⟩ := choose_list P n (fun i hi => h i (by omega))
    obtain ⟨a, ha⟩ := h n (by omega)
    refine ⟨l ++ [a], by simp [hl], fun i b hb => ?_⟩
    by_cases hi : i < n
    · rw [List.getElem?_append_left (by omega)] at hb
      exact hp i b hb
    · rw [List.getElem?_append_right (by omega)] at hb
      have hi' : i = n := by
        have := (List.getElem?_eq_some_iff.1 hb).1
        simp at this
        omega
      subst hi'
      simp [hl] at hb
      subst hb
      exact ha

theorem openPs {fuel : Nat} {v : Value} {x : DataW H × List MemPlace} (h : DataW.trod enc Try.prog w 0 (fun _ => true) true fuel 22 [v] = some x) (hw : ∀ n ∈ x.1.weights Try.prog 22, n ≤ reachBytes) :
    ∃ l, Sk 3 Pc.cs (fun k => k < w.heap.size) w v l := by
  rcases DataW.trod_slice Try.underlying22 h with ⟨hv, _⟩ | ⟨a, len, cap, elems, rest, n', rfl, hv, rfl, _, hlc, _, hel, he, _, _⟩
  · simp only [List.cons.injEq, and_true] at hv
    subst hv
    exact ⟨[], sk_nil _ _ _ _⟩
  · simp only [List.cons.injEq, and_true] at hv
    subst hv
    have hr := reachBytes_lt
    have hlen64 := hw ((elems.length + rest.length) * 24) (by simp [DataW.weights, Try.underlying22, bytes55])
    have hall : ∀ i, i < len → ∃ s : Pc, (∀ y ∈ s.cs, I64 y) ∧ ∀ j y, s.cs[j]? = some y → w.cell? (a.add (i * 3 + j)) = some (.int .i64 y) := by
      intro i hi
      have h5 := he i hi
      rw [cells55, List.getElem?_eq_getElem (by omega)] at h5
      obtain ⟨cs', h6, h7⟩ := Option.bind_eq_some_iff.1 h5
      obtain ⟨_, h8, h9⟩ := World.cells?_some h6
      obtain ⟨s, rfl, hb⟩ := openPc h7
      refine ⟨s, hb, fun j y hj => ?_⟩
      have hjl : j < 3 := (List.getElem?_eq_some_iff.1 hj).1
      have e0 := h9 j hjl
      rw [Go.Deep.add_add] at e0
      rw [e0]
      match j, hjl, hj with
      | 0, _, hj => cases hj; rfl
      | 1, _, hj => cases hj; rfl
      | 2, _, hj => cases hj; rfl
    obtain ⟨l, hll, hlp⟩ := choose_list _ len hall
    refine ⟨l, by omega, fun s hs => ?_, some a, cap, by rw [hll], by omega, fun hp => ?_⟩
    · obtain ⟨j, hj⟩ := List.getElem?_of_mem hs
      exact (hlp j s hj).1
    obtain ⟨s0, _, e0⟩ := hall 0 (by omega)
    obtain ⟨hs, hkb⟩ := cell_spot (e0 0 _ rfl)
    obtain ⟨g, off, spot⟩ := a
    have hs' : spot = none := hs
    subst hs'
    refine ⟨g, off, rfl, hkb, fun j s hj i y hi => ?_⟩
    have e0 := (hlp j s hj).2 i y hi
    rw [Addr.add_lit] at e0
    rw [Nat.add_assoc]
    exact e0
theorem openEs {fuel : Nat} {v : Value} {x : DataW H × List MemPlace} (h : DataW.trod enc Try.prog w 0 (fun _ => true) true fuel 23 [v] = some x) (hw : ∀ n ∈ x.1.weights Try.prog 23, n ≤ reachBytes) :
    ∃ l, Sk 5 Ed.cs (fun k => k < w.heap.size) w v l := by
  rcases DataW.trod_slice Try.underlying23 h with ⟨hv, _⟩ | ⟨a, len, cap, elems, rest, n', rfl, hv, rfl, _, hlc, _, hel, he, _, _⟩
  · simp only [List.cons.injEq, and_true] at hv
    subst hv
    exact ⟨[], sk_nil _ _ _ _⟩
  · simp only [List.cons.injEq, and_true] at hv
    subst hv
    have hr := reachBytes_lt
    have hlen64 := hw ((elems.length + rest.length) * 40) (by simp [DataW.weights, Try.underlying23, bytes45])
    have hall : ∀ i, i < len → ∃ s : Ed, (∀ y ∈ s.cs, I64 y) ∧ ∀ j y, s.cs[j]? = some y → w.cell? (a.add (i * 5 + j)) = some (.int .i64 y) := by
      intro i hi
      have h5 := he i hi
      rw [cells45, List.getElem?_eq_getElem (by omega)] at h5
      obtain ⟨cs', h6, h7⟩ := Option.bind_eq_some_iff.1 h5
      obtain ⟨_, h8, h9⟩ := World.cells?_some h6
      obtain ⟨s, rfl, hb⟩ := openEd h7
      refine ⟨s, hb, fun j y hj => ?_⟩
      have hjl : j < 5 := (List.getElem?_eq_some_iff.1 hj).1
      have e0 := h9 j hjl
      rw [Go.Deep.add_add] at e0
      rw [e0]
      match j, hjl, hj with
      | 0, _, hj => cases hj; rfl
      | 1, _, hj => cases hj; rfl
      | 2, _, hj => cases hj; rfl
      | 3, _, hj => cases hj; rfl
      | 4, _, hj => cases hj; rfl
    obtain ⟨l, hll, hlp⟩ := choose_list _ len hall
    refine ⟨l, by omega, fun s hs => ?_, some a, cap, by rw [hll], by omega, fun hp => ?_⟩
    · obtain ⟨j, hj⟩ := List.getElem?_of_mem hs
      exact (hlp j s hj).1
    obtain ⟨s0, _, e0⟩ := hall 0 (by omega)
    obtain ⟨hs, hkb⟩ := cell_spot (e0 0 _ rfl)
    obtain ⟨g, off, spot⟩ := a
    have hs' : spot = none := hs
    subst hs'
    refine ⟨g, off, rfl, hkb, fun j s hj i y hi => ?_⟩
    have e0 := (hlp j s hj).2 i y hi
    rw [Addr.add_lit] at e0
    rw [Nat.add_assoc]
    exact e0
theorem openH {fuel : Nat} {v : Value} {x : DataW H × List MemPlace} (h : DataW.trod enc Try.prog w 0 (fun _ => true) true fuel 29 [v] = some x) (hw : ∀ n ∈ x.1.weights Try.prog 29, n ≤ reachBytes) :
    ∃ b, Hl (fun k => k < w.heap.size) w v b := by
  rcases open_ints Try.underlying29 Try.underlying3 cells3 h with ⟨hv, rfl⟩ | ⟨a, len, cap, zs, hv, hb, hl, hm, hlen, rfl, hc, hz⟩
  · simp only [List.cons.injEq, and_true] at hv
    subst hv
    exact ⟨[], hl_nil _ _ _ _⟩
  · simp only [List.cons.injEq, and_true] at hv
    subst hv
    simp only [if_true] at hlen
    have hwt := hw (((zs.take len).length + (zs.drop len).length) * 8) (by
      simp [DataW.weights, Try.underlying29, bytes3, lits])
    have hr := reachBytes_lt
    have hlt : (zs.take len).length = len := by rw [List.length_take]; omega
    refine ⟨zs.take len, by omega, fun u hu => i64_wf (hz u (List.mem_of_mem_take hu)), some a, cap, by rw [hlt], by omega, fun hp => ?_⟩
    have h0 := hc 0 (by omega)
    obtain ⟨hs, hk⟩ := cell_spot h0
    obtain ⟨g, off, spot⟩ := a
    have hs' : spot = none := hs
    subst hs'
    refine ⟨g, off, rfl, hk, fun j u hj => ?_⟩
    have hjl : j < (zs.take len).length := (List.getElem?_eq_some_iff.1 hj).1
    have h1 := hc j (by omega)
    rw [List.getElem?_take_of_lt (by omega)] at hj
    rw [List.getD_eq_getElem?_getD, hj] at h1
    simp only [Option.getD_some] at h1
    rw [Addr.add_lit] at h1
    exact h1

theorem openNw {r : Reach} {b0 : Nat} {v : Value} {d : DataW H} {p : List MemPlace} (hv : Value.okWide Try.prog w r b0 25 v) (h : DataW.Trod enc Try.prog w 0 (fun _ => true) true 25 v d p) (hw : ∀ n ∈ d.weights Try.prog 25, n ≤ reachBytes) :
    ∃ ps es, Nw w v ps es := by
  obtain ⟨cs, rfl, hsz⟩ := okWide_struct Try.underlying25 hv
  obtain ⟨fuel, hf0⟩ := h
  have hf1 : DataW.trod enc Try.prog w 0 (fun _ => true) true fuel 25 cs.toList = some (d, p) := hf0
  obtain ⟨xs, n, rfl, hx, hl, hlen, hf⟩ := DataW.trod_struct Try.underlying25 hf1
  rw [cells25] at hl
  match xs, hlen, hf, hx with
  | [y0, y1], _, hf, hx =>
    simp only [Prod.mk.injEq] at hx
    obtain ⟨rfl, _⟩ := hx
    have g0 : DataW.trod enc Try.prog w 0 (fun _ => true) true n 22 (List.take (Try.prog.cellsOf 22) (List.drop 0 cs.toList)) = some y0 := hf 0 _ rfl
    have g1 : DataW.trod enc Try.prog w 0 (fun _ => true) true n 23 (List.take (Try.prog.cellsOf 23) (List.drop 1 cs.toList)) = some y1 := hf 1 _ rfl
    rw [cells22] at g0
    rw [cells23] at g1
    obtain ⟨c0, c1, hcs⟩ : ∃ c0 c1, cs = #[c0, c1] := by
      match hc : cs.toList, hl with
      | [c0, c1], _ => exact ⟨c0, c1, Array.toList_inj.1 hc⟩
    subst hcs
    have hw0 : ∀ n ∈ y0.1.weights Try.prog 22, n ≤ reachBytes := fun n hn => hw n (by simp [DataW.weights, DataW.weightsEach, Try.underlying25, hn])
    have hw1 : ∀ n ∈ y1.1.weights Try.prog 23, n ≤ reachBytes := fun n hn => hw n (by simp [DataW.weights, DataW.weightsEach, Try.underlying25, hn])
    obtain ⟨ps, hps⟩ := openPs (v := c0) g0 hw0
    obtain ⟨es, hes⟩ := openEs (v := c1) g1 hw1
    exact ⟨ps, es, _, _, rfl, hps, hes⟩
theorem openEdV {r : Reach} {b0 : Nat} {v : Value} {d : DataW H} {p : List MemPlace} (hv : Value.okWide Try.prog w r b0 45 v) (h : DataW.Trod enc Try.prog w 0 (fun _ => true) true 45 v d p) :
    ∃ x : Ed, v = .agg #[.int .i64 x.a, .int .i64 x.b, .int .i64 x.r, .int .i64 x.m, .int .i64 x.k] ∧ ∀ y ∈ x.cs, I64 y := by
  obtain ⟨cs, rfl, hsz⟩ := okWide_struct Try.underlying45 hv
  obtain ⟨fuel, hf⟩ := h
  obtain ⟨x, h1, h2⟩ := openEd (cs := cs.toList) hf
  exact ⟨x, by rw [show cs = #[.int .i64 x.a, .int .i64 x.b, .int .i64 x.r, .int .i64 x.m, .int .i64 x.k] from Array.toList_inj.1 h1], h2⟩
end
end Go.Proofs.Ytbeoldklpklbfaa
