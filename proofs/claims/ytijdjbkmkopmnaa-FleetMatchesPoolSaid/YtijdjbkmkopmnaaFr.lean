/-
  The frame of the laws: arguments opened, the post.
-/
import Derived.Test.YtijdjbkmkopmnaaSb
import Derived.Test.YtijdjbkmkopmnaaRows
import Derived.WalkKit
import Derived.ProofKit
import Derived.OpenShut
import Derived.Deep.Slices
import Derived.Lib.SmallJoins
import Derived.ChangeSlices
import Derived.SizedLaws
namespace Go.Proofs.Ytijdjbkmkopmnaa
open Go.Joins Go.ChangeShapes Go.WideShapes Go.ChangeAt Go.RowKit Go.Deep
set_option linter.unusedVariables false
set_option linter.unusedSimpArgs false

theorem laidOut : laidOutB Try.prog = true := by kernel_rfl
theorem own : ownKnob Try.prog.godebug = none := by kernel_rfl
theorem cells68 : Try.prog.cellsOf 68 = 8 := by kernel_rfl
theorem bytes68 : Try.prog.bytesOf 68 = 64 := by kernel_rfl
theorem cells66 : Try.prog.cellsOf 66 = 5 := by kernel_rfl
theorem bytes66 : Try.prog.bytesOf 66 = 40 := by kernel_rfl
theorem cells62 : Try.prog.cellsOf 62 = 3 := by kernel_rfl
theorem bytes62 : Try.prog.bytesOf 62 = 24 := by kernel_rfl
theorem cells87 : Try.prog.cellsOf 87 = 3 := by kernel_rfl
theorem bytes87 : Try.prog.bytesOf 87 = 24 := by kernel_rfl
theorem cells27 : Try.prog.cellsOf 27 = 4 := by kernel_rfl
theorem cells3' : Try.prog.cellsOf 3 = 1 := by kernel_rfl
theorem cells56 : Try.prog.cellsOf 56 = 1 := by kernel_rfl
theorem cells29 : Try.prog.cellsOf 29 = 6 := by kernel_rfl
theorem cells22 : Try.prog.cellsOf 22 = 1 := by kernel_rfl
theorem cells23 : Try.prog.cellsOf 23 = 1 := by kernel_rfl
theorem cells24 : Try.prog.cellsOf 24 = 1 := by kernel_rfl
theorem cells25 : Try.prog.cellsOf 25 = 1 := by kernel_rfl
/-- What reads as data in old memory reads so still. -/
theorem trodAll_below {H : Type} {enc : TypeId × Value → H} {P : Program} (hl : laidOutB P = true) {W W' : World} (hb : Below W.heap.size W W') :
    ∀ (ts : List TypeId) (vs : List Value) (ds : List (DataW H)) (ps : List MemPlace), (∀ t ∈ ts, P.readableRec t = true ∧ t < P.types.size) → DataW.TrodAll enc P W 0 (fun _ => true) true ts vs ds ps → (∀ x ∈ ps, x.block < W.heap.size) →
      DataW.TrodAll enc P W' 0 (fun b => decide (b < W.heap.size)) true ts vs ds ps
  | [], vs, ds, ps, _, h, _ => by
    obtain ⟨rfl, rfl, rfl⟩ := trodAll_nil h
    exact trodAll_mk0
  | t :: ts, vs, ds, ps, ht, h, hp => by
    obtain ⟨v, vs1, d, ds1, a, b, rfl, rfl, rfl, h1, h2⟩ := trodAll_cons h
    exact trodAll_cons_mk (Below.trod hl (ht t (by simp)).1 (ht t (by simp)).2 h1 hb (fun x hx => hp x (by simp [hx]))) (trodAll_below hl hb ts vs1 ds1 b (fun t h => ht t (by simp [h])) h2 (fun x hx => hp x (by simp [hx])))

/-- A law's post: it returned true, and what was there is as it was. -/
theorem post_law {H : Type} {enc : TypeId × Value → H} {f : Func} {s : ChangeSpec} {W W' : World} {args : Array Value} {ds gs : List (DataW H)} {before : List MemPlace}
    (hl : laidOutB Try.prog = true) (hpar : ∀ t ∈ f.params.toList, Try.prog.readableRec t = true ∧ t < Try.prog.types.size) (hsv : s.vars = []) (hr : f.resultTypes = #[4])
    (hW : DataW.Whole enc Try.prog f.params.toList s.vars false W args.toList ds gs before)
    (hres : (s.fn H (ds ++ gs)).results = [.lit (.bool true)]) (hargs : (s.fn H (ds ++ gs)).args = ds) (hvs : (s.fn H (ds ++ gs)).vars = []) (hb : Below W.heap.size W W') :
    s.post enc Try.prog f false true false false W args (.bool true) W' := by
  have hW' := hW
  obtain ⟨p, q, hA, hV, rfl, _, _⟩ := hW
  rw [hsv] at hV
  obtain ⟨rfl, rfl⟩ := trodVars_none hV
  simp only [List.append_nil] at *
  have hlt : ∀ x ∈ p, x.block < W.heap.size := fun x hx => by simpa using hW'.lt x hx
  refine ⟨_, _, _, [], p, [], hW', ?_, ?_, ?_, hb.frame _, fun h => by cases h⟩
  · rw [List.append_nil, hres, hr]
    exact trodAll_cons_mk (shut_bool Try.underlying4 _) trodAll_mk0
  · rw [List.append_nil, hargs]
    exact trodAll_below hl hb _ _ _ _ hpar hA hlt
  · rw [List.append_nil, hsv, hvs]
    rfl

section
variable {H : Type} {enc : TypeId × Value → H} {w : World}

theorem cell_spot {a : Addr} {v : Value} (h : w.cell? a = some v) : a.spot = none ∧ a.block < w.heap.size := by
  unfold World.cell? at h
  have hl : a.block < w.heap.size := by
    rcases Nat.lt_or_ge a.block w.heap.size with h' | h'
    · exact h'
    · rw [Array.getElem?_eq_none h'] at h; simp at h
  refine ⟨?_, hl⟩
  split at h
  · split at h
    · cases h
    · rename_i hs
      cases hx : a.spot with
      | none => rfl
      | some x => rw [hx] at hs; simp at hs
  · cases h

theorem i64_wf {n : Int} (h : (Lit.int .i64 n).wf = true) : I64 n := by
  have h1 : IntKind.i64.min = -9223372036854775808 := rfl
  have h2 : IntKind.i64.max = 9223372036854775807 := rfl
  simp only [Lit.wf, Bool.and_eq_true, decide_eq_true_eq] at h
  unfold I64
  omega

theorem openI {fuel : Nat} {v : Value} {x : DataW H × List MemPlace} (h : DataW.trod enc Try.prog w 0 (fun _ => true) true fuel 3 [v] = some x) : ∃ n, v = .int .i64 n ∧ I64 n := by
  obtain ⟨n, hv, _, hw⟩ := DataW.trod_int Try.underlying3 h
  simp only [List.cons.injEq, and_true] at hv
  exact ⟨n, hv, i64_wf hw⟩

theorem u64_wf {n : Int} (h : (Lit.int .u64 n).wf = true) : 0 ≤ n ∧ n ≤ 18446744073709551615 := by
  have h1 : IntKind.u64.min = 0 := rfl
  have h2 : IntKind.u64.max = 18446744073709551615 := rfl
  simp only [Lit.wf, Bool.and_eq_true, decide_eq_true_eq] at h
  omega
theorem openU {fuel : Nat} {v : Value} {x : DataW H × List MemPlace} (h : DataW.trod enc Try.prog w 0 (fun _ => true) true fuel 56 [v] = some x) : ∃ n, v = .int .u64 n ∧ 0 ≤ n ∧ n ≤ 18446744073709551615 := by
  obtain ⟨n, hv, _, hw⟩ := DataW.trod_int Try.underlying56 h
  simp only [List.cons.injEq, and_true] at hv
  exact ⟨n, hv, u64_wf hw⟩
set_option maxRecDepth 100000 in
theorem openTy {fuel : Nat} {cs : List Value} {x : DataW H × List MemPlace} (h : DataW.trod enc Try.prog w 0 (fun _ => true) true fuel 68 cs = some x) : ∃ s : Ty, cs = s.cs ∧ s.ok := by
  obtain ⟨xs, n, rfl, rfl, hl, hlen, hf⟩ := DataW.trod_struct Try.underlying68 h
  rw [cells68] at hl
  match xs, hlen, cs, hl with
  | [y0, y1, y2, y3, y4, y5, y6, y7], _, [c0, c1, c2, c3, c4, c5, c6, c7], _ =>
    have g0 : DataW.trod enc Try.prog w 0 (fun _ => true) true n 3 (List.take (Try.prog.cellsOf 3) (List.drop 0 [c0, c1, c2, c3, c4, c5, c6, c7])) = some y0 := hf 0 _ rfl
    rw [cells3'] at g0
    have g1 : DataW.trod enc Try.prog w 0 (fun _ => true) true n 3 (List.take (Try.prog.cellsOf 3) (List.drop 1 [c0, c1, c2, c3, c4, c5, c6, c7])) = some y1 := hf 1 _ rfl
    rw [cells3'] at g1
    have g2 : DataW.trod enc Try.prog w 0 (fun _ => true) true n 3 (List.take (Try.prog.cellsOf 3) (List.drop 2 [c0, c1, c2, c3, c4, c5, c6, c7])) = some y2 := hf 2 _ rfl
    rw [cells3'] at g2
    have g3 : DataW.trod enc Try.prog w 0 (fun _ => true) true n 3 (List.take (Try.prog.cellsOf 3) (List.drop 3 [c0, c1, c2, c3, c4, c5, c6, c7])) = some y3 := hf 3 _ rfl
    rw [cells3'] at g3
    have g4 : DataW.trod enc Try.prog w 0 (fun _ => true) true n 3 (List.take (Try.prog.cellsOf 3) (List.drop 4 [c0, c1, c2, c3, c4, c5, c6, c7])) = some y4 := hf 4 _ rfl
    rw [cells3'] at g4
    have g5 : DataW.trod enc Try.prog w 0 (fun _ => true) true n 56 (List.take (Try.prog.cellsOf 56) (List.drop 5 [c0, c1, c2, c3, c4, c5, c6, c7])) = some y5 := hf 5 _ rfl
    rw [cells56] at g5
    have g6 : DataW.trod enc Try.prog w 0 (fun _ => true) true n 3 (List.take (Try.prog.cellsOf 3) (List.drop 6 [c0, c1, c2, c3, c4, c5, c6, c7])) = some y6 := hf 6 _ rfl
    rw [cells3'] at g6
    have g7 : DataW.trod enc Try.prog w 0 (fun _ => true) true n 3 (List.take (Try.prog.cellsOf 3) (List.drop 7 [c0, c1, c2, c3, c4, c5, c6, c7])) = some y7 := hf 7 _ rfl
    rw [cells3'] at g7
    have h0 : DataW.trod enc Try.prog w 0 (fun _ => true) true n 3 [c0] = some y0 := g0
    obtain ⟨k0, rfl, hk0⟩ := openI h0
    have h1 : DataW.trod enc Try.prog w 0 (fun _ => true) true n 3 [c1] = some y1 := g1
    obtain ⟨k1, rfl, hk1⟩ := openI h1
    have h2 : DataW.trod enc Try.prog w 0 (fun _ => true) true n 3 [c2] = some y2 := g2
    obtain ⟨k2, rfl, hk2⟩ := openI h2
    have h3 : DataW.trod enc Try.prog w 0 (fun _ => true) true n 3 [c3] = some y3 := g3
    obtain ⟨k3, rfl, hk3⟩ := openI h3
    have h4 : DataW.trod enc Try.prog w 0 (fun _ => true) true n 3 [c4] = some y4 := g4
    obtain ⟨k4, rfl, hk4⟩ := openI h4
    have h5 : DataW.trod enc Try.prog w 0 (fun _ => true) true n 56 [c5] = some y5 := g5
    obtain ⟨k5, rfl, hk5⟩ := openU h5
    have h6 : DataW.trod enc Try.prog w 0 (fun _ => true) true n 3 [c6] = some y6 := g6
    obtain ⟨k6, rfl, hk6⟩ := openI h6
    have h7 : DataW.trod enc Try.prog w 0 (fun _ => true) true n 3 [c7] = some y7 := g7
    obtain ⟨k7, rfl, hk7⟩ := openI h7
    exact ⟨⟨k0, k1, k2, k3, k4, k5, k6, k7⟩, rfl, hk5⟩
set_option maxRecDepth 100000 in
theorem openWn {fuel : Nat} {cs : List Value} {x : DataW H × List MemPlace} (h : DataW.trod enc Try.prog w 0 (fun _ => true) true fuel 66 cs = some x) : ∃ s : Wn, cs = s.cs ∧ True := by
  obtain ⟨xs, n, rfl, rfl, hl, hlen, hf⟩ := DataW.trod_struct Try.underlying66 h
  rw [cells66] at hl
  match xs, hlen, cs, hl with
  | [y0, y1, y2, y3, y4], _, [c0, c1, c2, c3, c4], _ =>
    have g0 : DataW.trod enc Try.prog w 0 (fun _ => true) true n 3 (List.take (Try.prog.cellsOf 3) (List.drop 0 [c0, c1, c2, c3, c4])) = some y0 := hf 0 _ rfl
    rw [cells3'] at g0
    have g1 : DataW.trod enc Try.prog w 0 (fun _ => true) true n 3 (List.take (Try.prog.cellsOf 3) (List.drop 1 [c0, c1, c2, c3, c4])) = some y1 := hf 1 _ rfl
    rw [cells3'] at g1
    have g2 : DataW.trod enc Try.prog w 0 (fun _ => true) true n 3 (List.take (Try.prog.cellsOf 3) (List.drop 2 [c0, c1, c2, c3, c4])) = some y2 := hf 2 _ rfl
    rw [cells3'] at g2
    have g3 : DataW.trod enc Try.prog w 0 (fun _ => true) true n 3 (List.take (Try.prog.cellsOf 3) (List.drop 3 [c0, c1, c2, c3, c4])) = some y3 := hf 3 _ rfl
    rw [cells3'] at g3
    have g4 : DataW.trod enc Try.prog w 0 (fun _ => true) true n 3 (List.take (Try.prog.cellsOf 3) (List.drop 4 [c0, c1, c2, c3, c4])) = some y4 := hf 4 _ rfl
    rw [cells3'] at g4
    have h0 : DataW.trod enc Try.prog w 0 (fun _ => true) true n 3 [c0] = some y0 := g0
    obtain ⟨k0, rfl, hk0⟩ := openI h0
    have h1 : DataW.trod enc Try.prog w 0 (fun _ => true) true n 3 [c1] = some y1 := g1
    obtain ⟨k1, rfl, hk1⟩ := openI h1
    have h2 : DataW.trod enc Try.prog w 0 (fun _ => true) true n 3 [c2] = some y2 := g2
    obtain ⟨k2, rfl, hk2⟩ := openI h2
    have h3 : DataW.trod enc Try.prog w 0 (fun _ => true) true n 3 [c3] = some y3 := g3
    obtain ⟨k3, rfl, hk3⟩ := openI h3
    have h4 : DataW.trod enc Try.prog w 0 (fun _ => true) true n 3 [c4] = some y4 := g4
    obtain ⟨k4, rfl, hk4⟩ := openI h4
    exact ⟨⟨k0, k1, k2, k3, k4⟩, rfl, trivial⟩
set_option maxRecDepth 100000 in
theorem openSw {fuel : Nat} {cs : List Value} {x : DataW H × List MemPlace} (h : DataW.trod enc Try.prog w 0 (fun _ => true) true fuel 62 cs = some x) : ∃ s : Sw, cs = s.cs ∧ s.ok := by
  obtain ⟨xs, n, rfl, rfl, hl, hlen, hf⟩ := DataW.trod_struct Try.underlying62 h
  rw [cells62] at hl
  match xs, hlen, cs, hl with
  | [y0, y1, y2], _, [c0, c1, c2], _ =>
    have g0 : DataW.trod enc Try.prog w 0 (fun _ => true) true n 3 (List.take (Try.prog.cellsOf 3) (List.drop 0 [c0, c1, c2])) = some y0 := hf 0 _ rfl
    rw [cells3'] at g0
    have g1 : DataW.trod enc Try.prog w 0 (fun _ => true) true n 3 (List.take (Try.prog.cellsOf 3) (List.drop 1 [c0, c1, c2])) = some y1 := hf 1 _ rfl
    rw [cells3'] at g1
    have g2 : DataW.trod enc Try.prog w 0 (fun _ => true) true n 3 (List.take (Try.prog.cellsOf 3) (List.drop 2 [c0, c1, c2])) = some y2 := hf 2 _ rfl
    rw [cells3'] at g2
    have h0 : DataW.trod enc Try.prog w 0 (fun _ => true) true n 3 [c0] = some y0 := g0
    obtain ⟨k0, rfl, hk0⟩ := openI h0
    have h1 : DataW.trod enc Try.prog w 0 (fun _ => true) true n 3 [c1] = some y1 := g1
    obtain ⟨k1, rfl, hk1⟩ := openI h1
    have h2 : DataW.trod enc Try.prog w 0 (fun _ => true) true n 3 [c2] = some y2 := g2
    obtain ⟨k2, rfl, hk2⟩ := openI h2
    exact ⟨⟨k0, k1, k2⟩, rfl, ⟨hk0, hk1, hk2⟩⟩
set_option maxRecDepth 100000 in
theorem openWh {fuel : Nat} {cs : List Value} {x : DataW H × List MemPlace} (h : DataW.trod enc Try.prog w 0 (fun _ => true) true fuel 87 cs = some x) : ∃ s : Wh, cs = s.cs ∧ True := by
  obtain ⟨xs, n, rfl, rfl, hl, hlen, hf⟩ := DataW.trod_struct Try.underlying87 h
  rw [cells87] at hl
  match xs, hlen, cs, hl with
  | [y0, y1, y2], _, [c0, c1, c2], _ =>
    have g0 : DataW.trod enc Try.prog w 0 (fun _ => true) true n 3 (List.take (Try.prog.cellsOf 3) (List.drop 0 [c0, c1, c2])) = some y0 := hf 0 _ rfl
    rw [cells3'] at g0
    have g1 : DataW.trod enc Try.prog w 0 (fun _ => true) true n 3 (List.take (Try.prog.cellsOf 3) (List.drop 1 [c0, c1, c2])) = some y1 := hf 1 _ rfl
    rw [cells3'] at g1
    have g2 : DataW.trod enc Try.prog w 0 (fun _ => true) true n 3 (List.take (Try.prog.cellsOf 3) (List.drop 2 [c0, c1, c2])) = some y2 := hf 2 _ rfl
    rw [cells3'] at g2
    have h0 : DataW.trod enc Try.prog w 0 (fun _ => true) true n 3 [c0] = some y0 := g0
    obtain ⟨k0, rfl, hk0⟩ := openI h0
    have h1 : DataW.trod enc Try.prog w 0 (fun _ => true) true n 3 [c1] = some y1 := g1
    obtain ⟨k1, rfl, hk1⟩ := openI h1
    have h2 : DataW.trod enc Try.prog w 0 (fun _ => true) true n 3 [c2] = some y2 := g2
    obtain ⟨k2, rfl, hk2⟩ := openI h2
    exact ⟨⟨k0, k1, k2⟩, rfl, trivial⟩
theorem choose_list {α : Type} (P : Nat → α → Prop) : ∀ n : Nat, (∀ i, i < n → ∃ a, P i a) → ∃ l : List α, l.length = n ∧ ∀ i a, l[i]? = some a → P i a
  | 0, _ => ⟨[], rfl, by simp⟩
  | n + 1, h => by
    obtain ⟨l, hl, hp⟩ := choose_list P n (fun i hi => h i (by omega))
    obtain ⟨a, ha⟩ := h n (by omega)
    refine ⟨l ++ [a], by simp [hl], fun i b hb => ?_⟩
    by_cases hi : i < n
    · rw [List.getElem?_append_left (by omega)] at hb
      exact hp i b hb
    · rw [List.getElem?_append_right (by omega)] at hb
      have hi' : i = n := by
        have := (List.getElem?_eq_some_iff.1 hb).1
        simp at this
        omega
      subst hi'
      simp [hl] at hb
      subst hb
      exact ha

set_option maxRecDepth 100000 in
theorem openTys {fuel : Nat} {v : Value} {x : DataW H × List MemPlace} (h : DataW.trod enc Try.prog w 0 (fun _ => true) true fuel 22 [v] = some x) (hw : ∀ n ∈ x.1.weights Try.prog 22, n ≤ reachBytes) :
    ∃ l, Sk 8 Ty.cs Ty.ok (fun k => k < w.heap.size) w v l := by
  rcases DataW.trod_slice Try.underlying22 h with ⟨hv, _⟩ | ⟨a, len, cap, elems, rest, n', rfl, hv, rfl, _, hlc, _, hel, he, _, _⟩
  · simp only [List.cons.injEq, and_true] at hv
    subst hv
    exact ⟨[], sk_nil _ _ _ _⟩
  · simp only [List.cons.injEq, and_true] at hv
    subst hv
    have hr := reachBytes_lt
    have hlen64 := hw ((elems.length + rest.length) * 64) (by simp [DataW.weights, Try.underlying22, bytes68])
    have hall : ∀ i, i < len → ∃ s : Ty, Ty.ok s ∧ ∀ j y, s.cs[j]? = some y → w.cell? (a.add (i * 8 + j)) = some y := by
      intro i hi
      have h5 := he i hi
      rw [cells68, List.getElem?_eq_getElem (by omega)] at h5
      obtain ⟨cs', h6, h7⟩ := Option.bind_eq_some_iff.1 h5
      obtain ⟨hcl, h8, h9⟩ := World.cells?_some h6
      obtain ⟨s, rfl, hb⟩ := openTy h7
      refine ⟨s, hb, fun j y hj => ?_⟩
      have hjl : j < 8 := (List.getElem?_eq_some_iff.1 hj).1
      have e0 := h9 j hjl
      rw [Go.Deep.add_add] at e0
      rw [e0]
      simpa using hj
    obtain ⟨l, hll, hlp⟩ := choose_list _ len hall
    refine ⟨l, by omega, fun s hs => ?_, some a, cap, by rw [hll], by omega, fun hp => ?_⟩
    · obtain ⟨j, hj⟩ := List.getElem?_of_mem hs
      exact (hlp j s hj).1
    obtain ⟨s0, _, e0⟩ := hall 0 (by omega)
    obtain ⟨hs, hkb⟩ := cell_spot (e0 0 _ rfl)
    obtain ⟨g, off, spot⟩ := a
    have hs' : spot = none := hs
    subst hs'
    refine ⟨g, off, rfl, hkb, fun j s hj i y hi => ?_⟩
    have e0 := (hlp j s hj).2 i y hi
    rw [Addr.add_lit] at e0
    rw [Nat.add_assoc]
    exact e0
set_option maxRecDepth 100000 in
theorem openWns {fuel : Nat} {v : Value} {x : DataW H × List MemPlace} (h : DataW.trod enc Try.prog w 0 (fun _ => true) true fuel 23 [v] = some x) (hw : ∀ n ∈ x.1.weights Try.prog 23, n ≤ reachBytes) :
    ∃ l, Sk 5 Wn.cs (fun _ => True) (fun k => k < w.heap.size) w v l := by
  rcases DataW.trod_slice Try.underlying23 h with ⟨hv, _⟩ | ⟨a, len, cap, elems, rest, n', rfl, hv, rfl, _, hlc, _, hel, he, _, _⟩
  · simp only [List.cons.injEq, and_true] at hv
    subst hv
    exact ⟨[], sk_nil _ _ _ _⟩
  · simp only [List.cons.injEq, and_true] at hv
    subst hv
    have hr := reachBytes_lt
    have hlen64 := hw ((elems.length + rest.length) * 40) (by simp [DataW.weights, Try.underlying23, bytes66])
    have hall : ∀ i, i < len → ∃ s : Wn, (fun _ => True) s ∧ ∀ j y, s.cs[j]? = some y → w.cell? (a.add (i * 5 + j)) = some y := by
      intro i hi
      have h5 := he i hi
      rw [cells66, List.getElem?_eq_getElem (by omega)] at h5
      obtain ⟨cs', h6, h7⟩ := Option.bind_eq_some_iff.1 h5
      obtain ⟨hcl, h8, h9⟩ := World.cells?_some h6
      obtain ⟨s, rfl, hb⟩ := openWn h7
      refine ⟨s, hb, fun j y hj => ?_⟩
      have hjl : j < 5 := (List.getElem?_eq_some_iff.1 hj).1
      have e0 := h9 j hjl
      rw [Go.Deep.add_add] at e0
      rw [e0]
      simpa using hj
    obtain ⟨l, hll, hlp⟩ := choose_list _ len hall
    refine ⟨l, by omega, fun s hs => ?_, some a, cap, by rw [hll], by omega, fun hp => ?_⟩
    · obtain ⟨j, hj⟩ := List.getElem?_of_mem hs
      exact (hlp j s hj).1
    obtain ⟨s0, _, e0⟩ := hall 0 (by omega)
    obtain ⟨hs, hkb⟩ := cell_spot (e0 0 _ rfl)
    obtain ⟨g, off, spot⟩ := a
    have hs' : spot = none := hs
    subst hs'
    refine ⟨g, off, rfl, hkb, fun j s hj i y hi => ?_⟩
    have e0 := (hlp j s hj).2 i y hi
    rw [Addr.add_lit] at e0
    rw [Nat.add_assoc]
    exact e0
set_option maxRecDepth 100000 in
theorem openSws {fuel : Nat} {v : Value} {x : DataW H × List MemPlace} (h : DataW.trod enc Try.prog w 0 (fun _ => true) true fuel 24 [v] = some x) (hw : ∀ n ∈ x.1.weights Try.prog 24, n ≤ reachBytes) :
    ∃ l, Sk 3 Sw.cs Sw.ok (fun k => k < w.heap.size) w v l := by
  rcases DataW.trod_slice Try.underlying24 h with ⟨hv, _⟩ | ⟨a, len, cap, elems, rest, n', rfl, hv, rfl, _, hlc, _, hel, he, _, _⟩
  · simp only [List.cons.injEq, and_true] at hv
    subst hv
    exact ⟨[], sk_nil _ _ _ _⟩
  · simp only [List.cons.injEq, and_true] at hv
    subst hv
    have hr := reachBytes_lt
    have hlen64 := hw ((elems.length + rest.length) * 24) (by simp [DataW.weights, Try.underlying24, bytes62])
    have hall : ∀ i, i < len → ∃ s : Sw, Sw.ok s ∧ ∀ j y, s.cs[j]? = some y → w.cell? (a.add (i * 3 + j)) = some y := by
      intro i hi
      have h5 := he i hi
      rw [cells62, List.getElem?_eq_getElem (by omega)] at h5
      obtain ⟨cs', h6, h7⟩ := Option.bind_eq_some_iff.1 h5
      obtain ⟨hcl, h8, h9⟩ := World.cells?_some h6
      obtain ⟨s, rfl, hb⟩ := openSw h7
      refine ⟨s, hb, fun j y hj => ?_⟩
      have hjl : j < 3 := (List.getElem?_eq_some_iff.1 hj).1
      have e0 := h9 j hjl
      rw [Go.Deep.add_add] at e0
      rw [e0]
      simpa using hj
    obtain ⟨l, hll, hlp⟩ := choose_list _ len hall
    refine ⟨l, by omega, fun s hs => ?_, some a, cap, by rw [hll], by omega, fun hp => ?_⟩
    · obtain ⟨j, hj⟩ := List.getElem?_of_mem hs
      exact (hlp j s hj).1
    obtain ⟨s0, _, e0⟩ := hall 0 (by omega)
    obtain ⟨hs, hkb⟩ := cell_spot (e0 0 _ rfl)
    obtain ⟨g, off, spot⟩ := a
    have hs' : spot = none := hs
    subst hs'
    refine ⟨g, off, rfl, hkb, fun j s hj i y hi => ?_⟩
    have e0 := (hlp j s hj).2 i y hi
    rw [Addr.add_lit] at e0
    rw [Nat.add_assoc]
    exact e0
set_option maxRecDepth 100000 in
theorem openWhs {fuel : Nat} {v : Value} {x : DataW H × List MemPlace} (h : DataW.trod enc Try.prog w 0 (fun _ => true) true fuel 25 [v] = some x) (hw : ∀ n ∈ x.1.weights Try.prog 25, n ≤ reachBytes) :
    ∃ l, Sk 3 Wh.cs (fun _ => True) (fun k => k < w.heap.size) w v l := by
  rcases DataW.trod_slice Try.underlying25 h with ⟨hv, _⟩ | ⟨a, len, cap, elems, rest, n', rfl, hv, rfl, _, hlc, _, hel, he, _, _⟩
  · simp only [List.cons.injEq, and_true] at hv
    subst hv
    exact ⟨[], sk_nil _ _ _ _⟩
  · simp only [List.cons.injEq, and_true] at hv
    subst hv
    have hr := reachBytes_lt
    have hlen64 := hw ((elems.length + rest.length) * 24) (by simp [DataW.weights, Try.underlying25, bytes87])
    have hall : ∀ i, i < len → ∃ s : Wh, (fun _ => True) s ∧ ∀ j y, s.cs[j]? = some y → w.cell? (a.add (i * 3 + j)) = some y := by
      intro i hi
      have h5 := he i hi
      rw [cells87, List.getElem?_eq_getElem (by omega)] at h5
      obtain ⟨cs', h6, h7⟩ := Option.bind_eq_some_iff.1 h5
      obtain ⟨hcl, h8, h9⟩ := World.cells?_some h6
      obtain ⟨s, rfl, hb⟩ := openWh h7
      refine ⟨s, hb, fun j y hj => ?_⟩
      have hjl : j < 3 := (List.getElem?_eq_some_iff.1 hj).1
      have e0 := h9 j hjl
      rw [Go.Deep.add_add] at e0
      rw [e0]
      simpa using hj
    obtain ⟨l, hll, hlp⟩ := choose_list _ len hall
    refine ⟨l, by omega, fun s hs => ?_, some a, cap, by rw [hll], by omega, fun hp => ?_⟩
    · obtain ⟨j, hj⟩ := List.getElem?_of_mem hs
      exact (hlp j s hj).1
    obtain ⟨s0, _, e0⟩ := hall 0 (by omega)
    obtain ⟨hs, hkb⟩ := cell_spot (e0 0 _ rfl)
    obtain ⟨g, off, spot⟩ := a
    have hs' : spot = none := hs
    subst hs'
    refine ⟨g, off, rfl, hkb, fun j s hj i y hi => ?_⟩
    have e0 := (hlp j s hj).2 i y hi
    rw [Addr.add_lit] at e0
    rw [Nat.add_assoc]
    exact e0
set_option maxRecDepth 100000 in
theorem openFl {r : Reach} {b0 : Nat} {v : Value} {d : DataW H} {p : List MemPlace} (hv : Value.okWide Try.prog w r b0 27 v) (h : DataW.Trod enc Try.prog w 0 (fun _ => true) true 27 v d p) (hw : ∀ n ∈ d.weights Try.prog 27, n ≤ reachBytes) :
    ∃ ts ws ss hs, Fl w v ts ws ss hs := by
  obtain ⟨cs, rfl, hsz⟩ := okWide_struct Try.underlying27 hv
  obtain ⟨fuel, hf0⟩ := h
  have hf1 : DataW.trod enc Try.prog w 0 (fun _ => true) true fuel 27 cs.toList = some (d, p) := hf0
  obtain ⟨xs, n, rfl, hx, hl, hlen, hf⟩ := DataW.trod_struct Try.underlying27 hf1
  rw [cells27] at hl
  match xs, hlen, hf, hx with
  | [y0, y1, y2, y3], _, hf, hx =>
    simp only [Prod.mk.injEq] at hx
    obtain ⟨rfl, _⟩ := hx
    have g0 : DataW.trod enc Try.prog w 0 (fun _ => true) true n 22 (List.take (Try.prog.cellsOf 22) (List.drop 0 cs.toList)) = some y0 := hf 0 _ rfl
    have g1 : DataW.trod enc Try.prog w 0 (fun _ => true) true n 23 (List.take (Try.prog.cellsOf 23) (List.drop 1 cs.toList)) = some y1 := hf 1 _ rfl
    have g2 : DataW.trod enc Try.prog w 0 (fun _ => true) true n 24 (List.take (Try.prog.cellsOf 24) (List.drop 2 cs.toList)) = some y2 := hf 2 _ rfl
    have g3 : DataW.trod enc Try.prog w 0 (fun _ => true) true n 25 (List.take (Try.prog.cellsOf 25) (List.drop 3 cs.toList)) = some y3 := hf 3 _ rfl
    rw [cells22] at g0
    rw [cells23] at g1
    rw [cells24] at g2
    rw [cells25] at g3
    obtain ⟨c0, c1, c2, c3, hcs⟩ : ∃ c0 c1 c2 c3, cs = #[c0, c1, c2, c3] := by
      match hc : cs.toList, hl with
      | [c0, c1, c2, c3], _ => exact ⟨c0, c1, c2, c3, Array.toList_inj.1 hc⟩
    subst hcs
    have hw0 : ∀ n ∈ y0.1.weights Try.prog 22, n ≤ reachBytes := fun n hn => hw n (by simp [DataW.weights, DataW.weightsEach, Try.underlying27, hn])
    have hw1 : ∀ n ∈ y1.1.weights Try.prog 23, n ≤ reachBytes := fun n hn => hw n (by simp [DataW.weights, DataW.weightsEach, Try.underlying27, hn])
    have hw2 : ∀ n ∈ y2.1.weights Try.prog 24, n ≤ reachBytes := fun n hn => hw n (by simp [DataW.weights, DataW.weightsEach, Try.underlying27, hn])
    have hw3 : ∀ n ∈ y3.1.weights Try.prog 25, n ≤ reachBytes := fun n hn => hw n (by simp [DataW.weights, DataW.weightsEach, Try.underlying27, hn])
    obtain ⟨ts, hts⟩ := openTys (v := c0) g0 hw0
    obtain ⟨ws, hws⟩ := openWns (v := c1) g1 hw1
    obtain ⟨ss, hss⟩ := openSws (v := c2) g2 hw2
    obtain ⟨hs, hhs⟩ := openWhs (v := c3) g3 hw3
    exact ⟨ts, ws, ss, hs, _, _, _, _, rfl, hts, hws, hss, hhs⟩
structure Qu where
  wg : Int
  c : Int
  wt : Int
  wd : Int
  tq : Int
  a : Int
def Qu.v (q : Qu) : Value := .agg #[.int .i64 q.wg, .int .i64 q.c, .int .i64 q.wt, .int .i64 q.wd, .int .i64 q.tq, .int .i64 q.a]
set_option maxRecDepth 100000 in
theorem openQu {r : Reach} {b0 : Nat} {v : Value} {d : DataW H} {p : List MemPlace} (hv : Value.okWide Try.prog w r b0 29 v) (h : DataW.Trod enc Try.prog w 0 (fun _ => true) true 29 v d p) : ∃ q : Qu, v = q.v := by
  obtain ⟨cs, rfl, hsz⟩ := okWide_struct Try.underlying29 hv
  obtain ⟨fuel, hf⟩ := h
  have hf1 : DataW.trod enc Try.prog w 0 (fun _ => true) true fuel 29 cs.toList = some (d, p) := hf
  obtain ⟨xs, n, rfl, hx, hl, hlen, hf⟩ := DataW.trod_struct Try.underlying29 hf1
  rw [cells29] at hl
  match hc : cs.toList, xs, hlen, hl with
  | [c0, c1, c2, c3, c4, c5], [y0, y1, y2, y3, y4, y5], _, _ =>
    rw [hc] at hf
    have g0 : DataW.trod enc Try.prog w 0 (fun _ => true) true n 3 (List.take (Try.prog.cellsOf 3) (List.drop 0 [c0, c1, c2, c3, c4, c5])) = some y0 := hf 0 _ rfl
    rw [cells3'] at g0
    have g1 : DataW.trod enc Try.prog w 0 (fun _ => true) true n 3 (List.take (Try.prog.cellsOf 3) (List.drop 1 [c0, c1, c2, c3, c4, c5])) = some y1 := hf 1 _ rfl
    rw [cells3'] at g1
    have g2 : DataW.trod enc Try.prog w 0 (fun _ => true) true n 3 (List.take (Try.prog.cellsOf 3) (List.drop 2 [c0, c1, c2, c3, c4, c5])) = some y2 := hf 2 _ rfl
    rw [cells3'] at g2
    have g3 : DataW.trod enc Try.prog w 0 (fun _ => true) true n 3 (List.take (Try.prog.cellsOf 3) (List.drop 3 [c0, c1, c2, c3, c4, c5])) = some y3 := hf 3 _ rfl
    rw [cells3'] at g3
    have g4 : DataW.trod enc Try.prog w 0 (fun _ => true) true n 3 (List.take (Try.prog.cellsOf 3) (List.drop 4 [c0, c1, c2, c3, c4, c5])) = some y4 := hf 4 _ rfl
    rw [cells3'] at g4
    have g5 : DataW.trod enc Try.prog w 0 (fun _ => true) true n 3 (List.take (Try.prog.cellsOf 3) (List.drop 5 [c0, c1, c2, c3, c4, c5])) = some y5 := hf 5 _ rfl
    rw [cells3'] at g5
    have h0 : DataW.trod enc Try.prog w 0 (fun _ => true) true n 3 [c0] = some y0 := g0
    obtain ⟨k0, rfl, hk0⟩ := openI h0
    have h1 : DataW.trod enc Try.prog w 0 (fun _ => true) true n 3 [c1] = some y1 := g1
    obtain ⟨k1, rfl, hk1⟩ := openI h1
    have h2 : DataW.trod enc Try.prog w 0 (fun _ => true) true n 3 [c2] = some y2 := g2
    obtain ⟨k2, rfl, hk2⟩ := openI h2
    have h3 : DataW.trod enc Try.prog w 0 (fun _ => true) true n 3 [c3] = some y3 := g3
    obtain ⟨k3, rfl, hk3⟩ := openI h3
    have h4 : DataW.trod enc Try.prog w 0 (fun _ => true) true n 3 [c4] = some y4 := g4
    obtain ⟨k4, rfl, hk4⟩ := openI h4
    have h5 : DataW.trod enc Try.prog w 0 (fun _ => true) true n 3 [c5] = some y5 := g5
    obtain ⟨k5, rfl, hk5⟩ := openI h5
    exact ⟨⟨k0, k1, k2, k3, k4, k5⟩, congrArg Value.agg (Array.toList_inj.1 hc)⟩
end
end Go.Proofs.Ytijdjbkmkopmnaa
