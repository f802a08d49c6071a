/-
  The frame of the calendar's laws: arguments opened, the laid table of the months, the post.
-/
import Derived.Test.YtciopemodfpecaaDoorLg
import Derived.Test.YtciopemodfpecaaDoorRows
import Derived.Test.YtciopemodfpecaaDoorCards
import Derived.Test.YtciopemodfpecaaDoorTie
import Derived.WalkKit
import Derived.ProofKit
import Derived.OpenShut
import Derived.LaidMore
import Derived.Stop.Joined
import Derived.SevenTiedAt
import Derived.Deep.Slices
import Derived.Lib.SmallJoins
import Derived.ChangeSlices
import Derived.SizedLaws
namespace Go.Proofs.YtciopemodfpecaaDoor
set_option linter.unusedVariables false
set_option linter.unusedSimpArgs false
set_option maxRecDepth 100000
open Go.Joins Go.ChangeShapes Go.WideShapes Go.ChangeAt Go.RowKit Go.Deep

theorem cells3 : Tryd.prog.cellsOf 3 = 1 := by kernel_rfl
theorem cells23 : Tryd.prog.cellsOf 23 = 2 := by kernel_rfl
theorem cells24 : Tryd.prog.cellsOf 24 = 14 := by kernel_rfl
theorem cells25 : Tryd.prog.cellsOf 25 = 1 := by kernel_rfl
theorem cells27 : Tryd.prog.cellsOf 27 = 15 := by kernel_rfl
theorem cells40 : Tryd.prog.cellsOf 40 = 3 := by kernel_rfl
theorem cells78 : Tryd.prog.cellsOf 78 = 12 := by kernel_rfl
theorem bytes3 : Tryd.prog.bytesOf 3 = 8 := by kernel_rfl

/-- What reads as data in old memory reads so still. -/
theorem trodAll_below {H : Type} {enc : TypeId × Value → H} {P : Program} (hl : laidOutB P = true) {W W' : World} (hb : Below W.heap.size W W') :
    ∀ (ts : List TypeId) (vs : List Value) (ds : List (DataW H)) (ps : List MemPlace), (∀ t ∈ ts, P.readableRec t = true ∧ t < P.types.size) → DataW.TrodAll enc P W 0 (fun _ => true) true ts vs ds ps → (∀ x ∈ ps, x.block < W.heap.size) →
      DataW.TrodAll enc P W' 0 (fun b => decide (b < W.heap.size)) true ts vs ds ps
  | [], vs, ds, ps, _, h, _ => by
    obtain ⟨rfl, rfl, rfl⟩ := trodAll_nil h
    exact trodAll_mk0
  | t :: ts, vs, ds, ps, ht, h, hp => by
    obtain ⟨v, vs1, d, ds1, a, b, rfl, rfl, rfl, h1, h2⟩ := trodAll_cons h
    exact trodAll_cons_mk (Below.trod hl (ht t (by simp)).1 (ht t (by simp)).2 h1 hb (fun x hx => hp x (by simp [hx]))) (trodAll_below hl hb ts vs1 ds1 b (fun t h => ht t (by simp [h])) h2 (fun x hx => hp x (by simp [hx])))

/-- A law's post: it returned true, and what was there is as it was. -/
theorem post_law {H : Type} {enc : TypeId × Value → H} {f : Func} {s : ChangeSpec} {W W' : World} {args : Array Value} {ds gs : List (DataW H)} {before : List MemPlace}
    (hl : laidOutB Tryd.prog = true) (hpar : ∀ t ∈ f.params.toList, Tryd.prog.readableRec t = true ∧ t < Tryd.prog.types.size) (hsv : s.vars = []) (hr : f.resultTypes = #[4])
    (hW : DataW.Whole enc Tryd.prog f.params.toList s.vars false W args.toList ds gs before)
    (hres : (s.fn H (ds ++ gs)).results = [.lit (.bool true)]) (hargs : (s.fn H (ds ++ gs)).args = ds) (hvs : (s.fn H (ds ++ gs)).vars = []) (hb : Below W.heap.size W W') :
    s.post enc Tryd.prog f false true false false W args (.bool true) W' := by
  have hW' := hW
  obtain ⟨p, q, hA, hV, rfl, _, _⟩ := hW
  rw [hsv] at hV
  obtain ⟨rfl, rfl⟩ := trodVars_none hV
  simp only [List.append_nil] at *
  have hlt : ∀ x ∈ p, x.block < W.heap.size := fun x hx => by simpa using hW'.lt x hx
  refine ⟨_, _, _, [], p, [], hW', ?_, ?_, ?_, hb.frame _, fun h => by cases h⟩
  · rw [List.append_nil, hres, hr]
    exact trodAll_cons_mk (shut_bool Tryd.underlying4 _) trodAll_mk0
  · rw [List.append_nil, hargs]
    exact trodAll_below hl hb _ _ _ _ hpar hA hlt
  · rw [List.append_nil, hsv, hvs]
    rfl


section
variable {H : Type} {enc : TypeId × Value → H} {w : World}

theorem cell_spot {a : Addr} {v : Value} (h : w.cell? a = some v) : a.spot = none ∧ a.block < w.heap.size := by
  unfold World.cell? at h
  have hl : a.block < w.heap.size := by
    rcases Nat.lt_or_ge a.block w.heap.size with h' | h'
    · exact h'
    · rw [Array.getElem?_eq_none h'] at h; simp at h
  refine ⟨?_, hl⟩
  split at h
  · split at h
    · cases h
    · rename_i hs
      cases hx : a.spot with
      | none => rfl
      | some x => rw [hx] at hs; simp at hs
  · cases h

theorem i64_wf {n : Int} (h : (Lit.int .i64 n).wf = true) : I64 n := by
  have h1 : IntKind.i64.min = -9223372036854775808 := rfl
  have h2 : IntKind.i64.max = 9223372036854775807 := rfl
  simp only [Lit.wf, Bool.and_eq_true, decide_eq_true_eq] at h
  unfold I64
  omega

theorem openI {fuel : Nat} {v : Value} {x : DataW H × List MemPlace} (h : DataW.trod enc Tryd.prog w 0 (fun _ => true) true fuel 3 [v] = some x) : ∃ n, v = .int .i64 n ∧ I64 n := by
  obtain ⟨n, hv, _, hw⟩ := DataW.trod_int Tryd.underlying3 h
  simp only [List.cons.injEq, and_true] at hv
  exact ⟨n, hv, i64_wf hw⟩

theorem openSp {fuel : Nat} {cs : List Value} {x : DataW H × List MemPlace} (h : DataW.trod enc Tryd.prog w 0 (fun _ => true) true fuel 23 cs = some x) : ∃ s : Int × Int, cs = [.int .i64 s.1, .int .i64 s.2] ∧ I64 s.1 ∧ I64 s.2 := by
  obtain ⟨xs, n, rfl, rfl, hl, hlen, hf⟩ := DataW.trod_struct Tryd.underlying23 h
  rw [cells23] at hl
  match xs, hlen, cs, hl with
  | [y0, y1], _, [c0, c1], _ =>
    have g0 : DataW.trod enc Tryd.prog w 0 (fun _ => true) true n 3 (List.take (Tryd.prog.cellsOf 3) (List.drop 0 [c0, c1])) = some y0 := hf 0 _ rfl
    have g1 : DataW.trod enc Tryd.prog w 0 (fun _ => true) true n 3 (List.take (Tryd.prog.cellsOf 3) (List.drop 1 [c0, c1])) = some y1 := hf 1 _ rfl
    rw [cells3] at g0 g1
    have h0 : DataW.trod enc Tryd.prog w 0 (fun _ => true) true n 3 [c0] = some y0 := g0
    have h1 : DataW.trod enc Tryd.prog w 0 (fun _ => true) true n 3 [c1] = some y1 := g1
    obtain ⟨k, rfl, hk⟩ := openI h0
    obtain ⟨m, rfl, hm⟩ := openI h1
    exact ⟨(k, m), rfl, hk, hm⟩

theorem openDt0 {fuel : Nat} {cs : List Value} {x : DataW H × List MemPlace} (h : DataW.trod enc Tryd.prog w 0 (fun _ => true) true fuel 40 cs = some x) : ∃ a b c : Int, cs = [.int .i64 a, .int .i64 b, .int .i64 c] ∧ I64 a ∧ I64 b ∧ I64 c := by
  obtain ⟨xs, n, rfl, rfl, hl, hlen, hf⟩ := DataW.trod_struct Tryd.underlying40 h
  rw [cells40] at hl
  match xs, hlen, cs, hl with
  | [y0, y1, y2], _, [c0, c1, c2], _ =>
    have g0 : DataW.trod enc Tryd.prog w 0 (fun _ => true) true n 3 (List.take (Tryd.prog.cellsOf 3) (List.drop 0 [c0, c1, c2])) = some y0 := hf 0 _ rfl
    have g1 : DataW.trod enc Tryd.prog w 0 (fun _ => true) true n 3 (List.take (Tryd.prog.cellsOf 3) (List.drop 1 [c0, c1, c2])) = some y1 := hf 1 _ rfl
    have g2 : DataW.trod enc Tryd.prog w 0 (fun _ => true) true n 3 (List.take (Tryd.prog.cellsOf 3) (List.drop 2 [c0, c1, c2])) = some y2 := hf 2 _ rfl
    rw [cells3] at g0 g1 g2
    have h0 : DataW.trod enc Tryd.prog w 0 (fun _ => true) true n 3 [c0] = some y0 := g0
    have h1 : DataW.trod enc Tryd.prog w 0 (fun _ => true) true n 3 [c1] = some y1 := g1
    have h2 : DataW.trod enc Tryd.prog w 0 (fun _ => true) true n 3 [c2] = some y2 := g2
    obtain ⟨k, rfl, hk⟩ := openI h0
    obtain ⟨m, rfl, hm⟩ := openI h1
    obtain ⟨l, rfl, hl⟩ := openI h2
    exact ⟨k, m, l, rfl, hk, hm, hl⟩
theorem openDt {r : Reach} {b0 : Nat} {v : Value} {d : DataW H} {p : List MemPlace} (hv : Value.okWide Tryd.prog w r b0 40 v) (h : DataW.Trod enc Tryd.prog w 0 (fun _ => true) true 40 v d p) :
    ∃ a b c : Int, v = .agg #[.int .i64 a, .int .i64 b, .int .i64 c] ∧ I64 a ∧ I64 b ∧ I64 c := by
  obtain ⟨cs, rfl, hsz⟩ := okWide_struct Tryd.underlying40 hv
  obtain ⟨fuel, hf⟩ := h
  obtain ⟨a, b, c, h1, h2⟩ := openDt0 (cs := cs.toList) hf
  refine ⟨a, b, c, ?_, h2⟩
  have : cs = #[.int .i64 a, .int .i64 b, .int .i64 c] := by
    apply Array.toList_inj.1
    exact h1
  rw [this]

/-- Seven spans. -/
theorem openArr {fuel : Nat} {cs : List Value} {x : DataW H × List MemPlace} (h : DataW.trod enc Tryd.prog w 0 (fun _ => true) true fuel 24 cs = some x) : ∃ op : List (Int × Int), cs = cells op ∧ op.length = 7 ∧ ∀ s ∈ op, I64 s.1 ∧ I64 s.2 := by
  obtain ⟨xs, m, rfl, rfl, hl, hlen, hf⟩ := DataW.trod_array Tryd.underlying24 h
  rw [cells24] at hl
  rw [cells23] at hf
  match cs, hl with
  | [v0, v1, v2, v3, v4, v5, v6, v7, v8, v9, v10, v11, v12, v13], _ =>
    have key : ∀ i, i < 7 → ∃ s : Int × Int, List.take 2 (List.drop (i * 2) [v0, v1, v2, v3, v4, v5, v6, v7, v8, v9, v10, v11, v12, v13]) = [.int .i64 s.1, .int .i64 s.2] ∧ I64 s.1 ∧ I64 s.2 := fun i hi => openSp ((hf i hi).trans (List.getElem?_eq_getElem (by omega)))
    obtain ⟨s0, e0, b0⟩ := key 0 (by omega)
    obtain ⟨s1, e1, b1⟩ := key 1 (by omega)
    obtain ⟨s2, e2, b2⟩ := key 2 (by omega)
    obtain ⟨s3, e3, b3⟩ := key 3 (by omega)
    obtain ⟨s4, e4, b4⟩ := key 4 (by omega)
    obtain ⟨s5, e5, b5⟩ := key 5 (by omega)
    obtain ⟨s6, e6, b6⟩ := key 6 (by omega)
    simp only [Nat.zero_mul, Nat.one_mul, Nat.reduceMul, List.drop_zero, List.drop_succ_cons, List.take_succ_cons, List.take_zero, List.cons.injEq, and_true] at e0 e1 e2 e3 e4 e5 e6
    obtain ⟨rfl, rfl⟩ := e0
    obtain ⟨rfl, rfl⟩ := e1
    obtain ⟨rfl, rfl⟩ := e2
    obtain ⟨rfl, rfl⟩ := e3
    obtain ⟨rfl, rfl⟩ := e4
    obtain ⟨rfl, rfl⟩ := e5
    obtain ⟨rfl, rfl⟩ := e6
    refine ⟨[s0, s1, s2, s3, s4, s5, s6], rfl, rfl, fun s hs => ?_⟩
    simp only [List.mem_cons, List.not_mem_nil, or_false] at hs
    rcases hs with rfl | rfl | rfl | rfl | rfl | rfl | rfl
    · exact b0
    · exact b1
    · exact b2
    · exact b3
    · exact b4
    · exact b5
    · exact b6

theorem openH {fuel : Nat} {v : Value} {x : DataW H × List MemPlace} (h : DataW.trod enc Tryd.prog w 0 (fun _ => true) true fuel 25 [v] = some x) (hw : ∀ n ∈ x.1.weights Tryd.prog 25, n ≤ reachBytes) :
    ∃ b, Hl (fun k => k < w.heap.size) w v b := by
  rcases open_ints Tryd.underlying25 Tryd.underlying3 cells3 h with ⟨hv, rfl⟩ | ⟨a, len, cap, zs, hv, hb, hl, hm, hlen, rfl, hc, hz⟩
  · simp only [List.cons.injEq, and_true] at hv
    subst hv
    exact ⟨[], hl_nil _ _ _ _⟩
  · simp only [List.cons.injEq, and_true] at hv
    subst hv
    simp only [if_true] at hlen
    have hwt := hw (((zs.take len).length + (zs.drop len).length) * 8) (by
      simp [DataW.weights, Tryd.underlying25, bytes3, lits])
    have hr := reachBytes_lt
    have hlt : (zs.take len).length = len := by rw [List.length_take]; omega
    refine ⟨zs.take len, by omega, fun u hu => i64_wf (hz u (List.mem_of_mem_take hu)), some a, cap, by rw [hlt], by omega, fun hp => ?_⟩
    have h0 := hc 0 (by omega)
    obtain ⟨hs, hk⟩ := cell_spot h0
    obtain ⟨g, off, spot⟩ := a
    have hs' : spot = none := hs
    subst hs'
    refine ⟨g, off, rfl, hk, fun j u hj => ?_⟩
    have hjl : j < (zs.take len).length := (List.getElem?_eq_some_iff.1 hj).1
    have h1 := hc j (by omega)
    rw [List.getElem?_take_of_lt (by omega)] at hj
    rw [List.getD_eq_getElem?_getD, hj] at h1
    simp only [Option.getD_some] at h1
    rw [Addr.add_lit] at h1
    exact h1

theorem openCal {r : Reach} {b0 : Nat} {v : Value} {d : DataW H} {p : List MemPlace} (hv : Value.okWide Tryd.prog w r b0 27 v) (h : DataW.Trod enc Tryd.prog w 0 (fun _ => true) true 27 v d p) (hw : ∀ n ∈ d.weights Tryd.prog 27, n ≤ reachBytes) :
    ∃ cs op hol, v = .agg cs ∧ Cal (fun k => k < w.heap.size) w cs op hol := by
  obtain ⟨cs, rfl, hsz⟩ := okWide_struct Tryd.underlying27 hv
  obtain ⟨fuel, hf0⟩ := h
  have hf1 : DataW.trod enc Tryd.prog w 0 (fun _ => true) true fuel 27 cs.toList = some (d, p) := hf0
  obtain ⟨xs, n, rfl, hx, hl, hlen, hf⟩ := DataW.trod_struct Tryd.underlying27 hf1
  rw [cells27] at hl
  match xs, hlen, hf, hx with
  | [y0, y1], _, hf, hx =>
    simp only [Prod.mk.injEq] at hx
    obtain ⟨rfl, _⟩ := hx
    have g0 : DataW.trod enc Tryd.prog w 0 (fun _ => true) true n 24 (List.take (Tryd.prog.cellsOf 24) (List.drop 0 cs.toList)) = some y0 := hf 0 _ rfl
    have g1 : DataW.trod enc Tryd.prog w 0 (fun _ => true) true n 25 (List.take (Tryd.prog.cellsOf 25) (List.drop 14 cs.toList)) = some y1 := hf 1 _ rfl
    rw [cells24] at g0
    rw [cells25] at g1
    obtain ⟨op, e1, e2, e3⟩ := openArr g0
    have hl14 : 14 < cs.toList.length := by rw [hl]; omega
    have e4 : List.take 1 (List.drop 14 cs.toList) = [cs.toList[14]] := by rw [List.drop_eq_getElem_cons hl14]; rfl
    rw [e4] at g1
    have hw3 : ∀ n ∈ y1.1.weights Tryd.prog 25, n ≤ reachBytes := fun n hn => hw n (by simp [DataW.weights, DataW.weightsEach, Tryd.underlying27, hn])
    obtain ⟨hol, hh⟩ := openH g1 hw3
    refine ⟨cs, op, hol, rfl, e2, e3, cs.toList[14], ?_, hh⟩
    apply Array.toList_inj.1
    rw [← e1]
    show cs.toList = _
    simp only [List.drop_zero]
    have := List.take_append_drop 14 cs.toList
    rw [List.drop_eq_getElem_cons hl14, List.drop_eq_nil_of_le (by rw [hl]; omega)] at this
    exact this.symm
end

theorem laidOut : laidOutB Tryd.prog = true := by kernel_rfl
theorem own : ownKnob Tryd.prog.godebug = none := by kernel_rfl
theorem gK : Tryd.prog.globalNamed "wagonpool/calendar.monthLengths" = some 0 := by kernel_rfl
theorem tK : (Tryd.prog.globals[0]?).map (·.type) = some 78 := by kernel_rfl
theorem laidK {H : Type} : (Rows.laid_wagonpool_calendar_monthLengths : DataW H) = .agg (ml.map fun x => .lit (.int .i64 x)) := rfl

/-- The laid table is there. -/
theorem mok_of_laid {W : World} (h : laidMetH Tryd.prog [("wagonpool/calendar.monthLengths", Rows.laid_wagonpool_calendar_monthLengths)] W) : MOk W := by
  rw [MakeChecks.laidMetH_plain _ _ _ (by kernel_rfl)] at h
  obtain ⟨ps, ⟨g0, t0, cs0, f0, p0, q0, hg0, ht0, hv0, hd0, _⟩, _, _⟩ := h
  obtain rfl := Option.some.inj (gK.symm.trans hg0)
  obtain rfl := Option.some.inj (tK.symm.trans ht0)
  obtain ⟨xs, m1, rfl, hx1, hlen, hn3, hel⟩ := DataW.trod_array Tryd.underlying78 hd0
  rw [cells78] at hlen
  simp only [Prod.mk.injEq] at hx1
  have hxs := hx1.1
  rw [laidK] at hxs
  simp only [DataW.agg.injEq] at hxs
  have key : ∀ i x, ml[i]? = some x → W.cell? ⟨0, i, none⟩ = some (.int .i64 x) := by
    intro i x hi
    have hil : i < 12 := by
      have := (List.getElem?_eq_some_iff.1 hi).1
      exact this
    have h0 := hel i hil
    rw [cells3, Nat.mul_one, List.getElem?_eq_getElem (by omega)] at h0
    have h2 : (cs0.toList.drop i).take 1 = [cs0.toList[i]] := by
      rw [List.drop_eq_getElem_cons (by omega)]; rfl
    rw [h2] at h0
    obtain ⟨k, e1, e2, _⟩ := DataW.trod_int Tryd.underlying3 h0
    simp only [List.cons.injEq, and_true] at e1
    have h3 := congrArg (fun l => l[i]?) hxs
    simp only [List.getElem?_map, hi, Option.map_some] at h3
    rw [List.getElem?_eq_getElem (by omega : i < xs.length)] at h3
    simp only [Option.map_some, Option.some.injEq] at h3
    rw [e2] at h3
    simp at h3
    have := World.var?_cell hg0 hv0 i
    rw [this, ← Array.getElem?_toList, List.getElem?_eq_getElem (by omega), e1, h3]
  refine ⟨?_, key⟩
  have h1 := key 0 31 rfl
  exact (cell_spot h1).2

end Go.Proofs.YtciopemodfpecaaDoor
