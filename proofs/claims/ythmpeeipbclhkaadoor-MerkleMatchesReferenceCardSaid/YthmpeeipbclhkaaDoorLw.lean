/-
  The frame of the digest's laws: arguments opened, the laid constants, the post.
-/
import Derived.Test.YthmpeeipbclhkaaDoorDi
import Derived.Test.YthmpeeipbclhkaaDoorRows
import Derived.Test.YthmpeeipbclhkaaDoorCards
import Derived.Test.YthmpeeipbclhkaaDoorTie
import Derived.WalkKit
import Derived.ProofKit
import Derived.OpenShut
import Derived.LaidMore
import Derived.Stop.Joined
import Derived.SevenTiedAt
import Derived.Deep.Slices
import Derived.Lib.SmallJoins
import Derived.ChangeSlices
import Derived.SizedLaws
namespace Go.Proofs.YthmpeeipbclhkaaDoor
open Go.Joins Go.ChangeShapes Go.WideShapes Go.ChangeAt Go.RowKit Go.Deep

theorem cells5 : Tryd.prog.cellsOf 5 = 1 := by kernel_rfl
theorem bytes5 : Tryd.prog.bytesOf 5 = 1 := by kernel_rfl
theorem cells25 : Tryd.prog.cellsOf 26 = 32 := by kernel_rfl
theorem cells73 : Tryd.prog.cellsOf 81 = 64 := by kernel_rfl
theorem cells54 : Tryd.prog.cellsOf 71 = 1 := by kernel_rfl

/-- What reads as data in old memory reads so still. -/
theorem trodAll_below {H : Type} {enc : TypeId × Value → H} {P : Program} (hl : laidOutB P = true) {W W' : World} (hb : Below W.heap.size W W') :
    ∀ (ts : List TypeId) (vs : List Value) (ds : List (DataW H)) (ps : List MemPlace), (∀ t ∈ ts, P.readableRec t = true ∧ t < P.types.size) → DataW.TrodAll enc P W 0 (fun _ => true) true ts vs ds ps → (∀ x ∈ ps, x.block < W.heap.size) →
      DataW.TrodAll enc P W' 0 (fun b => decide (b < W.heap.size)) true ts vs ds ps
  | [], vs, ds, ps, _, h, _ => by
    obtain ⟨rfl, rfl, rfl⟩ := trodAll_nil h
    exact trodAll_mk0
  | t :: ts, vs, ds, ps, ht, h, hp => by
    obtain ⟨v, vs1, d, ds1, a, b, rfl, rfl, rfl, h1, h2⟩ := trodAll_cons h
    exact trodAll_cons_mk (Below.trod hl (ht t (by simp)).1 (ht t (by simp)).2 h1 hb (fun x hx => hp x (by simp [hx]))) (trodAll_below hl hb ts vs1 ds1 b (fun t h => ht t (by simp [h])) h2 (fun x hx => hp x (by simp [hx])))

/-- A law's post: it returned true, and what was there is as it was. -/
theorem post_law {H : Type} {enc : TypeId × Value → H} {f : Func} {s : ChangeSpec} {W W' : World} {args : Array Value} {ds gs : List (DataW H)} {before : List MemPlace}
    (hl : laidOutB Tryd.prog = true) (hpar : ∀ t ∈ f.params.toList, Tryd.prog.readableRec t = true ∧ t < Tryd.prog.types.size) (hsv : s.vars = []) (hr : f.resultTypes = #[4])
    (hW : DataW.Whole enc Tryd.prog f.params.toList s.vars false W args.toList ds gs before)
    (hres : (s.fn H (ds ++ gs)).results = [.lit (.bool true)]) (hargs : (s.fn H (ds ++ gs)).args = ds) (hvs : (s.fn H (ds ++ gs)).vars = []) (hb : Below W.heap.size W W') :
    s.post enc Tryd.prog f false true false false W args (.bool true) W' := by
  have hW' := hW
  obtain ⟨p, q, hA, hV, rfl, _, _⟩ := hW
  rw [hsv] at hV
  obtain ⟨rfl, rfl⟩ := trodVars_none hV
  simp only [List.append_nil] at *
  have hlt : ∀ x ∈ p, x.block < W.heap.size := fun x hx => by simpa using hW'.lt x hx
  refine ⟨_, _, _, [], p, [], hW', ?_, ?_, ?_, hb.frame _, fun h => by cases h⟩
  · rw [List.append_nil, hres, hr]
    exact trodAll_cons_mk (shut_bool Tryd.underlying4 _) trodAll_mk0
  · rw [List.append_nil, hargs]
    exact trodAll_below hl hb _ _ _ _ hpar hA hlt
  · rw [List.append_nil, hsv, hvs]
    rfl


section
variable {H : Type} {enc : TypeId × Value → H} {w : World}

theorem cell_spot {a : Addr} {v : Value} (h : w.cell? a = some v) : a.spot = none ∧ a.block < w.heap.size := by
  unfold World.cell? at h
  have hl : a.block < w.heap.size := by
    rcases Nat.lt_or_ge a.block w.heap.size with h' | h'
    · exact h'
    · rw [Array.getElem?_eq_none h'] at h; simp at h
  refine ⟨?_, hl⟩
  split at h
  · split at h
    · cases h
    · rename_i hs
      cases hx : a.spot with
      | none => rfl
      | some x => rw [hx] at hs; simp at hs
  · cases h

theorem openB {fuel : Nat} {v : Value} {x : DataW H × List MemPlace} (h : DataW.trod enc Tryd.prog w 0 (fun _ => true) true fuel 48 [v] = some x) (hw : ∀ n ∈ x.1.weights Tryd.prog 48, n ≤ reachBytes) :
    ∃ b, Bs (fun k => k < w.heap.size) w v b := by
  rcases open_ints Tryd.underlying48 Tryd.underlying5 cells5 h with ⟨hv, rfl⟩ | ⟨a, len, cap, zs, hv, hb, hl, hm, hlen, rfl, hc, hz⟩
  · simp only [List.cons.injEq, and_true] at hv
    subst hv
    exact ⟨[], Bs.nil _ _⟩
  · simp only [List.cons.injEq, and_true] at hv
    subst hv
    simp only [if_true] at hlen
    have hwt := hw ((zs.take len).length + (zs.drop len).length) (by
      simp [DataW.weights, Tryd.underlying48, bytes5, lits])
    have hr := reachBytes_lt
    have hlt : (zs.take len).length = len := by rw [List.length_take]; omega
    refine ⟨zs.take len, by omega, fun u hu => ?_, some a, cap, by rw [hlt], by omega, fun hp => ?_⟩
    · have h1 := hz u (List.mem_of_mem_take hu)
      have h2 : IntKind.u8.min = 0 := rfl
      have h3 : IntKind.u8.max = 255 := rfl
      simp only [Lit.wf, Bool.and_eq_true, decide_eq_true_eq] at h1
      omega
    · have h0 := hc 0 (by omega)
      obtain ⟨hs, hk⟩ := cell_spot h0
      obtain ⟨g, off, spot⟩ := a
      have hs' : spot = none := hs
      subst hs'
      refine ⟨g, off, rfl, hk, fun j u hj => ?_⟩
      have hjl : j < (zs.take len).length := (List.getElem?_eq_some_iff.1 hj).1
      have h1 := hc j (by omega)
      rw [List.getElem?_take_of_lt (by omega)] at hj
      rw [List.getD_eq_getElem?_getD, hj] at h1
      simp only [Option.getD_some] at h1
      rw [add_off] at h1
      exact h1


theorem openDig0 {fuel : Nat} {cs : List Value} {x : DataW H × List MemPlace} (h : DataW.trod enc Tryd.prog w 0 (fun _ => true) true fuel 26 cs = some x) : ∃ D, cs = byteVals D ∧ D.length = 32 ∧ ∀ u ∈ D, 0 ≤ u ∧ u ≤ 255 := by
  obtain ⟨xs, m, rfl, rfl, hl, hlen, hf⟩ := DataW.trod_array Tryd.underlying26 h
  rw [cells25] at hl
  have hall : ∀ i, i < 32 → ∃ k : Int, cs[i]? = some (.int .u8 k) ∧ 0 ≤ k ∧ k ≤ 255 := by
    intro i hi
    have h1 := hf i hi
    rw [cells5, Nat.mul_one, List.getElem?_eq_getElem (by omega)] at h1
    have h2 : (cs.drop i).take 1 = [cs[i]] := by
      rw [List.drop_eq_getElem_cons (by omega)]; rfl
    rw [h2] at h1
    obtain ⟨k, hv, _, hw⟩ := DataW.trod_int Tryd.underlying5 h1
    simp only [List.cons.injEq, and_true] at hv
    have e2 : IntKind.u8.min = 0 := rfl
    have e3 : IntKind.u8.max = 255 := rfl
    simp only [Lit.wf, Bool.and_eq_true, decide_eq_true_eq] at hw
    exact ⟨k, by rw [List.getElem?_eq_getElem (by omega), hv], by omega, by omega⟩
  refine ⟨cs.map fun v => (match v with | .int _ n => n | _ => 0), ?_, by simp [hl], ?_⟩
  · apply List.ext_getElem?
    intro i
    unfold byteVals
    rw [List.map_map, List.getElem?_map]
    by_cases hi : i < 32
    · obtain ⟨k, hk, _⟩ := hall i hi
      rw [hk]; rfl
    · rw [List.getElem?_eq_none (by omega)]; rfl
  · intro u hu
    obtain ⟨v, hv, rfl⟩ := List.mem_map.1 hu
    obtain ⟨i, hi, rfl⟩ := List.mem_iff_getElem.1 hv
    obtain ⟨k, hk, h0, h1⟩ := hall i (by omega)
    rw [List.getElem?_eq_getElem hi] at hk
    rw [Option.some.inj hk]
    exact ⟨h0, h1⟩
theorem openDig {r : Reach} {b0 : Nat} {v : Value} {d : DataW H} {p : List MemPlace} (hv : Value.okWide Tryd.prog w r b0 26 v) (h : DataW.Trod enc Tryd.prog w 0 (fun _ => true) true 26 v d p) :
    ∃ D, v = .agg (byteVals D).toArray ∧ D.length = 32 ∧ ∀ u ∈ D, 0 ≤ u ∧ u ≤ 255 := by
  simp only [Value.okWide, Tryd.underlying26] at hv
  obtain ⟨cs, rfl, _, _⟩ := hv
  obtain ⟨fuel, hf⟩ := h
  obtain ⟨D, h1, h2, h3⟩ := openDig0 hf
  refine ⟨D, ?_, h2, h3⟩
  rw [← h1]
  rfl
end

theorem gK : Tryd.prog.globalNamed "wagonpool/digest.roundConstants" = some 0 := by kernel_rfl
theorem tK : (Tryd.prog.globals[0]?).map (·.type) = some 81 := by kernel_rfl
theorem u64_wf {n : Int} (h : (Lit.int .u64 n).wf = true) : 0 ≤ n ∧ n < 18446744073709551616 := by
  have h1 : IntKind.u64.min = 0 := rfl
  have h2 : IntKind.u64.max = 18446744073709551615 := rfl
  simp only [Lit.wf, Bool.and_eq_true, decide_eq_true_eq] at h
  omega

theorem laidOut : laidOutB Tryd.prog = true := by kernel_rfl
theorem own : ownKnob Tryd.prog.godebug = none := by kernel_rfl

theorem laidK {H : Type} : (Rows.laid_wagonpool_digest_roundConstants : DataW H) = .agg (kk.map fun x => .lit (.int .u32 x)) := rfl

/-- The laid constants are there. -/
theorem kok_of_laid {W : World} (h : laidMetH Tryd.prog [("wagonpool/digest.roundConstants", Rows.laid_wagonpool_digest_roundConstants)] W) : KOk W := by
  rw [MakeChecks.laidMetH_plain _ _ _ (by kernel_rfl)] at h
  obtain ⟨ps, ⟨g0, t0, cs0, f0, p0, q0, hg0, ht0, hv0, hd0, _⟩, _, _⟩ := h
  obtain rfl := Option.some.inj (gK.symm.trans hg0)
  obtain rfl := Option.some.inj (tK.symm.trans ht0)
  obtain ⟨xs, m1, rfl, hx1, hlen, hn3, hel⟩ := DataW.trod_array Tryd.underlying81 hd0
  rw [cells73] at hlen
  simp only [Prod.mk.injEq] at hx1
  have hxs := hx1.1
  rw [laidK] at hxs
  simp only [DataW.agg.injEq] at hxs
  have key : ∀ i x, kk[i]? = some x → W.cell? ⟨0, i, none⟩ = some (.int .u32 x) := by
    intro i x hi
    have hil : i < 64 := by
      have := (List.getElem?_eq_some_iff.1 hi).1
      exact this
    have h0 := hel i hil
    rw [cells54, Nat.mul_one, List.getElem?_eq_getElem (by omega)] at h0
    have h2 : (cs0.toList.drop i).take 1 = [cs0.toList[i]] := by
      rw [List.drop_eq_getElem_cons (by omega)]; rfl
    rw [h2] at h0
    obtain ⟨k, e1, e2, _⟩ := DataW.trod_int Tryd.underlying71 h0
    simp only [List.cons.injEq, and_true] at e1
    have h3 := congrArg (fun l => l[i]?) hxs
    simp only [List.getElem?_map, hi, Option.map_some] at h3
    rw [List.getElem?_eq_getElem (by omega : i < xs.length)] at h3
    simp only [Option.map_some, Option.some.injEq] at h3
    rw [e2] at h3
    simp at h3
    have := World.var?_cell hg0 hv0 i
    rw [this, ← Array.getElem?_toList, List.getElem?_eq_getElem (by omega), e1, h3]
  refine ⟨?_, key⟩
  have h1 := key 0 1116352408 rfl
  exact (cell_spot h1).2

end Go.Proofs.YthmpeeipbclhkaaDoor
