/-
  The frame of the money laws: arguments opened, the laid variables, the post.
-/
import Derived.Test.YtempnbchiofghaaGreatDoorSo
import Derived.Test.YtempnbchiofghaaGreatDoorRows
import Derived.Test.YtempnbchiofghaaGreatDoorCards
import Derived.Test.YtempnbchiofghaaGreatDoorTie
import Derived.WalkKit
import Derived.ProofKit
import Derived.OpenShut
import Derived.LaidMore
import Derived.Lay
import Derived.Stop.Joined
import Derived.SevenTiedAt
import Derived.Deep.Slices
import Derived.Lib.SmallJoins
import Derived.Lib.LaidTab
import Derived.ChangeSlices
import Derived.ChangeMaps5
import Derived.SizedLaws
import Derived.JoinedCond
namespace Go.Proofs.YtempnbchiofghaaGreatDoor
set_option linter.unusedVariables false
set_option linter.unusedSimpArgs false
set_option maxRecDepth 100000
open Go.Joins Go.ChangeShapes Go.WideShapes Go.ChangeAt Go.RowKit Go.Deep

theorem cells3 : Tryz.prog.cellsOf 3 = 1 := by kernel_rfl
theorem cells30 : Tryz.prog.cellsOf 30 = 5 := by kernel_rfl
theorem bytes3 : Tryz.prog.bytesOf 3 = 8 := by kernel_rfl

/-- What reads as data in old memory reads so still. -/
theorem trodAll_below {H : Type} {enc : TypeId × Value → H} {P : Program} (hl : laidOutB P = true) {W W' : World} (hb : Below W.heap.size W W') :
    ∀ (ts : List TypeId) (vs : List Value) (ds : List (DataW H)) (ps : List MemPlace), (∀ t ∈ ts, P.readableRec t = true ∧ t < P.types.size) → DataW.TrodAll enc P W 0 (fun _ => true) true ts vs ds ps → (∀ x ∈ ps, x.block < W.heap.size) →
      DataW.TrodAll enc P W' 0 (fun b => decide (b < W.heap.size)) true ts vs ds ps
  | [], vs, ds, ps, _, h, _ => by
    obtain ⟨rfl, rfl, rfl⟩ := trodAll_nil h
    exact trodAll_mk0
  | t :: ts, vs, ds, ps, ht, h, hp => by
    obtain ⟨v, vs1, d, ds1, a, b, rfl, rfl, rfl, h1, h2⟩ := trodAll_cons h
    exact trodAll_cons_mk (Below.trod hl (ht t (by simp)).1 (ht t (by simp)).2 h1 hb (fun x hx => hp x (by simp [hx]))) (trodAll_below hl hb ts vs1 ds1 b (fun t h => ht t (by simp [h])) h2 (fun x hx => hp x (by simp [hx])))

/-- A law's post: it returned true, and what was there is as it was. -/
theorem post_law {H : Type} {enc : TypeId × Value → H} {f : Func} {s : ChangeSpec} {W W' : World} {args : Array Value} {ds gs : List (DataW H)} {before : List MemPlace}
    (hl : laidOutB Tryz.prog = true) (hpar : ∀ t ∈ f.params.toList, Tryz.prog.readableRec t = true ∧ t < Tryz.prog.types.size) (hsv : s.vars = []) (hr : f.resultTypes = #[4])
    (hW : DataW.Whole enc Tryz.prog f.params.toList s.vars false W args.toList ds gs before)
    (hres : (s.fn H (ds ++ gs)).results = [.lit (.bool true)]) (hargs : (s.fn H (ds ++ gs)).args = ds) (hvs : (s.fn H (ds ++ gs)).vars = []) (hb : Below W.heap.size W W') :
    s.post enc Tryz.prog f false true false false W args (.bool true) W' := by
  have hW' := hW
  obtain ⟨p, q, hA, hV, rfl, _, _⟩ := hW
  rw [hsv] at hV
  obtain ⟨rfl, rfl⟩ := trodVars_none hV
  simp only [List.append_nil] at *
  have hlt : ∀ x ∈ p, x.block < W.heap.size := fun x hx => by simpa using hW'.lt x hx
  refine ⟨_, _, _, [], p, [], hW', ?_, ?_, ?_, hb.frame _, fun h => by cases h⟩
  · rw [List.append_nil, hres, hr]
    exact trodAll_cons_mk (shut_bool Tryz.underlying4 _) trodAll_mk0
  · rw [List.append_nil, hargs]
    exact trodAll_below hl hb _ _ _ _ hpar hA hlt
  · rw [List.append_nil, hsv, hvs]
    rfl


section
variable {H : Type} {enc : TypeId × Value → H} {w : World}

theorem cell_spot {a : Addr} {v : Value} (h : w.cell? a = some v) : a.spot = none ∧ a.block < w.heap.size := by
  unfold World.cell? at h
  have hl : a.block < w.heap.size := by
    rcases Nat.lt_or_ge a.block w.heap.size with h' | h'
    · exact h'
    · rw [Array.getElem?_eq_none h'] at h; simp at h
  refine ⟨?_, hl⟩
  split at h
  · split at h
    · cases h
    · rename_i hs
      cases hx : a.spot with
      | none => rfl
      | some x => rw [hx] at hs; simp at hs
  · cases h

theorem i64_wf {n : Int} (h : (Lit.int .i64 n).wf = true) : I64 n := by
  have h1 : IntKind.i64.min = -9223372036854775808 := rfl
  have h2 : IntKind.i64.max = 9223372036854775807 := rfl
  simp only [Lit.wf, Bool.and_eq_true, decide_eq_true_eq] at h
  unfold I64
  omega

theorem openI {fuel : Nat} {v : Value} {x : DataW H × List MemPlace} (h : DataW.trod enc Tryz.prog w 0 (fun _ => true) true fuel 3 [v] = some x) : ∃ n, v = .int .i64 n ∧ I64 n := by
  obtain ⟨n, hv, _, hw⟩ := DataW.trod_int Tryz.underlying3 h
  simp only [List.cons.injEq, and_true] at hv
  exact ⟨n, hv, i64_wf hw⟩

theorem openH {fuel : Nat} {v : Value} {x : DataW H × List MemPlace} (h : DataW.trod enc Tryz.prog w 0 (fun _ => true) true fuel 22 [v] = some x) (hw : ∀ n ∈ x.1.weights Tryz.prog 22, n ≤ reachBytes) :
    ∃ b, Hl (fun k => k < w.heap.size) w v b := by
  rcases open_ints Tryz.underlying22 Tryz.underlying3 cells3 h with ⟨hv, rfl⟩ | ⟨a, len, cap, zs, hv, hb, hl, hm, hlen, rfl, hc, hz⟩
  · simp only [List.cons.injEq, and_true] at hv
    subst hv
    exact ⟨[], hl_nil _ _ _ _⟩
  · simp only [List.cons.injEq, and_true] at hv
    subst hv
    simp only [if_true] at hlen
    have hwt := hw (((zs.take len).length + (zs.drop len).length) * 8) (by
      simp [DataW.weights, Tryz.underlying22, bytes3, lits])
    have hr := reachBytes_lt
    have hlt : (zs.take len).length = len := by rw [List.length_take]; omega
    refine ⟨zs.take len, by omega, fun u hu => i64_wf (hz u (List.mem_of_mem_take hu)), some a, cap, by rw [hlt], by omega, fun hp => ?_⟩
    have h0 := hc 0 (by omega)
    obtain ⟨hs, hk⟩ := cell_spot h0
    obtain ⟨g, off, spot⟩ := a
    have hs' : spot = none := hs
    subst hs'
    refine ⟨g, off, rfl, hk, fun j u hj => ?_⟩
    have hjl : j < (zs.take len).length := (List.getElem?_eq_some_iff.1 hj).1
    have h1 := hc j (by omega)
    rw [List.getElem?_take_of_lt (by omega)] at hj
    rw [List.getD_eq_getElem?_getD, hj] at h1
    simp only [Option.getD_some] at h1
    rw [Addr.add_lit] at h1
    exact h1


theorem bulk_pos (d : DataW H) : 1 ≤ Rows.uptoBulk d := by
  cases d with
  | lit l => cases l <;> simp [Rows.uptoBulk]
  | _ => simp [Rows.uptoBulk]
theorem bulk_len (l : List (DataW H)) : l.length ≤ Rows.uptoBulkAll l := by
  induction l with
  | nil => simp [Rows.uptoBulkAll]
  | cons x r ih => have := bulk_pos x; simp only [Rows.uptoBulkAll, List.length_cons]; omega

theorem openUH {fuel : Nat} {v : Value} {x : DataW H × List MemPlace} (h : DataW.trod enc Tryz.prog w 0 (fun _ => true) true fuel 22 [v] = some x) (hw : Rows.uptoBulk x.1 ≤ 1048576) :
    ∃ b, Hl (fun k => k < w.heap.size) w v b ∧ b.length ≤ 1048576 := by
  have hx : ∀ n ∈ x.1.weights Tryz.prog 22, n ≤ reachBytes := by
    rcases open_ints Tryz.underlying22 Tryz.underlying3 cells3 h with ⟨hv, rfl⟩ | ⟨a, len, cap, zs, hv, hb, hl, hm, hlen, rfl, hc, hz⟩
    · intro n hn; simp [DataW.weights] at hn
    · intro n hn
      have h1 := bulk_len (lits (H := H) .i64 (zs.take len))
      have h2 := bulk_len (lits (H := H) .i64 (zs.drop len))
      simp only [Rows.uptoBulk] at hw
      have hall : ∀ (l : List Int), DataW.weightsAll (H := H) Tryz.prog 3 (lits .i64 l) = [] := by
        intro l
        induction l with
        | nil => rfl
        | cons y ys ih => simp only [lits, List.map_cons, DataW.weightsAll, DataW.weights, List.nil_append] at ih ⊢; exact ih
      simp only [DataW.weights, Tryz.underlying22, bytes3, hall, List.append_nil, List.mem_cons, List.not_mem_nil, or_false] at hn
      have := reachBytes_lt
      have hr : (16777216 : Nat) ≤ reachBytes := by decide
      omega
  obtain ⟨b, hb⟩ := openH h hx
  refine ⟨b, hb, ?_⟩
  obtain ⟨_, _, a0, c0, rfl, _⟩ := hb
  rcases open_ints Tryz.underlying22 Tryz.underlying3 cells3 h with ⟨hv, rfl⟩ | ⟨a, len, cap, zs, hv, hb', hl, hm, hlen, rfl, hc, hz⟩
  · simp only [List.cons.injEq, and_true, Value.slice.injEq] at hv
    omega
  · simp only [List.cons.injEq, and_true, Value.slice.injEq] at hv
    obtain ⟨_, h1, _⟩ := hv
    have h2 := bulk_len (lits (H := H) .i64 (zs.take len))
    simp only [if_true] at hlen
    simp only [Rows.uptoBulk] at hw
    have h3 : (lits (H := H) .i64 (zs.take len)).length = len := by
      simp only [lits, List.length_map, List.length_take]; omega
    omega

/-- Five integers. -/
theorem openA {r : Reach} {b0 : Nat} {v : Value} {d : DataW H} {p : List MemPlace} (hv : Value.okWide Tryz.prog w r b0 30 v) (h : DataW.Trod enc Tryz.prog w 0 (fun _ => true) true 30 v d p) :
    ∃ a b c e f : Int, v = .agg #[.int .i64 a, .int .i64 b, .int .i64 c, .int .i64 e, .int .i64 f] ∧ I64 a ∧ I64 b ∧ I64 c ∧ I64 e ∧ I64 f := by
  simp only [Value.okWide, Tryz.underlying30] at hv
  obtain ⟨cs, rfl, _, _⟩ := hv
  obtain ⟨fuel, hf0⟩ := h
  have hf1 : DataW.trod enc Tryz.prog w 0 (fun _ => true) true fuel 30 cs.toList = some (d, p) := hf0
  obtain ⟨xs, m, rfl, _, hl, hlen, hf⟩ := DataW.trod_array Tryz.underlying30 hf1
  rw [cells30] at hl
  obtain ⟨l, rfl⟩ : ∃ l : List Value, cs = l.toArray := ⟨cs.toList, by simp⟩
  rw [cells3] at hf
  match l, hl with
  | [c0, c1, c2, c3, c4], _ =>
    have key : ∀ i, i < 5 → ∃ n : Int, List.take 1 (List.drop (i * 1) [c0, c1, c2, c3, c4]) = [.int .i64 n] ∧ I64 n := fun i hi => by
      have h0 := (hf i hi).trans (List.getElem?_eq_getElem (by omega))
      obtain ⟨n, hv, _, hw⟩ := DataW.trod_int Tryz.underlying3 h0
      exact ⟨n, hv, i64_wf hw⟩
    obtain ⟨n0, e0, b0⟩ := key 0 (by omega)
    obtain ⟨n1, e1, b1⟩ := key 1 (by omega)
    obtain ⟨n2, e2, b2⟩ := key 2 (by omega)
    obtain ⟨n3, e3, b3⟩ := key 3 (by omega)
    obtain ⟨n4, e4, b4⟩ := key 4 (by omega)
    simp only [Nat.zero_mul, Nat.mul_one, List.drop_zero, List.drop_succ_cons, List.take_succ_cons, List.take_zero, List.cons.injEq, and_true] at e0 e1 e2 e3 e4
    subst e0 e1 e2 e3 e4
    exact ⟨n0, n1, n2, n3, n4, rfl, b0, b1, b2, b3, b4⟩
end

theorem laidOut : laidOutB Tryz.prog = true := by kernel_rfl
theorem own : ownKnob Tryz.prog.godebug = none := by kernel_rfl
def laidAllOf : List (String × DataW Unit) := Rows.moneyArithmeticRow.laid

theorem iface_cells {w : World} {fuel : Nat} {t : TypeId} {ms : _} {cs : List Value} {x : DataW Unit × List MemPlace} (ht : Tryz.prog.underlying t = some (.interface ms)) (h : DataW.trod (fun _ => ()) Tryz.prog w 0 (fun _ => true) false fuel t cs = some x) (hn : x.1 ≠ .nil) :
    ∃ tp p, cs = [.iface tp p] := by
  cases fuel with
  | zero => simp [DataW.trod] at h
  | succ n =>
    unfold DataW.trod at h
    rw [ht] at h
    split at h <;> simp_all
    subst h
    exact hn rfl

theorem g4 : Tryz.prog.globalNamed "internal/strconv.uint64pow10" = some 4 := by kernel_rfl
theorem t4 : (Tryz.prog.globals[4]?).map (·.type) = some 116 := by kernel_rfl
theorem g3 : Tryz.prog.globalNamed "strconv.ErrRange" = some 3 := by kernel_rfl
theorem t3 : (Tryz.prog.globals[3]?).map (·.type) = some 60 := by kernel_rfl
theorem u116 : Tryz.prog.underlying 116 = some (.array 20 63) := by kernel_rfl
theorem u63 : Tryz.prog.underlying 63 = some (.int .u64) := by kernel_rfl
theorem u60 : ∃ ms, Tryz.prog.underlying 60 = some (.interface ms) := ⟨#[("Error", 147)], by kernel_rfl⟩

/-- The laid variables are there. -/
theorem lk_of_laid {W : World} (h : laidMetH Tryz.prog laidAllOf W) : LK W := by
  unfold laidAllOf at h
  rw [MakeChecks.laidMetH_plain _ _ _ (by kernel_rfl)] at h
  obtain ⟨ps, ⟨_, _, _, _, _, _, _, _, _, _, ⟨_, _, _, _, _, _, _, _, _, _, ⟨g, t, cs, fuel, p, q, hg, ht, hv, hd, ⟨_, _, _, _, _, _, _, _, _, _, ⟨g', t', cs', fuel', p', q', hg', ht', hv', hd', _⟩, _⟩, _⟩, _⟩, _⟩, _⟩ := h
  obtain rfl := Option.some.inj (g4.symm.trans hg)
  obtain rfl := Option.some.inj (t4.symm.trans ht)
  obtain rfl := Option.some.inj (g3.symm.trans hg')
  obtain rfl := Option.some.inj (t3.symm.trans ht')
  refine ⟨?_, ?_⟩
  · unfold Lib.TabIs
    rw [hv, ← Lib.cells_of_tab u116 u63 (by kernel_rfl) (by kernel_rfl) (zs := Lib.pow10Tab) hd]
  · obtain ⟨ms, hms⟩ := u60
    obtain ⟨tp, p, e⟩ := iface_cells hms hd' (by simp [Rows.laid_strconv_ErrRange])
    refine ⟨tp, p, ?_⟩
    rw [hv']
    congr 1
    apply Array.toList_inj.1
    exact e

/-- A world that meets the laid condition. -/
theorem laidAll_met (os : Os) (args : Array Value) : laidMetH Tryz.prog laidAllOf ((World.laidAll Tryz.prog os laidAllOf).forCall (fun _ _ => 0) ⟨#[], args, []⟩).memory := by
  rw [MakeChecks.laidMetH_plain _ _ _ (by kernel_rfl)]
  exact laidMet_laidAll _ (by kernel_rfl) (by kernel_rfl)

end Go.Proofs.YtempnbchiofghaaGreatDoor
