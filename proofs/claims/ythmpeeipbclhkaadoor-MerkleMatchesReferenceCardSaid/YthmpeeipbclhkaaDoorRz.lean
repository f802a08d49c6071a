/-
  Walks of the reference's functions: Pair, With, power, Depth, Pad, Parent, sibling, Climb, Includes, At, First, above, node, Node, Root, Path.
-/
import Derived.Test.YthmpeeipbclhkaaDoorFd
import Derived.Test.YthmpeeipbclhkaaDoorGa
import Derived.Test.YthmpeeipbclhkaaDoorSp
import Derived.Deep.CutRange
import Derived.Test.YthmpeeipbclhkaaDoorSm
import Derived.Test.YthmpeeipbclhkaaDoorFg
import Derived.Test.YthmpeeipbclhkaaDoorIn
import Derived.StillTailTactics
import Derived.Test.YthmpeeipbclhkaaDoorEq
import Derived.Test.YthmpeeipbclhkaaDoorFi
import Derived.Test.YthmpeeipbclhkaaDoorSe
namespace Go.Proofs.YthmpeeipbclhkaaDoor
set_option linter.unusedSimpArgs false
set_option linter.unusedVariables false
open Go.RowKit

theorem PdS.bs {w : World} {v : Value} {l : List Int} {wr : World} (h : PdS w v l wr) (hl : l.length ≤ 140737488355328) (hr : ∀ u ∈ l, 0 ≤ u ∧ u ≤ 255) : Bs (fun k => w.heap.size ≤ k ∧ k < wr.heap.size) wr v l :=
  (Bs.ofOwn h.1 hl hr).kept (fun _ _ => rfl) (fun k hk => ⟨hk.1, hk.2.1⟩)

set_option maxRecDepth 100000 in
set_option maxHeartbeats 2000000 in
theorem pair_any (a b : List Int) (w : World) (ha : Dg a) (hb : Dg b) :
    Calls Tryd.prog 33 #[.agg (byteVals a).toArray, .agg (byteVals b).toArray] w fun e w' => ∃ u, e = .returned u ∧ Below w.heap.size w w' ∧ Bs (fun k => k < w'.heap.size) w' u (a ++ b) := by
  have hal := ha.1; have hbl := hb.1
  have hrA : RowB ((w.alloc (.cells (byteVals a).toArray 26)).alloc (.cells (byteVals b).toArray 26)) w.heap.size 26 a := (RowB.new w 26 a).kept (heap_alloc_old _ _ (by simp))
  have hrB : RowB ((w.alloc (.cells (byteVals a).toArray 26)).alloc (.cells (byteVals b).toArray 26)) (w.heap.size + 1) 26 b := RowB.new' _ (by simp) rfl
  have hbW : Below w.heap.size w ((w.alloc (.cells (byteVals a).toArray 26)).alloc (.cells (byteVals b).toArray 26)) := (ball (Below.refl _ _) _).alloc (by simp) _
  have hsW : ((w.alloc (.cells (byteVals a).toArray 26)).alloc (.cells (byteVals b).toArray 26)).heap.size = w.heap.size + 1 + 1 := by simp
  have HA := Lib.hid hrA; have HB := Lib.hid hrB; have HW := Lib.hid hbW; have HDA := Lib.hid ha; have HDB := Lib.hid hb
  clear hrA hrB hbW ha hb
  go_enter Tryd.func33, Tryd.ntmps33
  go_wp2_with fail
  generalize ((w.alloc (.cells (byteVals a).toArray 26)).alloc (.cells (byteVals b).toArray 26)) = W at *
  have hP0 : Hid (PdS W (.slice (some ⟨W.heap.size, 0, none⟩) 0 0) ([] : List Int) (W.alloc (.cells #[] 5))) := Lib.hid ⟨World.ownsRow_made W #[] 0 (Nat.le_refl _) (by unfold maxLen; omega) (by simp), ball (Below.refl _ _) _⟩
  go_loopw [5, 6] (fun x i wr => ∃ k : Nat, k ≤ 32 ∧ i = .int .i64 k ∧ Hid (PdS W x (a.take k) wr)) (fun _ i _ => 32 - (intOf i).toNat)
  case atStart => exact ⟨0, by omega, rfl, by rw [← hsW]; exact hP0⟩
  case round =>
    obtain ⟨k, hk, rfl, H⟩ := hrel
    obtain ⟨xa, xc, rfl⟩ := H.out.len
    by_cases hlt : k < 32
    · have hx : a[k]? = some (a[k]'(by omega)) := List.getElem?_eq_getElem (by omega)
      have hr := HDA.out.2 _ (List.getElem_mem (l := a) (n := k) (by omega))
      generalize (a[k]'(by omega)) = x at hx hr
      have hc : wr.cell? ⟨w.heap.size, k, none⟩ = some (.int .u8 x) := (World.cell?_of_block (w := W) (H.out.2.block _ (by show w.heap.size < _; omega))).trans (HA.out.cell hx)
      obtain ⟨v', w', hr2, hP⟩ := append_one W wr _ _ x hr H.out (by rw [List.length_take]; omega)
      have htk : a.take k ++ [x] = a.take (k + 1) := by rw [List.take_add_one, hx]; rfl
      rw [htk] at hP
      have hlt2 : (k : Int) < 32 := by omega
      generalize (a.take k).length = m at hr2 H ⊢
      have R := Lib.hid hr2; have HP := Lib.hid hP
      clear hr2 hP hx htk hr
      go_wp2_with (at_builtin; refine wp_app rfl rfl rfl (.tmp 13) (.tmp 17) rfl rfl rfl R.out ?_)
      go_roundw
      case rel => exact ⟨k + 1, by omega, by go_num, HP⟩
      case measure => simp [intOf]; omega
    · have hk2 : k = 32 := by omega
      subst hk2
      have hT : a.take 32 = a := List.take_of_length_le (by omega)
      rw [hT] at H
      rw [hT]
      clear hlt hP0
      go_wp2
      rw [show ((32 : Nat) : Int) = 32 from rfl]
      go_loopw [5, 7] (fun x i wr => ∃ k : Nat, k ≤ 32 ∧ i = .int .i64 k ∧ Hid (PdS W x (a ++ b.take k) wr)) (fun _ i _ => 32 - (intOf i).toNat)
      case atStart => exact ⟨0, by omega, rfl, by rw [List.take_zero, List.append_nil]; exact H⟩
      case round =>
        clear H
        obtain ⟨k, hk, rfl, H⟩ := hrel
        obtain ⟨ya, yc, rfl⟩ := H.out.len
        by_cases hlt : k < 32
        · have hx : b[k]? = some (b[k]'(by omega)) := List.getElem?_eq_getElem (by omega)
          have hr := HDB.out.2 _ (List.getElem_mem (l := b) (n := k) (by omega))
          generalize (b[k]'(by omega)) = x at hx hr
          have hc : wr.cell? ⟨w.heap.size + 1, k, none⟩ = some (.int .u8 x) := (World.cell?_of_block (w := W) (H.out.2.block _ (by show w.heap.size + 1 < _; omega))).trans (HB.out.cell hx)
          obtain ⟨v', w', hr2, hP⟩ := append_one W wr _ _ x hr H.out (by rw [List.length_append, List.length_take]; omega)
          have htk : a ++ b.take k ++ [x] = a ++ b.take (k + 1) := by rw [List.take_add_one, hx, List.append_assoc]; rfl
          rw [htk] at hP
          have hlt2 : (k : Int) < 32 := by omega
          generalize (a ++ b.take k).length = m at hr2 H ⊢
          have R := Lib.hid hr2; have HP := Lib.hid hP
          clear hr2 hP hx htk hr
          go_wp2_with (at_builtin; refine wp_app rfl rfl rfl (.tmp 23) (.tmp 27) rfl rfl rfl R.out ?_)
          go_roundw
          case rel => exact ⟨k + 1, by omega, by go_num, HP⟩
          case measure => simp [intOf]; omega
        · have hk2 : k = 32 := by omega
          subst hk2
          have hT : b.take 32 = b := List.take_of_length_le (by omega)
          rw [hT] at H
          rw [hT]
          go_wp2
          go_ret
          exact ⟨_, rfl, HW.out.trans (H.out.2.mono (by omega)), (H.out.bs (by rw [List.length_append]; omega) (by
            intro u hu
            rcases List.mem_append.1 hu with h | h
            · exact HDA.out.2 u h
            · exact HDB.out.2 u h)).kept (fun _ _ => rfl) (fun k hk => hk.2)⟩
end Go.Proofs.YthmpeeipbclhkaaDoor

namespace Go.Proofs.YthmpeeipbclhkaaDoor
set_option linter.unusedSimpArgs false
set_option linter.unusedVariables false
open Go.RowKit

/-- A slice of digests under way, of the call's own. -/
theorem ApS.new (w : World) : ApS w [] (.slice (some ⟨w.heap.size, 0, none⟩) 0 0) (w.alloc (.cells #[] 26)) :=
  ⟨World.ownsRow_made w #[] 0 (Nat.le_refl _) (by unfold maxLen; omega) (by simp), ball (Below.refl _ _) _⟩

/-- The list with another element. -/
def setD (l : List (List Int)) (i : Nat) (d : List Int) : List (List Int) := l.set i d

set_option maxRecDepth 100000 in
set_option maxHeartbeats 2000000 in
theorem with_any (l : List (List Int)) (oa : Option Addr) (oc i : Nat) (d : List Int) (w : World) (hv : Dl (fun k => k < w.heap.size) w (.slice oa l.length oc) l) (hd : Dg d) (hl : l.length ≤ 900) (hi : i < l.length) :
    Calls Tryd.prog 34 #[.slice oa l.length oc, .int .i64 (i : Int), .agg (byteVals d).toArray] w fun e w' => ∃ a c, e = .returned (.slice a l.length c) ∧ Below w.heap.size w w' ∧ Dl (fun k => w.heap.size ≤ k ∧ k < w'.heap.size) w' (.slice a l.length c) (l.set i d) := by
  have hdl := hd.1
  have hrD : RowB (w.alloc (.cells (byteVals d).toArray 26)) w.heap.size 26 d := RowB.new w 26 d
  have hbW : Below w.heap.size w (w.alloc (.cells (byteVals d).toArray 26)) := ball (Below.refl _ _) _
  have hsW : (w.alloc (.cells (byteVals d).toArray 26)).heap.size = w.heap.size + 1 := by simp
  have hdg : ∀ x ∈ l.set i d, Dg x := by
    intro x hx
    rcases List.mem_or_eq_of_mem_set hx with h | h
    · exact hv.2.1 x h
    · rw [h]; exact hd
  have hsl : (l.set i d).length = l.length := by simp
  have hget : ∀ k, k < l.length → (l.set i d)[k]? = if k = i then some d else l[k]? := by
    intro k hk
    rw [List.getElem?_set]
    by_cases h : i = k
    · subst h; rw [if_pos rfl, if_pos rfl, if_pos hk]
    · rw [if_neg h, if_neg (fun e => h e.symm)]
  obtain ⟨m, hm⟩ : ∃ m, m = l.set i d := ⟨_, rfl⟩
  rw [← hm] at hdg hsl hget ⊢
  have HM := Lib.hid hdg; have HL := Lib.hid hsl; have HG := Lib.hid hget
  have HD := Lib.hid hrD; have HW := Lib.hid hbW; have HV := Lib.hid (hv.on hbW)
  obtain ⟨n, hn⟩ : ∃ n, n = l.length := ⟨_, rfl⟩
  have HN := Lib.hid hn
  rw [← hn] at hl hi ⊢
  clear hrD hbW hv hd hdg hsl hget hm hn
  go_enter Tryd.func34, Tryd.ntmps34
  go_wp2_with fail
  generalize (w.alloc (.cells (byteVals d).toArray 26)) = W at *
  have hP0 : Hid (ApS W [] (.slice (some ⟨W.heap.size, 0, none⟩) 0 0) (W.alloc (.cells #[] 26))) := Lib.hid (ApS.new W)
  go_loopw [7, 8] (fun x i wr => ∃ k : Nat, k ≤ n ∧ i = .int .i64 k ∧ Hid (ApS W (m.take k) x wr)) (fun _ i _ => n - (intOf i).toNat)
  case atStart => exact ⟨0, by omega, rfl, by rw [← hsW]; exact hP0⟩
  case round =>
    obtain ⟨k, hk, rfl, H⟩ := hrel
    by_cases hlt : k < n
    · have hlt2 : (k : Int) < (n : Int) := by omega
      have hx := HG.out k (by rw [← HN.out]; exact hlt)
      have hmk : (m.take k).length ≤ 1000 := by rw [List.length_take]; omega
      by_cases hki : k = i
      · subst hki
        rw [if_pos rfl] at hx
        have htk : m.take (k + 1) = m.take k ++ [d] := by rw [List.take_add_one, hx]; rfl
        obtain ⟨v6, w6, hr6, h6⟩ := H.out.push d hdl hmk
        rw [← htk] at h6
        have hf := fold_zero d hdl
        have hbl : (byteVals d).length = 32 := by rw [byteVals_length, hdl]
        have hrg : wr.rangeAt w.heap.size 0 (byteVals d) := by
          intro t u hu
          have hb : wr.heap[w.heap.size]? = W.heap[w.heap.size]? := H.out.below.block _ (by omega)
          rw [Nat.zero_add, cell_of_row wr w.heap.size t _ 26 (0, 0) (hb.trans HD.out)]
          simpa using hu
        have H6 := Lib.hid h6; have R6 := Lib.hid hr6; have HRG := Lib.hid hrg
        clear h6 hr6 hx htk hrg
        go_wp2_with (first | (refine wpList_loadG (by rfl) (.tmp 5) rfl w.heap.size rfl d HRG.out hdl ?_) | (at_builtin; refine wp_appd rfl rfl rfl (.tmp 19) (.tmp 21) rfl rfl rfl R6.out ?_))
        go_roundw
        case rel => exact ⟨k + 1, by omega, by go_num, H6⟩
        case measure => simp [intOf]; omega
      · have hki2 : ¬ ((k : Int) = (i : Int)) := by omega
        have hki3 : ((k : Int) == (i : Int)) = false := by simp; omega
        rw [if_neg hki] at hx
        have hnl := HN.out
        subst hnl
        obtain ⟨g, off, X, rfl, hg, hx2, hxl, hr, hc⟩ := HV.out.pick k hlt
        rw [hx2] at hx
        have htk : m.take (k + 1) = m.take k ++ [X] := by rw [List.take_add_one, hx]; rfl
        obtain ⟨v6, w6, hr6, h6⟩ := H.out.push X hxl hmk
        rw [← htk] at h6
        have hf := fold_zero X hxl
        have hbl : (byteVals X).length = 32 := by rw [byteVals_length, hxl]
        have hrg : wr.rangeAt g (off + k * 32) (byteVals X) := rangeAt_kept hr (H.out.below.block _ hg)
        have H6 := Lib.hid h6; have R6 := Lib.hid hr6; have HRG := Lib.hid hrg
        clear h6 hr6 hx hx2 htk hrg hr
        go_wp2_with (first | (refine wpList_load_mid rfl 26 (.tmp 26) rfl g (off + k * 32) rfl (byteVals X) _ HRG.out Tryd.underlying26 rfl (size26 _ hxl) ?_) | (at_builtin; refine wp_appd rfl rfl rfl (.tmp 23) (.tmp 28) rfl rfl rfl R6.out ?_))
        go_roundw
        case rel => exact ⟨k + 1, by omega, by go_num, H6⟩
        case measure => simp [intOf]; omega
    · have hk2 : k = n := by omega
      subst hk2
      have hT : m.take k = m := List.take_of_length_le (by rw [HL.out, ← HN.out]; exact Nat.le_refl _)
      rw [hT] at H
      have hlt2 : ¬ ((k : Int) < (k : Int)) := by omega
      have hmn : m.length = k := by rw [HL.out, ← HN.out]
      have hdl2 := own_dl H.out.own HM.out (by omega)
      obtain ⟨a, c, hac⟩ := hdl2.shape
      rw [hmn] at hac
      subst hac
      have HB := Lib.hid (HW.out.trans (H.out.below.mono (by omega)))
      have HDL := Lib.hid (hdl2.kept (F' := fun k => w.heap.size ≤ k ∧ k < wr.heap.size) (fun _ _ => rfl) (fun k hk => ⟨by have := hk.1; omega, hk.2⟩))
      clear hdl2 H
      go_wp2
      go_ret
      exact ⟨a, c, rfl, HB.out, HDL.out⟩
end Go.Proofs.YthmpeeipbclhkaaDoor

namespace Go.Proofs.YthmpeeipbclhkaaDoor
set_option linter.unusedSimpArgs false
set_option linter.unusedVariables false
open Go.RowKit

/-- There is no such node. -/
def nodeX0 (j k : Int) : Bool := decide (j < 0 ∨ 16 < j ∨ k < 0 ∨ (0 ≤ j ∧ j ≤ 16 ∧ ((2 ^ (16 - j.toNat) : Nat) : Int) ≤ k))
def nodeV (l : List (List Int)) (j k : Int) : List Int := if nodeX0 j k = true then List.replicate 32 0 else nd prt pdd l j.toNat k.toNat

theorem nodeV_len (l : List (List Int)) (j k : Int) (h : ∀ x ∈ l, Dg x) : (nodeV l j k).length = 32 := by
  unfold nodeV; split
  · simp
  · exact (nd_dg l _ _ h).1
theorem nodeV_dg (l : List (List Int)) (j k : Int) (h : ∀ x ∈ l, Dg x) : Dg (nodeV l j k) := by
  unfold nodeV; split
  · refine ⟨by simp, fun u hu => ?_⟩
    rw [List.mem_replicate] at hu
    omega
  · exact nd_dg l _ _ h

theorem nodeC (l : List (List Int)) (oa : Option Addr) (oc : Nat) (j k : Int) (w : World) (hk : KOk w) (hv : Dl (fun k => k < w.heap.size) w (.slice oa l.length oc) l) (hl : l.length ≤ 65536) :
    Calls Tryd.prog 13 #[.slice oa l.length oc, .int .i64 j, .int .i64 k] w fun e w' => e = .returned (.tuple #[.agg (byteVals (nodeV l j k)).toArray, .bool (!nodeX0 j k)]) ∧ Below w.heap.size w w' := by
  unfold nodeV nodeX0
  by_cases h : j < 0 ∨ 16 < j ∨ k < 0 ∨ (0 ≤ j ∧ j ≤ 16 ∧ ((2 ^ (16 - j.toNat) : Nat) : Int) ≤ k)
  · rw [decide_eq_true h, if_pos rfl]
    exact nodeBad_any l.length oa oc j k w hv.1 (Or.inr h)
  · rw [decide_eq_false h, if_neg (by decide)]
    obtain ⟨J, rfl⟩ : ∃ J : Nat, j = (J : Int) := ⟨j.toNat, by omega⟩
    obtain ⟨K, rfl⟩ : ∃ K : Nat, k = (K : Int) := ⟨k.toNat, by omega⟩
    rw [Int.toNat_natCast, Int.toNat_natCast]
    have hK : K < 2 ^ (16 - J) := by
      have h1 : ¬ (((2 ^ (16 - (J : Int).toNat) : Nat) : Int) ≤ (K : Int)) := by omega
      rw [Int.toNat_natCast] at h1
      omega
    exact nodeOk_any l oa oc J K w hk hv hl (by omega) hK

theorem append_dl (F : Nat → Prop) (base : Nat) (w : World) (v u : Value) (ds l : List (List Int)) (hown : w.ownsRow base 26 32 v ds.length (byteVals ds.flatten)) (hu : Dl F w u l) (hlen : ds.length + l.length ≤ 1000) (hbase : base ≤ w.heap.size) :
    ∃ v' w', (Builtin.append_ #[22, 22] 22 #[v, u]).run Tryd.prog w = .ok v' w' ∧ w'.ownsRow base 26 32 v' (ds ++ l).length (byteVals (ds ++ l).flatten) ∧ w.grownBy w' v.ownBlock := by
  obtain ⟨i0, hi, hz0, hz1, hz2⟩ := info_parts Tryd.info26
  obtain ⟨hbl, hdg, a, cap, rfl, hcap, hp⟩ := hu
  by_cases h0 : l.length = 0
  · have hb : l = [] := List.length_eq_zero_iff.1 h0
    subst hb
    obtain ⟨sa, sl, sc, hv, hle⟩ : ∃ sa sl sc, v = .slice sa sl sc ∧ sl ≤ sc := by
      rcases hown.2 with ⟨h, _⟩ | ⟨g, c, cur, h, _, _, hn, _⟩
      · exact ⟨none, 0, 0, h, Nat.le_refl _⟩
      · exact ⟨_, _, _, h, hn⟩
    refine ⟨v, w, ?_, ?_, ?_⟩
    · subst hv
      cases a with
      | none =>
        have hs : Src Tryd.prog i0.size 22 (.slice none 0 cap) 0 [] w := Src.ofNil w Tryd.underlying22 cap
        exact run_append_nothing w 22 22 22 26 i0 Tryd.underlying22 hi sa sl sc hle _ hs
      | some ad =>
        have hs : Src Tryd.prog i0.size 22 (.slice (some ad) 0 cap) 0 [] w := Src.ofSlice w Tryd.underlying22 ad 0 cap [] (by simp) (by simp) (by simp)
        exact run_append_nothing w 22 22 22 26 i0 Tryd.underlying22 hi sa sl sc hle _ hs
    · rw [List.append_nil]; exact hown
    · exact ⟨rfl, rfl, rfl, Nat.le_refl _, fun _ _ _ => rfl⟩
  · obtain ⟨g, off, rfl, hF, hc⟩ := hp (by omega)
    have hfl : l.flatten.length = l.length * 32 := by
      clear hcap hc hp hlen hbl h0
      induction l with
      | nil => rfl
      | cons y ys ih =>
        have := (hdg y (by simp)).1
        have := ih (fun x hx => hdg x (by simp [hx]))
        simp only [List.flatten_cons, List.length_append, List.length_cons]
        omega
    have hnews : ∀ j x, (byteVals l.flatten)[j]? = some x → w.cell? ((⟨g, off, none⟩ : Addr).add j) = some x := by
      intro j x hj
      have hjl : j < (byteVals l.flatten).length := (List.getElem?_eq_some_iff.1 hj).1
      rw [byteVals_length, hfl] at hjl
      have hq : j / 32 < l.length := by omega
      have hx := List.getElem?_eq_getElem hq
      have hr := hc (j / 32) _ hx
      have e1 := flat_get l (fun x hx => (hdg x hx).1) (j / 32) (j % 32) _ hx (by omega)
      rw [Nat.div_add_mod] at e1
      have h2 : (byteVals l[j / 32])[j % 32]? = some x := by
        unfold byteVals at hj ⊢
        rw [List.getElem?_map] at hj ⊢
        rw [← e1]
        exact hj
      have h3 := hr (j % 32) x h2
      rw [add_off]
      rw [show off + j = off + j / 32 * 32 + j % 32 from by omega]
      exact h3
    obtain ⟨v', w', hr, h2, h3, h4, h5⟩ := run_append_own_at (P := Tryd.prog) w base 22 22 26 i0 _ 32 32 Tryd.underlying22 hi hz0 hz1 hz2 (by simp [byteVals, Value.cells]) (by decide) v ds.length (byteVals ds.flatten) hown
      ⟨g, off, none⟩ l.length cap (byteVals l.flatten) (by rw [byteVals_length, hfl]) hnews (by
        intro u hu
        obtain ⟨n, _, rfl⟩ := List.mem_map.1 hu
        rfl) (by unfold maxLen; omega) (by omega) hbase
    refine ⟨v', w', hr, ?_, h3⟩
    have e1 : (ds ++ l).length = ds.length + l.length := by simp
    have e2 : (ds ++ l).flatten = ds.flatten ++ l.flatten := by simp
    rw [e1, e2, byteVals_append]
    exact h2

theorem ApS.pushL {w wr : World} {ds l : List (List Int)} {v u : Value} (h : ApS w ds v wr) (F : Nat → Prop) (hu : Dl F wr u l) (hn : ds.length + l.length ≤ 1000) :
    ∃ v' w', (Builtin.append_ #[22, 22] 22 #[v, u]).run Tryd.prog wr = .ok v' w' ∧ ApS w (ds ++ l) v' w' := by
  obtain ⟨v', w', hr, ho, hg⟩ := append_dl F w.heap.size wr v u ds l h.own hu hn h.below.size
  exact ⟨v', w', hr, ho, h.below.grown hg h.below.size (fun k hk => (h.own.lt k hk).1)⟩
end Go.Proofs.YthmpeeipbclhkaaDoor

namespace Go.Proofs.YthmpeeipbclhkaaDoor
set_option linter.unusedSimpArgs false
set_option linter.unusedVariables false
open Go.RowKit

theorem power_any (n : Nat) (w : World) (hn : n ≤ 16) :
    Calls Tryd.prog 37 #[.int .i64 (n : Int)] w fun e w' => e = .returned (.int .i64 ((2 ^ n : Nat) : Int)) ∧ w' = w := by
  have hp : 2 ^ n ≤ 2 ^ 16 := Nat.pow_le_pow_right (by decide) hn
  obtain ⟨R, hR⟩ : ∃ R, R = 2 ^ n := ⟨_, rfl⟩
  rw [← hR] at hp ⊢
  have HR := Lib.hid hR
  have hR2 : R ≤ 65536 := by simpa using hp
  clear hR hp
  go_enter Tryd.func37, Tryd.ntmps37
  go_wp2
  go_loopw [3, 4] (fun p i wr => ∃ k N : Nat, Hid (N = 2 ^ k) ∧ k ≤ n ∧ N ≤ 65536 ∧ p = .int .i64 N ∧ i = .int .i64 k ∧ wr = w) (fun _ i _ => n - (intOf i).toNat)
  case atStart => exact ⟨0, 1, Lib.hid rfl, by omega, by omega, rfl, rfl, rfl⟩
  case round =>
    obtain ⟨k, N, HN, hkD, hN, rfl, rfl, rfl⟩ := hrel
    by_cases hlt : k < n
    · have hlt2 : (k : Int) < (n : Int) := by omega
      have HN2 : Hid (2 * N = 2 ^ (k + 1)) := Lib.hid (by rw [HN.out, Nat.pow_succ]; omega)
      have hN2 : 2 * N ≤ 65536 := by
        rw [HN2.out]
        have : 2 ^ (k + 1) ≤ 2 ^ 16 := Nat.pow_le_pow_right (by decide) (by omega)
        omega
      clear HN
      go_wp2
      go_roundw
      case rel => exact ⟨k + 1, 2 * N, HN2, by omega, hN2, by go_num, by go_num, trivial⟩
      case measure => simp [intOf]; omega
    · have hkk : k = n := by omega
      subst hkk
      have hlt2 : ¬ ((k : Int) < (k : Int)) := by omega
      have hNR : N = R := by rw [HN.out, HR.out]
      subst hNR
      go_wp2
      go_ret
      exact ⟨rfl, rfl⟩

theorem rdepth_any (n : Int) (w : World) : Calls Tryd.prog 25 #[.int .i64 n] w fun e w' => e = .returned (.int .i64 (dep n)) ∧ w' = w := by
  by_cases h0 : n < 0
  · have hd : dep n = -1 := by unfold dep; rw [if_pos (Or.inl h0)]
    rw [hd]
    clear hd
    go_enter Tryd.func25, Tryd.ntmps25
    go_wp2
    go_ret
    exact ⟨rfl, rfl⟩
  · by_cases h1 : 65536 < n
    · have hd : dep n = -1 := by unfold dep; rw [if_pos (Or.inr h1)]
      rw [hd]
      clear hd
      go_enter Tryd.func25, Tryd.ntmps25
      go_wp2
      go_ret
      exact ⟨rfl, rfl⟩
    · obtain ⟨m, rfl⟩ : ∃ m : Nat, n = (m : Int) := ⟨n.toNat, by omega⟩
      have hm : m ≤ 65536 := by omega
      rw [dep_nat m hm]
      have h16 := dpt_le16 hm
      have hge := dpt_ge m
      have hls := dpt_least m
      have hpw : ∀ k w', k ≤ dpt m → Calls Tryd.prog 37 #[.int .i64 (k : Int)] w' fun e w'' => e = .returned (.int .i64 ((2 ^ k : Nat) : Int)) ∧ w' = w'' := fun k w' hk => (power_any k w' (by omega)).mono (fun e w2 h => ⟨h.1, h.2.symm⟩)
      obtain ⟨D, hD⟩ : ∃ D, D = dpt m := ⟨_, rfl⟩
      rw [← hD] at h16 hge hls hpw ⊢
      have HP := Lib.hid hpw; have HG := Lib.hid hge; have HLS := Lib.hid hls
      clear hpw hge hls hD
      go_enter Tryd.func25, Tryd.ntmps25
      go_wp2
      go_loopw [3] (fun t wr => ∃ k : Nat, k ≤ D ∧ t = .int .i64 k ∧ wr = w) (fun t _ => D - (intOf t).toNat)
      case atStart => exact ⟨0, by omega, rfl, rfl⟩
      case round =>
        obtain ⟨k, hk, rfl, rfl⟩ := hrel
        have hc := HP.out k wr hk
        obtain ⟨N, hN⟩ : ∃ N, N = 2 ^ k := ⟨_, rfl⟩
        rw [← hN] at hc
        have HC := Lib.hid hc; have HN := Lib.hid hN
        clear hc hN
        by_cases hlt : k < D
        · have hlt2 : (N : Int) < (m : Int) := by
            have : ¬ (m ≤ 2 ^ k) := fun h => by have := HLS.out _ h; omega
            have := HN.out
            omega
          go_wp2_with fail
          refine HC.out.mono ?_
          rintro e w2 ⟨rfl, rfl⟩
          go_wp2
          go_roundw
          case rel => exact ⟨k + 1, by omega, by go_num, trivial⟩
          case measure => simp [intOf]; omega
        · have hkk : k = D := by omega
          subst hkk
          have hlt2 : ¬ ((N : Int) < (m : Int)) := by have := HG.out; have := HN.out; omega
          go_wp2_with fail
          refine HC.out.mono ?_
          rintro e w2 ⟨rfl, rfl⟩
          go_wp2
          go_ret
          exact ⟨rfl, rfl⟩

set_option maxRecDepth 100000 in
set_option maxHeartbeats 1000000 in
theorem rpad_any (w : World) : Calls Tryd.prog 21 #[] w fun e w' => e = .returned (.agg (byteVals pdd).toArray) ∧ Below w.heap.size w w' := by
  obtain ⟨D, hD⟩ : ∃ D, D = pdd := ⟨_, rfl⟩
  rw [← hD]
  have hDl : D.length = 32 := by rw [hD]; exact pdd_dg.1
  have ht : ∀ w', Calls Tryd.prog 40 #[.string padS, .slice none 0 0] w' fun e w'' => e = .returned (.agg (byteVals D).toArray) ∧ Below w'.heap.size w' w'' := by
    intro w'
    have := rtagged_any padS [] _ w' (bs_nil w') (by decide) (by simp)
    rw [show sha (hmsg (strB padS) []) = D from hD.symm] at this
    exact this
  have HT := Lib.hid ht
  clear ht hD
  go_enter Tryd.func21, Tryd.ntmps21
  go_wp2_with (first | (go_at_call 40; refine (HT.out _).mono ?_; rintro e w3 ⟨rfl, hb3⟩; obtain ⟨l, hl, hrl⟩ := ((SumS.new w _ rfl).call hb3).row; have Hbf := Lib.hid ((SumS.new w _ rfl).call hb3).below; clear hb3) | (refine wpList_store_row rfl 26 (.tmp 0) (.tmp 1) rfl w.heap.size _ rfl rfl 26 _ hrl (size25 _ hDl) (by rw [List.size_toArray, List.size_toArray, bv_length, bv_length]; omega) (all_byteVals _) ?_))
  refine bodyPost_ret (results_cell_row rfl _ _ w.heap.size 26 _ (0, 0) _ rfl (RowB.put hrl) Tryd.underlying26 rfl (size25 _ hDl)) rfl ?_
  exact ⟨rfl, bsetRow Hbf.out (Nat.le_refl _) _⟩

set_option maxRecDepth 100000 in
set_option maxHeartbeats 1000000 in
theorem rparent_any (a b : List Int) (w : World) (ha : Dg a) (hb : Dg b) : Calls Tryd.prog 23 #[.agg (byteVals a).toArray, .agg (byteVals b).toArray] w fun e w' => e = .returned (.agg (byteVals (prt a b)).toArray) ∧ Below w.heap.size w w' := by
  obtain ⟨D, hD⟩ : ∃ D, D = prt a b := ⟨_, rfl⟩
  rw [← hD]
  have hDl : D.length = 32 := by rw [hD]; exact (prt_dg a b).1
  have hal := ha.1; have hbl := hb.1
  have hp : ∀ w', Calls Tryd.prog 33 #[.agg (byteVals a).toArray, .agg (byteVals b).toArray] w' fun e w'' => ∃ u, e = .returned u ∧ Below w'.heap.size w' w'' ∧ Bs (fun k => k < w''.heap.size) w'' u (a ++ b) := fun w' => pair_any a b w' ha hb
  have ht : ∀ w' u, Bs (fun k => k < w'.heap.size) w' u (a ++ b) → Calls Tryd.prog 40 #[.string nodeS, u] w' fun e w'' => e = .returned (.agg (byteVals D).toArray) ∧ Below w'.heap.size w' w'' := by
    intro w' u hu
    have := rtagged_any nodeS (a ++ b) u w' hu (by decide) (by simp; omega)
    rw [show sha (hmsg (strB nodeS) (a ++ b)) = D from hD.symm] at this
    exact this
  have HP := Lib.hid hp; have HT := Lib.hid ht
  have hs1 : (w.alloc (.cells (byteVals a).toArray 26)).heap.size = w.heap.size + 1 := by simp
  have hs2 : ((w.alloc (.cells (byteVals a).toArray 26)).alloc (.cells (byteVals b).toArray 26)).heap.size = w.heap.size + 1 + 1 := by simp
  have hS0 := (((St4.nil w).new 26 (byteVals a)).new 26 (byteVals b)).new 26 (byteVals (List.replicate 32 0))
  rw [hs1, hs2] at hS0
  have HS : Hid (St4 w [(w.heap.size + 1 + 1, 26, byteVals (List.replicate 32 0)), (w.heap.size + 1, 26, byteVals b), (w.heap.size, 26, byteVals a)] [] (((w.alloc (.cells (byteVals a).toArray 26)).alloc (.cells (byteVals b).toArray 26)).alloc (.cells #[.int .u8 0, .int .u8 0, .int .u8 0, .int .u8 0, .int .u8 0, .int .u8 0, .int .u8 0, .int .u8 0, .int .u8 0, .int .u8 0, .int .u8 0, .int .u8 0, .int .u8 0, .int .u8 0, .int .u8 0, .int .u8 0, .int .u8 0, .int .u8 0, .int .u8 0, .int .u8 0, .int .u8 0, .int .u8 0, .int .u8 0, .int .u8 0, .int .u8 0, .int .u8 0, .int .u8 0, .int .u8 0, .int .u8 0, .int .u8 0, .int .u8 0, .int .u8 0] 26))) := Lib.hid hS0
  clear hp ht hD hs1 hs2 ha hb hS0
  go_enter Tryd.func23, Tryd.ntmps23
  go_wp2_with (first | (refine wpList_loadG (by rfl) (.tmp 2) rfl w.heap.size rfl a (HS.out.range (by (with_reducible (repeat (first | exact List.mem_cons_self | refine List.mem_cons_of_mem _ ?_))))) hal ?_) | (refine wpList_loadG (by rfl) (.tmp 3) rfl (w.heap.size + 1) rfl b (HS.out.range (by (with_reducible (repeat (first | exact List.mem_cons_self | refine List.mem_cons_of_mem _ ?_))))) hbl ?_))
  refine (HP.out _).mono ?_
  rintro e w5 ⟨u, rfl, hb5, hu⟩
  replace HS := Lib.hid (HS.out.call hb5)
  have HU := Lib.hid hu
  clear hb5 hu
  go_wp2_with fail
  refine (HT.out _ _ HU.out).mono ?_
  rintro e w6 ⟨rfl, hb6⟩
  replace HS := Lib.hid (HS.out.call hb6)
  have hrl : RowB w6 (w.heap.size + 1 + 1) 26 (List.replicate 32 0) := HS.out.row (by (with_reducible (repeat (first | exact List.mem_cons_self | refine List.mem_cons_of_mem _ ?_))))
  clear hb6 HU
  go_wp2_with (refine wpList_store_row rfl 26 (.tmp 4) (.tmp 8) rfl (w.heap.size + 1 + 1) _ rfl rfl 26 _ hrl (size25 _ hDl) (by rw [bvsz _ hDl, bvsz _ zl32]) (all_byteVals _) ?_)
  refine bodyPost_ret (results_cell_row rfl _ _ (w.heap.size + 1 + 1) 26 _ (0, 0) _ rfl (RowB.put hrl) Tryd.underlying26 rfl (size25 _ hDl)) rfl ?_
  exact ⟨rfl, bsetRow HS.out.below (by omega) _⟩

theorem sibling_any (n : Nat) (w : World) (hn : n < 4611686018427387904) : Calls Tryd.prog 39 #[.int .i64 (n : Int)] w fun e w' => e = .returned (.int .i64 ((sib n : Nat) : Int)) ∧ w' = w := by
  have e0 : (n : Int).tmod 2 = ((n % 2 : Nat) : Int) := by rw [Int.tmod_eq_emod_of_nonneg (by omega)]; omega
  by_cases h : n % 2 = 0
  · have hs : sib n = n + 1 := by unfold sib; rw [if_pos h]
    rw [hs]
    rw [h] at e0
    have e1 : (n : Int) % 2 = 0 := by omega
    have e2 : ((n + 1 : Nat) : Int) = (n : Int) + 1 := by omega
    clear hs h
    go_enter Tryd.func39, Tryd.ntmps39
    go_wp2
    go_ret
    exact ⟨by go_num, rfl⟩
  · have hs : sib n = n - 1 := by unfold sib; rw [if_neg h]
    rw [hs]
    have h1 : n % 2 = 1 := by omega
    rw [h1] at e0
    have e1 : (n : Int) % 2 = 1 := by omega
    have e2 : ((n - 1 : Nat) : Int) = (n : Int) - 1 := by omega
    clear hs h h1
    go_enter Tryd.func39, Tryd.ntmps39
    go_wp2
    go_ret
    exact ⟨by go_num, rfl⟩
end Go.Proofs.YthmpeeipbclhkaaDoor

namespace Go.Proofs.YthmpeeipbclhkaaDoor
set_option linter.unusedSimpArgs false
set_option linter.unusedVariables false
open Go.RowKit

theorem climb_nat (I : Nat) (x s : List Int) (p : List (List Int)) (k : Nat) (hs : p[k]? = some s) (hI : I % 2 = 0) : climb prt I x (p.drop k) = climb prt (I / 2) (prt x s) (p.drop (k + 1)) := by
  have hk := (List.getElem?_eq_some_iff.1 hs).1
  rw [List.drop_eq_getElem_cons hk]
  have : p[k] = s := by rw [List.getElem?_eq_getElem hk] at hs; exact Option.some.inj hs
  rw [this]
  show climb prt (I / 2) (if I % 2 = 0 then prt x s else prt s x) _ = _
  rw [if_pos hI]
theorem climb_nat1 (I : Nat) (x s : List Int) (p : List (List Int)) (k : Nat) (hs : p[k]? = some s) (hI : ¬ I % 2 = 0) : climb prt I x (p.drop k) = climb prt (I / 2) (prt s x) (p.drop (k + 1)) := by
  have hk := (List.getElem?_eq_some_iff.1 hs).1
  rw [List.drop_eq_getElem_cons hk]
  have : p[k] = s := by rw [List.getElem?_eq_getElem hk] at hs; exact Option.some.inj hs
  rw [this]
  show climb prt (I / 2) (if I % 2 = 0 then prt x s else prt s x) _ = _
  rw [if_neg hI]

set_option maxRecDepth 100000 in
set_option maxHeartbeats 4000000 in
theorem rclimb_any (I : Nat) (leaf : List Int) (p : List (List Int)) (op : Option Addr) (cp : Nat) (w : World) (hp : Dl (fun k => k < w.heap.size) w (.slice op p.length cp) p) (hx : Dg leaf) (hI : I < 4611686018427387904) (hpl : p.length ≤ 1000) :
    Calls Tryd.prog 47 #[.int .i64 (I : Int), .agg (byteVals leaf).toArray, .slice op p.length cp] w fun e w' => e = .returned (.agg (byteVals (climb prt I leaf p)).toArray) ∧ Below w.heap.size w w' := by
  have hll := hx.1
  obtain ⟨R, hR⟩ : ∃ R, R = climb prt I leaf p := ⟨_, rfl⟩
  rw [← hR]
  have hz32 : (List.replicate 32 (0 : Int)).length = 32 := by simp
  have hs1 : (w.alloc (.cells (byteVals leaf).toArray 26)).heap.size = w.heap.size + 1 := by simp
  have hs2 : ((w.alloc (.cells (byteVals leaf).toArray 26)).alloc (.cells #[.int .u8 0, .int .u8 0, .int .u8 0, .int .u8 0, .int .u8 0, .int .u8 0, .int .u8 0, .int .u8 0, .int .u8 0, .int .u8 0, .int .u8 0, .int .u8 0, .int .u8 0, .int .u8 0, .int .u8 0, .int .u8 0, .int .u8 0, .int .u8 0, .int .u8 0, .int .u8 0, .int .u8 0, .int .u8 0, .int .u8 0, .int .u8 0, .int .u8 0, .int .u8 0, .int .u8 0, .int .u8 0, .int .u8 0, .int .u8 0, .int .u8 0, .int .u8 0] 26)).heap.size = w.heap.size + 1 + 1 := by simp
  have hS0 := ((St4.nil w).new 26 (byteVals leaf)).new 26 (byteVals (List.replicate 32 0))
  rw [hs1] at hS0
  have HS : Hid (St4 w [(w.heap.size + 1, 26, byteVals (List.replicate 32 0)), (w.heap.size, 26, byteVals leaf)] [] ((w.alloc (.cells (byteVals leaf).toArray 26)).alloc (.cells #[.int .u8 0, .int .u8 0, .int .u8 0, .int .u8 0, .int .u8 0, .int .u8 0, .int .u8 0, .int .u8 0, .int .u8 0, .int .u8 0, .int .u8 0, .int .u8 0, .int .u8 0, .int .u8 0, .int .u8 0, .int .u8 0, .int .u8 0, .int .u8 0, .int .u8 0, .int .u8 0, .int .u8 0, .int .u8 0, .int .u8 0, .int .u8 0, .int .u8 0, .int .u8 0, .int .u8 0, .int .u8 0, .int .u8 0, .int .u8 0, .int .u8 0, .int .u8 0] 26))) := Lib.hid hS0
  have hrz : RowB (((w.alloc (.cells (byteVals leaf).toArray 26)).alloc (.cells #[.int .u8 0, .int .u8 0, .int .u8 0, .int .u8 0, .int .u8 0, .int .u8 0, .int .u8 0, .int .u8 0, .int .u8 0, .int .u8 0, .int .u8 0, .int .u8 0, .int .u8 0, .int .u8 0, .int .u8 0, .int .u8 0, .int .u8 0, .int .u8 0, .int .u8 0, .int .u8 0, .int .u8 0, .int .u8 0, .int .u8 0, .int .u8 0, .int .u8 0, .int .u8 0, .int .u8 0, .int .u8 0, .int .u8 0, .int .u8 0, .int .u8 0, .int .u8 0] 26)).alloc (.cells #[.int .u8 0, .int .u8 0, .int .u8 0, .int .u8 0, .int .u8 0, .int .u8 0, .int .u8 0, .int .u8 0, .int .u8 0, .int .u8 0, .int .u8 0, .int .u8 0, .int .u8 0, .int .u8 0, .int .u8 0, .int .u8 0, .int .u8 0, .int .u8 0, .int .u8 0, .int .u8 0, .int .u8 0, .int .u8 0, .int .u8 0, .int .u8 0, .int .u8 0, .int .u8 0, .int .u8 0, .int .u8 0, .int .u8 0, .int .u8 0, .int .u8 0, .int .u8 0] 26)) (w.heap.size + 1 + 1) 26 (List.replicate 32 0) := RowB.new' _ (by simp) rfl
  have hS1 := hS0.made 26 #[.int .u8 0, .int .u8 0, .int .u8 0, .int .u8 0, .int .u8 0, .int .u8 0, .int .u8 0, .int .u8 0, .int .u8 0, .int .u8 0, .int .u8 0, .int .u8 0, .int .u8 0, .int .u8 0, .int .u8 0, .int .u8 0, .int .u8 0, .int .u8 0, .int .u8 0, .int .u8 0, .int .u8 0, .int .u8 0, .int .u8 0, .int .u8 0, .int .u8 0, .int .u8 0, .int .u8 0, .int .u8 0, .int .u8 0, .int .u8 0, .int .u8 0, .int .u8 0] (byteVals leaf)
  have hs3 : ((w.alloc (.cells (byteVals leaf).toArray 26)).alloc (.cells (byteVals (List.replicate 32 0)).toArray 26)).heap.size = w.heap.size + 1 + 1 := by simp
  rw [hs3] at hS1
  have HS1 : Hid (St4 w [(w.heap.size + 1 + 1, 26, byteVals leaf), (w.heap.size + 1, 26, byteVals (List.replicate 32 0)), (w.heap.size, 26, byteVals leaf)] [] ((((w.alloc (.cells (byteVals leaf).toArray 26)).alloc (.cells #[.int .u8 0, .int .u8 0, .int .u8 0, .int .u8 0, .int .u8 0, .int .u8 0, .int .u8 0, .int .u8 0, .int .u8 0, .int .u8 0, .int .u8 0, .int .u8 0, .int .u8 0, .int .u8 0, .int .u8 0, .int .u8 0, .int .u8 0, .int .u8 0, .int .u8 0, .int .u8 0, .int .u8 0, .int .u8 0, .int .u8 0, .int .u8 0, .int .u8 0, .int .u8 0, .int .u8 0, .int .u8 0, .int .u8 0, .int .u8 0, .int .u8 0, .int .u8 0] 26)).alloc (.cells #[.int .u8 0, .int .u8 0, .int .u8 0, .int .u8 0, .int .u8 0, .int .u8 0, .int .u8 0, .int .u8 0, .int .u8 0, .int .u8 0, .int .u8 0, .int .u8 0, .int .u8 0, .int .u8 0, .int .u8 0, .int .u8 0, .int .u8 0, .int .u8 0, .int .u8 0, .int .u8 0, .int .u8 0, .int .u8 0, .int .u8 0, .int .u8 0, .int .u8 0, .int .u8 0, .int .u8 0, .int .u8 0, .int .u8 0, .int .u8 0, .int .u8 0, .int .u8 0] 26)).setRow (w.heap.size + 1 + 1) (byteVals leaf).toArray)) := Lib.hid hS1
  have HP := Lib.hid hp; have HR := Lib.hid hR; have HX := Lib.hid hx
  clear hp hR hx hS0 hS1 hs1 hs2 hs3
  go_enter Tryd.func47, Tryd.ntmps47
  go_wp2_with (first | (refine wpList_loadG (by rfl) (.tmp 4) rfl w.heap.size rfl leaf (HS.out.range (by (with_reducible (repeat (first | exact List.mem_cons_self | refine List.mem_cons_of_mem _ ?_))))) hll ?_) | (refine wpList_store_row rfl 26 (.tmp 7) (.tmp 9) rfl (w.heap.size + 1 + 1) _ rfl rfl 26 _ hrz (size25 _ hll) (by rw [bvsz _ hll, bvsz _ zl32]) (all_byteVals _) ?_))
  clear HS
  go_loopw [0, 8] (fun i t wr => ∃ (k J : Nat) (x : List Int), k ≤ p.length ∧ J < 4611686018427387904 ∧ i = .int .i64 J ∧ t = .int .i64 k ∧ Hid (Dg x) ∧ Hid (climb prt J x (p.drop k) = R) ∧ Hid (St4 w [(w.heap.size + 1 + 1, 26, byteVals x), (w.heap.size + 1, 26, byteVals (List.replicate 32 0)), (w.heap.size, 26, byteVals leaf)] [] wr)) (fun _ t _ => p.length - (intOf t).toNat)
  case atStart => exact ⟨0, I, leaf, by omega, hI, rfl, rfl, HX, Lib.hid (by rw [List.drop_zero]; exact HR.out.symm), HS1⟩
  case round =>
    clear HS1 hrz
    obtain ⟨k, J, x, hk, hJ, rfl, rfl, HXx, HC, HS⟩ := hrel
    have hxl := HXx.out.1
    by_cases hlt : k < p.length
    · have hlt2 : (k : Int) < (p.length : Int) := by omega
      obtain ⟨g, off, s, rfl, hg, hs, hsl, hr, hc⟩ := HP.out.pick k hlt
      have hsd : Dg s := HP.out.2.1 s (List.mem_of_getElem? hs)
      have HSD := Lib.hid hsd; have HR2 := Lib.hid (And.intro hg hr)
      have e0 : (J : Int).tmod 2 = ((J % 2 : Nat) : Int) := by rw [Int.tmod_eq_emod_of_nonneg (by omega)]; omega
      obtain ⟨J2, hJ2⟩ : ∃ J2, J2 = J / 2 := ⟨_, rfl⟩
      have e9 : IntKind.i64.wrap ((J : Int).tdiv 2) = (J2 : Int) := by rw [Int.tdiv_eq_ediv_of_nonneg (by omega), IntKind.wrap_i64]; omega
      have HQ2 : Hid ((J : Int) / 2 = (J2 : Int)) := Lib.hid (by omega)
      have HJ2 : Hid (J2 < 4611686018427387904) := Lib.hid (by omega)
      by_cases hm : J % 2 = 0
      · have hcl := climb_nat J x s p k hs hm
        rw [hm] at e0
        have e1 : (J : Int) % 2 = 0 := by omega
        have hDd := prt_dg x s
        obtain ⟨D, hD⟩ : ∃ D, D = prt x s := ⟨_, rfl⟩
        have hpa : ∀ w', Calls Tryd.prog 23 #[.agg (byteVals x).toArray, .agg (byteVals s).toArray] w' fun e w'' => e = .returned (.agg (byteVals D).toArray) ∧ Below w'.heap.size w' w'' := by
          intro w'; rw [hD]; exact rparent_any x s w' HXx.out HSD.out
        rw [← hD, ← hJ2] at hcl
        rw [← hD] at hDd
        have hDl := hDd.1
        have HCL := Lib.hid hcl; have HPA := Lib.hid hpa; have HDD := Lib.hid hDd
        clear hJ2 hcl hpa hDd hD hm hr hg hsd hs
        go_upto_region 6 with fail
        refine wp_region_still_tail 5 (by kernel_rfl) (by kernel_rfl) ?_
        simp only [List.take_succ_cons, List.take_zero, List.drop_succ_cons, List.drop_zero]
        refine still_load_mid (by rfl) (.tmp 7) rfl (w.heap.size + 1 + 1) 0 rfl x (HS.out.drew.range (by (with_reducible (repeat (first | exact List.mem_cons_self | refine List.mem_cons_of_mem _ ?_))))) hxl ?_
        iterate 3 still_step
        refine still_load_mid (by rfl) (.tmp 22) rfl g (off + k * 32) rfl s (rangeAt_kept HR2.out.2 (HS.out.drew.below.block _ HR2.out.1)) hsl ?_
        refine wpStill_nil ?_
        change wpList _ _ _ _ _ wr.drew
        replace HS := Lib.hid (HS.out.drew)
        generalize wr.drew = W at *
        go_wp2_with fail
        refine (HPA.out _).mono ?_
        rintro e w5 ⟨rfl, hb⟩
        replace HS := Lib.hid (HS.out.call hb)
        clear hb
        have hrl : RowB w5 (w.heap.size + 1 + 1) 26 x := HS.out.row (by (with_reducible (repeat (first | exact List.mem_cons_self | refine List.mem_cons_of_mem _ ?_))))
        have H7 := Lib.hid (HS.out.put1 (w.heap.size + 1 + 1) 26 (byteVals x) (byteVals D) (by intro y hy; simp at hy; rcases hy with rfl | rfl <;> (simp only []; omega)))
        clear HS
        go_wp2_with (refine wpList_store_row rfl 26 (.tmp 7) (.tmp 24) rfl (w.heap.size + 1 + 1) _ rfl rfl 26 _ hrl (size25 _ hDl) (by rw [bvsz _ hDl, bvsz _ hxl]) (all_byteVals _) ?_)
        go_roundw
        case rel => exact ⟨k + 1, J2, D, by omega, HJ2.out, by rw [HQ2.out], by go_num, HDD, Lib.hid (by rw [← HCL.out]; exact HC.out), H7⟩
        case measure => simp [intOf]; omega
      · have hcl := climb_nat1 J x s p k hs hm
        have hm1 : J % 2 = 1 := by omega
        rw [hm1] at e0
        have e1 : (J : Int) % 2 = 1 := by omega
        have hDd := prt_dg s x
        obtain ⟨D, hD⟩ : ∃ D, D = prt s x := ⟨_, rfl⟩
        have hpa : ∀ w', Calls Tryd.prog 23 #[.agg (byteVals s).toArray, .agg (byteVals x).toArray] w' fun e w'' => e = .returned (.agg (byteVals D).toArray) ∧ Below w'.heap.size w' w'' := by
          intro w'; rw [hD]; exact rparent_any s x w' HSD.out HXx.out
        rw [← hD, ← hJ2] at hcl
        rw [← hD] at hDd
        have hDl := hDd.1
        have HCL := Lib.hid hcl; have HPA := Lib.hid hpa; have HDD := Lib.hid hDd
        clear hJ2 hcl hpa hDd hD hm hm1 hr hg hsd hs
        go_upto_region 7 with fail
        refine wp_region_still_tail 5 (by kernel_rfl) (by kernel_rfl) ?_
        simp only [List.take_succ_cons, List.take_zero, List.drop_succ_cons, List.drop_zero]
        iterate 3 still_step
        refine still_load_mid (by rfl) (.tmp 27) rfl g (off + k * 32) rfl s (rangeAt_kept HR2.out.2 (HS.out.drew.below.block _ HR2.out.1)) hsl ?_
        refine still_load_mid (by rfl) (.tmp 7) rfl (w.heap.size + 1 + 1) 0 rfl x (HS.out.drew.range (by (with_reducible (repeat (first | exact List.mem_cons_self | refine List.mem_cons_of_mem _ ?_))))) hxl ?_
        refine wpStill_nil ?_
        change wpList _ _ _ _ _ wr.drew
        replace HS := Lib.hid (HS.out.drew)
        generalize wr.drew = W at *
        go_wp2_with fail
        refine (HPA.out _).mono ?_
        rintro e w5 ⟨rfl, hb⟩
        replace HS := Lib.hid (HS.out.call hb)
        clear hb
        have hrl : RowB w5 (w.heap.size + 1 + 1) 26 x := HS.out.row (by (with_reducible (repeat (first | exact List.mem_cons_self | refine List.mem_cons_of_mem _ ?_))))
        have H7 := Lib.hid (HS.out.put1 (w.heap.size + 1 + 1) 26 (byteVals x) (byteVals D) (by intro y hy; simp at hy; rcases hy with rfl | rfl <;> (simp only []; omega)))
        clear HS
        go_wp2_with (refine wpList_store_row rfl 26 (.tmp 7) (.tmp 30) rfl (w.heap.size + 1 + 1) _ rfl rfl 26 _ hrl (size25 _ hDl) (by rw [bvsz _ hDl, bvsz _ hxl]) (all_byteVals _) ?_)
        go_roundw
        case rel => exact ⟨k + 1, J2, D, by omega, HJ2.out, by rw [HQ2.out], by go_num, HDD, Lib.hid (by rw [← HCL.out]; exact HC.out), H7⟩
        case measure => simp [intOf]; omega
    · have hk2 : k = p.length := by omega
      subst hk2
      have hxR : x = R := by have := HC.out; rw [List.drop_length] at this; exact this
      subst hxR
      have hlt2 : ¬ ((p.length : Int) < (p.length : Int)) := by omega
      have hrl : RowB wr (w.heap.size + 1) 26 (List.replicate 32 0) := HS.out.row (by (with_reducible (repeat (first | exact List.mem_cons_self | refine List.mem_cons_of_mem _ ?_))))
      go_wp2_with (first | (refine wpList_loadG (by rfl) (.tmp 7) rfl (w.heap.size + 1 + 1) rfl x (HS.out.range (by (with_reducible (repeat (first | exact List.mem_cons_self | refine List.mem_cons_of_mem _ ?_))))) hxl ?_) | (refine wpList_store_row rfl 26 (.tmp 6) (.tmp 33) rfl (w.heap.size + 1) _ rfl rfl 26 _ hrl (size25 _ hxl) (by rw [bvsz _ hxl, bvsz _ zl32]) (all_byteVals _) ?_))
      refine bodyPost_ret (results_cell_row rfl _ _ (w.heap.size + 1) 26 _ (0, 0) _ rfl (RowB.put hrl) Tryd.underlying26 rfl (size25 _ hxl)) rfl ?_
      exact ⟨rfl, bsetRow HS.out.below (by omega) _⟩
end Go.Proofs.YthmpeeipbclhkaaDoor

namespace Go.Proofs.YthmpeeipbclhkaaDoor
set_option linter.unusedSimpArgs false
set_option linter.unusedVariables false
open Go.RowKit

theorem range_tail {w : World} {B : Nat} {v : Value} {cs : List Value} (h : w.rangeAt B 0 (v :: cs)) : w.rangeAt B 1 cs := by
  intro j u hj
  have := h (j + 1) u (by simpa using hj)
  rw [show 0 + (j + 1) = 1 + j from by omega] at this
  exact this

set_option maxRecDepth 100000 in
set_option maxHeartbeats 4000000 in
theorem rinc_any (n : Int) (root : List Int) (i : Int) (leaf : List Int) (p : List (List Int)) (op : Option Addr) (cp : Nat) (w : World) (hr : Dg root) (hl : Dg leaf) (hp : Dl (fun k => k < w.heap.size) w (.slice op p.length cp) p) (hpl : p.length ≤ 1000) :
    Calls Tryd.prog 29 #[.agg (.int .i64 n :: byteVals root).toArray, .int .i64 i, .agg (byteVals leaf).toArray, .slice op p.length cp] w fun e w' => e = .returned (.bool (inc n root i leaf p)) ∧ Below w.heap.size w w' := by
  have hrl := hr.1; have hll := hl.1
  have hdp : ∀ w', Calls Tryd.prog 25 #[.int .i64 n] w' fun e w'' => e = .returned (.int .i64 (dep n)) ∧ w' = w'' :=
    fun w' => (rdepth_any n w').mono (fun e w2 h => ⟨h.1, h.2.symm⟩)
  have hs1 : (w.alloc (.cells (.int .i64 n :: byteVals root).toArray 30)).heap.size = w.heap.size + 1 := by simp
  have hS := ((St4.nil w).new 30 (.int .i64 n :: byteVals root)).new 26 (byteVals leaf)
  rw [hs1] at hS
  have hc0 : ((w.alloc (.cells (.int .i64 n :: byteVals root).toArray 30)).alloc (.cells (byteVals leaf).toArray 26)).cell? ⟨w.heap.size, 0, none⟩ = some (.int .i64 n) := hS.range (by (with_reducible (repeat (first | exact List.mem_cons_self | refine List.mem_cons_of_mem _ ?_)))) 0 _ rfl
  have HS := Lib.hid hS; have HP := Lib.hid hp; have HR := Lib.hid hr; have HL := Lib.hid hl
  clear hS hp hr hl hs1
  by_cases f1 : n < 0
  · have e2 : inc n root i leaf p = false := by unfold inc; rw [decide_eq_false (by omega)]; rfl
    rw [e2]
    clear hdp e2
    go_enter Tryd.func29, Tryd.ntmps29
    go_wp2_with fail
    go_ret
    exact ⟨rfl, HS.out.below⟩
  by_cases f2 : 65536 < n
  · have e2 : inc n root i leaf p = false := by unfold inc; rw [decide_eq_false (by omega)]; rfl
    rw [e2]
    clear hdp e2
    have g1 : decide (n < 0) = false := decide_eq_false f1
    go_enter Tryd.func29, Tryd.ntmps29
    go_wp2_with fail
    go_ret
    exact ⟨rfl, HS.out.below⟩
  obtain ⟨d, hd⟩ : ∃ d, d = dpt n.toNat := ⟨_, rfl⟩
  have e1 : dep n = (d : Int) := by unfold dep; rw [if_neg (by omega), hd]
  have hd16 : d ≤ 16 := by rw [hd]; exact dpt_le16 (by omega)
  have einc : inc n root i leaf p = (decide (0 ≤ i ∧ i < ((2 ^ d : Nat) : Int)) && (decide (p.length = d) && decide (climb prt i.toNat leaf p = root))) := by unfold inc; rw [decide_eq_true (by omega), hd]; rfl
  rw [e1] at hdp
  rw [einc]
  have hpw : ∀ w', Calls Tryd.prog 37 #[.int .i64 (d : Int)] w' fun e w'' => e = .returned (.int .i64 ((2 ^ d : Nat) : Int)) ∧ w' = w'' := fun w' => (power_any d w' hd16).mono (fun e w2 h => ⟨h.1, h.2.symm⟩)
  have hQ3 : 2 ^ d ≤ 2 ^ 16 := Nat.pow_le_pow_right (by decide) hd16
  have hQ4 : (2 : Nat) ^ 16 = 65536 := by decide
  obtain ⟨Q, hQ⟩ : ∃ Q, Q = 2 ^ d := ⟨_, rfl⟩
  rw [← hQ] at hpw hQ3 ⊢
  rw [hQ4] at hQ3
  have HDP := Lib.hid hdp; have HPW := Lib.hid hpw
  clear e1 einc hd hQ hdp hpw hQ4
  have g1 : decide (n < 0) = false := decide_eq_false f1
  have g2 : decide (65536 < n) = false := decide_eq_false f2
  by_cases f3 : i < 0
  · have e2 : decide (0 ≤ i ∧ i < (Q : Int)) = false := decide_eq_false (by omega)
    rw [e2, Bool.false_and]
    clear e2 f1 f2
    go_enter Tryd.func29, Tryd.ntmps29
    go_wp2_with fail
    go_ret
    exact ⟨rfl, HS.out.below⟩
  have g3 : decide (i < 0) = false := decide_eq_false f3
  by_cases f4 : (Q : Int) ≤ i
  · have e2 : decide (0 ≤ i ∧ i < (Q : Int)) = false := decide_eq_false (by omega)
    rw [e2, Bool.false_and]
    clear e2 f1 f2 f3
    go_enter Tryd.func29, Tryd.ntmps29
    go_wp2_with (first | (go_at_call 25; refine (HDP.out _).mono ?_; rintro e w2 ⟨rfl, rfl⟩) | (go_at_call 37; refine (HPW.out _).mono ?_; rintro e w2 ⟨rfl, rfl⟩))
    go_ret
    exact ⟨rfl, HS.out.below⟩
  have g4 : decide ((Q : Int) ≤ i) = false := decide_eq_false f4
  have e2 : decide (0 ≤ i ∧ i < (Q : Int)) = true := decide_eq_true (by omega)
  rw [e2, Bool.true_and]
  clear e2
  by_cases f5 : p.length = d
  · rw [decide_eq_true f5, Bool.true_and]
    subst f5
    obtain ⟨I, hI⟩ := Int.eq_ofNat_of_zero_le (by omega : 0 ≤ i)
    rw [show i.toNat = I from by omega]
    have hIb : I < 4611686018427387904 := by omega
    have hcl : ∀ w', St4 w [(w.heap.size + 1, 26, byteVals leaf), (w.heap.size, 30, Value.int .i64 n :: byteVals root)] [] w' → Calls Tryd.prog 47 #[.int .i64 i, .agg (byteVals leaf).toArray, .slice op p.length cp] w' fun e w'' => e = .returned (.agg (byteVals (climb prt I leaf p)).toArray) ∧ Below w'.heap.size w' w'' := by
      intro w' h
      rw [hI]
      exact rclimb_any I leaf p op cp w' (HP.out.on h.below) HL.out hIb hpl
    have hDl : Dg (climb prt I leaf p) := climb_dg _ _ _ HL.out
    obtain ⟨D, hD⟩ : ∃ D, D = climb prt I leaf p := ⟨_, rfl⟩
    rw [← hD] at hcl hDl ⊢
    have hDl := hDl.1
    have hq := eqDig D root hDl hrl
    obtain ⟨q, hqq⟩ : ∃ q, q = decide (D = root) := ⟨_, rfl⟩
    rw [← hqq] at hq ⊢
    have HC := Lib.hid hcl
    have f5 : ((p.length : Int) != (p.length : Int)) = false := by simp
    clear hcl hD hqq hI hIb f1 f2 f3 f4
    go_enter Tryd.func29, Tryd.ntmps29
    go_upto_region 3 with (first | (go_at_call 25; refine (HDP.out _).mono ?_; rintro e w2 ⟨rfl, rfl⟩) | (go_at_call 37; refine (HPW.out _).mono ?_; rintro e w2 ⟨rfl, rfl⟩))
    clear hc0
    refine wp_region_held_drew (S := fun w' => St4 w [(w.heap.size + 1, 26, byteVals leaf), (w.heap.size, 30, Value.int .i64 n :: byteVals root)] [] w') (by kernel_rfl) HS.out.drew (fun hHeld => ?_)
    change wpAnyH _ _ _ _ _ 8 #[false, false, false, false, false, false, false, false] _ _
    refine wpAnyH_take (i := 0) (oi := _) (v := .int .i64 i) rfl (by kernel_rfl) (by kernel_rfl) (by kernel_rfl) (fun _ _ _ h => h) (Or.inl ⟨by rfl, fun wx hSw => ?_⟩) (by assumption) ?_
    · go_simp
      try (first | omega | (rw [IntKind.wrap_i64]; omega))
    (try simp only [Act.put, List.setIfInBounds_toArray, List.set_cons_zero, List.set_cons_succ, List.getElem_toArray, List.getElem_cons_zero, List.getElem_cons_succ])
    refine wpAnyH_take (i := 1) (oi := _) (v := .agg (byteVals leaf).toArray) rfl (by kernel_rfl) (by kernel_rfl) (by kernel_rfl) (fun _ _ _ h => h) (yieldsIf_load_mid (by rfl) 26 _ rfl (w.heap.size + 1) 0 rfl (byteVals leaf) _ (fun wx hSw => hSw.range (by (with_reducible (repeat (first | exact List.mem_cons_self | refine List.mem_cons_of_mem _ ?_))))) Tryd.underlying26 rfl (size26 _ hll)) (by assumption) ?_
    (try simp only [Act.put, List.setIfInBounds_toArray, List.set_cons_zero, List.set_cons_succ, List.getElem_toArray, List.getElem_cons_zero, List.getElem_cons_succ])
    refine wpAnyH_take (i := 2) (oi := _) (v := .slice op p.length cp) rfl (by kernel_rfl) (by kernel_rfl) (by kernel_rfl) (fun _ _ _ h => h) (Or.inl ⟨by rfl, fun wx hSw => ?_⟩) (by assumption) ?_
    · go_simp
      try (first | omega | (rw [IntKind.wrap_i64]; omega))
    (try simp only [Act.put, List.setIfInBounds_toArray, List.set_cons_zero, List.set_cons_succ, List.getElem_toArray, List.getElem_cons_zero, List.getElem_cons_succ])
    refine wpAnyH_take (i := 4) (oi := _) (v := .pointer (some ⟨w.heap.size, 1, none⟩)) rfl (by kernel_rfl) (by kernel_rfl) (by kernel_rfl) (fun _ _ _ h => h) (Or.inl ⟨by rfl, fun wx hSw => ?_⟩) (by assumption) ?_
    · go_simp
      try (first | omega | (rw [IntKind.wrap_i64]; omega))
    (try simp only [Act.put, List.setIfInBounds_toArray, List.set_cons_zero, List.set_cons_succ, List.getElem_toArray, List.getElem_cons_zero, List.getElem_cons_succ])
    refine wpAnyH_take (i := 5) (oi := _) (v := .agg (byteVals root).toArray) rfl (by kernel_rfl) (by kernel_rfl) (by kernel_rfl) (fun _ _ _ h => h) (yieldsIf_load_mid (by rfl) 26 _ rfl w.heap.size 1 rfl (byteVals root) _ (fun wx hSw => range_tail (hSw.range (by (with_reducible (repeat (first | exact List.mem_cons_self | refine List.mem_cons_of_mem _ ?_)))))) Tryd.underlying26 rfl (size26 _ hrl)) (by assumption) ?_
    (try simp only [Act.put, List.setIfInBounds_toArray, List.set_cons_zero, List.set_cons_succ, List.getElem_toArray, List.getElem_cons_zero, List.getElem_cons_succ])
    refine wpAnyH_ready (rs := [3]) (by kernel_rfl) (by simp) ?_
    refine AllReadyH.cons (o := _) rfl (fun K hK => ?_) AllReadyH.nil
    go_simp
    refine (HC.out _ hHeld).mono ?_
    rintro e V1 ⟨rfl, hb⟩
    have h5 := hHeld.call hb
    clear hb hHeld
    go_wp2_with fail
    refine hK.out _ _ (h5) (fun hHeld => ?_)
    clear hK K
    (try simp only [Act.put, List.setIfInBounds_toArray, List.set_cons_zero, List.set_cons_succ, List.getElem_toArray, List.getElem_cons_zero, List.getElem_cons_succ])
    refine wpAnyH_take (i := 6) (oi := _) (v := .bool q) rfl (by kernel_rfl) (by kernel_rfl) (by kernel_rfl) (fun _ _ _ h => h) (Or.inl ⟨by rfl, fun wx hSw => ?_⟩) (by assumption) ?_
    · go_simp
      try (first | omega | (rw [IntKind.wrap_i64]; omega))
    (try simp only [Act.put, List.setIfInBounds_toArray, List.set_cons_zero, List.set_cons_succ, List.getElem_toArray, List.getElem_cons_zero, List.getElem_cons_succ])
    refine wpAnyH_take (i := 7) (oi := _) (v := .bool q) rfl (by kernel_rfl) (by kernel_rfl) (by kernel_rfl) (fun _ _ _ h => h) (Or.inl ⟨by rfl, fun wx hSw => ?_⟩) (by assumption) ?_
    · go_simp
      try (first | omega | (rw [IntKind.wrap_i64]; omega))
    (try simp only [Act.put, List.setIfInBounds_toArray, List.set_cons_zero, List.set_cons_succ, List.getElem_toArray, List.getElem_cons_zero, List.getElem_cons_succ])
    refine wpAnyH_done (by kernel_rfl) ?_ _
    go_wp2_with fail
    go_ret
    exact ⟨rfl, h5.below⟩
  · rw [decide_eq_false f5, Bool.false_and]
    have f6 : ((p.length : Int) != (d : Int)) = true := by simp; omega
    clear f1 f2 f3 f4 f5
    go_enter Tryd.func29, Tryd.ntmps29
    go_wp2_with (first | (go_at_call 25; refine (HDP.out _).mono ?_; rintro e w2 ⟨rfl, rfl⟩) | (go_at_call 37; refine (HPW.out _).mono ?_; rintro e w2 ⟨rfl, rfl⟩))
    go_ret
    exact ⟨rfl, HS.out.below⟩
end Go.Proofs.YthmpeeipbclhkaaDoor

namespace Go.Proofs.YthmpeeipbclhkaaDoor
set_option linter.unusedSimpArgs false
set_option linter.unusedVariables false
open Go.RowKit

set_option maxRecDepth 100000 in
set_option maxHeartbeats 2000000 in
theorem rat_any (l : List (List Int)) (v : Value) (k : Nat) (w : World) (hv : Dl (fun k => k < w.heap.size) w v l) (hk : k < 4611686018427387904) :
    Calls Tryd.prog 44 #[v, .int .i64 (k : Int)] w fun e w' => e = .returned (.agg (byteVals (l.getD k pdd)).toArray) ∧ Below w.heap.size w w' := by
  have hb0 : Below w.heap.size w (w.alloc (.cells #[.int .u8 0, .int .u8 0, .int .u8 0, .int .u8 0, .int .u8 0, .int .u8 0, .int .u8 0, .int .u8 0, .int .u8 0, .int .u8 0, .int .u8 0, .int .u8 0, .int .u8 0, .int .u8 0, .int .u8 0, .int .u8 0, .int .u8 0, .int .u8 0, .int .u8 0, .int .u8 0, .int .u8 0, .int .u8 0, .int .u8 0, .int .u8 0, .int .u8 0, .int .u8 0, .int .u8 0, .int .u8 0, .int .u8 0, .int .u8 0, .int .u8 0, .int .u8 0] 26)) := ball (Below.refl _ _) _
  have hbl := pdd_dg.1
  obtain ⟨a, cap, hvs, hcap, hcell⟩ := hv.2.2
  subst hvs
  have hlen := hv.1
  have HV := Lib.hid hv; have HC := Lib.hid hcell
  have hp : ∀ w', Calls Tryd.prog 21 #[] w' fun e w'' => e = .returned (.agg (byteVals pdd).toArray) ∧ Below w'.heap.size w' w'' := fun w' => rpad_any w'
  obtain ⟨PD, hPD⟩ : ∃ PD, PD = pdd := ⟨_, rfl⟩
  rw [← hPD] at hp hbl ⊢
  have HP := Lib.hid hp
  have Hb0 := Lib.hid hb0
  clear hv hcell hp hPD hb0
  by_cases hlt : k < l.length
  · have hlt2 : (k : Int) < (l.length : Int) := by omega
    obtain ⟨g, off, rfl, hg, hcs⟩ := HC.out (by omega)
    obtain ⟨x, hx⟩ : ∃ x, l[k]? = some x := ⟨_, List.getElem?_eq_getElem hlt⟩
    have hr := hcs k x hx
    have hgd : l.getD k PD = x := by rw [List.getD_eq_getElem?_getD, hx]; rfl
    have hxl : x.length = 32 := (HV.out.2.1 x (List.mem_of_getElem? hx)).1
    rw [hgd]
    have hr2 : (w.alloc (.cells #[.int .u8 0, .int .u8 0, .int .u8 0, .int .u8 0, .int .u8 0, .int .u8 0, .int .u8 0, .int .u8 0, .int .u8 0, .int .u8 0, .int .u8 0, .int .u8 0, .int .u8 0, .int .u8 0, .int .u8 0, .int .u8 0, .int .u8 0, .int .u8 0, .int .u8 0, .int .u8 0, .int .u8 0, .int .u8 0, .int .u8 0, .int .u8 0, .int .u8 0, .int .u8 0, .int .u8 0, .int .u8 0, .int .u8 0, .int .u8 0, .int .u8 0, .int .u8 0] 26)).rangeAt g (off + k * 32) (byteVals x) := rangeAt_kept hr (heap_alloc_old _ _ hg)
    have hnew : RowB (w.alloc (.cells #[.int .u8 0, .int .u8 0, .int .u8 0, .int .u8 0, .int .u8 0, .int .u8 0, .int .u8 0, .int .u8 0, .int .u8 0, .int .u8 0, .int .u8 0, .int .u8 0, .int .u8 0, .int .u8 0, .int .u8 0, .int .u8 0, .int .u8 0, .int .u8 0, .int .u8 0, .int .u8 0, .int .u8 0, .int .u8 0, .int .u8 0, .int .u8 0, .int .u8 0, .int .u8 0, .int .u8 0, .int .u8 0, .int .u8 0, .int .u8 0, .int .u8 0, .int .u8 0] 26)) w.heap.size 26 (List.replicate 32 0) := RowB.new' (l := List.replicate 32 0) _ rfl rfl
    have Hr := Lib.hid hr2
    clear hr hcs hgd hx hr2
    go_enter Tryd.func44, Tryd.ntmps44
    go_wp2_with (first | (refine wpList_load_mid rfl 26 (.tmp 11) rfl g (off + k * 32) rfl (byteVals x) _ Hr.out Tryd.underlying26 rfl (size26 _ hxl) ?_) | (refine wpList_store_row rfl 26 (.tmp 4) (.tmp 12) rfl w.heap.size _ rfl rfl 26 _ hnew (size25 _ hxl) (by rw [bvsz _ hxl, bvsz _ zl32]) (all_byteVals _) ?_))
    refine bodyPost_ret (results_cell_row rfl _ _ w.heap.size 26 _ (0, 0) _ rfl (RowB.put hnew) Tryd.underlying26 rfl (size25 _ hxl)) rfl ?_
    exact ⟨rfl, bsetRow Hb0.out (Nat.le_refl _) _⟩
  · have hlt2 : ¬ ((k : Int) < (l.length : Int)) := by omega
    have hgd : l.getD k PD = PD := by rw [List.getD_eq_getElem?_getD, List.getElem?_eq_none (by omega)]; rfl
    rw [hgd]
    clear hgd
    have hS := SumS.new w #[.int .u8 0, .int .u8 0, .int .u8 0, .int .u8 0, .int .u8 0, .int .u8 0, .int .u8 0, .int .u8 0, .int .u8 0, .int .u8 0, .int .u8 0, .int .u8 0, .int .u8 0, .int .u8 0, .int .u8 0, .int .u8 0, .int .u8 0, .int .u8 0, .int .u8 0, .int .u8 0, .int .u8 0, .int .u8 0, .int .u8 0, .int .u8 0, .int .u8 0, .int .u8 0, .int .u8 0, .int .u8 0, .int .u8 0, .int .u8 0, .int .u8 0, .int .u8 0] rfl
    go_enter Tryd.func44, Tryd.ntmps44
    go_wp2_with (first | (go_at_call 21; refine (HP.out _).mono ?_; rintro e w3 ⟨rfl, hb3⟩; obtain ⟨l0, hl0, hrl⟩ := (hS.call hb3).row; have HB3 := Lib.hid (hS.call hb3).below; clear hb3) | (refine wpList_store_row rfl 26 (.tmp 4) (.tmp 13) rfl w.heap.size _ rfl rfl 26 _ hrl (size25 _ hbl) (by rw [bvsz _ hbl, bvsz _ hl0]) (all_byteVals _) ?_))
    refine bodyPost_ret (results_cell_row rfl _ _ w.heap.size 26 _ (0, 0) _ rfl (RowB.put hrl) Tryd.underlying26 rfl (size25 _ hbl)) rfl ?_
    exact ⟨rfl, bsetRow HB3.out (Nat.le_refl _) _⟩

theorem ffrom_step (a b : List (List Int)) (k n : Nat) (h : 0 < n) : ffrom a b k n = if a.getD k pdd = b.getD k pdd then ffrom a b (k + 1) (n - 1) else (k : Int) := by
  obtain ⟨m, rfl⟩ : ∃ m, n = m + 1 := ⟨n - 1, by omega⟩
  rfl

set_option maxRecDepth 100000 in
set_option maxHeartbeats 4000000 in
theorem rfirst_any (a b : List (List Int)) (oa ob : Option Addr) (ca cb : Nat) (w : World) (hv : Dl (fun k => k < w.heap.size) w (.slice oa a.length ca) a) (hv2 : Dl (fun k => k < w.heap.size) w (.slice ob b.length cb) b) :
    Calls Tryd.prog 27 #[.slice oa a.length ca, .slice ob b.length cb] w fun e w' => e = .returned (.int .i64 (fdiff a b)) ∧ Below w.heap.size w w' := by
  have hla := hv.1; have hlb := hv2.1
  have hdga := hv.2.1; have hdgb := hv2.2.1
  have HV := Lib.hid hv; have HV2 := Lib.hid hv2; have HDA := Lib.hid hdga; have HDB := Lib.hid hdgb
  obtain ⟨F, hF⟩ : ∃ F, F = fdiff a b := ⟨_, rfl⟩
  rw [← hF]
  obtain ⟨M, hM⟩ : ∃ M, M = max a.length b.length := ⟨_, rfl⟩
  have hF0 : ffrom a b 0 (M - 0) = F := by rw [hF, hM]; rfl
  have HF0 := Lib.hid hF0
  have hMa : a.length ≤ M ∧ b.length ≤ M ∧ (M = a.length ∨ M = b.length) := by omega
  clear hv hv2 hdga hdgb hF hF0 hM
  go_enter Tryd.func27, Tryd.ntmps27
  go_wp2
  go_loopw [5] (fun i wr => ∃ k : Nat, k ≤ M ∧ i = .int .i64 k ∧ Hid (Below w.heap.size w wr) ∧ Hid (ffrom a b k (M - k) = F)) (fun i _ => M - (intOf i).toNat)
  case atStart => exact ⟨0, by omega, rfl, Lib.hid (Below.refl _ _), HF0⟩
  case round =>
    clear HF0
    obtain ⟨k, hk, rfl, H, HE⟩ := hrel
    by_cases hlt : k < M
    · have hx := rat_any a _ k wr (HV.out.on H.out) (by omega)
      have hy := fun w' (hb : Below wr.heap.size wr w') => rat_any b _ k w' (HV2.out.on (H.out.trans (hb.mono H.out.size))) (by omega)
      have hst := ffrom_step a b k (M - k) (by omega)
      rw [HE.out, show M - k - 1 = M - (k + 1) from by omega] at hst
      obtain ⟨X, hX⟩ : ∃ X, X = a.getD k pdd := ⟨_, rfl⟩
      obtain ⟨Y, hY⟩ : ∃ Y, Y = b.getD k pdd := ⟨_, rfl⟩
      have hXd : Dg X := by rw [hX]; exact getD_dg HDA.out pdd_dg k
      have hYd : Dg Y := by rw [hY]; exact getD_dg HDB.out pdd_dg k
      have hXl := hXd.1; have hYl := hYd.1
      rw [← hX] at hx hst
      rw [← hY] at hst
      simp only [← hY] at hy
      have e1 := eqDig X Y hXl hYl
      have HX := Lib.hid hx; have HY := Lib.hid hy; have HST := Lib.hid hst
      clear hx hy hst hX hY hXd hYd HE
      have hcs : (k : Int) < (a.length : Int) ∨ ¬ ((k : Int) < (a.length : Int)) ∧ (k : Int) < (b.length : Int) := by omega
      by_cases hxy : X = Y
      · have hn : ffrom a b (k + 1) (M - (k + 1)) = F := by rw [HST.out, if_pos hxy]
        have HN := Lib.hid hn
        rw [decide_eq_true hxy] at e1
        clear hxy hn HST
        rcases hcs with q1 | ⟨q1, q2⟩
        · go_wp2_with fail
          refine HX.out.mono ?_
          rintro e w2 ⟨rfl, hb2⟩
          go_wp2_with fail
          refine (HY.out _ hb2).mono ?_
          rintro e w3 ⟨rfl, hb3⟩
          have H3 := Lib.hid ((H.out.trans (hb2.mono H.out.size)).trans (hb3.mono (H.out.trans (hb2.mono H.out.size)).size))
          clear hb2 hb3 H HX HY
          go_wp2
          go_roundw
          case rel => exact ⟨k + 1, by omega, by go_num, H3, HN⟩
          case measure => simp [intOf]; omega
        · go_wp2_with fail
          refine HX.out.mono ?_
          rintro e w2 ⟨rfl, hb2⟩
          go_wp2_with fail
          refine (HY.out _ hb2).mono ?_
          rintro e w3 ⟨rfl, hb3⟩
          have H3 := Lib.hid ((H.out.trans (hb2.mono H.out.size)).trans (hb3.mono (H.out.trans (hb2.mono H.out.size)).size))
          clear hb2 hb3 H HX HY
          go_wp2
          go_roundw
          case rel => exact ⟨k + 1, by omega, by go_num, H3, HN⟩
          case measure => simp [intOf]; omega
      · have hn : F = (k : Int) := by rw [HST.out, if_neg hxy]
        rw [decide_eq_false hxy] at e1
        clear hxy HST
        subst hn
        rcases hcs with q1 | ⟨q1, q2⟩
        · go_wp2_with fail
          refine HX.out.mono ?_
          rintro e w2 ⟨rfl, hb2⟩
          go_wp2_with fail
          refine (HY.out _ hb2).mono ?_
          rintro e w3 ⟨rfl, hb3⟩
          have H3 := Lib.hid ((H.out.trans (hb2.mono H.out.size)).trans (hb3.mono (H.out.trans (hb2.mono H.out.size)).size))
          clear hb2 hb3 H HX HY
          go_wp2
          go_ret
          exact ⟨rfl, H3.out⟩
        · go_wp2_with fail
          refine HX.out.mono ?_
          rintro e w2 ⟨rfl, hb2⟩
          go_wp2_with fail
          refine (HY.out _ hb2).mono ?_
          rintro e w3 ⟨rfl, hb3⟩
          have H3 := Lib.hid ((H.out.trans (hb2.mono H.out.size)).trans (hb3.mono (H.out.trans (hb2.mono H.out.size)).size))
          clear hb2 hb3 H HX HY
          go_wp2
          go_ret
          exact ⟨rfl, H3.out⟩
    · have hk2 : k = M := by omega
      subst hk2
      have hn : F = -1 := by have := HE.out; rw [Nat.sub_self] at this; exact this.symm
      subst hn
      have q1 : ¬ ((k : Int) < (a.length : Int)) := by omega
      have q2 : ¬ ((k : Int) < (b.length : Int)) := by omega
      clear HE
      go_wp2
      go_ret
      exact ⟨rfl, H.out⟩
end Go.Proofs.YthmpeeipbclhkaaDoor

namespace Go.Proofs.YthmpeeipbclhkaaDoor
set_option linter.unusedSimpArgs false
set_option linter.unusedVariables false
open Go.RowKit

theorem up_get (r : List (List Int)) (b : List Int) (t : Nat) (ht : t < (r.length + 1) / 2) : (up prt r b)[t]? = some (prt (r.getD (2 * t) b) (r.getD (2 * t + 1) b)) := by
  unfold up
  rw [List.getElem?_map, List.getElem?_range ht]; rfl

theorem up_dg (r : List (List Int)) (b : List Int) : ∀ x ∈ up prt r b, Dg x := by
  intro x hx
  unfold up at hx
  obtain ⟨i, _, rfl⟩ := List.mem_map.1 hx
  exact prt_dg _ _


theorem wp_slice1 {o : Oper} {a : Act} {w : World} {K : Act → World → Prop} {Q : Exit → Act → World → Prop} (D : List Int) (x : Operand) (ho : o.op = .buildSlice 22 1 #[(0, x)]) (hD : D.length = 32) (hx : a.eval x = .agg (byteVals D).toArray)
    (h : K (a.put o.dst (.slice (some ⟨w.heap.size, 0, none⟩) 1 1)) (w.alloc (.cells (byteVals D).toArray 26))) : o.wp Tryd.prog a w K Q := by
  refine wp_slice [D] 1 [(0, x)] ho rfl (by omega) (by simp [hD]) (by simp [hx]) ?_
  simpa using h

theorem wp_appO {o : Oper} {a : Act} {w : World} {K : Act → World → Prop} {Q : Exit → Act → World → Prop} (hty : o.type = 22) (s x : Operand)
    (ho : o.op = .call { callee := .builtin .append, args := #[s, x], argTypes := #[22, 22] }) {v u v' : Value} {w' : World} (hs : a.eval s = v) (hx : a.eval x = u)
    (hr : (Builtin.append_ #[22, 22] 22 #[v, u]).run Tryd.prog w = .ok v' w') (hk : K (a.put o.dst v') w') : o.wp Tryd.prog a w K Q := by
  unfold Oper.wp execOp
  simp only [ho, hty, resolve, invoke, builtin, Sem.run_bind, Sem.run_pure, Result.andThen_ok, List.map_toArray, List.map_cons, List.map_nil, hs, hx, hr]
  exact hk

/-- What region 8 reads. -/
def AbS (g o : Nat) (X : List Int) (B : Nat) (Y : List Int) (w' : World) : Prop := w'.rangeAt g o (byteVals X) ∧ w'.rangeAt B 0 (byteVals Y)

theorem AbS.push {w wr w5 w6 : World} {ds : List (List Int)} {v v' : Value} {D : List Int} {g o B : Nat} {X Y : List Int} (h : AbS g o X B Y w5) (hA : ApS w ds v wr) (hb : Below wr.heap.size wr w5) (hg : g < w.heap.size) (hB : wr.heap.size ≤ B) (hB5 : B < w5.heap.size) (hn : ds.length ≤ 1000) (hD : D.length = 32)
    (hr : (Builtin.append_ #[22, 22] 22 #[v, .slice (some ⟨w5.heap.size, 0, none⟩) 1 1]).run Tryd.prog (w5.alloc (.cells (byteVals D).toArray 26)) = .ok v' w6) : AbS g o X B Y w6 := by
  obtain ⟨v2, w2, hr2, _, hgr, _⟩ := append_dig w.heap.size w5 v ds D (hA.call hb).own (hA.call hb).below.size hD hn
  rw [hr] at hr2
  simp only [Result.ok.injEq] at hr2
  obtain ⟨rfl, rfl⟩ := hr2
  have hbw := hA.below.size
  refine ⟨rangeAt_kept h.1 (hgr.block g (by have := hb.size; omega) (fun e => ?_)), rangeAt_kept h.2 (hgr.block B hB5 (fun e => ?_))⟩
  · have := (hA.own.lt _ e.symm).1; omega
  · have := (hA.own.lt _ e.symm).2; omega

set_option maxRecDepth 100000 in
set_option maxHeartbeats 4000000 in
theorem rabove_any (r : List (List Int)) (b : List Int) (oa : Option Addr) (oc : Nat) (w : World) (hv : Dl (fun k => k < w.heap.size) w (.slice oa r.length oc) r) (hb : Dg b) (hr : r.length ≤ 900) :
    Calls Tryd.prog 52 #[.slice oa r.length oc, .agg (byteVals b).toArray] w fun e w' => ∃ v, e = .returned v ∧ Below w.heap.size w w' ∧ Dl (fun k => w.heap.size ≤ k ∧ k < w'.heap.size) w' v (up prt r b) := by
  have hbl := hb.1
  have hul := up_length prt r b
  have hud := up_dg r b
  have hget := up_get r b
  have hrB : RowB (w.alloc (.cells (byteVals b).toArray 26)) w.heap.size 26 b := RowB.new w 26 b
  have hbW : Below w.heap.size w (w.alloc (.cells (byteVals b).toArray 26)) := ball (Below.refl _ _) _
  have hsW : (w.alloc (.cells (byteVals b).toArray 26)).heap.size = w.heap.size + 1 := by simp
  obtain ⟨U, hU⟩ : ∃ U, U = up prt r b := ⟨_, rfl⟩
  rw [← hU] at hul hud hget ⊢
  have HV := Lib.hid hv; have HB := Lib.hid hb; have HRB := Lib.hid hrB; have HBW := Lib.hid hbW; have HUD := Lib.hid hud; have HG := Lib.hid hget
  clear hv hb hrB hbW hU hud hget
  go_enter Tryd.func52, Tryd.ntmps52
  go_wp2_with fail
  have HVW := Lib.hid (HV.out.on HBW.out)
  generalize (w.alloc (.cells (byteVals b).toArray 26)) = W at *
  have hP0 : Hid (ApS W [] (.slice (some ⟨W.heap.size, 0, none⟩) 0 0) (W.alloc (.cells #[] 26))) := Lib.hid (ApS.new W)
  go_loopw [5, 6, 7] (fun x i _ wr => ∃ t T : Nat, t ≤ U.length ∧ Hid (T = 2 * t) ∧ i = .int .i64 (T : Int) ∧ Hid (ApS W (U.take t) x wr)) (fun _ i _ _ => 2 * U.length - (intOf i).toNat)
  case atStart => exact ⟨0, 0, by omega, Lib.hid rfl, rfl, by rw [← hsW]; exact hP0⟩
  case round =>
    clear hP0
    obtain ⟨t, T, ht, HT, rfl, H⟩ := hrel
    by_cases hlt : T < r.length
    · have hT := HT.out
      have htU : t < U.length := by omega
      have hlt2 : (T : Int) < (r.length : Int) := by omega
      obtain ⟨g, off, X, rfl, hg, hx, hxl, hrg, hc⟩ := HVW.out.pick T hlt
      have hXd : Dg X := HVW.out.2.1 X (List.mem_of_getElem? hx)
      have hgX : r.getD T b = X := by rw [List.getD_eq_getElem?_getD, hx]; rfl
      have hgt := HG.out t (by omega)
      rw [← hT, hgX] at hgt
      have HTN : Hid (T + 2 = 2 * (t + 1)) := Lib.hid (by omega)
      clear hT HT
      have hrw : wr.rangeAt w.heap.size 0 (byteVals b) := by
        intro s u hu
        have hb : wr.heap[w.heap.size]? = W.heap[w.heap.size]? := H.out.below.block _ (by omega)
        rw [Nat.zero_add, cell_of_row wr w.heap.size s _ 26 (0, 0) (hb.trans HRB.out)]
        simpa using hu
      have HRW := Lib.hid hrw
      have HS := Lib.hid (St4.nil wr)
      have hmk : (U.take t).length ≤ 1000 := by rw [List.length_take]; omega
      have HRX := Lib.hid (And.intro (Nat.lt_of_lt_of_le hg H.out.below.size) (rangeAt_kept hrg (H.out.below.block _ hg)))
      have HXD := Lib.hid hXd
      clear hrg hx hgX hrw hXd
      by_cases hlt3 : T + 1 < r.length
      · obtain ⟨g2, off2, Y, he2, hg2, hy, hyl, hrg2, hc2⟩ := HVW.out.pick (T + 1) hlt3
        simp only [Option.some.injEq, Addr.mk.injEq, and_true] at he2
        obtain ⟨rfl, rfl⟩ := he2
        have hYd : Dg Y := HVW.out.2.1 Y (List.mem_of_getElem? hy)
        have hgY : r.getD (T + 1) b = Y := by rw [List.getD_eq_getElem?_getD, hy]; rfl
        rw [hgY] at hgt
        have hlt4 : decide ((T : Int) + 1 < (r.length : Int)) = true := decide_eq_true (by omega)
        have hlt6 : (T : Int) + 1 < (r.length : Int) := by omega
        have HRY := Lib.hid (And.intro (Nat.lt_of_lt_of_le hg2 H.out.below.size) (rangeAt_kept hrg2 (H.out.below.block _ hg2)))
        have hDl := (prt_dg X Y).1
        have hpa : ∀ w', Calls Tryd.prog 23 #[.agg (byteVals X).toArray, .agg (byteVals Y).toArray] w' fun e w'' => e = .returned (.agg (byteVals (prt X Y)).toArray) ∧ Below w'.heap.size w' w'' := fun w' => rparent_any X Y w' HXD.out hYd
        obtain ⟨D, hD⟩ : ∃ D, D = prt X Y := ⟨_, rfl⟩
        rw [← hD] at hgt hDl hpa
        have hf := fold_zero D hDl
        have hbl2 : (byteVals D).length = 32 := by rw [byteVals_length, hDl]
        have HGT := Lib.hid hgt; have HPA := Lib.hid hpa
        clear hgt hpa hD hrg2 hy hgY hYd
        go_upto_region 6 with (first | (refine wpList_loadG (by rfl) (.tmp 3) rfl w.heap.size rfl b HRW.out hbl ?_) | (refine wpList_newD HS.out rfl (.tmp 7) (.tmp 15) rfl rfl b rfl hbl rfl ?_; intro wS hS; replace HS := Lib.hid hS; clear hS))
        have hrl : RowB wS wr.heap.size 26 b := HS.out.row (by (with_reducible (repeat (first | exact List.mem_cons_self | refine List.mem_cons_of_mem _ ?_))))
        have HRY2 := Lib.hid (rangeAt_kept HRY.out.2 (HS.out.below.block _ HRY.out.1))
        go_upto_region 8 with (first | (refine wpList_load_mid rfl 26 (.tmp 24) rfl g (off + (T + 1) * 32) rfl (byteVals Y) _ HRY2.out Tryd.underlying26 rfl (size26 _ hyl) ?_) | (refine wpList_store_row rfl 26 (.tmp 7) (.tmp 25) rfl wr.heap.size _ rfl rfl 26 _ hrl (size25 _ hyl) (by rw [bvsz _ hyl, bvsz _ hbl]) (all_byteVals _) ?_))
        replace HS := Lib.hid (HS.out.put1 wr.heap.size 26 (byteVals b) (byteVals Y) (by intro y hy; simp at hy))
        clear hrl HRY2
        generalize wS.setRow wr.heap.size (byteVals Y).toArray = wS at *
        refine wp_region_held_drew (S := fun w' => AbS g (off + T * 32) X wr.heap.size Y w') (by kernel_rfl) ⟨rangeAt_kept HRX.out.2 (HS.out.drew.below.block _ HRX.out.1), HS.out.drew.range (by (with_reducible (repeat (first | exact List.mem_cons_self | refine List.mem_cons_of_mem _ ?_))))⟩ (fun hHeld => ?_)
        change wpAnyH _ _ _ _ _ 10 #[false, false, false, false, false, false, false, false, false, false] _ _
        refine wpAnyH_take (i := 0) (oi := _) (v := u5) rfl (by kernel_rfl) (by kernel_rfl) (by kernel_rfl) (fun _ _ _ h => h) (Or.inl ⟨by rfl, fun wx hSw => ?_⟩) (by assumption) ?_
        · go_simp
          try (first | omega | (rw [IntKind.wrap_i64]; omega))
        (try simp only [Act.put, List.setIfInBounds_toArray, List.set_cons_zero, List.set_cons_succ, List.getElem_toArray, List.getElem_cons_zero, List.getElem_cons_succ])
        refine wpAnyH_take (i := 1) (oi := _) (v := .slice (some ⟨g, off, none⟩) r.length oc) rfl (by kernel_rfl) (by kernel_rfl) (by kernel_rfl) (fun _ _ _ h => h) (Or.inl ⟨by rfl, fun wx hSw => ?_⟩) (by assumption) ?_
        · go_simp
          try (first | omega | (rw [IntKind.wrap_i64]; omega))
        (try simp only [Act.put, List.setIfInBounds_toArray, List.set_cons_zero, List.set_cons_succ, List.getElem_toArray, List.getElem_cons_zero, List.getElem_cons_succ])
        refine wpAnyH_take (i := 2) (oi := _) (v := .int .i64 (T : Int)) rfl (by kernel_rfl) (by kernel_rfl) (by kernel_rfl) (fun _ _ _ h => h) (Or.inl ⟨by rfl, fun wx hSw => ?_⟩) (by assumption) ?_
        · go_simp
          try (first | omega | (rw [IntKind.wrap_i64]; omega))
        (try simp only [Act.put, List.setIfInBounds_toArray, List.set_cons_zero, List.set_cons_succ, List.getElem_toArray, List.getElem_cons_zero, List.getElem_cons_succ])
        refine wpAnyH_take (i := 3) (oi := _) (v := .pointer (some ⟨g, off + T * 32, none⟩)) rfl (by kernel_rfl) (by kernel_rfl) (by kernel_rfl) (fun _ _ _ h => h) (Or.inl ⟨by rfl, fun wx hSw => ?_⟩) (by assumption) ?_
        · go_simp
          try (first | omega | (rw [IntKind.wrap_i64]; omega))
        (try simp only [Act.put, List.setIfInBounds_toArray, List.set_cons_zero, List.set_cons_succ, List.getElem_toArray, List.getElem_cons_zero, List.getElem_cons_succ])
        refine wpAnyH_take (i := 4) (oi := _) (v := .agg (byteVals X).toArray) rfl (by kernel_rfl) (by kernel_rfl) (by kernel_rfl) (fun _ _ _ h => h) (yieldsIf_load_mid (by rfl) 26 _ rfl g (off + T * 32) rfl (byteVals X) _ (fun wx hSw => hSw.1) Tryd.underlying26 rfl (size26 _ hxl)) (by assumption) ?_
        (try simp only [Act.put, List.setIfInBounds_toArray, List.set_cons_zero, List.set_cons_succ, List.getElem_toArray, List.getElem_cons_zero, List.getElem_cons_succ])
        refine wpAnyH_take (i := 5) (oi := _) (v := .agg (byteVals Y).toArray) rfl (by kernel_rfl) (by kernel_rfl) (by kernel_rfl) (fun _ _ _ h => h) (yieldsIf_load_mid (by rfl) 26 _ rfl wr.heap.size 0 rfl (byteVals Y) _ (fun wx hSw => hSw.2) Tryd.underlying26 rfl (size26 _ hyl)) (by assumption) ?_
        (try simp only [Act.put, List.setIfInBounds_toArray, List.set_cons_zero, List.set_cons_succ, List.getElem_toArray, List.getElem_cons_zero, List.getElem_cons_succ])
        refine wpAnyH_ready (rs := [6]) (by kernel_rfl) (by simp) ?_
        refine AllReadyH.cons (o := _) rfl (fun K hK => ?_) AllReadyH.nil
        go_simp
        refine (HPA.out _).mono ?_
        rintro e w5 ⟨rfl, hb⟩
        replace HS := Lib.hid (HS.out.drew.call hb)
        clear hb hHeld
        obtain ⟨v6, w6, hr6, h6⟩ := (H.out.call HS.out.below).push D hDl hmk
        rw [show U.take t ++ [D] = U.take (t + 1) from by rw [List.take_add_one, HGT.out]; rfl] at h6
        have h5 : AbS g (off + T * 32) X wr.heap.size Y w5 := ⟨rangeAt_kept HRX.out.2 (HS.out.below.block _ HRX.out.1), HS.out.range (by (with_reducible (repeat (first | exact List.mem_cons_self | refine List.mem_cons_of_mem _ ?_))))⟩
        have h8 := h5.push H.out HS.out.below hg (Nat.le_refl _) (HS.out.lt (by (with_reducible (repeat (first | exact List.mem_cons_self | refine List.mem_cons_of_mem _ ?_))))) hmk hDl hr6
        have H6 := Lib.hid h6; have R6 := Lib.hid hr6
        clear h6 hr6
        go_wp2_with fail
        refine hK.out _ _ (h5) (fun hHeld => ?_)
        clear hK K
        (try simp only [Act.put, List.setIfInBounds_toArray, List.set_cons_zero, List.set_cons_succ, List.getElem_toArray, List.getElem_cons_zero, List.getElem_cons_succ])
        refine wpAnyH_ready (rs := [7]) (by kernel_rfl) (by simp) ?_
        refine AllReadyH.cons (o := _) rfl (fun K hK => ?_) AllReadyH.nil
        rw [if_pos (show Region.wanted _ _ = true by rfl)]
        refine wp_slice1 D (.tmp 32) rfl hDl rfl ?_
        refine hK.out _ _ (⟨rangeAt_kept hHeld.1 (heap_alloc_old _ _ (Nat.lt_of_lt_of_le HRX.out.1 HS.out.below.size)), rangeAt_kept hHeld.2 (heap_alloc_old _ _ (HS.out.lt (by (with_reducible (repeat (first | exact List.mem_cons_self | refine List.mem_cons_of_mem _ ?_))))))⟩) (fun hHeld => ?_)
        clear hK K
        (try simp only [Act.put, List.setIfInBounds_toArray, List.set_cons_zero, List.set_cons_succ, List.getElem_toArray, List.getElem_cons_zero, List.getElem_cons_succ])
        refine wpAnyH_ready (rs := [8]) (by kernel_rfl) (by simp) ?_
        refine AllReadyH.cons (o := _) rfl (fun K hK => ?_) AllReadyH.nil
        rw [if_pos (show Region.wanted _ _ = true by rfl)]
        refine wp_appO rfl (.tmp 26) (.tmp 33) rfl rfl rfl R6.out ?_
        refine hK.out _ _ (h8) (fun hHeld => ?_)
        clear hK K
        (try simp only [Act.put, List.setIfInBounds_toArray, List.set_cons_zero, List.set_cons_succ, List.getElem_toArray, List.getElem_cons_zero, List.getElem_cons_succ])
        refine wpAnyH_take (i := 9) (oi := _) (v := v6) rfl (by kernel_rfl) (by kernel_rfl) (by kernel_rfl) (fun _ _ _ h => h) (Or.inl ⟨by rfl, fun wx hSw => ?_⟩) (by assumption) ?_
        · go_simp
          try (first | omega | (rw [IntKind.wrap_i64]; omega))
        (try simp only [Act.put, List.setIfInBounds_toArray, List.set_cons_zero, List.set_cons_succ, List.getElem_toArray, List.getElem_cons_zero, List.getElem_cons_succ])
        refine wpAnyH_done (by kernel_rfl) ?_ _
        clear h5 h8 hHeld HS
        go_wp2_with fail
        go_roundw
        case rel => exact ⟨t + 1, T + 2, by omega, HTN, by go_num, H6⟩
        case measure => simp [intOf]; omega
      · have hgY : r.getD (T + 1) b = b := by rw [List.getD_eq_getElem?_getD, List.getElem?_eq_none (by omega)]; rfl
        rw [hgY] at hgt
        have hlt4 : ¬ ((T : Int) + 1 < (r.length : Int)) := by omega
        have hDl := (prt_dg X b).1
        have hpa : ∀ w', Calls Tryd.prog 23 #[.agg (byteVals X).toArray, .agg (byteVals b).toArray] w' fun e w'' => e = .returned (.agg (byteVals (prt X b)).toArray) ∧ Below w'.heap.size w' w'' := fun w' => rparent_any X b w' HXD.out HB.out
        obtain ⟨D, hD⟩ : ∃ D, D = prt X b := ⟨_, rfl⟩
        rw [← hD] at hgt hDl hpa
        have hf := fold_zero D hDl
        have hbl2 : (byteVals D).length = 32 := by rw [byteVals_length, hDl]
        have HGT := Lib.hid hgt; have HPA := Lib.hid hpa
        clear hgt hpa hD hgY
        go_upto_region 8 with (first | (refine wpList_loadG (by rfl) (.tmp 3) rfl w.heap.size rfl b HRW.out hbl ?_) | (refine wpList_newD HS.out rfl (.tmp 7) (.tmp 15) rfl rfl b rfl hbl rfl ?_; intro wS hS; replace HS := Lib.hid hS; clear hS))
        refine wp_region_held_drew (S := fun w' => AbS g (off + T * 32) X wr.heap.size b w') (by kernel_rfl) ⟨rangeAt_kept HRX.out.2 (HS.out.drew.below.block _ HRX.out.1), HS.out.drew.range (by (with_reducible (repeat (first | exact List.mem_cons_self | refine List.mem_cons_of_mem _ ?_))))⟩ (fun hHeld => ?_)
        change wpAnyH _ _ _ _ _ 10 #[false, false, false, false, false, false, false, false, false, false] _ _
        refine wpAnyH_take (i := 0) (oi := _) (v := u5) rfl (by kernel_rfl) (by kernel_rfl) (by kernel_rfl) (fun _ _ _ h => h) (Or.inl ⟨by rfl, fun wx hSw => ?_⟩) (by assumption) ?_
        · go_simp
          try (first | omega | (rw [IntKind.wrap_i64]; omega))
        (try simp only [Act.put, List.setIfInBounds_toArray, List.set_cons_zero, List.set_cons_succ, List.getElem_toArray, List.getElem_cons_zero, List.getElem_cons_succ])
        refine wpAnyH_take (i := 1) (oi := _) (v := .slice (some ⟨g, off, none⟩) r.length oc) rfl (by kernel_rfl) (by kernel_rfl) (by kernel_rfl) (fun _ _ _ h => h) (Or.inl ⟨by rfl, fun wx hSw => ?_⟩) (by assumption) ?_
        · go_simp
          try (first | omega | (rw [IntKind.wrap_i64]; omega))
        (try simp only [Act.put, List.setIfInBounds_toArray, List.set_cons_zero, List.set_cons_succ, List.getElem_toArray, List.getElem_cons_zero, List.getElem_cons_succ])
        refine wpAnyH_take (i := 2) (oi := _) (v := .int .i64 (T : Int)) rfl (by kernel_rfl) (by kernel_rfl) (by kernel_rfl) (fun _ _ _ h => h) (Or.inl ⟨by rfl, fun wx hSw => ?_⟩) (by assumption) ?_
        · go_simp
          try (first | omega | (rw [IntKind.wrap_i64]; omega))
        (try simp only [Act.put, List.setIfInBounds_toArray, List.set_cons_zero, List.set_cons_succ, List.getElem_toArray, List.getElem_cons_zero, List.getElem_cons_succ])
        refine wpAnyH_take (i := 3) (oi := _) (v := .pointer (some ⟨g, off + T * 32, none⟩)) rfl (by kernel_rfl) (by kernel_rfl) (by kernel_rfl) (fun _ _ _ h => h) (Or.inl ⟨by rfl, fun wx hSw => ?_⟩) (by assumption) ?_
        · go_simp
          try (first | omega | (rw [IntKind.wrap_i64]; omega))
        (try simp only [Act.put, List.setIfInBounds_toArray, List.set_cons_zero, List.set_cons_succ, List.getElem_toArray, List.getElem_cons_zero, List.getElem_cons_succ])
        refine wpAnyH_take (i := 4) (oi := _) (v := .agg (byteVals X).toArray) rfl (by kernel_rfl) (by kernel_rfl) (by kernel_rfl) (fun _ _ _ h => h) (yieldsIf_load_mid (by rfl) 26 _ rfl g (off + T * 32) rfl (byteVals X) _ (fun wx hSw => hSw.1) Tryd.underlying26 rfl (size26 _ hxl)) (by assumption) ?_
        (try simp only [Act.put, List.setIfInBounds_toArray, List.set_cons_zero, List.set_cons_succ, List.getElem_toArray, List.getElem_cons_zero, List.getElem_cons_succ])
        refine wpAnyH_take (i := 5) (oi := _) (v := .agg (byteVals b).toArray) rfl (by kernel_rfl) (by kernel_rfl) (by kernel_rfl) (fun _ _ _ h => h) (yieldsIf_load_mid (by rfl) 26 _ rfl wr.heap.size 0 rfl (byteVals b) _ (fun wx hSw => hSw.2) Tryd.underlying26 rfl (size26 _ hbl)) (by assumption) ?_
        (try simp only [Act.put, List.setIfInBounds_toArray, List.set_cons_zero, List.set_cons_succ, List.getElem_toArray, List.getElem_cons_zero, List.getElem_cons_succ])
        refine wpAnyH_ready (rs := [6]) (by kernel_rfl) (by simp) ?_
        refine AllReadyH.cons (o := _) rfl (fun K hK => ?_) AllReadyH.nil
        go_simp
        refine (HPA.out _).mono ?_
        rintro e w5 ⟨rfl, hb⟩
        replace HS := Lib.hid (HS.out.drew.call hb)
        clear hb hHeld
        obtain ⟨v6, w6, hr6, h6⟩ := (H.out.call HS.out.below).push D hDl hmk
        rw [show U.take t ++ [D] = U.take (t + 1) from by rw [List.take_add_one, HGT.out]; rfl] at h6
        have h5 : AbS g (off + T * 32) X wr.heap.size b w5 := ⟨rangeAt_kept HRX.out.2 (HS.out.below.block _ HRX.out.1), HS.out.range (by (with_reducible (repeat (first | exact List.mem_cons_self | refine List.mem_cons_of_mem _ ?_))))⟩
        have h8 := h5.push H.out HS.out.below hg (Nat.le_refl _) (HS.out.lt (by (with_reducible (repeat (first | exact List.mem_cons_self | refine List.mem_cons_of_mem _ ?_))))) hmk hDl hr6
        have H6 := Lib.hid h6; have R6 := Lib.hid hr6
        clear h6 hr6
        go_wp2_with fail
        refine hK.out _ _ (h5) (fun hHeld => ?_)
        clear hK K
        (try simp only [Act.put, List.setIfInBounds_toArray, List.set_cons_zero, List.set_cons_succ, List.getElem_toArray, List.getElem_cons_zero, List.getElem_cons_succ])
        refine wpAnyH_ready (rs := [7]) (by kernel_rfl) (by simp) ?_
        refine AllReadyH.cons (o := _) rfl (fun K hK => ?_) AllReadyH.nil
        rw [if_pos (show Region.wanted _ _ = true by rfl)]
        refine wp_slice1 D (.tmp 32) rfl hDl rfl ?_
        refine hK.out _ _ (⟨rangeAt_kept hHeld.1 (heap_alloc_old _ _ (Nat.lt_of_lt_of_le HRX.out.1 HS.out.below.size)), rangeAt_kept hHeld.2 (heap_alloc_old _ _ (HS.out.lt (by (with_reducible (repeat (first | exact List.mem_cons_self | refine List.mem_cons_of_mem _ ?_))))))⟩) (fun hHeld => ?_)
        clear hK K
        (try simp only [Act.put, List.setIfInBounds_toArray, List.set_cons_zero, List.set_cons_succ, List.getElem_toArray, List.getElem_cons_zero, List.getElem_cons_succ])
        refine wpAnyH_ready (rs := [8]) (by kernel_rfl) (by simp) ?_
        refine AllReadyH.cons (o := _) rfl (fun K hK => ?_) AllReadyH.nil
        rw [if_pos (show Region.wanted _ _ = true by rfl)]
        refine wp_appO rfl (.tmp 26) (.tmp 33) rfl rfl rfl R6.out ?_
        refine hK.out _ _ (h8) (fun hHeld => ?_)
        clear hK K
        (try simp only [Act.put, List.setIfInBounds_toArray, List.set_cons_zero, List.set_cons_succ, List.getElem_toArray, List.getElem_cons_zero, List.getElem_cons_succ])
        refine wpAnyH_take (i := 9) (oi := _) (v := v6) rfl (by kernel_rfl) (by kernel_rfl) (by kernel_rfl) (fun _ _ _ h => h) (Or.inl ⟨by rfl, fun wx hSw => ?_⟩) (by assumption) ?_
        · go_simp
          try (first | omega | (rw [IntKind.wrap_i64]; omega))
        (try simp only [Act.put, List.setIfInBounds_toArray, List.set_cons_zero, List.set_cons_succ, List.getElem_toArray, List.getElem_cons_zero, List.getElem_cons_succ])
        refine wpAnyH_done (by kernel_rfl) ?_ _
        clear h5 h8 hHeld HS
        go_wp2_with fail
        go_roundw
        case rel => exact ⟨t + 1, T + 2, by omega, HTN, by go_num, H6⟩
        case measure => simp [intOf]; omega
    · have hT := HT.out
      have hk2 : t = U.length := by omega
      subst hk2
      have hlt2 : ¬ ((T : Int) < (r.length : Int)) := by omega
      rw [List.take_length] at H
      have hdl := own_dl H.out.own HUD.out (by omega)
      have HDL := Lib.hid (hdl.kept (F' := fun k => w.heap.size ≤ k ∧ k < wr.heap.size) (fun _ _ => rfl) (fun k hk => ⟨by have := hk.1; omega, hk.2⟩))
      have HBL := Lib.hid (HBW.out.trans (H.out.below.mono (by omega)))
      clear hdl H
      clear hT HT
      go_wp2
      go_ret
      exact ⟨_, rfl, HBL.out, HDL.out⟩
end Go.Proofs.YthmpeeipbclhkaaDoor

namespace Go.Proofs.YthmpeeipbclhkaaDoor
set_option linter.unusedSimpArgs false
set_option linter.unusedVariables false
open Go.RowKit

theorem rows_dg (l : List (List Int)) (h : ∀ x ∈ l, Dg x) (j : Nat) : ∀ x ∈ rows prt pdd l j, Dg x := by
  cases j with
  | zero => exact h
  | succ j => exact up_dg _ _

/-- A known list in memory that was there. -/
theorem St4.alsoOld {w w' : World} {L : List (Nat × TypeId × List Value)} {M : List (Value × List (List Int))} (h : St4 w L M w') {v : Value} {l : List (List Int)} (hd : Dl (fun k => k < w.heap.size) w v l) : St4 w L ((v, l) :: M) w' := by
  refine ⟨h.below, h.rows, fun y hy => ?_⟩
  rcases List.mem_cons.1 hy with rfl | hy
  · exact hd.kept (fun k hk => h.below.block k hk) (fun k hk => ⟨Nat.lt_of_lt_of_le hk h.below.size, fun x hx => by have := (h.rows x hx).1; omega⟩)
  · exact h.dls y hy

set_option maxRecDepth 100000 in
set_option maxHeartbeats 4000000 in
theorem rnode_any (l : List (List Int)) (oa : Option Addr) (oc n K : Nat) (w : World) (hv : Dl (fun k => k < w.heap.size) w (.slice oa l.length oc) l) (hl : l.length ≤ 900) (hn : n ≤ 16) (hK : K < 4611686018427387904) :
    Calls Tryd.prog 38 #[.slice oa l.length oc, .int .i64 (n : Int), .int .i64 (K : Int)] w fun e w' => e = .returned (.agg (byteVals (nd prt pdd l n K)).toArray) ∧ Below w.heap.size w w' := by
  have hS0 := (St4.nil w).new 26 (byteVals (List.replicate 32 0))
  have HS : Hid (St4 w [(w.heap.size, 26, byteVals (List.replicate 32 0))] [] (w.alloc (.cells #[.int .u8 0, .int .u8 0, .int .u8 0, .int .u8 0, .int .u8 0, .int .u8 0, .int .u8 0, .int .u8 0, .int .u8 0, .int .u8 0, .int .u8 0, .int .u8 0, .int .u8 0, .int .u8 0, .int .u8 0, .int .u8 0, .int .u8 0, .int .u8 0, .int .u8 0, .int .u8 0, .int .u8 0, .int .u8 0, .int .u8 0, .int .u8 0, .int .u8 0, .int .u8 0, .int .u8 0, .int .u8 0, .int .u8 0, .int .u8 0, .int .u8 0, .int .u8 0] 26))) := Lib.hid hS0
  have hpl := pdd_dg.1
  have hpd : ∀ w', Calls Tryd.prog 21 #[] w' fun e w'' => e = .returned (.agg (byteVals pdd).toArray) ∧ Below w'.heap.size w' w'' := fun w' => rpad_any w'
  have hrg := rows_getD prt pdd l n K
  obtain ⟨R0, hR0⟩ : ∃ R0, R0 = nd prt pdd l n K := ⟨_, rfl⟩
  rw [← hR0] at hrg ⊢
  obtain ⟨PD, hPD⟩ : ∃ PD, PD = pdd := ⟨_, rfl⟩
  have h0 : PD = bh prt pdd 0 := hPD
  rw [← hPD] at hpd hpl
  have HPD := Lib.hid hpd; have HV := Lib.hid hv; have HRG := Lib.hid hrg; have H0 := Lib.hid h0
  clear hS0 hpd hv hrg hR0 hPD h0
  go_enter Tryd.func38, Tryd.ntmps38
  go_wp2_with fail
  refine (HPD.out _).mono ?_
  rintro e w3 ⟨rfl, hb⟩
  replace HS := Lib.hid (HS.out.call hb)
  have hlt : w.heap.size < w3.heap.size := HS.out.lt List.mem_cons_self
  clear hb
  go_wp2_with (refine wpList_newD HS.out rfl (.tmp 8) (.tmp 11) rfl rfl PD rfl hpl rfl ?_; intro wS hS; replace HS := Lib.hid hS; clear hS)
  replace HS := Lib.hid (HS.out.alsoOld HV.out)
  generalize w3.heap.size = B8 at *
  go_loopw [7, 9] (fun v i wr => ∃ (j : Nat) (ra : Option Addr) (rc : Nat) (R : List (List Int)) (P : List Int), j ≤ n ∧ i = .int .i64 j ∧ v = .slice ra R.length rc ∧ R.length ≤ 900 ∧ Hid (R = rows prt pdd l j ∧ P = bh prt pdd j) ∧ Hid (St4 w [(B8, 26, byteVals P), (w.heap.size, 26, byteVals (List.replicate 32 0))] [(.slice ra R.length rc, R)] wr)) (fun _ i _ => n - (intOf i).toNat)
  case atStart => exact ⟨0, oa, oc, l, PD, by omega, rfl, rfl, hl, Lib.hid ⟨rfl, H0.out⟩, HS⟩
  case round =>
    clear HS
    obtain ⟨j, ra, rc, R, P, hj, rfl, rfl, hRl, HRP, HS⟩ := hrel
    have hPd : Dg P := by rw [HRP.out.2]; exact bh_dg j
    have hPl := hPd.1
    have HPd := Lib.hid hPd
    clear hPd
    by_cases hlt2 : j < n
    · have q1 : (j : Int) < (n : Int) := by omega
      have hul := up_length prt R P
      obtain ⟨U, hU⟩ : ∃ U, U = up prt R P := ⟨_, rfl⟩
      have hab : ∀ w', Dl (fun k => k < w'.heap.size) w' (.slice ra R.length rc) R → Calls Tryd.prog 52 #[.slice ra R.length rc, .agg (byteVals P).toArray] w' fun e w'' => ∃ a c, e = .returned (.slice a U.length c) ∧ Below w'.heap.size w' w'' ∧ Dl (fun k => w'.heap.size ≤ k ∧ k < w''.heap.size) w'' (.slice a U.length c) U := by
        intro w' h
        refine (rabove_any R P ra rc w' h HPd.out hRl).mono ?_
        rintro e w'' ⟨v, he, hb, hd⟩
        rw [← hU] at hd
        obtain ⟨a, c, rfl⟩ := hd.shape
        exact ⟨a, c, he, hb, hd⟩
      have hpp : ∀ w', Calls Tryd.prog 23 #[.agg (byteVals P).toArray, .agg (byteVals P).toArray] w' fun e w'' => e = .returned (.agg (byteVals (prt P P)).toArray) ∧ Below w'.heap.size w' w'' := fun w' => rparent_any P P w' HPd.out HPd.out
      obtain ⟨Q, hQ⟩ : ∃ Q, Q = prt P P := ⟨_, rfl⟩
      have hQl : Q.length = 32 := by rw [hQ]; exact (prt_dg P P).1
      have hnx : U = rows prt pdd l (j + 1) ∧ Q = bh prt pdd (j + 1) := by
        refine ⟨?_, ?_⟩
        · rw [hU, HRP.out.1, HRP.out.2]; rfl
        · rw [hQ, HRP.out.2]; rfl
      have hUl : U.length ≤ 900 := by rw [hU, hul]; omega
      rw [← hQ] at hpp
      have HAB := Lib.hid hab; have HPP := Lib.hid hpp; have HNX := Lib.hid hnx
      clear hab hpp hnx hQ hU hul
      go_wp2_with (first | (refine wpList_loadG (by rfl) (.tmp 8) rfl B8 rfl P (HS.out.range (by (with_reducible (repeat (first | exact List.mem_cons_self | refine List.mem_cons_of_mem _ ?_))))) hPl ?_))
      refine (HAB.out _ (HS.out.dl (by (with_reducible (repeat (first | exact List.mem_cons_self | refine List.mem_cons_of_mem _ ?_)))))).mono ?_
      rintro e w4 ⟨ua, uc, rfl, hb, hd⟩
      replace HS := Lib.hid ((HS.out.bare).callAlso hb hd)
      clear hb hd
      go_wp2_with (first | (refine wpList_loadG (by rfl) (.tmp 8) rfl B8 rfl P (HS.out.range (by (with_reducible (repeat (first | exact List.mem_cons_self | refine List.mem_cons_of_mem _ ?_))))) hPl ?_))
      refine (HPP.out _).mono ?_
      rintro e w5 ⟨rfl, hb⟩
      replace HS := Lib.hid (HS.out.call hb)
      clear hb
      have hrl : RowB w5 B8 26 P := HS.out.row (by (with_reducible (repeat (first | exact List.mem_cons_self | refine List.mem_cons_of_mem _ ?_))))
      have H7 := Lib.hid (HS.out.put1 B8 26 (byteVals P) (byteVals Q) (by intro y hy; simp at hy; subst hy; simp only []; omega))
      clear HS
      go_wp2_with (refine wpList_store_row rfl 26 (.tmp 8) (.tmp 22) rfl B8 _ rfl rfl 26 _ hrl (size25 _ hQl) (by rw [bvsz _ hQl, bvsz _ hPl]) (all_byteVals _) ?_)
      go_roundw
      case rel => exact ⟨j + 1, ua, uc, U, Q, by omega, by go_num, rfl, hUl, HNX, H7⟩
      case measure => simp [intOf]; omega
    · have hj2 : j = n := by omega
      subst hj2
      have q1 : ¬ ((j : Int) < (j : Int)) := by omega
      have hR0 : R.getD K P = R0 := by rw [HRP.out.1, HRP.out.2]; exact HRG.out
      have hrz : RowB wr w.heap.size 26 (List.replicate 32 0) := HS.out.row (by (with_reducible (repeat (first | exact List.mem_cons_self | refine List.mem_cons_of_mem _ ?_))))
      by_cases hKR : K < R.length
      · have q2 : (K : Int) < (R.length : Int) := by omega
        obtain ⟨g, off, X, rfl, hg, hx, hxl, hr, hc⟩ := (HS.out.dl (v := .slice ra R.length rc) (l := R) (by (with_reducible (repeat (first | exact List.mem_cons_self | refine List.mem_cons_of_mem _ ?_))))).pick K hKR
        have hXR : X = R0 := by rw [← hR0, List.getD_eq_getElem?_getD, hx]; rfl
        subst hXR
        have HR2 := Lib.hid hr
        clear hR0 hx hr
        go_wp2_with (first | (refine wpList_load_mid rfl 26 (.tmp 29) rfl g (off + K * 32) rfl (byteVals X) _ HR2.out Tryd.underlying26 rfl (size26 _ hxl) ?_) | (refine wpList_store_row rfl 26 (.tmp 6) (.tmp 30) rfl w.heap.size _ rfl rfl 26 _ hrz (size25 _ hxl) (by rw [bvsz _ hxl, bvsz _ zl32]) (all_byteVals _) ?_))
        refine bodyPost_ret (results_cell_row rfl _ _ w.heap.size 26 _ (0, 0) _ rfl (RowB.put hrz) Tryd.underlying26 rfl (size25 _ hxl)) rfl ?_
        exact ⟨rfl, bsetRow HS.out.below (Nat.le_refl _) _⟩
      · have q2 : ¬ ((K : Int) < (R.length : Int)) := by omega
        have hPR : P = R0 := by rw [← hR0, List.getD_eq_getElem?_getD, List.getElem?_eq_none (by omega)]; rfl
        subst hPR
        clear hR0
        go_wp2_with (first | (refine wpList_loadG (by rfl) (.tmp 8) rfl B8 rfl P (HS.out.range (by (with_reducible (repeat (first | exact List.mem_cons_self | refine List.mem_cons_of_mem _ ?_))))) hPl ?_) | (refine wpList_store_row rfl 26 (.tmp 6) (.tmp 31) rfl w.heap.size _ rfl rfl 26 _ hrz (size25 _ hPl) (by rw [bvsz _ hPl, bvsz _ zl32]) (all_byteVals _) ?_))
        refine bodyPost_ret (results_cell_row rfl _ _ w.heap.size 26 _ (0, 0) _ rfl (RowB.put hrz) Tryd.underlying26 rfl (size25 _ hPl)) rfl ?_
        exact ⟨rfl, bsetRow HS.out.below (Nat.le_refl _) _⟩
end Go.Proofs.YthmpeeipbclhkaaDoor

namespace Go.Proofs.YthmpeeipbclhkaaDoor
set_option linter.unusedSimpArgs false
set_option linter.unusedVariables false
open Go.RowKit

theorem sib_le (n : Nat) : sib n ≤ n + 1 := by unfold sib; split <;> omega

set_option maxRecDepth 100000 in
set_option maxHeartbeats 4000000 in
theorem rnodeC (l : List (List Int)) (oa : Option Addr) (oc : Nat) (j k : Int) (w : World) (hv : Dl (fun k => k < w.heap.size) w (.slice oa l.length oc) l) (hl : l.length ≤ 900) (hkb : -9223372036854775808 ≤ k ∧ k ≤ 9223372036854775807) :
    Calls Tryd.prog 14 #[.slice oa l.length oc, .int .i64 j, .int .i64 k] w fun e w' => e = .returned (.tuple #[.agg (byteVals (nodeV l j k)).toArray, .bool (!nodeX0 j k)]) ∧ Below w.heap.size w w' := by
  have hz : (List.replicate 32 (0 : Int)).length = 32 := by simp
  have hrl : RowB (w.alloc (.cells #[.int .u8 0, .int .u8 0, .int .u8 0, .int .u8 0, .int .u8 0, .int .u8 0, .int .u8 0, .int .u8 0, .int .u8 0, .int .u8 0, .int .u8 0, .int .u8 0, .int .u8 0, .int .u8 0, .int .u8 0, .int .u8 0, .int .u8 0, .int .u8 0, .int .u8 0, .int .u8 0, .int .u8 0, .int .u8 0, .int .u8 0, .int .u8 0, .int .u8 0, .int .u8 0, .int .u8 0, .int .u8 0, .int .u8 0, .int .u8 0, .int .u8 0, .int .u8 0] 26)) w.heap.size 26 (List.replicate 32 0) := RowB.new' _ rfl rfl
  have hbw : Below w.heap.size w (w.alloc (.cells #[.int .u8 0, .int .u8 0, .int .u8 0, .int .u8 0, .int .u8 0, .int .u8 0, .int .u8 0, .int .u8 0, .int .u8 0, .int .u8 0, .int .u8 0, .int .u8 0, .int .u8 0, .int .u8 0, .int .u8 0, .int .u8 0, .int .u8 0, .int .u8 0, .int .u8 0, .int .u8 0, .int .u8 0, .int .u8 0, .int .u8 0, .int .u8 0, .int .u8 0, .int .u8 0, .int .u8 0, .int .u8 0, .int .u8 0, .int .u8 0, .int .u8 0, .int .u8 0] 26)) := ball (Below.refl _ _) _
  have f0 : decide (65536 < (l.length : Int)) = false := decide_eq_false (by omega)
  have HV := Lib.hid hv
  clear hv
  unfold nodeV nodeX0
  by_cases h : j < 0 ∨ 16 < j ∨ k < 0 ∨ (0 ≤ j ∧ j ≤ 16 ∧ ((2 ^ (16 - j.toNat) : Nat) : Int) ≤ k)
  · rw [decide_eq_true h, if_pos rfl]
    by_cases f1 : j < 0
    · clear h
      go_enter Tryd.func14, Tryd.ntmps14
      go_wp2_with (first | (refine wpList_store_row rfl 26 (.tmp 6) (.tmp 30) rfl w.heap.size _ rfl rfl 26 _ hrl (size25 _ hz) rfl (all_byteVals (List.replicate 32 0)) ?_))
      refine bodyPost_ret (results_cell_slot rfl _ _ w.heap.size 26 _ (0, 0) _ (.bool false) rfl rfl (RowB.put (l' := List.replicate 32 0) hrl) Tryd.underlying26 rfl (size25 _ hz)) rfl ?_
      exact ⟨rfl, bsetRow hbw (Nat.le_refl _) _⟩
    by_cases f2 : 16 < j
    · clear h
      have g1 : decide (j < 0) = false := decide_eq_false f1
      go_enter Tryd.func14, Tryd.ntmps14
      go_wp2_with (first | (refine wpList_store_row rfl 26 (.tmp 6) (.tmp 30) rfl w.heap.size _ rfl rfl 26 _ hrl (size25 _ hz) rfl (all_byteVals (List.replicate 32 0)) ?_))
      refine bodyPost_ret (results_cell_slot rfl _ _ w.heap.size 26 _ (0, 0) _ (.bool false) rfl rfl (RowB.put (l' := List.replicate 32 0) hrl) Tryd.underlying26 rfl (size25 _ hz)) rfl ?_
      exact ⟨rfl, bsetRow hbw (Nat.le_refl _) _⟩
    by_cases f3 : k < 0
    · clear h
      have g1 : decide (j < 0) = false := decide_eq_false f1
      have g2 : decide (16 < j) = false := decide_eq_false f2
      go_enter Tryd.func14, Tryd.ntmps14
      go_wp2_with (first | (refine wpList_store_row rfl 26 (.tmp 6) (.tmp 30) rfl w.heap.size _ rfl rfl 26 _ hrl (size25 _ hz) rfl (all_byteVals (List.replicate 32 0)) ?_))
      refine bodyPost_ret (results_cell_slot rfl _ _ w.heap.size 26 _ (0, 0) _ (.bool false) rfl rfl (RowB.put (l' := List.replicate 32 0) hrl) Tryd.underlying26 rfl (size25 _ hz)) rfl ?_
      exact ⟨rfl, bsetRow hbw (Nat.le_refl _) _⟩
    have g1 : decide (j < 0) = false := decide_eq_false f1
    have g2 : decide (16 < j) = false := decide_eq_false f2
    have g3 : decide (k < 0) = false := decide_eq_false f3
    obtain ⟨s, hs⟩ : ∃ s : Nat, s = 16 - j.toNat := ⟨_, rfl⟩
    have hs16 : s ≤ 16 := by omega
    have e1 : 16 - j = (s : Int) := by omega
    have hpw : ∀ w', Calls Tryd.prog 37 #[.int .i64 (s : Int)] w' fun e w'' => e = .returned (.int .i64 ((2 ^ s : Nat) : Int)) ∧ w' = w'' := fun w' => (power_any s w' hs16).mono (fun e w2 h => ⟨h.1, h.2.symm⟩)
    have hq : ((2 ^ s : Nat) : Int) ≤ k := by rw [hs]; omega
    obtain ⟨Q, hQ⟩ : ∃ Q, Q = 2 ^ s := ⟨_, rfl⟩
    rw [← hQ] at hpw hq
    have HPW := Lib.hid hpw
    have hjr : 0 ≤ j ∧ j ≤ 16 := by omega
    have g4 : decide ((Q : Int) ≤ k) = true := decide_eq_true hq
    clear h hpw hQ hs f1 f2 f3
    go_enter Tryd.func14, Tryd.ntmps14
    go_wp2_with (first | (go_at_call 37; refine (HPW.out _).mono ?_; rintro e w2 ⟨rfl, rfl⟩) | (refine wpList_store_row rfl 26 (.tmp 6) (.tmp 30) rfl w.heap.size _ rfl rfl 26 _ hrl (size25 _ hz) rfl (all_byteVals (List.replicate 32 0)) ?_))
    refine bodyPost_ret (results_cell_slot rfl _ _ w.heap.size 26 _ (0, 0) _ (.bool false) rfl rfl (RowB.put (l' := List.replicate 32 0) hrl) Tryd.underlying26 rfl (size25 _ hz)) rfl ?_
    exact ⟨rfl, bsetRow hbw (Nat.le_refl _) _⟩
  · rw [decide_eq_false h, if_neg (by decide)]
    have f1 : ¬ j < 0 := by omega
    have f2 : ¬ 16 < j := by omega
    have f3 : ¬ k < 0 := by omega
    have g1 : decide (j < 0) = false := decide_eq_false f1
    have g2 : decide (16 < j) = false := decide_eq_false f2
    have g3 : decide (k < 0) = false := decide_eq_false f3
    obtain ⟨J, hJ⟩ : ∃ J : Nat, J = j.toNat := ⟨_, rfl⟩
    obtain ⟨K, hK⟩ : ∃ K : Nat, K = k.toNat := ⟨_, rfl⟩
    rw [← hJ, ← hK]
    obtain ⟨s, hs⟩ : ∃ s : Nat, s = 16 - j.toNat := ⟨_, rfl⟩
    have hs16 : s ≤ 16 := by omega
    have e1 : 16 - j = (s : Int) := by omega
    have hpw : ∀ w', Calls Tryd.prog 37 #[.int .i64 (s : Int)] w' fun e w'' => e = .returned (.int .i64 ((2 ^ s : Nat) : Int)) ∧ w' = w'' := fun w' => (power_any s w' hs16).mono (fun e w2 h => ⟨h.1, h.2.symm⟩)
    have hq : ¬ ((2 ^ s : Nat) : Int) ≤ k := by rw [hs]; omega
    have hQ2 : 2 ^ s ≤ 2 ^ 16 := Nat.pow_le_pow_right (by decide) hs16
    have hQ4 : (2 : Nat) ^ 16 = 65536 := by decide
    obtain ⟨Q, hQ⟩ : ∃ Q, Q = 2 ^ s := ⟨_, rfl⟩
    rw [← hQ] at hpw hq hQ2
    have HPW := Lib.hid hpw
    have hjr : 0 ≤ j ∧ j ≤ 16 := by omega
    have g4 : decide ((Q : Int) ≤ k) = false := decide_eq_false hq
    have hnd : ∀ w', Below w.heap.size w w' → Calls Tryd.prog 38 #[.slice oa l.length oc, .int .i64 j, .int .i64 k] w' fun e w'' => e = .returned (.agg (byteVals (nd prt pdd l J K)).toArray) ∧ Below w'.heap.size w' w'' := by
      intro w' hb
      have hj2 : j = (J : Int) := by omega
      have hk2 : k = (K : Int) := by omega
      rw [hj2, hk2]
      exact rnode_any l oa oc J K w' (HV.out.on hb) hl (by omega) (by omega)
    have hDl : (nd prt pdd l J K).length = 32 := (nd_dg l J K HV.out.2.1).1
    obtain ⟨D, hD⟩ : ∃ D, D = nd prt pdd l J K := ⟨_, rfl⟩
    rw [← hD] at hnd hDl ⊢
    have hS := SumS.new w #[.int .u8 0, .int .u8 0, .int .u8 0, .int .u8 0, .int .u8 0, .int .u8 0, .int .u8 0, .int .u8 0, .int .u8 0, .int .u8 0, .int .u8 0, .int .u8 0, .int .u8 0, .int .u8 0, .int .u8 0, .int .u8 0, .int .u8 0, .int .u8 0, .int .u8 0, .int .u8 0, .int .u8 0, .int .u8 0, .int .u8 0, .int .u8 0, .int .u8 0, .int .u8 0, .int .u8 0, .int .u8 0, .int .u8 0, .int .u8 0, .int .u8 0, .int .u8 0] rfl
    have HND := Lib.hid hnd
    clear h hpw hQ hs f1 f2 f3 hJ hK hnd hD hQ2 hQ4 hq
    go_enter Tryd.func14, Tryd.ntmps14
    go_wp2_with (first | (go_at_call 37; refine (HPW.out _).mono ?_; rintro e w2 ⟨rfl, rfl⟩) | (go_at_call 38; refine (HND.out _ hS.below).mono ?_; rintro e w3 ⟨rfl, hb3⟩; obtain ⟨l0, hl0, hrl2⟩ := (hS.call hb3).row; have HB3 := Lib.hid (hS.call hb3).below; clear hb3) | (refine wpList_store_row rfl 26 (.tmp 6) (.tmp 34) rfl w.heap.size _ rfl rfl 26 _ hrl2 (size25 _ hDl) (by rw [bvsz _ hDl, bvsz _ hl0]) (all_byteVals _) ?_))
    refine bodyPost_ret (results_cell_slot rfl _ _ w.heap.size 26 _ (0, 0) _ (.bool true) rfl rfl (RowB.put hrl2) Tryd.underlying26 rfl (size25 _ hDl)) rfl ?_
    exact ⟨rfl, bsetRow HB3.out (Nat.le_refl _) _⟩

set_option maxRecDepth 100000 in
set_option maxHeartbeats 1000000 in
theorem rroot_any (l : List (List Int)) (a : Option Addr) (cap : Nat) (w : World) (hv : Dl (fun k => k < w.heap.size) w (.slice a l.length cap) l) (hl : l.length ≤ 900) :
    Calls Tryd.prog 16 #[.slice a l.length cap] w fun e w' => e = .returned (.tuple #[.agg (.int .i64 (l.length : Int) :: byteVals (rootD l)).toArray, .int .i64 0]) ∧ Below w.heap.size w w' := by
  have HV := Lib.hid hv
  have hR : ResC w w.heap.size 30 (w.alloc (.cells #[.int .i64 0, .int .u8 0, .int .u8 0, .int .u8 0, .int .u8 0, .int .u8 0, .int .u8 0, .int .u8 0, .int .u8 0, .int .u8 0, .int .u8 0, .int .u8 0, .int .u8 0, .int .u8 0, .int .u8 0, .int .u8 0, .int .u8 0, .int .u8 0, .int .u8 0, .int .u8 0, .int .u8 0, .int .u8 0, .int .u8 0, .int .u8 0, .int .u8 0, .int .u8 0, .int .u8 0, .int .u8 0, .int .u8 0, .int .u8 0, .int .u8 0, .int .u8 0, .int .u8 0] 30)) := ResC.new w 30 (.int .i64 0) _ rfl
  have hd : ∀ w', Calls Tryd.prog 25 #[.int .i64 (l.length : Int)] w' fun e w'' => e = .returned (.int .i64 (dpt l.length : Int)) ∧ w' = w'' := by
    intro w'
    have := rdepth_any (l.length : Int) w'
    rw [dep_nat _ (by omega)] at this
    exact this.mono (fun e w2 h => ⟨h.1, h.2.symm⟩)
  have h16 := dpt_le16 (show l.length ≤ 65536 by omega)
  have hn : ∀ w', Below w.heap.size w w' → Calls Tryd.prog 38 #[.slice a l.length cap, .int .i64 (dpt l.length : Int), .int .i64 0] w' fun e w'' => e = .returned (.agg (byteVals (rootD l)).toArray) ∧ Below w'.heap.size w' w'' :=
    fun w' hb => rnode_any l a cap (dpt l.length) 0 w' (hv.on hb) hl h16 (by omega)
  have hDl : (rootD l).length = 32 := (rootD_dg l hv.2.1).1
  obtain ⟨D, hD⟩ : ∃ D, D = rootD l := ⟨_, rfl⟩
  rw [← hD] at hn hDl ⊢
  obtain ⟨d, hdd⟩ : ∃ d, d = dpt l.length := ⟨_, rfl⟩
  rw [← hdd] at hn hd
  have HND := Lib.hid hn; have HDP := Lib.hid hd
  have hf := fold_row (.int .i64 (l.length : Int)) D hDl
  have hbl : (byteVals D).length = 32 := by rw [byteVals_length, hDl]
  clear hv hd hn h16 hD hdd
  have f1 : ¬ (65536 < (l.length : Int)) := by omega
  go_enter Tryd.func16, Tryd.ntmps16
  go_wp2_with (first | (go_at_call 25; refine (HDP.out _).mono ?_; rintro e w2 ⟨rfl, rfl⟩) | (go_at_call 38; refine (HND.out _ hR.below).mono ?_; rintro e w3 ⟨rfl, hb3⟩; obtain ⟨v0, l0, hl0, hrl⟩ := (hR.call hb3).row; have HB := Lib.hid (hR.call hb3).below; clear hb3) | (refine wpList_store_row rfl 30 (.tmp 2) (.tmp 15) rfl w.heap.size _ rfl rfl 30 _ hrl (size30 _ _ hDl) (by rw [List.size_toArray, List.size_toArray, List.length_cons, List.length_cons, bv_length, bv_length]; omega) (all_row _ _ rfl) ?_))
  refine bodyPost_ret (results_cell_slot rfl _ _ w.heap.size 30 _ (0, 0) _ (.int .i64 0) rfl rfl (RowC.put hrl) Tryd.underlying30 rfl (size30 _ _ hDl)) rfl ?_
  exact ⟨rfl, bsetRow HB.out (Nat.le_refl _) _⟩

set_option maxRecDepth 100000 in
set_option maxHeartbeats 1000000 in
theorem rpathBad_any (l : List (List Int)) (a : Option Addr) (cap : Nat) (i : Int) (w : World) (hl : l.length ≤ 900) (hi : i < 0 ∨ ((2 ^ dpt l.length : Nat) : Int) ≤ i) :
    Calls Tryd.prog 18 #[.slice a l.length cap, .int .i64 i] w fun e w' => e = .returned (.tuple #[.slice none 0 0, .int .i64 1]) ∧ Below w.heap.size w w' := by
  have hd : ∀ w', Calls Tryd.prog 25 #[.int .i64 (l.length : Int)] w' fun e w'' => e = .returned (.int .i64 (dpt l.length : Int)) ∧ w' = w'' := by
    intro w'
    have := rdepth_any (l.length : Int) w'
    rw [dep_nat _ (by omega)] at this
    exact this.mono (fun e w2 h => ⟨h.1, h.2.symm⟩)
  have h16 := dpt_le16 (show l.length ≤ 65536 by omega)
  have hpw : ∀ w', Calls Tryd.prog 37 #[.int .i64 (dpt l.length : Int)] w' fun e w'' => e = .returned (.int .i64 ((2 ^ dpt l.length : Nat) : Int)) ∧ w' = w'' := fun w' => (power_any _ w' h16).mono (fun e w2 h => ⟨h.1, h.2.symm⟩)
  obtain ⟨d, hdd⟩ : ∃ d, d = dpt l.length := ⟨_, rfl⟩
  rw [← hdd] at hd hpw hi
  obtain ⟨Q, hQ⟩ : ∃ Q, Q = 2 ^ d := ⟨_, rfl⟩
  rw [← hQ] at hpw hi
  have HDP := Lib.hid hd; have HPW := Lib.hid hpw
  clear hd hpw hdd hQ h16
  have f1 : ¬ (65536 < (l.length : Int)) := by omega
  by_cases h0 : i < 0
  · clear hi
    go_enter Tryd.func18, Tryd.ntmps18
    go_wp2
    go_ret2
    exact ⟨rfl, Below.refl _ _⟩
  · have h2 : decide ((Q : Int) ≤ i) = true := decide_eq_true (by omega)
    have h1 : decide (i < 0) = false := decide_eq_false h0
    clear hi h0
    go_enter Tryd.func18, Tryd.ntmps18
    go_wp2_with (first | (go_at_call 25; refine (HDP.out _).mono ?_; rintro e w2 ⟨rfl, rfl⟩) | (go_at_call 37; refine (HPW.out _).mono ?_; rintro e w2 ⟨rfl, rfl⟩))
    go_ret2
    exact ⟨rfl, Below.refl _ _⟩

set_option maxRecDepth 100000 in
set_option maxHeartbeats 1000000 in
theorem rpathOk_any (l : List (List Int)) (a : Option Addr) (cap i : Nat) (w : World) (hv : Dl (fun k => k < w.heap.size) w (.slice a l.length cap) l) (hl : l.length ≤ 900) (hi : i < 2 ^ dpt l.length) :
    Calls Tryd.prog 18 #[.slice a l.length cap, .int .i64 (i : Int)] w fun e w' => ∃ v, e = .returned (.tuple #[v, .int .i64 0]) ∧ Below w.heap.size w w' ∧ Dl (fun k => w.heap.size ≤ k ∧ k < w'.heap.size) w' v (pathD l i) := by
  have h16 := dpt_le16 (show l.length ≤ 65536 by omega)
  have hd : ∀ w', Calls Tryd.prog 25 #[.int .i64 (l.length : Int)] w' fun e w'' => e = .returned (.int .i64 (dpt l.length : Int)) ∧ w' = w'' := by
    intro w'
    have := rdepth_any (l.length : Int) w'
    rw [dep_nat _ (by omega)] at this
    exact this.mono (fun e w2 h => ⟨h.1, h.2.symm⟩)
  have hpw : ∀ w', Calls Tryd.prog 37 #[.int .i64 (dpt l.length : Int)] w' fun e w'' => e = .returned (.int .i64 ((2 ^ dpt l.length : Nat) : Int)) ∧ w' = w'' := fun w' => (power_any _ w' h16).mono (fun e w2 h => ⟨h.1, h.2.symm⟩)
  have hQ2 : 2 ^ dpt l.length ≤ 2 ^ 16 := Nat.pow_le_pow_right (by decide) h16
  have hQ4 : (2 : Nat) ^ 16 = 65536 := by decide
  have hget := pathD_get l i
  have hpl := pathD_length l i
  have hpd := pathD_dg l i hv.2.1
  have hndg := fun t => nd_dg l t (sib (i / 2 ^ t)) hv.2.1
  have hnode : ∀ t, t < dpt l.length → ∀ w', Below w.heap.size w w' → Calls Tryd.prog 38 #[.slice a l.length cap, .int .i64 (t : Int), .int .i64 ((sib (i / 2 ^ t) : Nat) : Int)] w' fun e w'' => e = .returned (.agg (byteVals (nd prt pdd l t (sib (i / 2 ^ t)))).toArray) ∧ Below w'.heap.size w' w'' := by
    intro t ht w' hb
    have h1 : i / 2 ^ t ≤ i := Nat.div_le_self _ _
    have h2 := sib_le (i / 2 ^ t)
    generalize i / 2 ^ t = T at *
    exact rnode_any l a cap t _ w' (hv.on hb) hl (by omega) (by omega)
  obtain ⟨p, hp⟩ : ∃ p, p = pathD l i := ⟨_, rfl⟩
  rw [← hp] at hget hpl hpd ⊢
  obtain ⟨d, hdd⟩ : ∃ d, d = dpt l.length := ⟨_, rfl⟩
  rw [← hdd] at hd h16 hi hnode hget hpl hpw hQ2
  obtain ⟨Q, hQ⟩ : ∃ Q, Q = 2 ^ d := ⟨_, rfl⟩
  rw [← hQ] at hpw hi hQ2
  have HDP := Lib.hid hd; have HN := Lib.hid hnode; have HG := Lib.hid hget; have HPD := Lib.hid hpd; have HPL := Lib.hid hpl; have HND := Lib.hid hndg; have HPW := Lib.hid hpw
  have HA := Lib.hid (ApS.new w)
  have hi65 : i < 65536 := by omega
  have f0 : decide ((i : Int) < 0) = false := decide_eq_false (by omega)
  have f2 : decide (Q ≤ i) = false := decide_eq_false (by omega)
  clear hd hdd hnode hget hpd hpl hp hv hndg hpw hQ hQ2 hQ4 hi
  have f1 : ¬ (65536 < (l.length : Int)) := by omega
  go_enter Tryd.func18, Tryd.ntmps18
  go_wp2_with (first | (go_at_call 25; refine (HDP.out _).mono ?_; rintro e w2 ⟨rfl, rfl⟩) | (go_at_call 37; refine (HPW.out _).mono ?_; rintro e w2 ⟨rfl, rfl⟩))
  go_loopw [1, 6, 7] (fun x v t wr => ∃ k J : Nat, k ≤ d ∧ Hid (J = i / 2 ^ k) ∧ x = .int .i64 J ∧ t = .int .i64 k ∧ Hid (ApS w (p.take k) v wr)) (fun _ _ t _ => d - (intOf t).toNat)
  case atStart => exact ⟨0, i, by omega, Lib.hid (by simp), rfl, rfl, HA⟩
  case round =>
    clear HA
    obtain ⟨k, J, hk, HJ, rfl, rfl, H⟩ := hrel
    by_cases hlt : k < d
    · have hx := HG.out k hlt
      have hDl := (HND.out k).1
      have hc := HN.out k hlt wr H.out.below
      have hJ1 := HJ.out
      have hJ65 : J < 65536 := by rw [hJ1]; exact Nat.lt_of_le_of_lt (Nat.div_le_self _ _) hi65
      rw [← hJ1] at hx hDl hc
      have hJn : J / 2 = i / 2 ^ (k + 1) := by rw [hJ1, Nat.div_div_eq_div_mul, Nat.pow_succ]
      have hsb : ∀ w', Calls Tryd.prog 39 #[.int .i64 (J : Int)] w' fun e w'' => e = .returned (.int .i64 ((sib J : Nat) : Int)) ∧ w' = w'' := fun w' => (sibling_any J w' (by omega)).mono (fun e w2 h => ⟨h.1, h.2.symm⟩)
      obtain ⟨S, hS⟩ : ∃ S, S = sib J := ⟨_, rfl⟩
      obtain ⟨D, hD⟩ : ∃ D, D = nd prt pdd l k (sib J) := ⟨_, rfl⟩
      rw [← hD] at hx hDl hc
      rw [← hS] at hc hsb
      have htk : p.take (k + 1) = p.take k ++ [D] := by
        rw [List.take_add_one, hx]; rfl
      have hpk : (p.take k).length ≤ 1000 := by rw [List.length_take]; omega
      obtain ⟨J2, hJ2⟩ : ∃ J2, J2 = J / 2 := ⟨_, rfl⟩
      have e9 : IntKind.i64.wrap ((J : Int).tdiv 2) = (J2 : Int) := by rw [Int.tdiv_eq_ediv_of_nonneg (by omega), IntKind.wrap_i64]; omega
      have HQ2 : Hid ((J : Int) / 2 = (J2 : Int)) := Lib.hid (by omega)
      rw [← hJ2] at hJn
      have HJN := Lib.hid hJn
      have hf := fold_zero D hDl
      have hbl : (byteVals D).length = 32 := by rw [byteVals_length, hDl]
      have q1 : (k : Int) < (d : Int) := by omega
      have HC := Lib.hid hc; have HT := Lib.hid htk; have HSB := Lib.hid hsb
      clear hx hc htk hD hS hsb hJ1 hJn hJ2 HJ
      go_wp2_with (first | (go_at_call 25; refine (HDP.out _).mono ?_; rintro e w2 ⟨rfl, rfl⟩) | (go_at_call 39; refine (HSB.out _).mono ?_; rintro e w2 ⟨rfl, rfl⟩))
      refine HC.out.mono ?_
      rintro e w5 ⟨rfl, hb5⟩
      obtain ⟨v6, w6, hr6, h6⟩ := (H.out.call hb5).push D hDl hpk
      rw [← HT.out] at h6
      have H6 := Lib.hid h6; have R6 := Lib.hid hr6
      clear h6 hr6 hb5 HC
      go_wp2_with (first | (at_builtin; refine wp_appd rfl rfl rfl (.tmp 29) (.tmp 35) rfl rfl rfl R6.out ?_))
      go_roundw
      case rel => exact ⟨k + 1, J2, by omega, HJN, by rw [HQ2.out], by go_num, H6⟩
      case measure => simp [intOf]; omega
    · have hk2 : k = d := by omega
      subst hk2
      have hT : p.take k = p := List.take_of_length_le (by rw [HPL.out]; exact Nat.le_refl _)
      rw [hT] at H
      have q1 : ¬ ((k : Int) < (k : Int)) := by omega
      go_wp2_with (first | (go_at_call 25; refine (HDP.out _).mono ?_; rintro e w2 ⟨rfl, rfl⟩))
      go_ret2
      exact ⟨_, rfl, H.out.below, own_dl H.out.own HPD.out (by rw [HPL.out]; omega)⟩
end Go.Proofs.YthmpeeipbclhkaaDoor

