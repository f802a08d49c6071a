/-
  The iterator over the common parts.
-/
import Derived.RangeFuncNested
import Derived.RangeFuncBound
import Derived.RangeFuncCalls
import Derived.RangeFuncLeaves
import Derived.RangeFuncBox
import Derived.Shelf.Abstract
import Derived.Shelf.RegionOpen
import Derived.OwnWalkIn
import Derived.TacticsInMore
import Derived.LoopNIn
import Derived.LoopIn
import Derived.Test.YtciopemodfpecaaDoorPn
import Derived.Test.YtciopemodfpecaaDoorUa
namespace Go.Proofs.YtciopemodfpecaaDoor
open Go.RowKit Go.Shelf
set_option linter.unusedVariables false
set_option linter.unusedSimpArgs false
attribute [local go_sem] Oper.semAt_some

/-- What the iterator still yields at (i, j). -/
def rest (a b : List (Int × Int)) (i j : Nat) : List (Int × Int) := cmn (a.drop i) (b.drop j)
theorem rest_end (a b : List (Int × Int)) (i j : Nat) (h : a.length ≤ i ∨ b.length ≤ j) : rest a b i j = [] := by
  unfold rest
  rcases h with h | h
  · rw [List.drop_eq_nil_of_le h, cmn]
  · rw [List.drop_eq_nil_of_le h]
    cases a.drop i with
    | nil => rw [cmn]
    | cons x t => rw [cmn]
theorem rest_step (a b : List (Int × Int)) (i j : Nat) (s t : Int × Int) (hs : a[i]? = some s) (ht : b[j]? = some t) :
    rest a b i j = (if max s.1 t.1 < min s.2 t.2 then [(max s.1 t.1, min s.2 t.2)] else []) ++ (if s.2 < t.2 then rest a b (i + 1) j else rest a b i (j + 1)) := by
  unfold rest
  rw [drop_cons hs, drop_cons ht, cmn, ← drop_cons hs, ← drop_cons ht]

theorem cellDrew {w : World} {p : Addr} {v : Value} (h : w.cell? p = some v) : w.drew.cell? p = some v := h
theorem cellAlloc {w : World} {p : Addr} {v : Value} {o : Obj} (h : w.cell? p = some v) : (w.alloc o).cell? p = some v := by
  rw [World.cell?_alloc_some _ _ _ (by rw [h]; rfl), h]
/-- The blocks that P names lie as they lay. -/
structure Kept (P : Nat → Prop) (W W' : World) : Prop where
  size : W.heap.size ≤ W'.heap.size
  same : ∀ k, P k → W'.heap[k]? = W.heap[k]?
theorem Kept.refl (P : Nat → Prop) (W : World) : Kept P W W := ⟨Nat.le_refl _, fun _ _ => rfl⟩
theorem Kept.trans {P : Nat → Prop} {A B C : World} (h : Kept P A B) (k : Kept P B C) : Kept P A C := ⟨Nat.le_trans h.size k.size, fun i hi => (k.same i hi).trans (h.same i hi)⟩
theorem Kept.cell {P : Nat → Prop} {W W' : World} (h : Kept P W W') {p : Addr} (hp : P p.block) : W'.cell? p = W.cell? p := World.cell?_of_block (h.same _ hp)
theorem Kept.step {P : Nat → Prop} {W wr w2 : World} (h : Kept P W wr) (hP : ∀ k, P k → k < W.heap.size) (hb : Below wr.heap.size wr w2) : Kept P W w2 :=
  h.trans ⟨hb.size, fun k hk => hb.block k (Nat.lt_of_lt_of_le (hP k hk) h.size)⟩
theorem Kept.below {P : Nat → Prop} {n : Nat} {W W' : World} (hb : Below n W W') (hP : ∀ k, P k → k < n) : Kept P W W' := ⟨hb.size, fun k hk => hb.block k (hP k hk)⟩
theorem keptK_b {P : Nat → Prop} {w : World} (hP : ∀ k, P k → k < w.heap.size) (W : World) (l : Nat) (o o' : Obj) (hl : w.heap.size ≤ l) (h : W.heap[l]? = some o) (_ : o.isCells = false) (_ : o.isWalk = false) : Kept P W (W.putObj l o') := by
  have hg := grownBy_putObj' W l o'
  refine ⟨hg.size, fun k hk => hg.block k ?_ ?_⟩
  · have := hP k hk
    have := (Array.getElem?_eq_some_iff.1 h).1
    omega
  · intro e
    have := hP k hk
    simp only [Option.some.injEq] at e
    omega

/-- A span as a yielded value. -/
def encY (s : Int × Int) : Array Value := #[.agg #[.int .i64 s.1, .int .i64 s.2]]

set_option maxRecDepth 100000 in
set_option maxHeartbeats 2000000 in
theorem iter_in (P : Nat → Prop) (l A B : Nat) (a b : List (Int × Int)) (oa ob : Option Addr) (ca cb : Nat) (J Jx : List (Int × Int) → World → Prop)
    (hJ : ∀ pre W W', J pre W → Below W.heap.size W W' → J pre W')
    (hY : ∀ pre x W, J pre W → pre.length < (cmn a b).length → YieldAt Fence.wide 2 Tryd.prog l (encY x) W fun e W' =>
      (e = .returned (.bool true) ∧ J (pre ++ [x]) W' ∧ Kept P W W') ∨ (e = .returned (.bool false) ∧ Jx (pre ++ [x]) W'))
    (W : World) (hA : P A) (hB : P B) (hn : ∀ k, P k → k < W.heap.size) (hcA : W.cell? ⟨A, 0, none⟩ = some (.slice oa a.length ca)) (hcB : W.cell? ⟨B, 0, none⟩ = some (.slice ob b.length cb))
    (ha : Sl P W (.slice oa a.length ca) a) (hb : Sl P W (.slice ob b.length cb) b) (h0 : J [] W) :
    CallsIn Fence.wide 3 Tryd.prog 67 #[.func (.yield l) #[] #[], .pointer (some ⟨A, 0, none⟩), .pointer (some ⟨B, 0, none⟩)] W fun e W' => (∃ v, e = .returned v) ∧
      ((∃ ys, ys = cmn a b ∧ J ys W') ∨ (∃ pre, pre <+: cmn a b ∧ Jx pre W')) := by
  have hla := ha.1; have hlb := hb.1
  have HA := Lib.hid ha; have HB := Lib.hid hb; have HJ := Lib.hid hJ; have HY := Lib.hid hY
  clear ha hb hJ hY
  obtain ⟨na, hna⟩ : ∃ na, na = a.length := ⟨_, rfl⟩
  obtain ⟨nb, hnb⟩ : ∃ nb, nb = b.length := ⟨_, rfl⟩
  have HNA := Lib.hid hna; have HNB := Lib.hid hnb
  rw [← hna] at hcA hla; rw [← hnb] at hcB hlb
  clear hna hnb
  refine callsIn_of_wp Tryd.func67 rfl trivial ?_ rfl
  simp only [Tryd.ntmps67, List.size_toArray, List.length_cons, List.length_nil, Nat.reduceAdd, Nat.reduceSub, Array.replicate_succ, Array.replicate_zero, List.push_toArray, List.append_toArray, List.nil_append, List.cons_append]
  gi_wp2
  gi_loopw [4, 5] (fun s t wr => ∃ (i j : Nat) (pre : List (Int × Int)), i ≤ na ∧ j ≤ nb ∧ s = .int .i64 i ∧ t = .int .i64 j ∧ Hid (cmn a b = pre ++ rest a b i j ∧ J pre wr ∧ Kept P W wr)) (fun s t _ => (na - (intOf s).toNat) + (nb - (intOf t).toNat))
  case atStart => exact ⟨0, 0, [], by omega, by omega, rfl, rfl, Lib.hid ⟨by simp [rest], h0, Kept.refl _ _⟩⟩
  case round =>
    obtain ⟨i, j, pre, hi, hj, rfl, rfl, H⟩ := hrel
    have dA : wr.cell? ⟨A, 0, none⟩ = some (.slice oa na ca) := (H.out.2.2.cell (p := ⟨A, 0, none⟩) hA).trans hcA
    have dB : wr.cell? ⟨B, 0, none⟩ = some (.slice ob nb cb) := (H.out.2.2.cell (p := ⟨B, 0, none⟩) hB).trans hcB
    by_cases hlt : i < na
    · by_cases hlt2 : j < nb
      · have k1 : (i : Int) < (na : Int) := by omega
        have k2 : (j : Int) < (nb : Int) := by omega
        obtain ⟨g1, o1, x1, y1, rfl, hg1, hx, _, _, c0, c1, hc1⟩ := HA.out.pick i (by have := HNA.out; omega)
        obtain ⟨g2, o2, x2, y2, rfl, hg2, hy, _, _, c2, c3, hc2⟩ := HB.out.pick j (by have := HNB.out; omega)
        have d0 : wr.cell? ⟨g1, o1 + i * 2, none⟩ = some (.int .i64 x1) := (H.out.2.2.cell (p := ⟨g1, o1 + i * 2, none⟩) hg1).trans c0
        have d1 : wr.cell? ⟨g1, o1 + i * 2 + 1, none⟩ = some (.int .i64 y1) := (H.out.2.2.cell (p := ⟨g1, o1 + i * 2 + 1, none⟩) hg1).trans c1
        have d2 : wr.cell? ⟨g2, o2 + j * 2, none⟩ = some (.int .i64 x2) := (H.out.2.2.cell (p := ⟨g2, o2 + j * 2, none⟩) hg2).trans c2
        have d3 : wr.cell? ⟨g2, o2 + j * 2 + 1, none⟩ = some (.int .i64 y2) := (H.out.2.2.cell (p := ⟨g2, o2 + j * 2 + 1, none⟩) hg2).trans c3
        have hstep := rest_step a b i j _ _ hx hy
        have HST := Lib.hid hstep
        have C1 := Lib.hid c1; have C3 := Lib.hid c3
        clear hstep c0 c1 c2 c3 hx hy
        gi_wp2
        refine wpIn_wide.2 ?_
        refine Code.wp_mono (Q := fun e a' w' => e = .normal ∧ ∃ C : Nat, a' = { tmps := #[.func (.yield l) #[] #[], .pointer (some ⟨A, 0, none⟩), .pointer (some ⟨B, 0, none⟩), undef, .int .i64 (i : Int), .int .i64 (j : Int), .pointer (some ⟨C, 0, none⟩), .int .i64 (i : Int), .slice (some ⟨g1, o1, none⟩) na ca, .int .i64 (na : Int), .bool true, .bool true, .int .i64 (j : Int), .slice (some ⟨g2, o2, none⟩) nb cb, .int .i64 (nb : Int), .bool true, .bool true, .slice (some ⟨g1, o1, none⟩) na ca, .int .i64 (i : Int), .pointer (some ⟨g1, o1 + i * 2, none⟩), .agg #[.int .i64 x1, .int .i64 y1], .slice (some ⟨g2, o2, none⟩) nb cb, .int .i64 (j : Int), .pointer (some ⟨g2, o2 + j * 2, none⟩), .agg #[.int .i64 x2, .int .i64 y2], .agg #[.int .i64 (max x1 x2), .int .i64 (min y1 y2)], u26, u27, u28, u29, u30, u31, u32, u33, u34, u35, u36, u37, u38, u39, u40, u41, u42, u43, u44, u45, u46, u47, u48, u49], defers := [] } ∧ wr.heap.size ≤ C ∧ C < w'.heap.size ∧ w'.cell? ⟨C, 0, none⟩ = some (.int .i64 (max x1 x2)) ∧ w'.cell? ⟨C, 1, none⟩ = some (.int .i64 (min y1 y2)) ∧ Below wr.heap.size wr w') ?_ ?_
        rotate_left
        · clear H HST HA HB HJ HY
          go_region_held3 (fun w' => w'.cell? ⟨A, 0, none⟩ = some (.slice (some ⟨g1, o1, none⟩) na ca) ∧ w'.cell? ⟨B, 0, none⟩ = some (.slice (some ⟨g2, o2, none⟩) nb cb) ∧ w'.cell? ⟨g1, o1 + i * 2, none⟩ = some (.int .i64 x1) ∧ w'.cell? ⟨g1, o1 + i * 2 + 1, none⟩ = some (.int .i64 y1) ∧ w'.cell? ⟨g2, o2 + j * 2, none⟩ = some (.int .i64 x2) ∧ w'.cell? ⟨g2, o2 + j * 2 + 1, none⟩ = some (.int .i64 y2)) (first | (go_keep; done) | (refine ⟨?_, ?_, ?_, ?_, ?_, ?_⟩ <;> (repeat (first | with_reducible assumption | with_reducible apply cellDrew | with_reducible apply cellAlloc))))
            ((go_at_call 68; refine (both_exact x1 y1 x2 y2 _).mono ?_; rintro e w5 ⟨rfl, rfl⟩))
          · exact ⟨rfl, _, rfl, by omega, by simp, (cell_new2 _ _ _ 23 _ (by simp)).1, (cell_new2 _ _ _ 23 _ (by simp)).2, (ball (ball (ball (ball (Below.refl _ _) _) _) _) _).drew⟩
          · exact ⟨rfl, _, rfl, by omega, by simp; omega, cellAlloc (cellAlloc (cellAlloc (cell_new2 _ _ _ 23 _ rfl).1)), cellAlloc (cellAlloc (cellAlloc (cell_new2 _ _ _ 23 _ rfl).2)), (ball (ball (ball (ball (Below.refl _ _) _) _) _) _).drew⟩
        rintro e a' w2 ⟨rfl, C, rfl, hC1, hC2, e0, e1, hb2⟩
        have hJ2 := HJ.out _ _ _ H.out.2.1 hb2
        have hB2 := H.out.2.2.step hn hb2
        have heq := H.out.1
        rw [HST.out] at heq
        obtain ⟨X, hX⟩ : ∃ X, X = max x1 x2 := ⟨_, rfl⟩
        obtain ⟨Y, hY⟩ : ∃ Y, Y = min y1 y2 := ⟨_, rfl⟩
        rw [← hX] at e0 heq ⊢
        rw [← hY] at e1 heq ⊢
        have HJ2 := Lib.hid hJ2; have HB2 := Lib.hid hB2; have HE := Lib.hid heq
        clear H hJ2 hB2 heq d0 d1 d2 d3 dA dB HST hX hY hC1 hb2
        by_cases hxy : X < Y
        · have g1 : decide (Y ≤ X) = false := decide_eq_false (by omega)
          rw [if_pos hxy, List.singleton_append] at HE
          have hlen : pre.length < (cmn a b).length := by rw [HE.out]; simp
          have hemp := empty_any X Y w2
          rw [g1] at hemp
          have HEM := Lib.hid hemp
          clear hemp g1
          gi_wp2_with fail
          refine ⟨trivial, ?_⟩
          refine (callsIn_wide.2 HEM.out).mono ?_
          rintro e w3 ⟨rfl, hb3⟩
          replace e0 := (hb3.cell (p := ⟨C, 0, none⟩) hC2).trans e0
          replace e1 := (hb3.cell (p := ⟨C, 1, none⟩) hC2).trans e1
          have hJ3 := HJ.out _ _ _ HJ2.out hb3
          have hB3 := HB2.out.step hn hb3
          have HB3 := Lib.hid hB3
          obtain ⟨fn, tmps, assign, body, hy, hR⟩ := HY.out pre (X, Y) w3 hJ3 hlen
          dsimp only [encY] at hy
          clear HJ2 HB2 hb3 hJ3 hB3 HEM
          gi_wp2
          refine hR.mono ?_
          rintro e V3 (⟨rfl, hJ4, hk4⟩ | ⟨rfl, hJx4⟩)
          · have hE3 := HE.out
            rw [show pre ++ (X, Y) :: (if y1 < y2 then rest a b (i + 1) j else rest a b i (j + 1)) = (pre ++ [(X, Y)]) ++ (if y1 < y2 then rest a b (i + 1) j else rest a b i (j + 1)) from by simp] at hE3
            have HE3 := Lib.hid hE3; have HJ4 := Lib.hid hJ4; have HB4 := Lib.hid (HB3.out.trans hk4)
            clear hE3 hJ4 hk4 HE HB3 hy hR e0 e1 hlen
            have dA : V3.cell? ⟨A, 0, none⟩ = some (.slice (some ⟨g1, o1, none⟩) na ca) := (HB4.out.cell (p := ⟨A, 0, none⟩) hA).trans hcA
            have dB : V3.cell? ⟨B, 0, none⟩ = some (.slice (some ⟨g2, o2, none⟩) nb cb) := (HB4.out.cell (p := ⟨B, 0, none⟩) hB).trans hcB
            have d1 : V3.cell? ⟨g1, o1 + i * 2 + 1, none⟩ = some (.int .i64 y1) := (HB4.out.cell (p := ⟨g1, o1 + i * 2 + 1, none⟩) hg1).trans C1.out
            have d3 : V3.cell? ⟨g2, o2 + j * 2 + 1, none⟩ = some (.int .i64 y2) := (HB4.out.cell (p := ⟨g2, o2 + j * 2 + 1, none⟩) hg2).trans C3.out
            by_cases hyy : y1 < y2
            · have hE2 := HE3.out
              rw [if_pos hyy] at hE2
              have HE2 := Lib.hid hE2
              clear hE2 HE3
              gi_wp2
              refine wpIn_wide.2 ?_
              go_quiet (fail)
              have HF : Hid (J (pre ++ [(X, Y)]) (V3.drewN nq) ∧ Kept P W (V3.drewN nq)) := Lib.hid ⟨HJ.out _ _ _ HJ4.out (bdrewN (Below.refl _ _) nq), HB4.out.step hn (bdrewN (Below.refl _ _) nq)⟩
              clear dA dB d1 d3 HJ4 HB4
              generalize V3.drewN nq = V at *
              gi_wp2
              go_roundw
              case rel => exact ⟨i + 1, j, (pre ++ [(X, Y)]), by omega, by omega, by go_num, rfl, Lib.hid ⟨HE2.out, HF.out⟩⟩
              case measure => simp [intOf]; omega
            · have hE2 := HE3.out
              rw [if_neg hyy] at hE2
              have HE2 := Lib.hid hE2
              clear hE2 HE3
              gi_wp2
              refine wpIn_wide.2 ?_
              go_quiet (fail)
              have HF : Hid (J (pre ++ [(X, Y)]) (V3.drewN nq) ∧ Kept P W (V3.drewN nq)) := Lib.hid ⟨HJ.out _ _ _ HJ4.out (bdrewN (Below.refl _ _) nq), HB4.out.step hn (bdrewN (Below.refl _ _) nq)⟩
              clear dA dB d1 d3 HJ4 HB4
              generalize V3.drewN nq = V at *
              gi_wp2
              go_roundw
              case rel => exact ⟨i, j + 1, (pre ++ [(X, Y)]), by omega, by omega, rfl, by go_num, Lib.hid ⟨HE2.out, HF.out⟩⟩
              case measure => simp [intOf]; omega
          · have hpf : pre ++ [(X, Y)] <+: cmn a b := by rw [HE.out]; exact ⟨(if y1 < y2 then rest a b (i + 1) j else rest a b i (j + 1)), by simp⟩
            gi_wp2
            refine bodyPost_ret (results_none rfl _ _ _) rfl ?_
            exact ⟨⟨_, rfl⟩, .inr ⟨pre ++ [(X, Y)], hpf, hJx4⟩⟩
        · have g1 : decide (Y ≤ X) = true := decide_eq_true (by omega)
          rw [if_neg hxy, List.nil_append] at HE
          have hemp := empty_any X Y w2
          rw [g1] at hemp
          have HEM := Lib.hid hemp
          clear hemp g1
          gi_wp2_with fail
          refine ⟨trivial, ?_⟩
          refine (callsIn_wide.2 HEM.out).mono ?_
          rintro e w3 ⟨rfl, hb3⟩
          have HJ4 := Lib.hid (HJ.out _ _ _ HJ2.out hb3)
          have HB4 := Lib.hid (HB2.out.step hn hb3)
          clear HJ2 HB2 hb3 HEM e0 e1
          gi_wp2_with fail
          refine ⟨fun _ h => (by cases h), ?_⟩
          have dA : w3.cell? ⟨A, 0, none⟩ = some (.slice (some ⟨g1, o1, none⟩) na ca) := (HB4.out.cell (p := ⟨A, 0, none⟩) hA).trans hcA
          have dB : w3.cell? ⟨B, 0, none⟩ = some (.slice (some ⟨g2, o2, none⟩) nb cb) := (HB4.out.cell (p := ⟨B, 0, none⟩) hB).trans hcB
          have d1 : w3.cell? ⟨g1, o1 + i * 2 + 1, none⟩ = some (.int .i64 y1) := (HB4.out.cell (p := ⟨g1, o1 + i * 2 + 1, none⟩) hg1).trans C1.out
          have d3 : w3.cell? ⟨g2, o2 + j * 2 + 1, none⟩ = some (.int .i64 y2) := (HB4.out.cell (p := ⟨g2, o2 + j * 2 + 1, none⟩) hg2).trans C3.out
          by_cases hyy : y1 < y2
          · have hE2 := HE.out
            rw [if_pos hyy] at hE2
            have HE2 := Lib.hid hE2
            clear hE2 HE
            gi_wp2
            refine wpIn_wide.2 ?_
            go_quiet (fail)
            have HF : Hid (J pre (w3.drewN nq) ∧ Kept P W (w3.drewN nq)) := Lib.hid ⟨HJ.out _ _ _ HJ4.out (bdrewN (Below.refl _ _) nq), HB4.out.step hn (bdrewN (Below.refl _ _) nq)⟩
            clear dA dB d1 d3 HJ4 HB4
            generalize w3.drewN nq = V at *
            gi_wp2
            go_roundw
            case rel => exact ⟨i + 1, j, pre, by omega, by omega, by go_num, rfl, Lib.hid ⟨HE2.out, HF.out⟩⟩
            case measure => simp [intOf]; omega
          · have hE2 := HE.out
            rw [if_neg hyy] at hE2
            have HE2 := Lib.hid hE2
            clear hE2 HE
            gi_wp2
            refine wpIn_wide.2 ?_
            go_quiet (fail)
            have HF : Hid (J pre (w3.drewN nq) ∧ Kept P W (w3.drewN nq)) := Lib.hid ⟨HJ.out _ _ _ HJ4.out (bdrewN (Below.refl _ _) nq), HB4.out.step hn (bdrewN (Below.refl _ _) nq)⟩
            clear dA dB d1 d3 HJ4 HB4
            generalize w3.drewN nq = V at *
            gi_wp2
            go_roundw
            case rel => exact ⟨i, j + 1, pre, by omega, by omega, rfl, by go_num, Lib.hid ⟨HE2.out, HF.out⟩⟩
            case measure => simp [intOf]; omega
      · have hjn : j = nb := by omega
        subst hjn
        have hr := rest_end a b i j (.inr (by rw [← HNB.out]; exact Nat.le_refl _))
        have k1 : (i : Int) < (na : Int) := by omega
        have k2 : ¬ ((j : Int) < (j : Int)) := by omega
        gi_wp2
        go_end0
        exact ⟨⟨_, rfl⟩, .inl (by rw [H.out.1, hr, List.append_nil]; exact H.out.2.1)⟩
    · have hin : i = na := by omega
      subst hin
      have hr := rest_end a b i j (.inl (by rw [← HNA.out]; exact Nat.le_refl _))
      have k1 : ¬ ((i : Int) < (i : Int)) := by omega
      gi_wp2
      go_end0
      exact ⟨⟨_, rfl⟩, .inl (by rw [H.out.1, hr, List.append_nil]; exact H.out.2.1)⟩
end Go.Proofs.YtciopemodfpecaaDoor
