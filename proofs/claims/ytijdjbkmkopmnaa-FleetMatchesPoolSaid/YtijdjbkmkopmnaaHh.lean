/-
  Walks: the reference's ends and roads of a pool.
-/
import Derived.Test.YtijdjbkmkopmnaaHf
namespace Go.Proofs.Ytijdjbkmkopmnaa
open Go.RowKit
set_option linter.unusedVariables false
set_option linter.unusedSimpArgs false

theorem all_got {α : Type} {l : List α} {p : α → Bool} (h : ∀ (j : Nat) x, j < l.length → l[j]? = some x → p x = true) : l.all p = true :=
  List.all_eq_true.2 fun x hx => by
    obtain ⟨j, hj⟩ := List.getElem?_of_mem hx
    exact h j x (List.getElem?_eq_some_iff.1 hj).1 hj
theorem not_alls {α : Type} {l : List α} {p : α → Bool} {j : Nat} {x : α} (hx : l[j]? = some x) (h : p x = false) : l.all p = false := by
  cases e : l.all p
  · rfl
  · have := List.all_eq_true.1 e x (List.mem_of_getElem? hx)
    rw [h] at this
    cases this
/-- What the reference's ends returns. -/
def endB (n : Nat) (ps : List PlC) (rs : List RdC) (sh : List ShC) (ws : List Wn) : Bool := rs.all (rdOk n) && (sh.all (shOk ps) && ws.all (fun x => decide (x.ho < (n : Int))))
def roadB (n : Nat) (ps : List PlC) (es : List EdC) : Bool := ps.all (fun x => decide (x.r < (n : Int)) && decide (x.o < (n : Int))) && es.all (fun x => decide (x.r < (n : Int)))
set_option maxRecDepth 100000 in
set_option maxHeartbeats 4000000 in
theorem roads_any {a0 a1 a2 a3 a4 a5 a6 a7 a8 : Option Addr} {n0 c0 n1 c1 n2 c2 n3 c3 n4 c4 n5 c5 n6 c6 n7 c7 n8 c8 : Nat} {ps : List PlC} {es : List EdC} {rl : List RwC} (e0 : n0 = ps.length) (e1 : n1 = es.length) (e8 : n8 = rl.length) (w : World) (R : Bool) (hR : R = roadB n8 ps es) (g0 : PlS (fun k => k < w.heap.size) w (.slice a0 n0 c0) ps) (g1 : EdS (fun k => k < w.heap.size) w (.slice a1 n1 c1) es) (g8 : RwS (fun k => k < w.heap.size) w (.slice a8 n8 c8) rl) : Calls Try.prog 72 #[.agg #[.slice a0 n0 c0, .slice a1 n1 c1, .slice a2 n2 c2, .slice a3 n3 c3, .slice a4 n4 c4, .slice a5 n5 c5, .slice a6 n6 c6, .slice a7 n7 c7, .slice a8 n8 c8]] w fun e w' => e = .returned (.bool R) ∧ Below w.heap.size w w' := by
  obtain ⟨W, hW⟩ : ∃ W, W = w.alloc (.cells #[.slice a0 n0 c0, .slice a1 n1 c1, .slice a2 n2 c2, .slice a3 n3 c3, .slice a4 n4 c4, .slice a5 n5 c5, .slice a6 n6 c6, .slice a7 n7 c7, .slice a8 n8 c8] 49) := ⟨_, rfl⟩
  have hB : Below w.heap.size w W := by rw [hW]; exact ball (Below.refl w.heap.size w) _
  have hr : W.heap[w.heap.size]? = some (.cells #[.slice a0 n0 c0, .slice a1 n1 c1, .slice a2 n2 c2, .slice a3 n3 c3, .slice a4 n4 c4, .slice a5 n5 c5, .slice a6 n6 c6, .slice a7 n7 c7, .slice a8 n8 c8] 49 (0, 0)) := by rw [hW]; exact bnew _ _
  have l0 := g0.1
  rw [← e0] at l0
  have l1 := g1.1
  rw [← e1] at l1
  have l8 := g8.1
  rw [← e8] at l8
  have HW := Lib.hid hW; have HB := Lib.hid hB; have HX := Lib.hid hr; have HR := Lib.hid hR
  have E0 := Lib.hid e0; have G0 := Lib.hid (g0.on hB)
  have E1 := Lib.hid e1; have G1 := Lib.hid (g1.on hB)
  have E8 := Lib.hid e8; have G8 := Lib.hid (g8.on hB)
  have b := box9 hr
  obtain ⟨b0, b1, b2, b3, b4, b5, b6, b7, b8⟩ := b
  clear hW hB hr hR g0 e0 g1 e1 g8 e8
  go_enter Try.func72, Try.ntmps72
  go_upto_region 1 with (fail)
  rw [← HW.out]
  clear HW
  go_wp2
  clear b0 b1 b2 b3 b4 b5 b6 b7 b8
  go_loopw [4] (fun s3 wr => ∃ i : Nat, i ≤ n0 ∧ s3 = .int .i64 (i : Int) ∧ Hid (Below W.heap.size W wr ∧ ∀ j x, j < i → ps[j]? = some x → (decide (x.r < (n8 : Int)) && decide (x.o < (n8 : Int))) = true)) (fun s3 _ => n0 - (intOf s3).toNat)
  case atStart => exact ⟨0, by omega, rfl, Lib.hid ⟨Below.refl _ _, fun j x hj => by omega⟩⟩
  case round =>
    obtain ⟨i, hi, rfl, HI⟩ := hrel
    obtain ⟨b0, b1, b2, b3, b4, b5, b6, b7, b8⟩ := box9 (bon HX.out HI.out.1)
    by_cases hlt : i < n0
    · have hlt2 : (i : Int) < (n0 : Int) := by omega
      obtain ⟨g, off, x, rfl, hg, hx, _, hra, _⟩ := (G0.out.on HI.out.1).pick i (by rw [← E0.out]; exact hlt)
      have f0 : wr.cell? ⟨g, off + i * 3, none⟩ = some (.int .i64 x.k) := hra 0 _ rfl
      have f1 : wr.cell? ⟨g, off + i * 3 + 1, none⟩ = some (.int .i64 x.r) := hra 1 _ rfl
      have f2 : wr.cell? ⟨g, off + i * 3 + 2, none⟩ = some (.int .i64 x.o) := hra 2 _ rfl
      have HX2 := Lib.hid hx
      have HW2 := Lib.hid (ball HI.out.1 (.cells #[.int .i64 x.k, .int .i64 x.r, .int .i64 x.o] 77))
      have HZ := Lib.hid (btrans HB.out HW2.out)
      clear hg hx hra
      by_cases q1 : x.r < (n8 : Int)
      · have d1 : decide ((n8 : Int) ≤ x.r) = false := decide_eq_false (by omega)
        by_cases q2 : x.o < (n8 : Int)
        · have d2 : decide ((n8 : Int) ≤ x.o) = false := decide_eq_false (by omega)
          have HNX : Hid (∀ j y, j < i + 1 → ps[j]? = some y → (decide (y.r < (n8 : Int)) && decide (y.o < (n8 : Int))) = true) := Lib.hid (fun j y hj hy => by
            by_cases e : j < i
            · exact HI.out.2 j y e hy
            · obtain rfl : j = i := by omega
              have := HX2.out
              rw [this] at hy
              cases hy
              rw [decide_eq_true q1, decide_eq_true q2]; rfl)
          clear HI HX2 q1 q2
          go_wp2
          go_roundw
          case rel => exact ⟨i + 1, by omega, by go_num, Lib.hid ⟨HW2.out, HNX.out⟩⟩
          case measure => simp [intOf]; omega
        · have d2 : decide ((n8 : Int) ≤ x.o) = true := decide_eq_true (by omega)
          obtain rfl : R = false := by rw [HR.out]; unfold roadB; rw [not_alls HX2.out (by rw [decide_eq_false q2, Bool.and_false])]; rfl
          clear HI HX2 q1 q2
          go_wp2
          go_ret
          exact ⟨rfl, HZ.out⟩
      · have d1 : decide ((n8 : Int) ≤ x.r) = true := decide_eq_true (by omega)
        obtain rfl : R = false := by rw [HR.out]; unfold roadB; rw [not_alls HX2.out (by rw [decide_eq_false q1, Bool.false_and])]; rfl
        clear HI HX2 q1
        go_wp2
        go_ret
        exact ⟨rfl, HZ.out⟩
    · obtain rfl : i = n0 := by omega
      have hlt2 : ¬ ((i : Int) < (i : Int)) := by omega
      have HA := Lib.hid (all_got (l := ps) (p := fun x => decide (x.r < (n8 : Int)) && decide (x.o < (n8 : Int))) (fun j x hj hx => HI.out.2 j x (by have := E0.out; omega) hx))
      obtain ⟨W2, hW2⟩ : ∃ W2, W2 = wr := ⟨_, rfl⟩
      subst hW2
      have HI1 := Lib.hid HI.out.1
      clear HI hlt
      go_wp2
      clear b0 b1 b2 b3 b4 b5 b6 b7 b8
      go_loopw [6] (fun s3 wr => ∃ i : Nat, i ≤ n1 ∧ s3 = .int .i64 (i : Int) ∧ Hid (Below W.heap.size W wr ∧ ∀ j x, j < i → es[j]? = some x → decide (x.r < (n8 : Int)) = true)) (fun s3 _ => n1 - (intOf s3).toNat)
      case atStart => exact ⟨0, by omega, rfl, Lib.hid ⟨HI1.out, fun j x hj => by omega⟩⟩
      case round =>
        obtain ⟨k, hk, rfl, HI⟩ := hrel
        obtain ⟨b0, b1, b2, b3, b4, b5, b6, b7, b8⟩ := box9 (bon HX.out HI.out.1)
        have HZ := Lib.hid (btrans HB.out HI.out.1)
        by_cases hlt : k < n1
        · have hlt3 : (k : Int) < (n1 : Int) := by omega
          obtain ⟨g, off, x, rfl, hg, hx, _, hra, _⟩ := (G1.out.on HI.out.1).pick k (by rw [← E1.out]; exact hlt)
          have f2 : wr.cell? ⟨g, off + k * 5 + 2, none⟩ = some (.int .i64 x.r) := hra 2 _ rfl
          have HX2 := Lib.hid hx
          clear hg hx hra
          by_cases q1 : x.r < (n8 : Int)
          · have d1 : decide ((n8 : Int) ≤ x.r) = false := decide_eq_false (by omega)
            have HNX : Hid (∀ j y, j < k + 1 → es[j]? = some y → decide (y.r < (n8 : Int)) = true) := Lib.hid (fun j y hj hy => by
              by_cases e : j < k
              · exact HI.out.2 j y e hy
              · obtain rfl : j = k := by omega
                have := HX2.out
                rw [this] at hy
                cases hy
                exact decide_eq_true q1)
            have HI2 := Lib.hid HI.out.1
            clear HI HX2 q1
            go_wp2
            go_roundw
            case rel => exact ⟨k + 1, by omega, by go_num, Lib.hid ⟨HI2.out, HNX.out⟩⟩
            case measure => simp [intOf]; omega
          · have d1 : decide ((n8 : Int) ≤ x.r) = true := decide_eq_true (by omega)
            obtain rfl : R = false := by rw [HR.out]; unfold roadB; rw [not_alls (l := es) HX2.out (decide_eq_false q1), Bool.and_false]
            clear HI HX2 q1
            go_wp2
            go_ret
            exact ⟨rfl, HZ.out⟩
        · obtain rfl : k = n1 := by omega
          have hlt3 : ¬ ((k : Int) < (k : Int)) := by omega
          obtain rfl : R = true := by
            rw [HR.out]; unfold roadB; rw [HA.out, all_got (l := es) (p := fun x => decide (x.r < (n8 : Int))) (fun j x hj hx => HI.out.2 j x (by have := E1.out; omega) hx)]; rfl
          clear HI hlt HA
          go_wp2
          go_ret
          exact ⟨rfl, HZ.out⟩
set_option maxRecDepth 100000 in
set_option maxHeartbeats 4000000 in
theorem ends_any {a0 a1 a2 a3 a4 a5 a6 a7 a8 : Option Addr} {n0 c0 n1 c1 n2 c2 n3 c3 n4 c4 n5 c5 n6 c6 n7 c7 n8 c8 : Nat} {ps : List PlC} {rs : List RdC} {sh : List ShC} {ws : List Wn} (e0 : n0 = ps.length) (e3 : n3 = ws.length) (e6 : n6 = rs.length) (e7 : n7 = sh.length) (w : World) (R : Bool) (hR : R = endB n0 ps rs sh ws) (g0 : PlS (fun k => k < w.heap.size) w (.slice a0 n0 c0) ps) (g3 : Ws (fun k => k < w.heap.size) w (.slice a3 n3 c3) ws) (g6 : RdS (fun k => k < w.heap.size) w (.slice a6 n6 c6) rs) (g7 : ShS (fun k => k < w.heap.size) w (.slice a7 n7 c7) sh) : Calls Try.prog 71 #[.agg #[.slice a0 n0 c0, .slice a1 n1 c1, .slice a2 n2 c2, .slice a3 n3 c3, .slice a4 n4 c4, .slice a5 n5 c5, .slice a6 n6 c6, .slice a7 n7 c7, .slice a8 n8 c8]] w fun e w' => e = .returned (.bool R) ∧ Below w.heap.size w w' := by
  obtain ⟨W, hW⟩ : ∃ W, W = w.alloc (.cells #[.slice a0 n0 c0, .slice a1 n1 c1, .slice a2 n2 c2, .slice a3 n3 c3, .slice a4 n4 c4, .slice a5 n5 c5, .slice a6 n6 c6, .slice a7 n7 c7, .slice a8 n8 c8] 49) := ⟨_, rfl⟩
  have hB : Below w.heap.size w W := by rw [hW]; exact ball (Below.refl w.heap.size w) _
  have hr : W.heap[w.heap.size]? = some (.cells #[.slice a0 n0 c0, .slice a1 n1 c1, .slice a2 n2 c2, .slice a3 n3 c3, .slice a4 n4 c4, .slice a5 n5 c5, .slice a6 n6 c6, .slice a7 n7 c7, .slice a8 n8 c8] 49 (0, 0)) := by rw [hW]; exact bnew _ _
  have l0 := g0.1
  rw [← e0] at l0
  have l3 := g3.1
  rw [← e3] at l3
  have l6 := g6.1
  rw [← e6] at l6
  have l7 := g7.1
  rw [← e7] at l7
  have HW := Lib.hid hW; have HB := Lib.hid hB; have HX := Lib.hid hr; have HR := Lib.hid hR
  have E0 := Lib.hid e0; have G0 := Lib.hid (g0.on hB)
  have E3 := Lib.hid e3; have G3 := Lib.hid (g3.on hB)
  have E6 := Lib.hid e6; have G6 := Lib.hid (g6.on hB)
  have E7 := Lib.hid e7; have G7 := Lib.hid (g7.on hB)
  have b := box9 hr
  obtain ⟨b0, b1, b2, b3, b4, b5, b6, b7, b8⟩ := b
  clear hW hB hr hR g0 e0 g3 e3 g6 e6 g7 e7
  go_enter Try.func71, Try.ntmps71
  go_upto_region 1 with (fail)
  rw [← HW.out]
  clear HW
  have hwr : IntKind.i64.wrap ((n0 : Int) - 1) = (n0 : Int) - 1 := wrap_in (by omega) (by omega)
  go_wp2
  clear b0 b1 b2 b3 b4 b5 b6 b7 b8
  go_loopw [4] (fun s3 wr => ∃ i : Nat, i ≤ n6 ∧ s3 = .int .i64 (i : Int) ∧ Hid (Below W.heap.size W wr ∧ ∀ j x, j < i → rs[j]? = some x → rdOk n0 x = true)) (fun s3 _ => n6 - (intOf s3).toNat)
  case atStart => exact ⟨0, by omega, rfl, Lib.hid ⟨Below.refl _ _, fun j x hj => by omega⟩⟩
  case round =>
    obtain ⟨i, hi, rfl, HI⟩ := hrel
    obtain ⟨b0, b1, b2, b3, b4, b5, b6, b7, b8⟩ := box9 (bon HX.out HI.out.1)
    by_cases hlt : i < n6
    · have hlt2 : (i : Int) < (n6 : Int) := by omega
      obtain ⟨g, off, x, rfl, hg, hx, _, hra, _⟩ := (G6.out.on HI.out.1).pick i (by rw [← E6.out]; exact hlt)
      have f0 : wr.cell? ⟨g, off + i * 3, none⟩ = some (.int .i64 x.pl) := hra 0 _ rfl
      have f1 : wr.cell? ⟨g, off + i * 3 + 1, none⟩ = some (.int .i64 x.lo) := hra 1 _ rfl
      have f2 : wr.cell? ⟨g, off + i * 3 + 2, none⟩ = some (.int .i64 x.hi) := hra 2 _ rfl
      have HX2 := Lib.hid hx
      have HW2 := Lib.hid (ball HI.out.1 (.cells #[.int .i64 x.pl, .int .i64 x.lo, .int .i64 x.hi] 75))
      have HZ := Lib.hid (btrans HB.out HW2.out)
      clear hg hx hra
      have hc : ∀ w, Calls Try.prog 31 #[.int .i64 x.pl, .int .i64 0, .int .i64 ((n0 : Int) - 1)] w fun e w' => e = .returned (.bool (rng 0 x.pl ((n0 : Int) - 1))) ∧ w = w' := fun w => within_any 0 x.pl ((n0 : Int) - 1) w
      obtain ⟨T, hT⟩ : ∃ T, T = rdOk n0 x := ⟨_, rfl⟩
      have HT := Lib.hid (show T = (rng 0 x.pl ((n0 : Int) - 1) && (decide (-1000 ≤ x.lo) && (decide (x.lo ≤ x.hi) && decide (x.hi ≤ 1000)))) from hT)
      have HF : Hid (T = false → R = false) := Lib.hid (fun h => by rw [HR.out]; unfold endB; rw [not_alls HX2.out (hT ▸ h)]; rfl)
      have HNX : Hid (T = true → ∀ j y, j < i + 1 → rs[j]? = some y → rdOk n0 y = true) := Lib.hid (fun h j y hj hy => by
        by_cases e : j < i
        · exact HI.out.2 j y e hy
        · obtain rfl : j = i := by omega
          have := HX2.out
          rw [this] at hy
          cases hy
          rw [← hT]; exact h)
      clear hT HX2 HI
      cases hq : rng 0 x.pl ((n0 : Int) - 1) with
      | false =>
        rw [hq] at hc
        obtain rfl : R = false := HF.out (by rw [HT.out, hq]; rfl)
        have HC := Lib.hid hc
        clear hc hq HT HF HNX
        go_wp2_with fail
        refine (HC.out _).mono ?_
        rintro e w1 ⟨rfl, rfl⟩
        go_wp2
        go_ret
        exact ⟨rfl, HZ.out⟩
      | true =>
        rw [hq] at hc
        have HC := Lib.hid hc
        clear hc
        by_cases hq1 : -1000 ≤ x.lo
        · have q1 : decide (-1000 ≤ x.lo) = true := decide_eq_true hq1
          have rq1 : decide (x.lo < -1000) = false := decide_eq_false (by omega)
          clear hq1
          by_cases hq2 : x.lo ≤ x.hi
          · have q2 : decide (x.lo ≤ x.hi) = true := decide_eq_true hq2
            have rq2 : decide (x.hi < x.lo) = false := decide_eq_false (by omega)
            clear hq2
            by_cases hq3 : x.hi ≤ 1000
            · have q3 : decide (x.hi ≤ 1000) = true := decide_eq_true hq3
              have rq3 : decide (1000 < x.hi) = false := decide_eq_false (by omega)
              clear hq3
              have HN2 := Lib.hid (HNX.out (by rw [HT.out, hq, q1, q2, q3]; rfl))
              clear HT HF HNX hq q1 q2 q3
              go_wp2_with fail
              refine (HC.out _).mono ?_
              rintro e w1 ⟨rfl, rfl⟩
              go_wp2
              go_roundw
              case rel => exact ⟨i + 1, by omega, by go_num, Lib.hid ⟨HW2.out, HN2.out⟩⟩
              case measure => simp [intOf]; omega
            · have q3 : decide (x.hi ≤ 1000) = false := decide_eq_false hq3
              have rq3 : decide (1000 < x.hi) = true := decide_eq_true (by omega)
              clear hq3
              obtain rfl : R = false := HF.out (by rw [HT.out, hq, q1, q2, q3]; rfl)
              clear HT HF HNX hq q1 q2 q3
              go_wp2_with fail
              refine (HC.out _).mono ?_
              rintro e w1 ⟨rfl, rfl⟩
              go_wp2
              go_ret
              exact ⟨rfl, HZ.out⟩
          · have q2 : decide (x.lo ≤ x.hi) = false := decide_eq_false hq2
            have rq2 : decide (x.hi < x.lo) = true := decide_eq_true (by omega)
            clear hq2
            obtain rfl : R = false := HF.out (by rw [HT.out, hq, q1, q2]; rfl)
            clear HT HF HNX hq q1 q2
            go_wp2_with fail
            refine (HC.out _).mono ?_
            rintro e w1 ⟨rfl, rfl⟩
            go_wp2
            go_ret
            exact ⟨rfl, HZ.out⟩
        · have q1 : decide (-1000 ≤ x.lo) = false := decide_eq_false hq1
          have rq1 : decide (x.lo < -1000) = true := decide_eq_true (by omega)
          clear hq1
          obtain rfl : R = false := HF.out (by rw [HT.out, hq, q1]; rfl)
          clear HT HF HNX hq q1
          go_wp2_with fail
          refine (HC.out _).mono ?_
          rintro e w1 ⟨rfl, rfl⟩
          go_wp2
          go_ret
          exact ⟨rfl, HZ.out⟩
    · obtain rfl : i = n6 := by omega
      have hlt2 : ¬ ((i : Int) < (i : Int)) := by omega
      have HA := Lib.hid (all_got (l := rs) (p := rdOk n0) (fun j x hj hx => HI.out.2 j x (by have := E6.out; omega) hx))
      have HI1 := Lib.hid HI.out.1
      clear HI hlt
      go_wp2
      clear b0 b1 b2 b3 b4 b5 b6 b7 b8
      go_loopw [6] (fun s3 wr => ∃ i : Nat, i ≤ n7 ∧ s3 = .int .i64 (i : Int) ∧ Hid (Below W.heap.size W wr ∧ ∀ j x, j < i → sh[j]? = some x → shOk ps x = true)) (fun s3 _ => n7 - (intOf s3).toNat)
      case atStart => exact ⟨0, by omega, rfl, Lib.hid ⟨HI1.out, fun j x hj => by omega⟩⟩
      case round =>
        obtain ⟨k, hk, rfl, HI⟩ := hrel
        obtain ⟨b0, b1, b2, b3, b4, b5, b6, b7, b8⟩ := box9 (bon HX.out HI.out.1)
        have HZ := Lib.hid (btrans HB.out HI.out.1)
        by_cases hlt : k < n7
        · have hlt3 : (k : Int) < (n7 : Int) := by omega
          obtain ⟨g, off, x, rfl, hg, hx, _, hra, _⟩ := (G7.out.on HI.out.1).pick k (by rw [← E7.out]; exact hlt)
          have f0 : wr.cell? ⟨g, off + k, none⟩ = some (.int .i64 x.pl) := by have h := hra 0 _ rfl; simpa using h
          have hc : ∀ w, Calls Try.prog 31 #[.int .i64 x.pl, .int .i64 0, .int .i64 ((n0 : Int) - 1)] w fun e w' => e = .returned (.bool (rng 0 x.pl ((n0 : Int) - 1))) ∧ w = w' := fun w => within_any 0 x.pl ((n0 : Int) - 1) w
          obtain ⟨T, hT⟩ : ∃ T, T = shOk ps x := ⟨_, rfl⟩
          have hT2 : T = (rng 0 x.pl ((ps.length : Int) - 1) && ((ps[x.pl.toNat]?.map fun y => decide (y.k = 4)).getD false)) := hT
          rw [← E0.out] at hT2
          have HT := Lib.hid hT2
          have HF : Hid (T = false → R = false) := Lib.hid (fun h => by rw [HR.out]; unfold endB; rw [not_alls (l := sh) hx (hT ▸ h), Bool.false_and, Bool.and_false])
          have HNX : Hid (T = true → ∀ j y, j < k + 1 → sh[j]? = some y → shOk ps y = true) := Lib.hid (fun h j y hj hy => by
            by_cases e : j < k
            · exact HI.out.2 j y e hy
            · obtain rfl : j = k := by omega
              rw [hx] at hy
              cases hy
              rw [← hT]; exact h)
          have HI1 := Lib.hid HI.out.1
          clear hT hT2 hg hra
          obtain ⟨p, hp⟩ : ∃ p, p = x.pl := ⟨_, rfl⟩
          rw [← hp] at f0 hc HT
          clear hp hx HI
          cases hq : rng 0 p ((n0 : Int) - 1) with
          | false =>
            rw [hq] at hc
            obtain rfl : R = false := HF.out (by rw [HT.out, hq]; rfl)
            have HC := Lib.hid hc
            clear hc hq HT HF HNX
            go_wp2
            go_quiet (first | (go_at_call 31; exact quiet_eq (HC.out _)))
            go_wp2
            go_ret
            exact ⟨rfl, bdrewN HZ.out _⟩
          | true =>
            have hr := rng_iff.1 hq
            rw [hq] at hc
            have HC := Lib.hid hc
            obtain ⟨m, rfl⟩ : ∃ m : Nat, p = (m : Int) := ⟨p.toNat, by omega⟩
            have hm : m < n0 := by omega
            obtain ⟨g2, off2, y, rfl, hg2, hy, _, hra2, _⟩ := (G0.out.on HI1.out).pick m (by rw [← E0.out]; exact hm)
            have f3 : wr.cell? ⟨g2, off2 + m * 3, none⟩ = some (.int .i64 y.k) := hra2 0 _ rfl
            have hTT : T = decide (y.k = 4) := by rw [HT.out, hq, Int.toNat_natCast, hy]; rfl
            clear hc hq HT hra2 hy hg2 hr
            by_cases h4 : y.k = 4
            · rw [h4] at f3
              have HNX2 := Lib.hid (HNX.out (by rw [hTT]; exact decide_eq_true h4))
              clear hTT HNX HF h4
              go_wp2
              go_quiet (first | (go_at_call 31; exact quiet_eq (HC.out _)))
              go_wp2
              go_roundw
              case rel => exact ⟨k + 1, by omega, by go_num, Lib.hid ⟨bdrewN HI1.out _, HNX2.out⟩⟩
              case measure => simp [intOf]; omega
            · have h4b : (y.k != 4) = true := by simpa using h4
              obtain rfl : R = false := HF.out (by rw [hTT]; exact decide_eq_false h4)
              clear hTT HNX HF h4
              go_wp2
              go_quiet (first | (go_at_call 31; exact quiet_eq (HC.out _)))
              go_wp2
              go_ret
              exact ⟨rfl, bdrewN HZ.out _⟩
        · obtain rfl : k = n7 := by omega
          have hlt3 : ¬ ((k : Int) < (k : Int)) := by omega
          have HA2 := Lib.hid (all_got (l := sh) (p := shOk ps) (fun j x hj hx => HI.out.2 j x (by have := E7.out; omega) hx))
          have HI1 := Lib.hid HI.out.1
          clear HI hlt
          go_wp2
          clear b0 b1 b2 b3 b4 b5 b6 b7 b8
          go_loopw [7] (fun s3 wr => ∃ i : Nat, i ≤ n3 ∧ s3 = .int .i64 (i : Int) ∧ Hid (Below W.heap.size W wr ∧ ∀ j x, j < i → ws[j]? = some x → decide (x.ho < (n0 : Int)) = true)) (fun s3 _ => n3 - (intOf s3).toNat)
          case atStart => exact ⟨0, by omega, rfl, Lib.hid ⟨HI1.out, fun j x hj => by omega⟩⟩
          case round =>
            obtain ⟨m, hm, rfl, HI⟩ := hrel
            obtain ⟨b0, b1, b2, b3, b4, b5, b6, b7, b8⟩ := box9 (bon HX.out HI.out.1)
            have HZ := Lib.hid (btrans HB.out HI.out.1)
            by_cases hlt : m < n3
            · have hlt4 : (m : Int) < (n3 : Int) := by omega
              obtain ⟨g, off, x, rfl, hg, hx, _, hra, _⟩ := (G3.out.on HI.out.1).pick m (by rw [← E3.out]; exact hlt)
              have f2 : wr.cell? ⟨g, off + m * 5 + 2, none⟩ = some (.int .i64 x.ho) := hra 2 _ rfl
              have HX2 := Lib.hid hx
              clear hg hx hra
              by_cases q1 : x.ho < (n0 : Int)
              · have d1 : decide ((n0 : Int) ≤ x.ho) = false := decide_eq_false (by omega)
                have HNX : Hid (∀ j y, j < m + 1 → ws[j]? = some y → decide (y.ho < (n0 : Int)) = true) := Lib.hid (fun j y hj hy => by
                  by_cases e : j < m
                  · exact HI.out.2 j y e hy
                  · obtain rfl : j = m := by omega
                    have := HX2.out
                    rw [this] at hy
                    cases hy
                    exact decide_eq_true q1)
                have HI2 := Lib.hid HI.out.1
                clear HI HX2 q1
                go_wp2
                go_roundw
                case rel => exact ⟨m + 1, by omega, by go_num, Lib.hid ⟨HI2.out, HNX.out⟩⟩
                case measure => simp [intOf]; omega
              · have d1 : decide ((n0 : Int) ≤ x.ho) = true := decide_eq_true (by omega)
                obtain rfl : R = false := by rw [HR.out]; unfold endB; rw [not_alls (l := ws) HX2.out (decide_eq_false q1), Bool.and_false, Bool.and_false]
                clear HI HX2 q1
                go_wp2
                go_ret
                exact ⟨rfl, HZ.out⟩
            · obtain rfl : m = n3 := by omega
              have hlt4 : ¬ ((m : Int) < (m : Int)) := by omega
              obtain rfl : R = true := by
                rw [HR.out]; unfold endB; rw [HA.out, HA2.out, all_got (l := ws) (p := fun x => decide (x.ho < (n0 : Int))) (fun j x hj hx => HI.out.2 j x (by have := E3.out; omega) hx)]; rfl
              clear HI hlt HA HA2
              go_wp2
              go_ret
              exact ⟨rfl, HZ.out⟩
end Go.Proofs.Ytijdjbkmkopmnaa
