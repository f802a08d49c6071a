/-
  The contracts at the examples' lists.
-/
import Derived.Test.YthmpeeipbclhkaaDoorSp
namespace Go.Proofs.YthmpeeipbclhkaaDoor
open Go.RowKit

theorem dpt0 : dpt 0 = 0 := by decide
theorem dpt1 : dpt 1 = 0 := by decide
theorem dpt2 : dpt 2 = 1 := by decide +kernel
theorem dpt3 : dpt 3 = 2 := by decide +kernel

theorem rootD0 : rootD [] = pdd := rfl
theorem rootD1 (x : List Int) : rootD [x] = x := rfl
theorem rootD2 (x y : List Int) : rootD [x, y] = prt x y := by
  unfold rootD
  rw [show [x, y].length = 2 from rfl, dpt2]; rfl
theorem rootD3 (x y : List Int) : rootD [x, y, x] = prt (prt x y) (prt x pdd) := by
  unfold rootD
  rw [show [x, y, x].length = 3 from rfl, dpt3]; rfl
theorem pathD3 (x y : List Int) : pathD [x, y, x] 2 = [pdd, prt x y] := by
  unfold pathD
  rw [show [x, y, x].length = 3 from rfl, dpt3]; rfl

theorem r0 (P : List Int) (hP : P = pdd) (w : World) (hk : KOk w) : Calls Tryd.prog 15 #[.slice none 0 0] w fun e w' => e = .returned (.tuple #[.agg (.int .i64 0 :: byteVals P).toArray, .int .i64 0]) ∧ Below w.heap.size w w' := by
  subst hP
  exact root_any [] none 0 w hk (dl_nil _ _) (by simp)
theorem r1 (x : List Int) (p : Option Addr) (w : World) (hk : KOk w) (hv : Dl (fun k => k < w.heap.size) w (.slice p 1 1) [x]) : Calls Tryd.prog 15 #[.slice p 1 1] w fun e w' => e = .returned (.tuple #[.agg (.int .i64 1 :: byteVals x).toArray, .int .i64 0]) ∧ Below w.heap.size w w' :=
  root_any [x] p 1 w hk hv (by simp)
theorem r2 (x y xy : List Int) (hxy : xy = prt x y) (p : Option Addr) (w : World) (hk : KOk w) (hv : Dl (fun k => k < w.heap.size) w (.slice p 2 2) [x, y]) : Calls Tryd.prog 15 #[.slice p 2 2] w fun e w' => e = .returned (.tuple #[.agg (.int .i64 2 :: byteVals xy).toArray, .int .i64 0]) ∧ Below w.heap.size w w' := by
  subst hxy
  have h := root_any [x, y] p 2 w hk hv (by simp)
  rw [rootD2] at h
  exact h
theorem r3 (x y P xy xp al : List Int) (hP : P = pdd) (hxy : xy = prt x y) (hxp : xp = prt x P) (hal : al = prt xy xp) (p : Option Addr) (w : World) (hk : KOk w) (hv : Dl (fun k => k < w.heap.size) w (.slice p 3 3) [x, y, x]) : Calls Tryd.prog 15 #[.slice p 3 3] w fun e w' => e = .returned (.tuple #[.agg (.int .i64 3 :: byteVals al).toArray, .int .i64 0]) ∧ Below w.heap.size w w' := by
  subst hP hxy hxp hal
  have h := root_any [x, y, x] p 3 w hk hv (by simp)
  rw [rootD3] at h
  exact h
theorem p3 (x y P xy : List Int) (hP : P = pdd) (hxy : xy = prt x y) (p : Option Addr) (w : World) (hk : KOk w) (hv : Dl (fun k => k < w.heap.size) w (.slice p 3 3) [x, y, x]) : Calls Tryd.prog 17 #[.slice p 3 3, .int .i64 2] w fun e w' => ∃ a c, e = .returned (.tuple #[.slice a 2 c, .int .i64 0]) ∧ Below w.heap.size w w' ∧ Dl (fun k => w.heap.size ≤ k ∧ k < w'.heap.size) w' (.slice a 2 c) [P, xy] := by
  subst hP hxy
  have h := pathOk_any [x, y, x] p 3 2 w hk hv (by simp) (by rw [show [x, y, x].length = 3 from rfl, dpt3]; decide)
  rw [pathD3] at h
  refine h.mono ?_
  rintro e w' ⟨v, he, hb, hd⟩
  obtain ⟨a, c, rfl⟩ := hd.shape
  exact ⟨a, c, he, hb, hd⟩
theorem pb (x : List Int) (p : Option Addr) (w : World) : Calls Tryd.prog 17 #[.slice p 1 1, .int .i64 1] w fun e w' => e = .returned (.tuple #[.slice none 0 0, .int .i64 1]) ∧ Below w.heap.size w w' :=
  pathBad_any [x] p 1 1 w (by simp) (Or.inr (show ((2 ^ dpt 1 : Nat) : Int) ≤ 1 by decide))

theorem pa (x y xy : List Int) (hxy : xy = prt x y) (w : World) (hk : KOk w) (hx : Dg x) (hy : Dg y) : Calls Tryd.prog 22 #[.agg (byteVals x).toArray, .agg (byteVals y).toArray] w fun e w' => e = .returned (.agg (byteVals xy).toArray) ∧ Below w.heap.size w w' := by
  subst hxy
  exact parent_any x y w hk hx hy
theorem pad0 (P : List Int) (hP : P = pdd) (w : World) (hk : KOk w) : Calls Tryd.prog 20 #[] w fun e w' => e = .returned (.agg (byteVals P).toArray) ∧ Below w.heap.size w w' := by
  subst hP
  exact pad_any w hk
theorem xx_ne : xx ≠ pdd := by rw [pdd_eq]; decide
theorem yy_ne : yy ≠ pdd := by rw [pdd_eq]; decide
theorem yx_ne : yy ≠ xx := by decide

theorem f1 (x y P : List Int) (hP : P = pdd) (hy : y ≠ P) (p q : Option Addr) (w : World) (hk : KOk w) (hv : Dl (fun k => k < w.heap.size) w (.slice p 2 2) [x, y]) (hv2 : Dl (fun k => k < w.heap.size) w (.slice q 1 1) [x]) : Calls Tryd.prog 26 #[.slice p 2 2, .slice q 1 1] w fun e w' => e = .returned (.int .i64 1) ∧ Below w.heap.size w w' := by
  subst hP
  have h := first_any [x, y] [x] p q 2 1 w hk hv hv2
  have e : fdiff [x, y] [x] = 1 := by
    show (if x = x then (if y = pdd then (-1 : Int) else ((1 : Nat) : Int)) else ((0 : Nat) : Int)) = 1
    rw [if_pos rfl, if_neg hy]; rfl
  rw [e] at h
  exact h
theorem f2 (x P : List Int) (hP : P = pdd) (p q : Option Addr) (w : World) (hk : KOk w) (hv : Dl (fun k => k < w.heap.size) w (.slice p 1 1) [x]) (hv2 : Dl (fun k => k < w.heap.size) w (.slice q 2 2) [x, P]) : Calls Tryd.prog 26 #[.slice p 1 1, .slice q 2 2] w fun e w' => e = .returned (.int .i64 (-1)) ∧ Below w.heap.size w w' := by
  subst hP
  have h := first_any [x] [x, pdd] p q 1 2 w hk hv hv2
  have e : fdiff [x] [x, pdd] = -1 := by
    show (if x = x then (if pdd = pdd then (-1 : Int) else ((1 : Nat) : Int)) else ((0 : Nat) : Int)) = -1
    rw [if_pos rfl, if_pos rfl]
  rw [e] at h
  exact h
theorem f3 (x y : List Int) (hyx : y ≠ x) (p q : Option Addr) (w : World) (hk : KOk w) (hv : Dl (fun k => k < w.heap.size) w (.slice p 2 2) [y, x]) (hv2 : Dl (fun k => k < w.heap.size) w (.slice q 2 2) [x, y]) : Calls Tryd.prog 26 #[.slice p 2 2, .slice q 2 2] w fun e w' => e = .returned (.int .i64 0) ∧ Below w.heap.size w w' := by
  have h := first_any [y, x] [x, y] p q 2 2 w hk hv hv2
  have e : fdiff [y, x] [x, y] = 0 := by
    show (if y = x then _ else ((0 : Nat) : Int)) = 0
    rw [if_neg hyx]; rfl
  rw [e] at h
  exact h
theorem s2 (x y : List Int) (p q : Option Addr) (c : Nat) (w : World) (hv : Dl (fun k => k < w.heap.size) w (.slice p 2 c) [x, y]) (hv2 : Dl (fun k => k < w.heap.size) w (.slice q 2 2) [x, y]) : Calls Tryd.prog 19 #[.slice p 2 c, .slice q 2 2] w fun e w' => e = .returned (.bool true) ∧ Below w.heap.size w w' := by
  have h := same_any [x, y] [x, y] p q c 2 w hv hv2
  rw [decide_eq_true rfl] at h
  exact h
theorem i1 (x : List Int) (hx : Dg x) (w : World) (hk : KOk w) : Calls Tryd.prog 28 #[.agg (.int .i64 1 :: byteVals x).toArray, .int .i64 0, .agg (byteVals x).toArray, .slice none 0 0] w fun e w' => e = .returned (.bool true) ∧ Below w.heap.size w w' := by
  have h := inc_any 1 x 0 x [] none 0 w hk hx hx (dl_nil _ _)
  have e : inc 1 x 0 x [] = true := by
    unfold inc
    have e1 : decide ((0 : Int) ≤ 1 ∧ (1 : Int) ≤ 65536) = true := by decide
    have e2 : decide ((0 : Int) ≤ 0 ∧ (0 : Int) < ((2 ^ dpt (Int.toNat 1) : Nat) : Int)) = true := by decide
    have e3 : decide (([] : List (List Int)).length = dpt (Int.toNat 1)) = true := by decide
    have e4 : decide (climb prt (Int.toNat 0) x [] = x) = true := decide_eq_true rfl
    rw [e1, e2, e3, e4]; rfl
  rw [e] at h
  exact h
theorem i2 (x : List Int) (hx : Dg x) (w : World) (hk : KOk w) : Calls Tryd.prog 28 #[.agg (.int .i64 2 :: byteVals x).toArray, .int .i64 0, .agg (byteVals x).toArray, .slice none 0 0] w fun e w' => e = .returned (.bool false) ∧ Below w.heap.size w w' := by
  have h := inc_any 2 x 0 x [] none 0 w hk hx hx (dl_nil _ _)
  have e : inc 2 x 0 x [] = false := by
    unfold inc
    have e3 : decide (([] : List (List Int)).length = dpt (Int.toNat 2)) = false := by decide +kernel
    rw [e3]; simp
  rw [e] at h
  exact h
end Go.Proofs.YthmpeeipbclhkaaDoor
