/-
  Walks: the reader's value and list.
-/
import Derived.Test.YtjhjcigappkebaaRc
namespace Go.Proofs.Ytjhjcigappkebaa
open Go.RowKit

def fresh (w w' : World) (k : Nat) : Prop := w.heap.size ≤ k ∧ k < w'.heap.size

/-- What reading a value does. -/
def ValOf (B : Nat) (w : World) (R : Nat) (vb : Value) (b : List Int) (deep opn : Int) (r : Except Int (T × List Int)) (e : Ending) (w' : World) : Prop :=
  w.grownBy w' (some R) ∧ match r with
  | .ok (t, rest) => ∃ v q, e = .returned v ∧ Rd (fresh w w') w' t v ∧ b.drop q = rest ∧ Rs B w' R vb b q (max deep (opn + nest t))
  | .error c => e = failure c

theorem Rd.int {F : Nat → Prop} {w : World} (n : Int) (hn : I64 n) : Rd F w (.mk 1 n [] []) (.agg #[.int .i64 1, .int .i64 n, .slice none 0 0, .slice none 0 0]) := by
  unfold Rd
  exact ⟨.slice none 0 0, none, 0, rfl, by unfold I64; omega, hn, ⟨by simp, by simp, none, 0, rfl, by simp, by simp⟩, by simp, by simp, by simp⟩

theorem grownSet4 (w : World) (g : Nat) (x0 x1 x2 x3 : Value) : w.grownBy ((((w.setCell ⟨g, 0, none⟩ x0).setCell ⟨g, 1, none⟩ x1).setCell ⟨g, 2, none⟩ x2).setCell ⟨g, 3, none⟩ x3) (some g) :=
  grow2 (grow2 (grow2 (grownSet _ _ _ _) (grownSet _ _ _ _) (Or.inl rfl)) (grownSet _ _ _ _) (Or.inl rfl)) (grownSet _ _ _ _) (Or.inl rfl)

theorem Bs.nil (F : Nat → Prop) (w : World) : Bs F w (.slice none 0 0) [] := ⟨by simp, by simp, none, 0, rfl, by simp, by simp⟩

set_option maxHeartbeats 400000 in
theorem value_pos (B : Nat) (w : World) (R : Nat) (vb : Value) (b : List Int) (p : Nat) (deep m : Int) (opn : Nat) (r : Except Int (T × List Int)) (h : Rs B w R vb b p deep) (hm0 : 31 < m) (hm1 : m ≤ 40)
    (hr : (match pInt (m == 40) false (m - 32).toNat true 0 (b.drop p) with | .ok (n, r) => .ok (.mk 1 n [] [], r) | .error e => .error e) = r) (hop : (opn : Int) ≤ deep) :
    Calls Try.prog 42 #[.pointer (some ⟨R, 0, none⟩), .int .u8 m, .int .i64 opn] w (ValOf B w R vb b deep opn r) := by
  obtain ⟨k, rfl⟩ : ∃ k : Nat, m = 32 + (k : Int) := ⟨(m - 32).toNat, by omega⟩
  have hk : k ≤ 8 := by omega
  have e1 : ((32 + (k : Int)) - 32).toNat = k := by omega
  have e2 : ((32 + (k : Int)) == 40) = (k == 8) := by rw [Bool.eq_iff_iff]; simp; omega
  rw [e1, e2] at hr
  have hlt := h.lt
  have hc : ∀ w', w.grownBy w' none → Calls Try.prog 51 #[.pointer (some ⟨R, 0, none⟩), .int .i64 (32 + (k : Int) - 32), .int .u8 0] w' (ReadOf B w' R vb b deep IntVal (pInt (k == 8) false k true 0 (b.drop p))) := by
    intro w' hg
    rw [show (32 + (k : Int) - 32) = (k : Int) from by omega]
    exact integer_any B w' R vb b p k deep 0 false (h.kept hg (by simp)) hk rfl
  have Hc := Lib.hid hc; clear hc
  have H := Lib.hid h; clear h
  generalize hpi : pInt (k == 8) false k true 0 (b.drop p) = ri at *
  clear hpi
  have Hr := Lib.hid hr; clear hr e1 e2
  go_enter Try.func42, Try.ntmps42
  go_wp2_with fail
  cases ri with
  | error c =>
    refine (Hc.out _ (World.grownBy_alloc w _ none)).mono ?_
    rintro e w1 ⟨hg, rfl⟩
    have Hg := Lib.hid hg; clear hg
    go_wp2_with fail
    refine ⟨rfl, grow2 (growAlloc (grownRefl w _) _) Hg.out (Or.inl rfl), ?_⟩
    rw [← Hr.out]
  | ok x =>
    obtain ⟨n, rest⟩ := x
    refine (Hc.out _ (World.grownBy_alloc w _ none)).mono ?_
    rintro e w1 ⟨hg, v, q, rfl, ⟨rfl, hn0, hn1⟩, hd, hrs⟩
    have Hg := Lib.hid hg
    have c0 : w1.heap[w.heap.size]? = some (.cells #[.int .i64 0, .int .i64 0, .slice none 0 0, .slice none 0 0] 25 (0, 0)) := by
      rw [hg.block w.heap.size (by simp) (by simp; omega)]
      exact heap_alloc_new w _
    have hwz := hg.size
    have Hd := Lib.hid hd
    have Hrs := Lib.hid hrs
    clear hg hd hrs
    have d0 : w1.cell? ⟨w.heap.size, 0, none⟩ = some (.int .i64 0) := by simp [World.cell?, c0]
    have d1 : w1.cell? ⟨w.heap.size, 1, none⟩ = some (.int .i64 0) := by simp [World.cell?, c0]
    have d2 : w1.cell? ⟨w.heap.size, 2, none⟩ = some (.slice none 0 0) := by simp [World.cell?, c0]
    have d3 : w1.cell? ⟨w.heap.size, 3, none⟩ = some (.slice none 0 0) := by simp [World.cell?, c0]
    have f0 : w1.frozen? ⟨w.heap.size, 0, none⟩ = false := by simp [World.frozen?, c0]
    have f1 : w1.frozen? ⟨w.heap.size, 1, none⟩ = false := by simp [World.frozen?, c0]
    have f2 : w1.frozen? ⟨w.heap.size, 2, none⟩ = false := by simp [World.frozen?, c0]
    have f3 : w1.frozen? ⟨w.heap.size, 3, none⟩ = false := by simp [World.frozen?, c0]
    clear c0
    go_wp2_with fail
    refine bodyPost_ret (v := .agg #[.int .i64 1, .int .i64 n, .slice none 0 0, .slice none 0 0]) (by simp [results, Try.results42, go_sem, d0, d1, d2, d3]) rfl ?_
    have hlt' := hlt
    refine ⟨grow3 (grow2 (growAlloc (grownRefl w _) _) Hg.out (Or.inl rfl)) (grownSet4 w1 w.heap.size _ _ _ _) (fun g hg => by simp at hg; omega), ?_⟩
    rw [← Hr.out]
    refine ⟨_, q, rfl, Rd.int _ (by unfold I64; omega), Hd.out, ?_⟩
    have hmx : max deep ((opn : Int) + ((nest (.mk 1 n [] []) : Nat) : Int)) = deep := by
      show max deep ((opn : Int) + ((0 : Nat) : Int)) = deep
      omega
    rw [hmx]
    exact Hrs.out.kept (grownSet4 w1 w.heap.size _ _ _ _) (fun g hg => by simp at hg; omega)

set_option maxHeartbeats 400000 in
theorem value_neg (B : Nat) (w : World) (R : Nat) (vb : Value) (b : List Int) (p : Nat) (deep m : Int) (opn : Nat) (r : Except Int (T × List Int)) (h : Rs B w R vb b p deep) (hm0 : m ≤ 31) (hm1 : 23 ≤ m)
    (hr : (match pInt (m == 23) true (31 - m).toNat true 0 (b.drop p) with | .ok (n, r) => .ok (.mk 1 (-1 - n) [] [], r) | .error e => .error e) = r) (hop : (opn : Int) ≤ deep) :
    Calls Try.prog 42 #[.pointer (some ⟨R, 0, none⟩), .int .u8 m, .int .i64 opn] w (ValOf B w R vb b deep opn r) := by
  obtain ⟨k, rfl⟩ : ∃ k : Nat, m = 31 - (k : Int) := ⟨(31 - m).toNat, by omega⟩
  have hk : k ≤ 8 := by omega
  have e1 : (31 - (31 - (k : Int))).toNat = k := by omega
  have e2 : ((31 - (k : Int)) == 23) = (k == 8) := by rw [Bool.eq_iff_iff]; simp; omega
  rw [e1, e2] at hr
  have hlt := h.lt
  have hc : ∀ w', w.grownBy w' none → Calls Try.prog 51 #[.pointer (some ⟨R, 0, none⟩), .int .i64 (31 - (31 - (k : Int))), .int .u8 255] w' (ReadOf B w' R vb b deep IntVal (pInt (k == 8) true k true 0 (b.drop p))) := by
    intro w' hg
    rw [show (31 - (31 - (k : Int))) = (k : Int) from by omega]
    exact integer_any B w' R vb b p k deep 255 true (h.kept hg (by simp)) hk rfl
  have Hc := Lib.hid hc; clear hc
  have H := Lib.hid h; clear h
  generalize hpi : pInt (k == 8) true k true 0 (b.drop p) = ri at *
  clear hpi
  have Hr := Lib.hid hr; clear hr e1 e2
  go_enter Try.func42, Try.ntmps42
  go_wp2_with fail
  cases ri with
  | error c =>
    refine (Hc.out _ (World.grownBy_alloc w _ none)).mono ?_
    rintro e w1 ⟨hg, rfl⟩
    have Hg := Lib.hid hg; clear hg
    go_wp2_with fail
    refine ⟨rfl, grow2 (growAlloc (grownRefl w _) _) Hg.out (Or.inl rfl), ?_⟩
    rw [← Hr.out]
  | ok x =>
    obtain ⟨n, rest⟩ := x
    refine (Hc.out _ (World.grownBy_alloc w _ none)).mono ?_
    rintro e w1 ⟨hg, v, q, rfl, ⟨rfl, hn0, hn1⟩, hd, hrs⟩
    have Hg := Lib.hid hg
    have c0 : w1.heap[w.heap.size]? = some (.cells #[.int .i64 0, .int .i64 0, .slice none 0 0, .slice none 0 0] 25 (0, 0)) := by
      rw [hg.block w.heap.size (by simp) (by simp; omega)]
      exact heap_alloc_new w _
    have hwz := hg.size
    have Hd := Lib.hid hd
    have Hrs := Lib.hid hrs
    clear hg hd hrs
    have d0 : w1.cell? ⟨w.heap.size, 0, none⟩ = some (.int .i64 0) := by simp [World.cell?, c0]
    have d1 : w1.cell? ⟨w.heap.size, 1, none⟩ = some (.int .i64 0) := by simp [World.cell?, c0]
    have d2 : w1.cell? ⟨w.heap.size, 2, none⟩ = some (.slice none 0 0) := by simp [World.cell?, c0]
    have d3 : w1.cell? ⟨w.heap.size, 3, none⟩ = some (.slice none 0 0) := by simp [World.cell?, c0]
    have f0 : w1.frozen? ⟨w.heap.size, 0, none⟩ = false := by simp [World.frozen?, c0]
    have f1 : w1.frozen? ⟨w.heap.size, 1, none⟩ = false := by simp [World.frozen?, c0]
    have f2 : w1.frozen? ⟨w.heap.size, 2, none⟩ = false := by simp [World.frozen?, c0]
    have f3 : w1.frozen? ⟨w.heap.size, 3, none⟩ = false := by simp [World.frozen?, c0]
    clear c0
    have hnot := i64_not_neg n (by omega) hn1
    go_wp2_with fail
    refine bodyPost_ret (v := .agg #[.int .i64 1, .int .i64 (-1 - n), .slice none 0 0, .slice none 0 0]) (by simp [results, Try.results42, go_sem, d0, d1, d2, d3]) rfl ?_
    have hlt' := hlt
    refine ⟨grow3 (grow2 (growAlloc (grownRefl w _) _) Hg.out (Or.inl rfl)) (grownSet4 w1 w.heap.size _ _ _ _) (fun g hg => by simp at hg; omega), ?_⟩
    rw [← Hr.out]
    refine ⟨_, q, rfl, Rd.int _ (by unfold I64; omega), Hd.out, ?_⟩
    have hmx : max deep ((opn : Int) + ((nest (.mk 1 (-1 - n) [] []) : Nat) : Int)) = deep := by
      show max deep ((opn : Int) + ((0 : Nat) : Int)) = deep
      omega
    rw [hmx]
    exact Hrs.out.kept (grownSet4 w1 w.heap.size _ _ _ _) (fun g hg => by simp at hg; omega)


end Go.Proofs.Ytjhjcigappkebaa
