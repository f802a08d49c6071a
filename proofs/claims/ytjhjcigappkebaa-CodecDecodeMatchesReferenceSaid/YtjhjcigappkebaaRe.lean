/-
  Walks: the reader's value at byte strings, at lists, at other first bytes.
-/
import Derived.Test.YtjhjcigappkebaaRd
namespace Go.Proofs.Ytjhjcigappkebaa
open Go.RowKit

/-- What reading a list does. -/
def ListOf (B : Nat) (w : World) (R : Nat) (vb : Value) (b : List Int) (deep opn : Int) (r : Except Int (List T × List Int)) (e : Ending) (w' : World) : Prop :=
  w.grownBy w' (some R) ∧ match r with
  | .ok (l, rest) => ∃ a cap q, e = .returned (.slice a l.length cap) ∧ (l.length ≤ 65536 ∧ l.length ≤ cap ∧ (0 < l.length → ∃ g off, a = some ⟨g, off, none⟩ ∧ fresh w w' g ∧ RdL (fresh w w') w' l g off)) ∧ b.drop q = rest ∧ Rs B w' R vb b q (max deep (opn + nestL l))
  | .error c => e = failure c

theorem fresh_mono {w w1 w' w2 : World} (h1 : w.heap.size ≤ w1.heap.size) (h2 : w'.heap.size ≤ w2.heap.size) : ∀ k, fresh w1 w' k → fresh w w2 k := fun _ h => ⟨Nat.le_trans h1 h.1, Nat.lt_of_lt_of_le h.2 h2⟩

theorem Rd.bytes {F : Nat → Prop} {w : World} {v : Value} {s : List Int} (h : Bs F w v s) : Rd F w (.mk 2 0 s []) (.agg #[.int .i64 2, .int .i64 0, v, .slice none 0 0]) := by
  unfold Rd
  exact ⟨v, none, 0, rfl, by unfold I64; omega, by unfold I64; omega, h, by simp, by simp, by simp⟩

theorem Rd.list {F : Nat → Prop} {w : World} {a : Option Addr} {cap : Nat} {l : List T} (h1 : l.length ≤ 65536) (h2 : l.length ≤ cap) (h3 : 0 < l.length → ∃ g off, a = some ⟨g, off, none⟩ ∧ F g ∧ RdL F w l g off) :
    Rd F w (.mk 3 0 [] l) (.agg #[.int .i64 3, .int .i64 0, .slice none 0 0, .slice a l.length cap]) := by
  unfold Rd
  exact ⟨.slice none 0 0, a, cap, rfl, by unfold I64; omega, by unfold I64; omega, Bs.nil _ _, by omega, h2, h3⟩

set_option maxHeartbeats 400000 in
theorem value_bytes (B : Nat) (w : World) (R : Nat) (vb : Value) (b : List Int) (p : Nat) (deep : Int) (opn : Nat) (r : Except Int (T × List Int)) (h : Rs B w R vb b p deep) (hlen : b.length ≤ 65536)
    (hr : (match pBytes (b.drop p) with | .ok (s, r) => .ok (.mk 2 0 s [], r) | .error e => .error e) = r) (hop : (opn : Int) ≤ deep) :
    Calls Try.prog 42 #[.pointer (some ⟨R, 0, none⟩), .int .u8 48, .int .i64 opn] w (ValOf B w R vb b deep opn r) := by
  have hlt := h.lt
  have hc : ∀ w', w.grownBy w' none → Calls Try.prog 52 #[.pointer (some ⟨R, 0, none⟩)] w' (ReadOf B w' R vb b deep (BytesVal w') (pBytes (b.drop p))) :=
    fun w' hg => bytes_any B w' R vb b p deep (h.kept hg (by simp)) hlen
  have Hc := Lib.hid hc; clear hc
  have H := Lib.hid h; clear h
  generalize hpi : pBytes (b.drop p) = ri at *
  clear hpi
  have Hr := Lib.hid hr; clear hr
  go_enter Try.func42, Try.ntmps42
  go_wp2_with fail
  cases ri with
  | error c =>
    refine (Hc.out _ (World.grownBy_alloc w _ none)).mono ?_
    rintro e w1 ⟨hg, rfl⟩
    have Hg := Lib.hid hg; clear hg
    go_wp2_with fail
    refine ⟨rfl, grow2 (growAlloc (grownRefl w _) _) Hg.out (Or.inl rfl), ?_⟩
    rw [← Hr.out]
  | ok x =>
    obtain ⟨s, rest⟩ := x
    refine (Hc.out _ (World.grownBy_alloc w _ none)).mono ?_
    rintro e w1 ⟨hg, v, q, rfl, hbv, hd, hrs⟩
    have Hbv := Lib.hid hbv
    obtain ⟨_, _, a, cap, rfl, _, _⟩ := hbv
    have Hg := Lib.hid hg
    have c0 : w1.heap[w.heap.size]? = some (.cells #[.int .i64 0, .int .i64 0, .slice none 0 0, .slice none 0 0] 25 (0, 0)) := by
      rw [hg.block w.heap.size (by simp) (by simp; omega)]
      exact heap_alloc_new w _
    have hwz := hg.size
    have Hd := Lib.hid hd
    have Hrs := Lib.hid hrs
    clear hg hd hrs
    have d0 : w1.cell? ⟨w.heap.size, 0, none⟩ = some (.int .i64 0) := by simp [World.cell?, c0]
    have d1 : w1.cell? ⟨w.heap.size, 1, none⟩ = some (.int .i64 0) := by simp [World.cell?, c0]
    have d2 : w1.cell? ⟨w.heap.size, 2, none⟩ = some (.slice none 0 0) := by simp [World.cell?, c0]
    have d3 : w1.cell? ⟨w.heap.size, 3, none⟩ = some (.slice none 0 0) := by simp [World.cell?, c0]
    have f0 : w1.frozen? ⟨w.heap.size, 0, none⟩ = false := by simp [World.frozen?, c0]
    have f1 : w1.frozen? ⟨w.heap.size, 1, none⟩ = false := by simp [World.frozen?, c0]
    have f2 : w1.frozen? ⟨w.heap.size, 2, none⟩ = false := by simp [World.frozen?, c0]
    have f3 : w1.frozen? ⟨w.heap.size, 3, none⟩ = false := by simp [World.frozen?, c0]
    clear c0
    go_wp2_with fail
    refine bodyPost_ret (v := .agg #[.int .i64 2, .int .i64 0, .slice a s.length cap, .slice none 0 0]) (by simp [results, Try.results42, go_sem, d0, d1, d2, d3]) rfl ?_
    have hgs := grownSet4 w1 w.heap.size (.int .i64 2) (.int .i64 0) (.slice a s.length cap) (.slice none 0 0)
    refine ⟨grow3 (grow2 (growAlloc (grownRefl w _) _) Hg.out (Or.inl rfl)) hgs (fun g hg => by simp at hg; omega), ?_⟩
    rw [← Hr.out]
    refine ⟨_, q, rfl, Rd.bytes (Bs.kept Hbv.out (fun k hk => ?_) (fun k hk => ?_)), Hd.out, ?_⟩
    · have h1 : w.heap.size + 1 ≤ k := by have := hk.1; simpa using this
      exact hgs.block k hk.2 (fun e => by simp at e; omega)
    · have h1 : w.heap.size + 1 ≤ k := by have := hk.1; simpa using this
      exact ⟨by omega, Nat.lt_of_lt_of_le hk.2 hgs.size⟩
    have hmx : max deep ((opn : Int) + ((nest (.mk 2 0 s []) : Nat) : Int)) = deep := by
      show max deep ((opn : Int) + ((0 : Nat) : Int)) = deep
      omega
    rw [hmx]
    exact Hrs.out.kept hgs (fun g hg => by simp at hg; omega)

set_option maxHeartbeats 400000 in
theorem value_list (B : Nat) (w : World) (R : Nat) (vb : Value) (b : List Int) (p : Nat) (deep : Int) (opn : Nat) (r : Except Int (T × List Int)) (h : Rs B w R vb b p deep) (rl : Except Int (List T × List Int)) (hopp : opn ≤ 65536)
    (hr : (match rl with | .ok (l, r) => .ok (.mk 3 0 [] l, r) | .error e => .error e) = r)
    (hl : ∀ w', w.grownBy w' none → Calls Try.prog 53 #[.pointer (some ⟨R, 0, none⟩), .int .i64 ((opn : Int) + 1)] w' (ListOf B w' R vb b deep ((opn : Int) + 1) rl)) :
    Calls Try.prog 42 #[.pointer (some ⟨R, 0, none⟩), .int .u8 64, .int .i64 opn] w (ValOf B w R vb b deep opn r) := by
  have hlt := h.lt
  have Hc := Lib.hid hl; clear hl
  have H := Lib.hid h; clear h
  have Hr := Lib.hid hr; clear hr
  go_enter Try.func42, Try.ntmps42
  go_wp2_with fail
  cases rl with
  | error c =>
    refine (Hc.out _ (World.grownBy_alloc w _ none)).mono ?_
    rintro e w1 ⟨hg, rfl⟩
    have Hg := Lib.hid hg; clear hg
    go_wp2_with fail
    refine ⟨rfl, grow2 (growAlloc (grownRefl w _) _) Hg.out (Or.inl rfl), ?_⟩
    rw [← Hr.out]
  | ok x =>
    obtain ⟨s, rest⟩ := x
    refine (Hc.out _ (World.grownBy_alloc w _ none)).mono ?_
    rintro e w1 ⟨hg, a, cap, q, rfl, hbv, hd, hrs⟩
    have Hbv := Lib.hid hbv; clear hbv
    have Hg := Lib.hid hg
    have c0 : w1.heap[w.heap.size]? = some (.cells #[.int .i64 0, .int .i64 0, .slice none 0 0, .slice none 0 0] 25 (0, 0)) := by
      rw [hg.block w.heap.size (by simp) (by simp; omega)]
      exact heap_alloc_new w _
    have hwz := hg.size
    have Hd := Lib.hid hd
    have Hrs := Lib.hid hrs
    clear hg hd hrs
    have d0 : w1.cell? ⟨w.heap.size, 0, none⟩ = some (.int .i64 0) := by simp [World.cell?, c0]
    have d1 : w1.cell? ⟨w.heap.size, 1, none⟩ = some (.int .i64 0) := by simp [World.cell?, c0]
    have d2 : w1.cell? ⟨w.heap.size, 2, none⟩ = some (.slice none 0 0) := by simp [World.cell?, c0]
    have d3 : w1.cell? ⟨w.heap.size, 3, none⟩ = some (.slice none 0 0) := by simp [World.cell?, c0]
    have f0 : w1.frozen? ⟨w.heap.size, 0, none⟩ = false := by simp [World.frozen?, c0]
    have f1 : w1.frozen? ⟨w.heap.size, 1, none⟩ = false := by simp [World.frozen?, c0]
    have f2 : w1.frozen? ⟨w.heap.size, 2, none⟩ = false := by simp [World.frozen?, c0]
    have f3 : w1.frozen? ⟨w.heap.size, 3, none⟩ = false := by simp [World.frozen?, c0]
    clear c0
    go_wp2_with fail
    refine bodyPost_ret (v := .agg #[.int .i64 3, .int .i64 0, .slice none 0 0, .slice a s.length cap]) (by simp [results, Try.results42, go_sem, d0, d1, d2, d3]) rfl ?_
    have hgs := grownSet4 w1 w.heap.size (.int .i64 3) (.int .i64 0) (.slice none 0 0) (.slice a s.length cap)
    refine ⟨grow3 (grow2 (growAlloc (grownRefl w _) _) Hg.out (Or.inl rfl)) hgs (fun g hg => by simp at hg; omega), ?_⟩
    rw [← Hr.out]
    refine ⟨_, q, rfl, Rd.list Hbv.out.1 Hbv.out.2.1 (fun hp => ?_), Hd.out, ?_⟩
    · obtain ⟨g, off, ha, hg, hl⟩ := Hbv.out.2.2 hp
      have hm := fresh_mono (w := w) (w1 := w.alloc (Obj.cells #[.int .i64 0, .int .i64 0, .slice none 0 0, .slice none 0 0] 25)) (w' := w1) (by simp) hgs.size
      refine ⟨g, off, ha, hm g hg, RdL.kept (fun k hk => ?_) hm s g off hg hl⟩
      have h1 : w.heap.size + 1 ≤ k := by have := hk.1; simpa using this
      exact hgs.block k hk.2 (fun e => by simp at e; omega)
    have hmx : max deep ((opn : Int) + ((nest (.mk 3 0 [] s) : Nat) : Int)) = max deep ((opn : Int) + 1 + (nestL s : Int)) := by
      show max deep ((opn : Int) + ((nestL s + 1 : Nat) : Int)) = _
      congr 1; omega
    rw [hmx]
    exact Hrs.out.kept hgs (fun g hg => by simp at hg; omega)

set_option maxHeartbeats 400000 in
theorem value_bad (B : Nat) (w : World) (R : Nat) (vb : Value) (b : List Int) (deep m : Int) (opn : Nat) (hm0 : 0 ≤ m) (hm1 : m ≤ 255) (h1 : ¬ (31 < m ∧ m ≤ 40)) (h2 : ¬ (m ≤ 31 ∧ 23 ≤ m)) (h3 : m ≠ 48) (h4 : m ≠ 64) :
    Calls Try.prog 42 #[.pointer (some ⟨R, 0, none⟩), .int .u8 m, .int .i64 opn] w (ValOf B w R vb b deep opn (.error 4)) := by
  have t3 : (m == 48) = false := by simpa using h3
  have t4 : (m == 64) = false := by simpa using h4
  clear h3 h4
  by_cases h5 : m < 23
  · clear h1 h2
    go_enter Try.func42, Try.ntmps42
    go_wp2_with fail
    exact ⟨rfl, growAlloc (grownRefl w _) _, rfl⟩
  · have h6 : 40 < m := by omega
    clear h1 h2 h5
    go_enter Try.func42, Try.ntmps42
    go_wp2_with fail
    exact ⟨rfl, growAlloc (grownRefl w _) _, rfl⟩

end Go.Proofs.Ytjhjcigappkebaa
