/-
  Walks: the examples of the document (sane).
-/
import Derived.Test.YtjhjcigappkebaaSb
import Derived.Lib.SlBytesConst
namespace Go.Proofs.Ytjhjcigappkebaa
open Go.RowKit

def tI (n : Int) : T := .mk 1 n [] []
def tB (s : ByteArray) : T := .mk 2 0 (strB s) []
def tL (l : List T) : T := .mk 3 0 [] l


set_option maxHeartbeats 400000 in
theorem mkIntX (n : Int) (w : World) : Calls Try.prog 29 #[.int .i64 n] w fun e w' => e = .returned (.agg #[.int .i64 1, .int .i64 n, .slice none 0 0, .slice none 0 0]) ∧ w' = w.alloc (.cells #[.int .i64 1, .int .i64 n, .slice none 0 0, .slice none 0 0] 25) := by
  go_enter Try.func29, Try.ntmps29
  go_wp2
  refine bodyPost_ret (v := .agg #[.int .i64 1, .int .i64 n, .slice none 0 0, .slice none 0 0]) (by simp [results, Try.results29, go_sem]) rfl ?_
  exact ⟨rfl, rfl⟩

set_option maxHeartbeats 400000 in
theorem mkListX (a : Option Addr) (n c : Nat) (w : World) : Calls Try.prog 27 #[.slice a n c] w fun e w' => e = .returned (.agg #[.int .i64 3, .int .i64 0, .slice none 0 0, .slice a n c]) ∧ w' = w.alloc (.cells #[.int .i64 3, .int .i64 0, .slice none 0 0, .slice a n c] 25) := by
  go_enter Try.func27, Try.ntmps27
  go_wp2
  refine bodyPost_ret (v := .agg #[.int .i64 3, .int .i64 0, .slice none 0 0, .slice a n c]) (by simp [results, Try.results27, go_sem]) rfl ?_
  exact ⟨rfl, rfl⟩

/-- A struct of four cells lies in block g. -/
def Box (w : World) (g : Nat) (x0 x1 x2 x3 : Value) : Prop :=
  w.cell? ⟨g, 0, none⟩ = some x0 ∧ w.cell? ⟨g, 1, none⟩ = some x1 ∧ w.cell? ⟨g, 2, none⟩ = some x2 ∧ w.cell? ⟨g, 3, none⟩ = some x3

theorem Box.below {B : Nat} {w w' : World} {g : Nat} {x0 x1 x2 x3 : Value} (h : Box w g x0 x1 x2 x3) (hg : g < B) (hb : Below B w w') : Box w' g x0 x1 x2 x3 :=
  ⟨(hb.cell (p := ⟨g, 0, none⟩) hg).trans h.1, (hb.cell (p := ⟨g, 1, none⟩) hg).trans h.2.1, (hb.cell (p := ⟨g, 2, none⟩) hg).trans h.2.2.1, (hb.cell (p := ⟨g, 3, none⟩) hg).trans h.2.2.2⟩

theorem Box.new (w : World) (x0 x1 x2 x3 : Value) : Box (w.alloc (.cells #[x0, x1, x2, x3] 25)) w.heap.size x0 x1 x2 x3 := by
  refine ⟨?_, ?_, ?_, ?_⟩ <;> simp

theorem Box.drew {w : World} {g : Nat} {x0 x1 x2 x3 : Value} (h : Box w g x0 x1 x2 x3) : Box w.drew g x0 x1 x2 x3 := h

theorem cellAlloc {w : World} {a : Addr} {v : Value} (o : Obj) (h : w.cell? a = some v) : (w.alloc o).cell? a = some v := (World.cell?_alloc_some w a o (by rw [h]; rfl)).trans h
theorem cellDrew {w : World} {a : Addr} {v : Value} (h : w.cell? a = some v) : w.drew.cell? a = some v := h

theorem heapNew {w : World} {k : Nat} {o : Obj} (h : k = w.heap.size) : (w.alloc o).heap[k]? = some o := by rw [h]; exact heap_alloc_new w o
theorem heapOld {w : World} {k : Nat} {o o' : Obj} (h : w.heap[k]? = some o) : (w.alloc o').heap[k]? = some o := by
  rw [Below.heap_alloc _ _ _ ?_]
  · exact h
  · rcases Nat.lt_or_ge k w.heap.size with h' | h'
    · exact h'
    · rw [Array.getElem?_eq_none h'] at h; cases h
theorem heapDrew {w : World} {k : Nat} {o : Obj} (h : w.heap[k]? = some o) : w.drew.heap[k]? = some o := h

theorem keepCell {w w' : World} {a : Addr} {v : Value} (hb : Below w.heap.size w w') (h : w.cell? a = some v) : w'.cell? a = some v := by
  have hl : a.block < w.heap.size := by
    rcases Nat.lt_or_ge a.block w.heap.size with h' | h'
    · exact h'
    · unfold World.cell? at h
      rw [Array.getElem?_eq_none h'] at h
      simp at h
  exact (hb.cell hl).trans h

theorem nextB {a w w' : World} (h : Below a.heap.size a w) (hb : Below w.heap.size w w') : Below a.heap.size a w' := h.trans (hb.mono h.size)

/-- Block g holds the struct of the tree t, at the slices' addresses given. -/
def Held (w : World) (g : Nat) (t : T) (a2 : Option Addr) (c2 : Nat) (a3 : Option Addr) (c3 : Nat) : Prop :=
  g < w.heap.size ∧ Box w g (.int .i64 t.kind) (.int .i64 t.num) (.slice a2 t.bs.length c2) (.slice a3 t.els.length c3) ∧ Rd (fun k => k < w.heap.size) w t (.agg #[.int .i64 t.kind, .int .i64 t.num, .slice a2 t.bs.length c2, .slice a3 t.els.length c3])

theorem Held.below {w w' : World} {g : Nat} {t : T} {a2 : Option Addr} {c2 : Nat} {a3 : Option Addr} {c3 : Nat} (h : Held w g t a2 c2 a3 c3) (hb : Below w.heap.size w w') : Held w' g t a2 c2 a3 c3 :=
  ⟨Nat.lt_of_lt_of_le h.1 hb.size, h.2.1.below h.1 hb, Rd.kept (fun k hk => hb.block k hk) (fun _ hk => Nat.lt_of_lt_of_le hk hb.size) t _ h.2.2⟩

theorem heldList {W W' : World} {A L Bk : Nat} {x2 : Option Addr} {y2 : Nat} {x3 : Option Addr} {y3 : Nat} {s : ByteArray} {m1 m2 : Nat × Nat}
    (hA : Held W A (tB s) x2 y2 x3 y3) (hb : Below W.heap.size W W')
    (hL : W'.heap[L]? = some (.cells #[.int .i64 3, .int .i64 0, .slice none 0 0, .slice (some ⟨Bk, 0, none⟩) 3 3] 25 m1))
    (hB : W'.heap[Bk]? = some (.cells #[.int .i64 1, .int .i64 1, .slice none 0 0, .slice none 0 0, .int .i64 2, .int .i64 0, .slice x2 (strB s).length y2, .slice x3 0 y3, .int .i64 3, .int .i64 0, .slice none 0 0, .slice none 0 0] 25 m2)) :
    Held W' L (tL [tI 1, tB s, tL []]) none 0 (some ⟨Bk, 0, none⟩) 3 := by
  have ltL : L < W'.heap.size := by
    rcases Nat.lt_or_ge L W'.heap.size with h | h
    · exact h
    · rw [Array.getElem?_eq_none h] at hL; cases hL
  have ltB : Bk < W'.heap.size := by
    rcases Nat.lt_or_ge Bk W'.heap.size with h | h
    · exact h
    · rw [Array.getElem?_eq_none h] at hB; cases hB
  refine ⟨ltL, ⟨by simp [World.cell?, hL, tL, T.kind], by simp [World.cell?, hL, tL, T.num], by simp [World.cell?, hL, tL, T.bs], by simp [World.cell?, hL, tL, T.els]⟩, ?_⟩
  have ha := (hA.below hb).2.2
  unfold tL Rd
  refine ⟨.slice none 0 0, some ⟨Bk, 0, none⟩, 3, rfl, by unfold I64; omega, by unfold I64; omega, Bs.nil _ _, by simp, by simp, fun _ => ⟨Bk, 0, rfl, ltB, ?_⟩⟩
  unfold RdL
  refine ⟨⟨.int .i64 1, .int .i64 1, .slice none 0 0, .slice none 0 0, by simp [World.cell?, hB], by simp [World.cell?, hB], by simp [World.cell?, hB], by simp [World.cell?, hB], Rd.int 1 (by unfold I64; omega)⟩, ?_⟩
  unfold RdL
  refine ⟨⟨.int .i64 2, .int .i64 0, .slice x2 (strB s).length y2, .slice x3 0 y3, by simp [World.cell?, hB], by simp [World.cell?, hB], by simp [World.cell?, hB], by simp [World.cell?, hB], ha⟩, ?_⟩
  unfold RdL
  refine ⟨⟨.int .i64 3, .int .i64 0, .slice none 0 0, .slice none 0 0, by simp [World.cell?, hB], by simp [World.cell?, hB], by simp [World.cell?, hB], by simp [World.cell?, hB], ?_⟩, by unfold RdL; trivial⟩
  unfold Rd
  exact ⟨.slice none 0 0, none, 0, rfl, by unfold I64; omega, by unfold I64; omega, Bs.nil _ _, by simp, by simp, by simp⟩

def tX : T := .mk 1 0 [120] []

theorem heldBad' (W' : World) (D E : Nat) (m1 m2 : Nat × Nat)
    (hD : W'.heap[D]? = some (.cells #[.int .i64 1, .int .i64 0, .slice (some ⟨E, 0, none⟩) 1 1, .slice none 0 0] 25 m1))
    (hE : W'.heap[E]? = some (.cells #[.int .u8 120] 5 m2)) : Held W' D tX (some ⟨E, 0, none⟩) 1 none 0 := by
  have ltD : D < W'.heap.size := by
    rcases Nat.lt_or_ge D W'.heap.size with h | h
    · exact h
    · rw [Array.getElem?_eq_none h] at hD; cases hD
  have ltE : E < W'.heap.size := by
    rcases Nat.lt_or_ge E W'.heap.size with h | h
    · exact h
    · rw [Array.getElem?_eq_none h] at hE; cases hE
  refine ⟨ltD, ⟨by simp [World.cell?, hD, tX, T.kind], by simp [World.cell?, hD, tX, T.num], by simp [World.cell?, hD, tX, T.bs], by simp [World.cell?, hD, tX, T.els]⟩, ?_⟩
  unfold tX Rd
  refine ⟨.slice (some ⟨E, 0, none⟩) 1 1, none, 0, rfl, by unfold I64; omega, by unfold I64; omega, ⟨by simp, by simp, _, 1, rfl, by simp, fun _ => ⟨E, 0, rfl, ltE, ?_⟩⟩, by simp, by simp, by simp⟩
  intro j u hj
  match j, hj with
  | 0, hj => simp at hj; subst hj; simp [World.cell?, hE]

theorem heldBad (W : World) : Held ((W.alloc (.cells #[.int .u8 120] 5 (1, 2))).alloc (.cells #[.int .i64 1, .int .i64 0, .slice (some ⟨W.heap.size, 0, none⟩) 1 1, .slice none 0 0] 25)) (W.heap.size + 1) tX (some ⟨W.heap.size, 0, none⟩) 1 none 0 :=
  heldBad' _ _ _ (0, 0) (1, 2) (heapNew (by simp)) (heapOld (heapNew rfl))

theorem checkX (t : T) (c : Int) (w : World) (g : Nat) (a2 : Option Addr) (c2 : Nat) (a3 : Option Addr) (c3 : Nat) (h : Held w g t a2 c2 a3 c3) (hsz : (enc t).length ≤ 1152921504606846976) (hc : chk t = c) :
    Calls Try.prog 16 #[.agg #[.int .i64 t.kind, .int .i64 t.num, .slice a2 t.bs.length c2, .slice a3 t.els.length c3]] w fun e w' => e = .returned (.int .i64 c) ∧ Below w.heap.size w w' := by
  subst hc
  exact check_any _ t w _ (fun _ h => h) h.2.2 hsz

theorem compareX (F G : Nat → Prop) (t u : T) (c : Int) (w : World) (v v' : Value) (hF : ∀ k, F k → k < w.heap.size) (hG : ∀ k, G k → k < w.heap.size) (h : Rd F w t v) (h' : Rd G w u v') (hc : cmpT t u = c) :
    Calls Try.prog 19 #[v, v'] w fun e w' => e = .returned (.int .i64 c) ∧ Below w.heap.size w w' := by
  subst hc
  exact compare_any F G (dep t + 1) t (Nat.lt_succ_self _) u w v v' hF hG h h'

set_option maxRecDepth 100000 in
set_option maxHeartbeats 2000000 in
theorem sane_true (w : World) : Calls Try.prog 13 #[] w fun e w' => e = .returned (.bool true) ∧ Below w.heap.size w w' := by
  have kc := fun (w : World) (C : Array Value) (n c : Nat) => Lib.run_convert_bytes_const (P := Try.prog) w 22 5 C n c Try.underlying22 Try.underlying5
  go_enter Try.func13, Try.ntmps13
  go_wp2_with fail
  refine (mkText_any ⟨#[97]⟩ w (by decide)).mono ?_
  rintro e w1 ⟨v, rfl, hr, hb⟩
  obtain ⟨x2, y2, x3, y3, rfl⟩ := rdForm4 hr
  simp only [T.kind, T.num, T.bs, T.els] at hr ⊢
  have Hr1 := Lib.hid hr; have Hb1 := Lib.hid hb; clear hr hb
  go_wp2_with fail
  refine (mkText_any ⟨#[97, 0]⟩ _ (by decide)).mono ?_
  rintro e w2 ⟨v, rfl, hr, hb⟩
  obtain ⟨u2, z2, u3, z3, rfl⟩ := rdForm4 hr
  simp only [T.kind, T.num, T.bs, T.els] at hr ⊢
  have Hr2 := Lib.hid hr; have Hb2 := Lib.hid hb; clear hr hb
  go_wp2_with fail
  have hA1 : Held (w1.alloc (.cells #[.int .i64 2, .int .i64 0, .slice x2 (strB ⟨#[97]⟩).length y2, .slice x3 0 y3] 25)) w1.heap.size (tB ⟨#[97]⟩) x2 y2 x3 y3 :=
    ⟨by simp, Box.new w1 _ _ _ _, Rd.kept (fun k hk => by rw [Below.heap_alloc _ _ _ (by have := hk.2; omega)]) (fun k hk => by have := hk.2; simp; omega) _ _ Hr1.out⟩
  have hZ1 : Held (w2.alloc (.cells #[.int .i64 2, .int .i64 0, .slice u2 (strB ⟨#[97, 0]⟩).length z2, .slice u3 0 z3] 25)) w2.heap.size (tB ⟨#[97, 0]⟩) u2 z2 u3 z3 :=
    ⟨by simp, Box.new w2 _ _ _ _, Rd.kept (fun k hk => by rw [Below.heap_alloc _ _ _ (by have := hk.2; omega)]) (fun k hk => by have := hk.2; simp; omega) _ _ Hr2.out⟩
  have hA2 := (hA1.below Hb2.out).below (ball (Below.refl _ _) (.cells #[.int .i64 2, .int .i64 0, .slice u2 (strB ⟨#[97, 0]⟩).length z2, .slice u3 0 z3] 25))
  have hB3 := ball (nextB (ball Hb1.out _) Hb2.out) (.cells #[.int .i64 2, .int .i64 0, .slice u2 (strB ⟨#[97, 0]⟩).length z2, .slice u3 0 z3] 25)
  generalize w2.alloc (.cells #[.int .i64 2, .int .i64 0, .slice u2 (strB ⟨#[97, 0]⟩).length z2, .slice u3 0 z3] 25) = W3 at hA2 hZ1 hB3 ⊢
  clear hA1 Hr1 Hr2 Hb1 Hb2
  generalize w2.heap.size = Z at *
  generalize w1.heap.size = A at *
  clear w1 w2
  have HA := Lib.hid hA2; have HZ := Lib.hid hZ1; have HB3 := Lib.hid hB3
  clear hA2 hZ1 hB3
  refine Code.wp_mono (Q := fun e a w' => e = .normal ∧ ∃ (L Bk : Nat) (v5 v6 v7 v8 v9 v11 : Value), a = { tmps := #[.bool false, .pointer (some ⟨A, 0, none⟩), .pointer (some ⟨Z, 0, none⟩), .pointer (some ⟨L, 0, none⟩), undef, v5, v6, v7, v8, v9, .slice (some ⟨Bk, 0, none⟩) 3 3, v11, undef, undef, undef, undef, undef, undef, undef, undef, undef, undef, undef, undef, undef, undef, undef, undef, undef, undef, undef, undef, undef, undef, undef, undef, undef, undef, undef, undef, undef, undef, undef, undef, undef, undef, undef, undef, undef, undef, undef, undef, undef, undef, undef, undef, undef, undef, undef, undef, undef, undef, undef, undef, undef, undef, undef, undef, undef, undef, undef, undef, undef, undef, undef, undef, undef, undef, undef, undef, undef, undef, undef, undef, undef, undef, undef, undef, undef, undef, undef, undef, undef, undef, undef, undef, undef, undef, undef, undef, undef, undef, undef, undef, undef, undef, undef, undef, undef, undef, undef, undef, undef, undef, undef, undef, undef, undef, undef, undef, undef, undef, undef, undef, undef, undef, undef, undef, undef, undef, undef, undef, undef], defers := [] } ∧ Held w' L (tL [tI 1, tB ⟨#[97]⟩, tL []]) none 0 (some ⟨Bk, 0, none⟩) 3 ∧ Below W3.heap.size W3 w') ?_ ?_
  rotate_left
  · obtain ⟨a0, a1, a2, a3⟩ := HA.out.2.1
    have e0 : W3.heap.size ≠ A := World.new_ne W3 _ a0
    simp only [tB, T.kind, T.num, T.bs, T.els, List.length_nil] at a0 a1 a2 a3
    go_region_held3 (fun w' => w'.cell? ⟨A, 0, none⟩ = some (.int .i64 2) ∧ w'.cell? ⟨A, 1, none⟩ = some (.int .i64 0) ∧ w'.cell? ⟨A, 2, none⟩ = some (.slice x2 (strB ⟨#[97]⟩).length y2) ∧ w'.cell? ⟨A, 3, none⟩ = some (.slice x3 0 y3)) (first | (go_keep; done) | (refine ⟨?_, ?_, ?_, ?_⟩ <;> (repeat (first | assumption | with_reducible apply cellDrew | with_reducible apply cellAlloc))))
      (first
        | (go_at_call 29; refine (mkIntX 1 _).mono ?_; rintro e w3 ⟨rfl, rfl⟩)
        | (go_at_call 27; refine (mkListX _ _ _ _).mono ?_; rintro e w3 ⟨rfl, rfl⟩))
    all_goals clear a0 a1 a2 a3 e0 kc
    all_goals refine ⟨rfl, _, _, _, _, _, _, _, _, rfl, ?_⟩
    all_goals rename_i hHeld
    all_goals clear hHeld
    all_goals refine (fun hb => ⟨heldList (m1 := (0, 0)) (m2 := (0, 0)) HA.out hb ?_ ?_, hb⟩) ?_
    all_goals first
      | ((repeat (first | exact Below.refl _ _ | apply Below.drew | apply ball)); done)
      | (repeat (first | (with_reducible refine heapNew ?_; simp; done) | with_reducible apply heapDrew | with_reducible apply heapOld))
  rintro e a W4 ⟨rfl, L, Bk, v5, v6, v7, v8, v9, v11, rfl, hL, hb⟩
  have HA4 := Lib.hid (HA.out.below hb); have HZ4 := Lib.hid (HZ.out.below hb); have HL4 := Lib.hid hL; have HB4 := Lib.hid (nextB HB3.out hb)
  clear hL hb HA HZ HB3
  clear W3
  go_wp2_with fail
  have hD := heldBad W4
  have hb5 : Below W4.heap.size W4 ((W4.alloc (.cells #[.int .u8 120] 5 (1, 2))).alloc (.cells #[.int .i64 1, .int .i64 0, .slice (some ⟨W4.heap.size, 0, none⟩) 1 1, .slice none 0 0] 25)) := ball (ball (Below.refl _ _) _) _
  have hA5 := HA4.out.below hb5; have hZ5 := HZ4.out.below hb5; have hL5 := HL4.out.below hb5; have hw5 := nextB HB4.out hb5
  clear HA4 HZ4 HL4 HB4 hb5 kc
  generalize ((W4.alloc (.cells #[.int .u8 120] 5 (1, 2))).alloc (.cells #[.int .i64 1, .int .i64 0, .slice (some ⟨W4.heap.size, 0, none⟩) 1 1, .slice none 0 0] 25)) = W5 at *
  generalize W4.heap.size + 1 = D at *
  generalize W4.heap.size = E at *
  clear W4
  have HA := Lib.hid hA5; have HZ := Lib.hid hZ5; have HL := Lib.hid hL5; have HD := Lib.hid hD; have HW := Lib.hid hw5; have HB := Lib.hid (Below.refl W5.heap.size W5)
  clear hA5 hZ5 hL5 hD hw5
  refine (mkIntX 0 _).mono ?_
  rintro e _ ⟨rfl, rfl⟩
  go_wp2_with fail
  refine (encodes_true (fun _ => False) (tI 0) ⟨#[32]⟩ _ _ (fun _ h => h.elim) (Rd.int _ (by unfold I64; omega)) (by decide) (by decide) rfl rfl rfl).mono ?_
  rintro e w2 ⟨rfl, hb⟩
  have HB' := Lib.hid (nextB (by repeat (first | exact HB.out | apply Below.drew | apply ball)) hb)
  clear HB hb; have HB := HB'; clear HB'
  go_wp2_with fail
  refine (mkIntX 1 _).mono ?_
  rintro e _ ⟨rfl, rfl⟩
  go_wp2_with fail
  refine (encodes_true (fun _ => False) (tI 1) ⟨#[33, 1]⟩ _ _ (fun _ h => h.elim) (Rd.int _ (by unfold I64; omega)) (by decide) (by decide) rfl rfl rfl).mono ?_
  rintro e w4 ⟨rfl, hb⟩
  have HB' := Lib.hid (nextB (by repeat (first | exact HB.out | apply Below.drew | apply ball)) hb)
  clear HB hb; have HB := HB'; clear HB'
  go_wp2_with fail
  refine (mkIntX 255 _).mono ?_
  rintro e _ ⟨rfl, rfl⟩
  go_wp2_with fail
  refine (encodes_true (fun _ => False) (tI 255) ⟨#[33, 255]⟩ _ _ (fun _ h => h.elim) (Rd.int _ (by unfold I64; omega)) (by decide) (by decide) rfl rfl rfl).mono ?_
  rintro e w6 ⟨rfl, hb⟩
  have HB' := Lib.hid (nextB (by repeat (first | exact HB.out | apply Below.drew | apply ball)) hb)
  clear HB hb; have HB := HB'; clear HB'
  go_wp2_with fail
  refine (mkIntX 256 _).mono ?_
  rintro e _ ⟨rfl, rfl⟩
  go_wp2_with fail
  refine (encodes_true (fun _ => False) (tI 256) ⟨#[34, 1, 0]⟩ _ _ (fun _ h => h.elim) (Rd.int _ (by unfold I64; omega)) (by decide) (by decide) rfl rfl rfl).mono ?_
  rintro e w8 ⟨rfl, hb⟩
  have HB' := Lib.hid (nextB (by repeat (first | exact HB.out | apply Below.drew | apply ball)) hb)
  clear HB hb; have HB := HB'; clear HB'
  go_wp2_with fail
  refine (mkIntX (-1) _).mono ?_
  rintro e _ ⟨rfl, rfl⟩
  go_wp2_with fail
  refine (encodes_true (fun _ => False) (tI (-1)) ⟨#[31]⟩ _ _ (fun _ h => h.elim) (Rd.int _ (by unfold I64; omega)) (by decide) (by decide) rfl rfl rfl).mono ?_
  rintro e w10 ⟨rfl, hb⟩
  have HB' := Lib.hid (nextB (by repeat (first | exact HB.out | apply Below.drew | apply ball)) hb)
  clear HB hb; have HB := HB'; clear HB'
  go_wp2_with fail
  refine (mkIntX (-2) _).mono ?_
  rintro e _ ⟨rfl, rfl⟩
  go_wp2_with fail
  refine (encodes_true (fun _ => False) (tI (-2)) ⟨#[30, 254]⟩ _ _ (fun _ h => h.elim) (Rd.int _ (by unfold I64; omega)) (by decide) (by decide) rfl rfl rfl).mono ?_
  rintro e w12 ⟨rfl, hb⟩
  have HB' := Lib.hid (nextB (by repeat (first | exact HB.out | apply Below.drew | apply ball)) hb)
  clear HB hb; have HB := HB'; clear HB'
  go_wp2_with fail
  refine (mkIntX (-256) _).mono ?_
  rintro e _ ⟨rfl, rfl⟩
  go_wp2_with fail
  refine (encodes_true (fun _ => False) (tI (-256)) ⟨#[30, 0]⟩ _ _ (fun _ h => h.elim) (Rd.int _ (by unfold I64; omega)) (by decide) (by decide) rfl rfl rfl).mono ?_
  rintro e w14 ⟨rfl, hb⟩
  have HB' := Lib.hid (nextB (by repeat (first | exact HB.out | apply Below.drew | apply ball)) hb)
  clear HB hb; have HB := HB'; clear HB'
  go_wp2_with fail
  refine (mkIntX (-257) _).mono ?_
  rintro e _ ⟨rfl, rfl⟩
  go_wp2_with fail
  refine (encodes_true (fun _ => False) (tI (-257)) ⟨#[29, 254, 255]⟩ _ _ (fun _ h => h.elim) (Rd.int _ (by unfold I64; omega)) (by decide) (by decide) rfl rfl rfl).mono ?_
  rintro e w16 ⟨rfl, hb⟩
  have HB' := Lib.hid (nextB (by repeat (first | exact HB.out | apply Below.drew | apply ball)) hb)
  clear HB hb; have HB := HB'; clear HB'
  go_wp2_with fail
  refine (mkText_any ⟨#[]⟩ _ (by decide)).mono ?_
  rintro e w17 ⟨vt, rfl, hrvt, hb⟩
  have Hrvt := Lib.hid hrvt; clear hrvt
  have HB' := Lib.hid (nextB (by repeat (first | exact HB.out | apply Below.drew | apply ball)) hb)
  clear HB hb; have HB := HB'; clear HB'
  go_wp2_with fail
  refine (encodes_true _ (tB ⟨#[]⟩) ⟨#[48, 0, 0]⟩ _ _ (fun k hk => hk.2) Hrvt.out (by decide) (by decide) rfl rfl rfl).mono ?_
  rintro e w18 ⟨rfl, hb⟩
  have HB' := Lib.hid (nextB (by repeat (first | exact HB.out | apply Below.drew | apply ball)) hb)
  clear HB hb; have HB := HB'; clear HB'
  have hx := HZ.out.below HB.out; obtain ⟨HZ0, HZ1, HZ2, HZ3⟩ := hx.2.1; clear hx
  simp only [tB, T.kind, T.num, T.bs, T.els, List.length_nil, List.length_cons] at HZ0 HZ1 HZ2 HZ3
  go_wp2_with fail
  refine (encodes_true _ (tB ⟨#[97, 0]⟩) ⟨#[48, 97, 0, 255, 0, 0]⟩ _ _ (fun k hk => hk) (HZ.out.below HB.out).2.2 (by decide) (by decide) rfl rfl rfl).mono ?_
  rintro e w19 ⟨rfl, hb⟩
  have HB' := Lib.hid (nextB (by repeat (first | exact HB.out | apply Below.drew | apply ball)) hb)
  clear HB hb; have HB := HB'; clear HB'
  clear HZ0 HZ1 HZ2 HZ3
  go_wp2_with fail
  refine (mkListX _ _ _ _).mono ?_
  rintro e _ ⟨rfl, rfl⟩
  have HL0 := Lib.hid (HL.out.below HB.out)
  go_wp2_with fail
  refine (encodes_true (fun _ => False) (tL []) ⟨#[64, 0]⟩ _ _ (fun _ h => h.elim) (by unfold tL Rd; exact ⟨.slice none 0 0, none, 0, rfl, by unfold I64; omega, by unfold I64; omega, Bs.nil _ _, by simp, by simp, by simp⟩) (by decide) (by decide) rfl rfl rfl).mono ?_
  rintro e w20 ⟨rfl, hb⟩
  have HB' := Lib.hid (nextB (by repeat (first | exact HB.out | apply Below.drew | apply ball)) hb)
  clear HB hb; have HB := HB'; clear HB'
  clear HL0
  have hx := HL.out.below HB.out; obtain ⟨HL0, HL1, HL2, HL3⟩ := hx.2.1; clear hx
  simp only [tL, T.kind, T.num, T.bs, T.els, List.length_nil, List.length_cons] at HL0 HL1 HL2 HL3
  go_wp2_with fail
  refine (encodes_true _ (tL [tI 1, tB ⟨#[97]⟩, tL []]) ⟨#[64, 33, 1, 48, 97, 0, 0, 64, 0, 0]⟩ _ _ (fun k hk => hk) (HL.out.below HB.out).2.2 (by decide) (by decide) rfl rfl rfl).mono ?_
  rintro e w21 ⟨rfl, hb⟩
  have HB' := Lib.hid (nextB (by repeat (first | exact HB.out | apply Below.drew | apply ball)) hb)
  clear HB hb; have HB := HB'; clear HB'
  clear HL0 HL1 HL2 HL3
  go_wp2_with fail
  refine (fails_true ⟨#[]⟩ 5 _ (by decide) rfl).mono ?_
  rintro e w22 ⟨rfl, hb⟩
  have HB' := Lib.hid (nextB (by repeat (first | exact HB.out | apply Below.drew | apply ball)) hb)
  clear HB hb; have HB := HB'; clear HB'
  go_wp2_with fail
  refine (fails_true ⟨#[34, 1]⟩ 5 _ (by decide) rfl).mono ?_
  rintro e w23 ⟨rfl, hb⟩
  have HB' := Lib.hid (nextB (by repeat (first | exact HB.out | apply Below.drew | apply ball)) hb)
  clear HB hb; have HB := HB'; clear HB'
  go_wp2_with fail
  refine (fails_true ⟨#[48, 97, 0]⟩ 5 _ (by decide) rfl).mono ?_
  rintro e w24 ⟨rfl, hb⟩
  have HB' := Lib.hid (nextB (by repeat (first | exact HB.out | apply Below.drew | apply ball)) hb)
  clear HB hb; have HB := HB'; clear HB'
  go_wp2_with fail
  refine (fails_true ⟨#[64, 32]⟩ 5 _ (by decide) rfl).mono ?_
  rintro e w25 ⟨rfl, hb⟩
  have HB' := Lib.hid (nextB (by repeat (first | exact HB.out | apply Below.drew | apply ball)) hb)
  clear HB hb; have HB := HB'; clear HB'
  go_wp2_with fail
  refine (fails_true ⟨#[33, 0]⟩ 4 _ (by decide) rfl).mono ?_
  rintro e w26 ⟨rfl, hb⟩
  have HB' := Lib.hid (nextB (by repeat (first | exact HB.out | apply Below.drew | apply ball)) hb)
  clear HB hb; have HB := HB'; clear HB'
  go_wp2_with fail
  refine (fails_true ⟨#[32, 32]⟩ 4 _ (by decide) rfl).mono ?_
  rintro e w27 ⟨rfl, hb⟩
  have HB' := Lib.hid (nextB (by repeat (first | exact HB.out | apply Below.drew | apply ball)) hb)
  clear HB hb; have HB := HB'; clear HB'
  go_wp2_with fail
  refine (fails_true ⟨#[48, 0, 1]⟩ 4 _ (by decide) rfl).mono ?_
  rintro e w28 ⟨rfl, hb⟩
  have HB' := Lib.hid (nextB (by repeat (first | exact HB.out | apply Below.drew | apply ball)) hb)
  clear HB hb; have HB := HB'; clear HB'
  go_wp2_with fail
  refine (fails_true ⟨#[65]⟩ 4 _ (by decide) rfl).mono ?_
  rintro e w29 ⟨rfl, hb⟩
  have HB' := Lib.hid (nextB (by repeat (first | exact HB.out | apply Below.drew | apply ball)) hb)
  clear HB hb; have HB := HB'; clear HB'
  go_wp2_with fail
  refine (fails_true ⟨#[40, 128]⟩ 4 _ (by decide) rfl).mono ?_
  rintro e w30 ⟨rfl, hb⟩
  have HB' := Lib.hid (nextB (by repeat (first | exact HB.out | apply Below.drew | apply ball)) hb)
  clear HB hb; have HB := HB'; clear HB'
  have hx := HD.out.below HB.out; obtain ⟨HD0, HD1, HD2, HD3⟩ := hx.2.1; clear hx
  simp only [tX, T.kind, T.num, T.bs, T.els, List.length_nil, List.length_cons] at HD0 HD1 HD2 HD3
  go_wp2_with fail
  refine (checkX tX 10 _ D _ _ _ _ (HD.out.below HB.out) (by decide) rfl).mono ?_
  rintro e wc1 ⟨rfl, hb⟩
  have HB' := Lib.hid (nextB (by repeat (first | exact HB.out | apply Below.drew | apply ball)) hb)
  clear HB hb; have HB := HB'; clear HB'
  clear HD0 HD1 HD2 HD3
  have hx := HL.out.below HB.out; obtain ⟨HL0, HL1, HL2, HL3⟩ := hx.2.1; clear hx
  simp only [tL, T.kind, T.num, T.bs, T.els, List.length_nil, List.length_cons] at HL0 HL1 HL2 HL3
  go_wp2_with fail
  refine (checkX (tL [tI 1, tB ⟨#[97]⟩, tL []]) 0 _ L _ _ _ _ (HL.out.below HB.out) (by decide) rfl).mono ?_
  rintro e wc2 ⟨rfl, hb⟩
  have HB' := Lib.hid (nextB (by repeat (first | exact HB.out | apply Below.drew | apply ball)) hb)
  clear HB hb; have HB := HB'; clear HB'
  clear HL0 HL1 HL2 HL3
  go_wp2_with fail
  refine (mkIntX 1 _).mono ?_
  rintro e _ ⟨rfl, rfl⟩
  go_wp2_with fail
  refine (mkIntX 256 _).mono ?_
  rintro e _ ⟨rfl, rfl⟩
  go_wp2_with fail
  refine (compareX (fun _ => False) (fun _ => False) (tI 1) (tI 256) (-1) _ _ _ (fun _ h => h.elim) (fun _ h => h.elim) (Rd.int _ (by unfold I64; omega)) (Rd.int _ (by unfold I64; omega)) rfl).mono ?_
  rintro e wd1 ⟨rfl, hb⟩
  have HB' := Lib.hid (nextB (by repeat (first | exact HB.out | apply Below.drew | apply ball)) hb)
  clear HB hb; have HB := HB'; clear HB'
  go_wp2_with fail
  refine (mkText_any ⟨#[]⟩ _ (by decide)).mono ?_
  rintro e w33 ⟨vu, rfl, hrvu, hb⟩
  have Hrvu := Lib.hid hrvu; clear hrvu
  have HB' := Lib.hid (nextB (by repeat (first | exact HB.out | apply Below.drew | apply ball)) hb)
  clear HB hb; have HB := HB'; clear HB'
  go_wp2_with fail
  refine (mkIntX 256 _).mono ?_
  rintro e _ ⟨rfl, rfl⟩
  go_wp2_with fail
  refine (compareX _ (fun _ => False) (tB ⟨#[]⟩) (tI 256) 1 _ _ _ (fun k hk => by have := hk.2; simp; omega) (fun _ h => h.elim) (Rd.below (B := _) Hrvu.out (fun k hk => hk.2) (ball (Below.refl _ _) _)) (Rd.int _ (by unfold I64; omega)) rfl).mono ?_
  rintro e wd2 ⟨rfl, hb⟩
  have HB' := Lib.hid (nextB (by repeat (first | exact HB.out | apply Below.drew | apply ball)) hb)
  clear HB hb; have HB := HB'; clear HB'
  have hx := HA.out.below HB.out; obtain ⟨HA0, HA1, HA2, HA3⟩ := hx.2.1; clear hx
  simp only [tB, T.kind, T.num, T.bs, T.els, List.length_nil, List.length_cons] at HA0 HA1 HA2 HA3
  have hx := HZ.out.below HB.out; obtain ⟨HZ0, HZ1, HZ2, HZ3⟩ := hx.2.1; clear hx
  simp only [tB, T.kind, T.num, T.bs, T.els, List.length_nil, List.length_cons] at HZ0 HZ1 HZ2 HZ3
  go_wp2_with fail
  refine (compareX _ _ (tB ⟨#[97]⟩) (tB ⟨#[97, 0]⟩) (-1) _ _ _ (fun k hk => hk) (fun k hk => hk) (HA.out.below HB.out).2.2 (HZ.out.below HB.out).2.2 rfl).mono ?_
  rintro e wd3 ⟨rfl, hb⟩
  have HB' := Lib.hid (nextB (by repeat (first | exact HB.out | apply Below.drew | apply ball)) hb)
  clear HB hb; have HB := HB'; clear HB'
  clear HA0 HA1 HA2 HA3
  clear HZ0 HZ1 HZ2 HZ3
  have hx := HA.out.below HB.out; obtain ⟨HA0, HA1, HA2, HA3⟩ := hx.2.1; clear hx
  simp only [tB, T.kind, T.num, T.bs, T.els, List.length_nil, List.length_cons] at HA0 HA1 HA2 HA3
  go_wp2_with fail
  refine (compareX _ _ (tB ⟨#[97]⟩) (tB ⟨#[97]⟩) 0 _ _ _ (fun k hk => hk) (fun k hk => hk) (HA.out.below HB.out).2.2 (HA.out.below HB.out).2.2 rfl).mono ?_
  rintro e wd4 ⟨rfl, hb⟩
  have HB' := Lib.hid (nextB (by repeat (first | exact HB.out | apply Below.drew | apply ball)) hb)
  clear HB hb; have HB := HB'; clear HB'
  clear HA0 HA1 HA2 HA3
  go_wp2_with fail
  go_ret
  exact ⟨rfl, nextB HW.out HB.out⟩

end Go.Proofs.Ytjhjcigappkebaa
