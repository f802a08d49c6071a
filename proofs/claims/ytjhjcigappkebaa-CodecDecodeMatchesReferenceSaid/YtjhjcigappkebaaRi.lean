/-
  Walks: Decode.
-/
import Derived.Test.YtjhjcigappkebaaRh
namespace Go.Proofs.Ytjhjcigappkebaa
open Go.RowKit

def zeroV : Value := .agg #[.int .i64 0, .int .i64 0, .slice none 0 0, .slice none 0 0]

/-- What Decode says of bytes. -/
def DecOf (b : List Int) (w : World) (e : Ending) (w' : World) : Prop :=
  Below w.heap.size w w' ∧ match dec b with
  | .ok t => ∃ v, e = .returned (.tuple #[v, .int .i64 0]) ∧ Rd (fresh w w') w' t v
  | .error c => e = .returned (.tuple #[zeroV, .int .i64 c])

/-- Behind the door: the deferred function catches the reader's panic. -/
theorem door {w w1 : World} {b : List Int} {c y : Int} {x0 x1 x2 x3 : Value} {tmps : Array Value} (h0 : tmps.getD 2 undef = .pointer (some ⟨w.heap.size, 0, none⟩)) (h1 : tmps.getD 3 undef = .pointer (some ⟨w.heap.size + 1, 0, none⟩))
    (hV : w1.heap[w.heap.size]? = some (.cells #[x0, x1, x2, x3] 25 (0, 0))) (hE : w1.heap[w.heap.size + 1]? = some (.cells #[.int .i64 y] 27 (0, 0))) (hb : Below w.heap.size w w1) (hd : dec b = .error c) :
    Leaves Try.prog Try.f21 tmps (DecOf b w) [{ target := .fn (.func 41) #[.pointer (some ⟨w.heap.size, 0, none⟩), .pointer (some ⟨w.heap.size + 1, 0, none⟩)], args := #[] }] (.panicking [{ v := .iface 58 (.agg #[.int .i64 c]), recovered := false }]) w1 := by
  refine leaves_cons (f := 41) (args := #[.pointer (some ⟨w.heap.size, 0, none⟩), .pointer (some ⟨w.heap.size + 1, 0, none⟩)]) (by simp) (by simp [go_sem]) ?_
  refine (catch_panicking w.heap.size (w.heap.size + 1) c y x0 x1 x2 x3 [] w1 hV hE (by omega)).mono ?_
  rintro e u' w2 ⟨rfl, rfl, hV2, hE2, hk, hs⟩
  have hbw : Below w.heap.size w w2 := ⟨hs.os.trans hb.os, hs.tape.trans hb.tape, hs.output.trans hb.output, Nat.le_trans hb.size hs.size, fun k hk' => (hk k (Nat.lt_of_lt_of_le hk' hb.size) (by omega) (by omega)).trans (hb.block k hk')⟩
  have v0 : w2.cell? ⟨w.heap.size, 0, none⟩ = some (.int .i64 0) := by simp [World.cell?, hV2]
  have v1 : w2.cell? ⟨w.heap.size, 1, none⟩ = some (.int .i64 0) := by simp [World.cell?, hV2]
  have v2 : w2.cell? ⟨w.heap.size, 2, none⟩ = some (.slice none 0 0) := by simp [World.cell?, hV2]
  have v3 : w2.cell? ⟨w.heap.size, 3, none⟩ = some (.slice none 0 0) := by simp [World.cell?, hV2]
  have e0 : w2.cell? ⟨w.heap.size + 1, 0, none⟩ = some (.int .i64 c) := by simp [World.cell?, hE2]
  show Leaves Try.prog Try.f21 tmps (DecOf b w) [] .returning w2
  refine ⟨.tuple #[zeroV, .int .i64 c], ?_, hbw, ?_⟩
  · have g0 : tmps[2]?.getD undef = .pointer (some ⟨w.heap.size, 0, none⟩) := by simpa using h0
    have g1 : tmps[3]?.getD undef = .pointer (some ⟨w.heap.size + 1, 0, none⟩) := by simpa using h1
    simp [results, Try.results21, g0, g1, go_sem, v0, v1, v2, v3, e0, zeroV]
  · rw [hd]

theorem alloc2_0 (w : World) (a b : Obj) : ((w.alloc a).alloc b).heap[w.heap.size]? = some a := (Below.heap_alloc _ _ _ (by simp)).trans (heap_alloc_new w a)
theorem alloc2_1 (w : World) (a b : Obj) : ((w.alloc a).alloc b).heap[w.heap.size + 1]? = some b := by
  have := heap_alloc_new (w.alloc a) b
  simpa using this
theorem alloc3_2 (w : World) (a b c : Obj) : (((w.alloc a).alloc b).alloc c).heap[w.heap.size + 1 + 1]? = some c := by
  have := heap_alloc_new ((w.alloc a).alloc b) c
  simpa using this

theorem doorOk {w w1 : World} {b : List Int} {t : T} {x0 x1 x2 x3 : Value} {tmps : Array Value} (h0 : tmps.getD 2 undef = .pointer (some ⟨w.heap.size, 0, none⟩)) (h1 : tmps.getD 3 undef = .pointer (some ⟨w.heap.size + 1, 0, none⟩))
    (hV : w1.heap[w.heap.size]? = some (.cells #[x0, x1, x2, x3] 25 (0, 0))) (hE : w1.heap[w.heap.size + 1]? = some (.cells #[.int .i64 0] 27 (0, 0))) (hb : Below w.heap.size w w1) (hd : dec b = .ok t) (hr : Rd (fresh w w1) w1 t (.agg #[x0, x1, x2, x3])) :
    Leaves Try.prog Try.f21 tmps (DecOf b w) [{ target := .fn (.func 41) #[.pointer (some ⟨w.heap.size, 0, none⟩), .pointer (some ⟨w.heap.size + 1, 0, none⟩)], args := #[] }] .returning w1 := by
  refine leaves_cons (f := 41) (args := #[.pointer (some ⟨w.heap.size, 0, none⟩), .pointer (some ⟨w.heap.size + 1, 0, none⟩)]) (by simp) (by simp [go_sem]) ?_
  refine (catch_idle w.heap.size (w.heap.size + 1) w1).mono ?_
  rintro e u' w2 ⟨rfl, rfl, rfl⟩
  have hVl := (Array.getElem?_eq_some_iff.1 hV).1
  have hEl := (Array.getElem?_eq_some_iff.1 hE).1
  have hg := World.grownBy_alloc w1 (.cells #[.int .i64 0] 58) none
  have hV2 := (hg.block _ hVl (by simp)).trans hV
  have hE2 := (hg.block _ hEl (by simp)).trans hE
  generalize hw2 : w1.alloc (.cells #[.int .i64 0] 58) = w2 at *
  have v0 : w2.cell? ⟨w.heap.size, 0, none⟩ = some x0 := by simp [World.cell?, hV2]
  have v1 : w2.cell? ⟨w.heap.size, 1, none⟩ = some x1 := by simp [World.cell?, hV2]
  have v2 : w2.cell? ⟨w.heap.size, 2, none⟩ = some x2 := by simp [World.cell?, hV2]
  have v3 : w2.cell? ⟨w.heap.size, 3, none⟩ = some x3 := by simp [World.cell?, hV2]
  have e0 : w2.cell? ⟨w.heap.size + 1, 0, none⟩ = some (.int .i64 0) := by simp [World.cell?, hE2]
  show Leaves Try.prog Try.f21 tmps (DecOf b w) [] .returning w2
  have hr2 : Rd (fresh w w2) w2 t (.agg #[x0, x1, x2, x3]) := Rd.kept (fun k hk => hg.block k hk.2 (by simp)) (fun k hk => ⟨hk.1, Nat.lt_of_lt_of_le hk.2 hg.size⟩) t _ hr
  have hb2 : Below w.heap.size w w2 := hb.grown hg hb.size (by simp)
  refine ⟨.tuple #[.agg #[x0, x1, x2, x3], .int .i64 0], ?_, hb2, ?_⟩
  · have g0 : tmps[2]?.getD undef = .pointer (some ⟨w.heap.size, 0, none⟩) := by simpa using h0
    have g1 : tmps[3]?.getD undef = .pointer (some ⟨w.heap.size + 1, 0, none⟩) := by simpa using h1
    simp [results, Try.results21, g0, g1, go_sem, v0, v1, v2, v3, e0]
  · rw [hd]
    exact ⟨_, rfl, hr2⟩

set_option maxHeartbeats 400000 in
theorem decode_long (w : World) (vb : Value) (b : List Int) (h : Bs (fun k => k < w.heap.size) w vb b) (hl : 65536 < b.length) : Calls Try.prog 21 #[vb] w (DecOf b w) := by
  have hmf : ∀ (fn : Fn) (first cap : Array Value) (w : World), (Instr.makeFunc fn first cap).run Try.prog w = .ok (.func fn first cap) w := fun _ _ _ _ => rfl
  obtain ⟨_, _, a, cap, rfl, _, _⟩ := h
  have hd : dec b = .error 2 := by unfold dec; rw [if_pos hl]
  have Hd := Lib.hid hd; clear hd
  go_enter_defers Try.func21, Try.ntmps21
  go_wp2_with fail
  exact door rfl rfl (alloc2_0 _ _ _) (alloc2_1 _ _ _) (ball (ball (Below.refl _ _) _) _) Hd.out

theorem set4_at {w : World} {g : Nat} {y0 y1 y2 y3 : Value} (x0 x1 x2 x3 : Value) {ty : TypeId} (h : w.heap[g]? = some (.cells #[y0, y1, y2, y3] ty (0, 0))) :
    ((((w.setCell ⟨g, 0, none⟩ x0).setCell ⟨g, 1, none⟩ x1).setCell ⟨g, 2, none⟩ x2).setCell ⟨g, 3, none⟩ x3).heap[g]? = some (.cells #[x0, x1, x2, x3] ty (0, 0)) := by
  simp [World.setCell, Array.getElem?_modify, h]

theorem rdForm4 {F : Nat → Prop} {w : World} {t : T} {v : Value} (h : Rd F w t v) : ∃ (a2 : Option Addr) (c2 : Nat) (a3 : Option Addr) (c3 : Nat), v = .agg #[.int .i64 t.kind, .int .i64 t.num, .slice a2 t.bs.length c2, .slice a3 t.els.length c3] := by
  obtain ⟨a2, c2, a3, c3, e, _⟩ := h.form
  exact ⟨a2, c2, a3, c3, e⟩

set_option maxHeartbeats 1000000 in
theorem decode_short (w : World) (vb : Value) (b : List Int) (h : Bs (fun k => k < w.heap.size) w vb b) (hl : b.length ≤ 65536) : Calls Try.prog 21 #[vb] w (DecOf b w) := by
  have hmf : ∀ (fn : Fn) (first cap : Array Value) (w : World), (Instr.makeFunc fn first cap).run Try.prog w = .ok (.func fn first cap) w := fun _ _ _ _ => rfl
  have hrs : ∀ w', w'.heap[w.heap.size + 1 + 1]? = some (.cells #[vb, .int .i64 0, .int .i64 0] 61 (0, 0)) → w.grownBy w' none → Rs w.heap.size w' (w.heap.size + 1 + 1) vb b 0 0 :=
    fun w' hR hg => ⟨hR, h.kept (fun k hk => hg.block k hk (by simp)) (fun _ hk => hk), Nat.zero_le _, by omega⟩
  obtain ⟨_, _, a, cap, rfl, _, _⟩ := h
  have Hrs := Lib.hid hrs; clear hrs
  have hr0 := Hrs.out _ (alloc3_2 w (.cells #[.int .i64 0, .int .i64 0, .slice none 0 0, .slice none 0 0] 25) (.cells #[.int .i64 0] 27) (.cells #[.slice a b.length cap, .int .i64 0, .int .i64 0] 61)) (growAlloc (growAlloc (World.grownBy_alloc w _ none) _) _)
  have Hr0 := Lib.hid hr0; clear hr0 Hrs
  have hbel : ∀ w', ((((w.alloc (.cells #[.int .i64 0, .int .i64 0, .slice none 0 0, .slice none 0 0] 25)).alloc (.cells #[.int .i64 0] 27)).alloc (.cells #[.slice a b.length cap, .int .i64 0, .int .i64 0] 61))).grownBy w' (some (w.heap.size + 1 + 1)) →
      Below w.heap.size w w' ∧ w'.heap[w.heap.size]? = some (.cells #[.int .i64 0, .int .i64 0, .slice none 0 0, .slice none 0 0] 25 (0, 0)) ∧ w'.heap[w.heap.size + 1]? = some (.cells #[.int .i64 0] 27 (0, 0)) := by
    intro w' hg
    refine ⟨(ball (ball (ball (Below.refl _ _) _) _) _).grown hg (by simp; omega) (fun k hk => by simp at hk; omega), ?_, ?_⟩
    · rw [hg.block _ (by simp; omega) (by simp; omega)]
      exact (Below.heap_alloc _ _ _ (by simp; omega)).trans (alloc2_0 _ _ _)
    · rw [hg.block _ (by simp) (by simp)]
      exact (Below.heap_alloc _ _ _ (by simp)).trans (alloc2_1 _ _ _)
  have Hbel := Lib.hid hbel; clear hbel
  cases hd0 : b.drop 0 with
  | nil =>
    have hd : dec b = .error 5 := by
      have : b = [] := hd0
      subst this
      rfl
    have Hd := Lib.hid hd; clear hd
    have Hc := Lib.hid (next_end _ _ _ _ b 0 0 Hr0.out hd0)
    clear hd0
    go_enter_defers Try.func21, Try.ntmps21
    go_wp2_with (go_at_call 43; refine Hc.out.mono ?_; rintro e w1 ⟨rfl, hq⟩; have Hq := Lib.hid hq; clear hq)
    have hb := Hbel.out _ Hq.out
    exact door rfl rfl hb.2.1 hb.2.2 hb.1 Hd.out
  | cons m rest =>
    have hm := range_of_drop Hr0.out hd0
    have hdr := (drop_cons hd0).2.2
    have hbm : b = m :: rest := hd0
    have Hc := Lib.hid (next_ok _ _ _ _ b 0 0 m rest Hr0.out hd0)
    have hfu := (fuel_both (2 * b.length + 2)).1 b (by omega)
    have hbd : pVal (2 * b.length + 2) (m :: b.drop (0 + 1)) = pVal (2 * b.length + 2) b := by rw [hdr, ← hbm]
    have hval : ∀ w', Rs w.heap.size w' (w.heap.size + 1 + 1) (.slice a b.length cap) b 1 0 → Calls Try.prog 42 #[.pointer (some ⟨w.heap.size + 1 + 1, 0, none⟩), .int .u8 m, .int .i64 0] w' (ValOf w.heap.size w' (w.heap.size + 1 + 1) (.slice a b.length cap) b 0 0 (pVal (2 * b.length + 2) b)) := by
      intro w' hr'
      have := value_all w.heap.size (w.heap.size + 1 + 1) (.slice a b.length cap) b hl (2 * b.length + 2) w' 1 0 0 m hr' hm.1 hm.2 (by omega) (by simp) (by rw [hbd]; exact hfu)
      rw [hbd] at this
      exact this
    have Hval := Lib.hid hval
    clear hval hm hdr hd0 hfu hbd hbm
    cases hp : pVal (2 * b.length + 2) b with
    | error c =>
      rw [hp] at Hval
      have hd : dec b = .error c := by unfold dec; rw [if_neg (by omega), hp]
      have Hd := Lib.hid hd; clear hd hp
      go_enter_defers Try.func21, Try.ntmps21
      go_wp2_with (first | (go_at_call 43; refine Hc.out.mono ?_; rintro e w1 ⟨rfl, hr1, hq⟩; have Hr1 := Lib.hid hr1; clear hr1; have Hq := Lib.hid hq; clear hq) | (go_at_call 42; refine (Hval.out _ Hr1.out).mono ?_; rintro e w2 ⟨hq2, rfl⟩; have Hq2 := Lib.hid hq2; clear hq2))
      have hb := Hbel.out _ (grow2 Hq.out Hq2.out (Or.inl rfl))
      exact door rfl rfl hb.2.1 hb.2.2 hb.1 Hd.out
    | ok x =>
      obtain ⟨t, r⟩ := x
      rw [hp] at Hval
      have hd : dec b = (if r = [] then (if 16 < nest t then .error 2 else .ok t) else .error 4) := by unfold dec; rw [if_neg (by omega), hp]
      have Hd := Lib.hid hd; clear hd hp
      go_enter_defers Try.func21, Try.ntmps21
      go_wp2_with (first | (go_at_call 43; refine Hc.out.mono ?_; rintro e w1 ⟨rfl, hr1, hq⟩; have Hr1 := Lib.hid hr1; clear hr1; have Hq := Lib.hid hq; clear hq) | (go_at_call 42; refine (Hval.out _ Hr1.out).mono ?_; rintro e w2 ⟨hq2, v, q, rfl, hrd, hdr, hrs2⟩; obtain ⟨a2, c2, a3, c3, rfl⟩ := rdForm4 hrd; have Hq2 := Lib.hid hq2; clear hq2; have Hrd := Lib.hid hrd; clear hrd; have Hdr := Lib.hid hdr; clear hdr; have Hrs2 := Lib.hid hrs2; clear hrs2; have hb := Hbel.out _ (grow2 Hq.out Hq2.out (Or.inl rfl)); have d0 : w2.cell? ⟨w.heap.size, 0, none⟩ = some (.int .i64 0) := (by simp [World.cell?, hb.2.1]); have d1 : w2.cell? ⟨w.heap.size, 1, none⟩ = some (.int .i64 0) := (by simp [World.cell?, hb.2.1]); have d2 : w2.cell? ⟨w.heap.size, 2, none⟩ = some (.slice none 0 0) := (by simp [World.cell?, hb.2.1]); have d3 : w2.cell? ⟨w.heap.size, 3, none⟩ = some (.slice none 0 0) := (by simp [World.cell?, hb.2.1]); have f0 : w2.frozen? ⟨w.heap.size, 0, none⟩ = false := (by simp [World.frozen?, hb.2.1]); have f1 : w2.frozen? ⟨w.heap.size, 1, none⟩ = false := (by simp [World.frozen?, hb.2.1]); have f2 : w2.frozen? ⟨w.heap.size, 2, none⟩ = false := (by simp [World.frozen?, hb.2.1]); have f3 : w2.frozen? ⟨w.heap.size, 3, none⟩ = false := (by simp [World.frozen?, hb.2.1]); have e0 : w2.cell? ⟨w.heap.size + 1, 0, none⟩ = some (.int .i64 0) := (by simp [World.cell?, hb.2.2]); have fe0 : w2.frozen? ⟨w.heap.size + 1, 0, none⟩ = false := (by simp [World.frozen?, hb.2.2]); have r1 := Hrs2.out.rdr.cells.2.1; have r2 := Hrs2.out.rdr.cells.2.2.1; have Hb := Lib.hid hb; clear hb))
      · have hb := Hb.out
        have hg4 := grownSet4 w2 w.heap.size (.int .i64 t.kind) (.int .i64 t.num) (.slice a2 t.bs.length c2) (.slice a3 t.els.length c3)
        have hq : q < b.length := by assumption
        refine door (c := 4) rfl rfl (set4_at _ _ _ _ hb.2.1) ((hg4.block _ (Array.getElem?_eq_some_iff.1 hb.2.2).1 (by simp)).trans hb.2.2) (hb.1.grown hg4 hb.1.size (fun k hk => by simp at hk; omega)) ?_
        rw [Hd.out, if_neg]
        intro e
        have := Hdr.out
        rw [e, List.drop_eq_nil_iff] at this
        omega
      · have hb := Hb.out
        have hg4 := grownSet4 w2 w.heap.size (.int .i64 t.kind) (.int .i64 t.num) (.slice a2 t.bs.length c2) (.slice a3 t.els.length c3)
        have hq : ¬ q < b.length := by assumption
        have hn : 16 < (nest t : Int) := by assumption
        refine door (c := 2) rfl rfl (set4_at _ _ _ _ hb.2.1) ((hg4.block _ (Array.getElem?_eq_some_iff.1 hb.2.2).1 (by simp)).trans hb.2.2) (hb.1.grown hg4 hb.1.size (fun k hk => by simp at hk; omega)) ?_
        rw [Hd.out, if_pos, if_pos (by omega)]
        rw [← Hdr.out]
        exact List.drop_eq_nil_iff.2 (by omega)
      · have hb := Hb.out
        have hq : ¬ q < b.length := by assumption
        have hn : (nest t : Int) ≤ 16 := by assumption
        have hg4 := grownSet4 w2 w.heap.size (.int .i64 t.kind) (.int .i64 t.num) (.slice a2 t.bs.length c2) (.slice a3 t.els.length c3)
        have hV1 := set4_at (.int .i64 t.kind) (.int .i64 t.num) (.slice a2 t.bs.length c2) (.slice a3 t.els.length c3) hb.2.1
        have hE1 := (hg4.block _ (Array.getElem?_eq_some_iff.1 hb.2.2).1 (by simp)).trans hb.2.2
        have hb1 := hb.1.grown hg4 hb.1.size (fun k hk => by simp at hk; omega)
        have hws := Hq.out.size
        have hws2 := Hq2.out.size
        have hr1 := Rd.kept (F' := fun k => w.heap.size + 1 + 1 < k ∧ k < ((((w2.setCell ⟨w.heap.size, 0, none⟩ (.int .i64 t.kind)).setCell ⟨w.heap.size, 1, none⟩ (.int .i64 t.num)).setCell ⟨w.heap.size, 2, none⟩ (.slice a2 t.bs.length c2)).setCell ⟨w.heap.size, 3, none⟩ (.slice a3 t.els.length c3)).heap.size) (fun k hk => hg4.block k hk.2 (fun e => by simp at e hws; have := hk.1; omega)) (fun k hk => ⟨by simp at hws; have := hk.1; omega, Nat.lt_of_lt_of_le hk.2 hg4.size⟩) t _ Hrd.out
        generalize ((((w2.setCell ⟨w.heap.size, 0, none⟩ (.int .i64 t.kind)).setCell ⟨w.heap.size, 1, none⟩ (.int .i64 t.num)).setCell ⟨w.heap.size, 2, none⟩ (.slice a2 t.bs.length c2)).setCell ⟨w.heap.size, 3, none⟩ (.slice a3 t.els.length c3)) = w3 at *
        clear hg4 d0 d1 d2 d3 f0 f1 f2 f3 e0 fe0 r1 r2
        have hg5 := grownSet4 w3 w.heap.size (.int .i64 t.kind) (.int .i64 t.num) (.slice a2 t.bs.length c2) (.slice a3 t.els.length c3)
        have hV2 := set4_at (.int .i64 t.kind) (.int .i64 t.num) (.slice a2 t.bs.length c2) (.slice a3 t.els.length c3) hV1
        have hE2 := (hg5.block _ (Array.getElem?_eq_some_iff.1 hE1).1 (by simp)).trans hE1
        have hb2 := hb1.grown hg5 hb1.size (fun k hk => by simp at hk; omega)
        have hws3 := hb1.size
        have hr2 := Rd.kept (F' := fun k => w.heap.size + 1 + 1 < k ∧ k < ((((w3.setCell ⟨w.heap.size, 0, none⟩ (.int .i64 t.kind)).setCell ⟨w.heap.size, 1, none⟩ (.int .i64 t.num)).setCell ⟨w.heap.size, 2, none⟩ (.slice a2 t.bs.length c2)).setCell ⟨w.heap.size, 3, none⟩ (.slice a3 t.els.length c3)).heap.size) (F := fun k => w.heap.size + 1 + 1 < k ∧ k < w3.heap.size) (fun k hk => hg5.block k hk.2 (fun e => by simp at e; have := hk.1; omega)) (fun k hk => ⟨hk.1, Nat.lt_of_lt_of_le hk.2 hg5.size⟩) t _ hr1
        generalize ((((w3.setCell ⟨w.heap.size, 0, none⟩ (.int .i64 t.kind)).setCell ⟨w.heap.size, 1, none⟩ (.int .i64 t.num)).setCell ⟨w.heap.size, 2, none⟩ (.slice a2 t.bs.length c2)).setCell ⟨w.heap.size, 3, none⟩ (.slice a3 t.els.length c3)) = w4 at *
        have hg6 := grownSet w4 (w.heap.size + 1) 0 (.int .i64 0)
        have hV3 := (hg6.block _ (Array.getElem?_eq_some_iff.1 hV2).1 (by simp)).trans hV2
        have hE3 : (w4.setCell ⟨w.heap.size + 1, 0, none⟩ (.int .i64 0)).heap[w.heap.size + 1]? = some (.cells #[.int .i64 0] 27 (0, 0)) := by
          simp [World.setCell, Array.getElem?_modify, hE2]
        have hb3 := hb2.grown hg6 hb2.size (fun k hk => by simp at hk; omega)
        have hr3 := Rd.kept (F' := fresh w (w4.setCell ⟨w.heap.size + 1, 0, none⟩ (.int .i64 0))) (fun k hk => hg6.block k hk.2 (fun e => by simp at e; have := hk.1; omega)) (fun k hk => ⟨by have := hk.1; omega, Nat.lt_of_lt_of_le hk.2 hg6.size⟩) t _ hr2
        refine doorOk rfl rfl hV3 hE3 hb3 ?_ hr3
        rw [Hd.out, if_pos, if_neg (by omega)]
        rw [← Hdr.out]
        exact List.drop_eq_nil_iff.2 (by omega)

theorem decode_any (w : World) (vb : Value) (b : List Int) (h : Bs (fun k => k < w.heap.size) w vb b) : Calls Try.prog 21 #[vb] w (DecOf b w) := by
  by_cases hl : 65536 < b.length
  · exact decode_long w vb b h hl
  · exact decode_short w vb b h (by omega)

end Go.Proofs.Ytjhjcigappkebaa
