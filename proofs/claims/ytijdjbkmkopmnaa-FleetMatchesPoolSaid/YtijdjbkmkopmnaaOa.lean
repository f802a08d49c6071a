/-
  Calendars in memory; their check by the program.
-/
import Derived.Test.YtijdjbkmkopmnaaCa
import Derived.Deep.MidRow
namespace Go.Proofs.Ytijdjbkmkopmnaa.Kal
open Go.RowKit
set_option linter.unusedVariables false
set_option linter.unusedSimpArgs false

/-- The cells of a list of spans. -/
def cells : List (Int × Int) → List Value
  | [] => []
  | s :: t => .int .i64 s.1 :: .int .i64 s.2 :: cells t

theorem cells_length (l : List (Int × Int)) : (cells l).length = l.length * 2 := by
  induction l with
  | nil => rfl
  | cons s t ih => simp only [cells, List.length_cons, ih]; omega
theorem cells_append (x y : List (Int × Int)) : cells (x ++ y) = cells x ++ cells y := by
  induction x with
  | nil => rfl
  | cons s t ih => simp [cells, ih]
theorem cells_get : ∀ (l : List (Int × Int)) (j : Nat) (s : Int × Int), l[j]? = some s → (cells l)[j * 2]? = some (.int .i64 s.1) ∧ (cells l)[j * 2 + 1]? = some (.int .i64 s.2)
  | [], j, s, h => by simp at h
  | t :: l, 0, s, h => by
    simp at h
    subst h
    simp [cells]
  | t :: l, j + 1, s, h => by
    have := cells_get l j s (by simpa using h)
    have e : (j + 1) * 2 = j * 2 + 1 + 1 := by omega
    rw [e]
    simpa [cells] using this
/-- The spans of the week are valid. -/
def opB : List (Int × Int) → Bool
  | [] => true
  | s :: t => decide (0 ≤ s.1) && decide (s.1 ≤ s.2) && decide (s.2 ≤ 1440) && opB t
/-- The holidays are days in order behind e. -/
def holB : Int → List Int → Bool
  | _, [] => true
  | e, h :: t => decide (e < h) && decide (h ≤ 745654) && holB h t
def chkC (op : List (Int × Int)) (hol : List Int) : Int := if opB op && holB (-1) hol then 0 else 1
theorem isDay_any (n : Int) (w : World) : Calls Try.prog 78 #[.int .i64 n] w fun e w' => e = .returned (.bool (decide (0 ≤ n ∧ n ≤ 745654))) ∧ w = w' := by
  by_cases h0 : 0 ≤ n <;> by_cases h1 : n ≤ 745654
  all_goals
    first | rw [decide_eq_true (And.intro h0 h1)] | rw [decide_eq_false (fun h => h0 h.1)] | rw [decide_eq_false (fun h => h1 h.2)]
    go_enter Try.func78, Try.ntmps78
    go_wp2
    go_ret
    exact ⟨rfl, rfl⟩

/-- The slice v holds the days l. -/
def Hl (F : Nat → Prop) (w : World) (v : Value) (l : List Int) : Prop :=
  l.length ≤ 70368744177664 ∧ (∀ x ∈ l, I64 x) ∧ ∃ a cap, v = .slice a l.length cap ∧ l.length ≤ cap ∧
    (0 < l.length → ∃ g off, a = some ⟨g, off, none⟩ ∧ F g ∧ ∀ j x, l[j]? = some x → w.cell? ⟨g, off + j, none⟩ = some (.int .i64 x))
theorem Hl.kept {F F' : Nat → Prop} {w w' : World} {v : Value} {b : List Int} (h : Hl F w v b) (hw : ∀ k, F k → w'.heap[k]? = w.heap[k]?) (hF : ∀ k, F k → F' k) : Hl F' w' v b := by
  obtain ⟨h1, h2, a, cap, h3, h4, h5⟩ := h
  refine ⟨h1, h2, a, cap, h3, h4, fun hp => ?_⟩
  obtain ⟨g, off, ha, hf, hc⟩ := h5 hp
  exact ⟨g, off, ha, hF g hf, fun j u hj => (World.cell?_of_block (w := w) (hw g hf)).trans (hc j u hj)⟩
theorem Hl.pick {F : Nat → Prop} {w : World} {a : Option Addr} {n c : Nat} {l : List Int} (h : Hl F w (.slice a n c) l) (k : Nat) (hk : k < l.length) :
    ∃ g off x, a = some ⟨g, off, none⟩ ∧ F g ∧ l[k]? = some x ∧ I64 x ∧ w.cell? ⟨g, off + k, none⟩ = some (.int .i64 x) ∧ l.length ≤ c := by
  obtain ⟨_, h1, a', c', h2, h3, h4⟩ := h
  simp only [Value.slice.injEq] at h2
  obtain ⟨rfl, rfl, rfl⟩ := h2
  obtain ⟨g, off, rfl, hg, hc⟩ := h4 (by omega)
  exact ⟨g, off, l[k], rfl, hg, List.getElem?_eq_getElem hk, h1 _ (List.getElem_mem hk), hc k _ (List.getElem?_eq_getElem hk), h3⟩
theorem Hl.at {F : Nat → Prop} {w : World} {g off n c : Nat} {l : List Int} (h : Hl F w (.slice (some ⟨g, off, none⟩) n c) l) {k : Nat} {x : Int} (hk : l[k]? = some x) : F g ∧ w.cell? ⟨g, off + k, none⟩ = some (.int .i64 x) ∧ I64 x := by
  have hl : k < l.length := (List.getElem?_eq_some_iff.1 hk).1
  obtain ⟨g', off', x', e, h1, h2, h3, h4, _⟩ := h.pick k hl
  simp only [Option.some.injEq, Addr.mk.injEq, and_true] at e
  obtain ⟨rfl, rfl⟩ := e
  rw [hk] at h2
  cases h2
  exact ⟨h1, h4, h3⟩
theorem hl_nil (F : Nat → Prop) (w : World) (a : Option Addr) (c : Nat) : Hl F w (.slice a 0 c) [] := ⟨by simp, by simp, a, c, rfl, Nat.zero_le _, fun h => by simp at h⟩

/-- cs are the cells of the calendar of the spans op and the holidays hol. -/
structure Cal (F : Nat → Prop) (w : World) (cs : Array Value) (op : List (Int × Int)) (hol : List Int) : Prop where
  len : op.length = 7
  ok : ∀ s ∈ op, I64 s.1 ∧ I64 s.2
  row : ∃ v, cs = (cells op ++ [v]).toArray ∧ Hl F w v hol
theorem Cal.kept {F F' : Nat → Prop} {w w' : World} {cs : Array Value} {op : List (Int × Int)} {hol : List Int} (h : Cal F w cs op hol) (hw : ∀ k, F k → w'.heap[k]? = w.heap[k]?) (hF : ∀ k, F k → F' k) : Cal F' w' cs op hol := by
  obtain ⟨v, h1, h2⟩ := h.row
  exact ⟨h.len, h.ok, v, h1, h2.kept hw hF⟩
theorem Cal.on {w w' : World} {cs : Array Value} {op : List (Int × Int)} {hol : List Int} (h : Cal (fun k => k < w.heap.size) w cs op hol) (hb : Below w.heap.size w w') : Cal (fun k => k < w'.heap.size) w' cs op hol :=
  h.kept (fun k hk => hb.block k hk) (fun k hk => Nat.lt_of_lt_of_le hk hb.size)
theorem Cal.size {F : Nat → Prop} {w : World} {cs : Array Value} {op : List (Int × Int)} {hol : List Int} (h : Cal F w cs op hol) : cs.size = 15 := by
  obtain ⟨v, rfl, _⟩ := h.row
  simp [cells_length, h.len]
/-- The cells of the boxed calendar. -/
theorem Cal.box {F : Nat → Prop} {w W : World} {cs : Array Value} {op : List (Int × Int)} {hol : List Int} (h : Cal F w cs op hol) {B : Nat} {t : TypeId} (hB : W.heap[B]? = some (.cells cs t (0, 0))) :
    W.rangeAt B 0 (cells op) ∧ (∀ k s, op[k]? = some s → W.cell? ⟨B, k * 2, none⟩ = some (.int .i64 s.1) ∧ W.cell? ⟨B, k * 2 + 1, none⟩ = some (.int .i64 s.2)) ∧ ∃ a cap, W.cell? ⟨B, 14, none⟩ = some (.slice a hol.length cap) ∧ Hl F w (.slice a hol.length cap) hol := by
  obtain ⟨v, rfl, hv⟩ := h.row
  have hl : (cells op).length = 14 := by rw [cells_length, h.len]
  have key : ∀ i, W.cell? ⟨B, i, none⟩ = (cells op ++ [v])[i]? := by
    intro i
    rw [cell_of_row W B i _ t (0, 0) hB]
    simp
  refine ⟨?_, fun k s hk => ?_, ?_⟩
  · intro j u hj
    have hjl := (List.getElem?_eq_some_iff.1 hj).1
    rw [Nat.zero_add, key, List.getElem?_append_left hjl]; exact hj
  · obtain ⟨e0, e1⟩ := cells_get op k s hk
    have hk7 := (List.getElem?_eq_some_iff.1 hk).1
    rw [h.len] at hk7
    rw [key, key, List.getElem?_append_left (by omega), List.getElem?_append_left (by omega)]
    exact ⟨e0, e1⟩
  · obtain ⟨h1, h2, a, cap, rfl, h4, h5⟩ := hv
    refine ⟨a, cap, ?_, h1, h2, a, cap, rfl, h4, h5⟩
    rw [key, List.getElem?_append_right (by omega), hl]
    rfl

theorem size55 {n : Nat} (h : n = 15) : (Try.prog.info? 55).map (·.size) = some n := by rw [h]; kernel_rfl
theorem size52 {n : Nat} (h : n = 14) : (Try.prog.info? 52).map (·.size) = some n := by rw [h]; kernel_rfl

theorem seven {op : List (Int × Int)} (h : op.length = 7) : ∃ a b c d e f g, op = [a, b, c, d, e, f, g] := by
  match op, h with
  | [a, b, c, d, e, f, g], _ => exact ⟨a, b, c, d, e, f, g, rfl⟩
theorem idx24_0 (a b c d e f g : Int × Int) (w : World) : (Instr.index 52 (.agg (cells [a, b, c, d, e, f, g]).toArray) (.int .i64 ((0 : Nat) : Int))).run Try.prog w = .ok (.agg #[.int .i64 a.1, .int .i64 a.2]) w := by kernel_rfl
theorem idx24_1 (a b c d e f g : Int × Int) (w : World) : (Instr.index 52 (.agg (cells [a, b, c, d, e, f, g]).toArray) (.int .i64 ((1 : Nat) : Int))).run Try.prog w = .ok (.agg #[.int .i64 b.1, .int .i64 b.2]) w := by kernel_rfl
theorem idx24_2 (a b c d e f g : Int × Int) (w : World) : (Instr.index 52 (.agg (cells [a, b, c, d, e, f, g]).toArray) (.int .i64 ((2 : Nat) : Int))).run Try.prog w = .ok (.agg #[.int .i64 c.1, .int .i64 c.2]) w := by kernel_rfl
theorem idx24_3 (a b c d e f g : Int × Int) (w : World) : (Instr.index 52 (.agg (cells [a, b, c, d, e, f, g]).toArray) (.int .i64 ((3 : Nat) : Int))).run Try.prog w = .ok (.agg #[.int .i64 d.1, .int .i64 d.2]) w := by kernel_rfl
theorem idx24_4 (a b c d e f g : Int × Int) (w : World) : (Instr.index 52 (.agg (cells [a, b, c, d, e, f, g]).toArray) (.int .i64 ((4 : Nat) : Int))).run Try.prog w = .ok (.agg #[.int .i64 e.1, .int .i64 e.2]) w := by kernel_rfl
theorem idx24_5 (a b c d e f g : Int × Int) (w : World) : (Instr.index 52 (.agg (cells [a, b, c, d, e, f, g]).toArray) (.int .i64 ((5 : Nat) : Int))).run Try.prog w = .ok (.agg #[.int .i64 f.1, .int .i64 f.2]) w := by kernel_rfl
theorem idx24_6 (a b c d e f g : Int × Int) (w : World) : (Instr.index 52 (.agg (cells [a, b, c, d, e, f, g]).toArray) (.int .i64 ((6 : Nat) : Int))).run Try.prog w = .ok (.agg #[.int .i64 g.1, .int .i64 g.2]) w := by kernel_rfl
/-- An element of the array of spans. -/
theorem idx52 {op : List (Int × Int)} (h : op.length = 7) (k : Nat) (s : Int × Int) (hk : op[k]? = some s) (w : World) :
    (Instr.index 52 (.agg (cells op).toArray) (.int .i64 (k : Int))).run Try.prog w = .ok (.agg #[.int .i64 s.1, .int .i64 s.2]) w := by
  have hk7 := (List.getElem?_eq_some_iff.1 hk).1
  obtain ⟨a, b, c, d, e, f, g, rfl⟩ := seven h
  simp only [List.length_cons, List.length_nil] at hk7
  rcases (show k = 0 ∨ k = 1 ∨ k = 2 ∨ k = 3 ∨ k = 4 ∨ k = 5 ∨ k = 6 by omega) with rfl | rfl | rfl | rfl | rfl | rfl | rfl
  · obtain rfl := Option.some.inj hk; exact idx24_0 a b c d e f g w
  · obtain rfl := Option.some.inj hk; exact idx24_1 a b c d e f g w
  · obtain rfl := Option.some.inj hk; exact idx24_2 a b c d e f g w
  · obtain rfl := Option.some.inj hk; exact idx24_3 a b c d e f g w
  · obtain rfl := Option.some.inj hk; exact idx24_4 a b c d e f g w
  · obtain rfl := Option.some.inj hk; exact idx24_5 a b c d e f g w
  · obtain rfl := Option.some.inj hk; exact idx24_6 a b c d e f g w

theorem drop_consI {l : List Int} {k : Nat} {s : Int} (h : l[k]? = some s) : l.drop k = s :: l.drop (k + 1) := by
  have hk := (List.getElem?_eq_some_iff.1 h).1
  rw [List.drop_eq_getElem_cons hk]
  rw [List.getElem?_eq_getElem hk] at h
  rw [Option.some.inj h]
theorem drop_consS {l : List (Int × Int)} {k : Nat} {s : Int × Int} (h : l[k]? = some s) : l.drop k = s :: l.drop (k + 1) := by
  have hk := (List.getElem?_eq_some_iff.1 h).1
  rw [List.drop_eq_getElem_cons hk]
  rw [List.getElem?_eq_getElem hk] at h
  rw [Option.some.inj h]
theorem chkC_one {op : List (Int × Int)} {hol : List Int} (h : (opB op && holB (-1) hol) = false) : chkC op hol = 1 := by unfold chkC; rw [h]; rfl
theorem chkC_two (op : List (Int × Int)) (hol : List Int) : chkC op hol = 0 ∨ chkC op hol = 1 := by unfold chkC; split <;> simp
theorem chkC_zero (op : List (Int × Int)) (hol : List Int) : chkC op hol = 0 ↔ opB op = true ∧ holB (-1) hol = true := by
  unfold chkC
  rw [← Bool.and_eq_true]
  split <;> simp_all

set_option maxRecDepth 100000 in
set_option maxHeartbeats 4000000 in
theorem ccheck_any (cs : Array Value) (op : List (Int × Int)) (hol : List Int) (w : World) (h : Cal (fun k => k < w.heap.size) w cs op hol) (R : Int) (hR : R = chkC op hol) :
    Calls Try.prog 27 #[.agg cs] w fun e w' => e = .returned (.int .i64 R) ∧ Below w.heap.size w w' := by
  have hW : Below w.heap.size w (w.alloc (.cells cs 55)) := ball (Below.refl _ _) _
  have hbox := heap_alloc_new w (.cells cs 55)
  obtain ⟨hrng, _, a, cap, hc14, hhl⟩ := h.box hbox
  have hhl1 : Hl (fun k => k < (w.alloc (.cells cs 55)).heap.size) (w.alloc (.cells cs 55)) (.slice a hol.length cap) hol := hhl.kept (fun k hk => hW.block k hk) (fun k hk => Nat.lt_of_lt_of_le hk hW.size)
  have hlen := h.len
  have hok := h.ok
  have hsz := h.size
  have hlc : (cells op).length = 14 := by rw [cells_length, hlen]
  have hidx := idx52 hlen
  obtain ⟨n, hn⟩ : ∃ n, n = hol.length := ⟨_, rfl⟩
  have hnn := hhl.1
  rw [← hn] at hc14 hhl1 hnn
  obtain ⟨A, hA⟩ : ∃ A, A = (cells op).toArray := ⟨_, rfl⟩
  rw [← hA] at hidx
  have HR := Lib.hid hR; have HN := Lib.hid hn; have HL := Lib.hid hlen; have HOK := Lib.hid hok; have HH := Lib.hid hhl1; have HW := Lib.hid hW; have HIDX := Lib.hid hidx; have HRNG := Lib.hid hrng; have HLC := Lib.hid hlc; have HA := Lib.hid hA
  have hsB : w.heap.size < (w.alloc (.cells cs 55)).heap.size := by simp
  clear hR hn hlen hok hhl1 hhl hW hidx hrng hlc hA hbox hsz h
  generalize hWW : w.alloc (.cells cs 55) = W at *
  go_enter Try.func27, Try.ntmps27
  go_wp2_with (first | (refine wpList_load_mid rfl 52 (.tmp 8) rfl w.heap.size 0 rfl (cells op) _ HRNG.out Try.underlying52 rfl (size52 HLC.out) ?_; rw [← HA.out]))
  clear hWW
  go_loopw [10] (fun s wr => ∃ k : Nat, k ≤ 7 ∧ s = .int .i64 (k : Int) ∧ Hid (opB (op.drop k) = opB op ∧ Below W.heap.size W wr)) (fun s _ => 7 - (intOf s).toNat)
  case atStart => exact ⟨0, by omega, rfl, Lib.hid ⟨rfl, Below.refl _ _⟩⟩
  case round =>
    obtain ⟨k, hk, rfl, HK⟩ := hrel
    by_cases hlt : k < 7
    · have hlt2 : (k : Int) < 7 := by omega
      obtain ⟨s, hs⟩ : ∃ s, op[k]? = some s := ⟨_, List.getElem?_eq_getElem (by rw [HL.out]; exact hlt)⟩
      obtain ⟨x, y⟩ := s
      have hi := fun w => HIDX.out k (x, y) hs w
      have hr := HK.out.1
      rw [drop_consS hs] at hr
      simp only [opB] at hr
      have HB := Lib.hid (HW.out.trans (HK.out.2.mono HW.out.size))
      by_cases c1 : x < 0
      · have d1 : decide (x < 0) = true := decide_eq_true c1
        have hone : R = 1 := by rw [HR.out]; apply chkC_one; rw [← hr, decide_eq_false (by omega : ¬ 0 ≤ x)]; simp
        subst hone
        clear hr hs
        go_wp2
        go_ret
        exact ⟨rfl, HB.out.alloc HB.out.size _⟩
      have d1 : decide (x < 0) = false := decide_eq_false c1
      by_cases c2 : y < x
      · have d2 : decide (y < x) = true := decide_eq_true c2
        have hone : R = 1 := by rw [HR.out]; apply chkC_one; rw [← hr, decide_eq_false (by omega : ¬ x ≤ y)]; simp
        subst hone
        clear hr hs
        go_wp2
        go_ret
        exact ⟨rfl, HB.out.alloc HB.out.size _⟩
      have d2 : decide (y < x) = false := decide_eq_false c2
      by_cases c3 : 1440 < y
      · have d3 : decide (1440 < y) = true := decide_eq_true c3
        have hone : R = 1 := by rw [HR.out]; apply chkC_one; rw [← hr, decide_eq_false (by omega : ¬ y ≤ 1440)]; simp
        subst hone
        clear hr hs
        go_wp2
        go_ret
        exact ⟨rfl, HB.out.alloc HB.out.size _⟩
      have d3 : decide (1440 < y) = false := decide_eq_false c3
      rw [decide_eq_true (by omega : 0 ≤ x), decide_eq_true (by omega : x ≤ y), decide_eq_true (by omega : y ≤ 1440)] at hr
      simp only [Bool.true_and] at hr
      have HRR := Lib.hid hr
      clear hr hs
      go_wp2
      go_roundw
      case rel => exact ⟨k + 1, by omega, by go_num, Lib.hid ⟨HRR.out, HK.out.2.alloc HK.out.2.size _⟩⟩
      case measure => simp [intOf]; omega
    · obtain rfl : k = 7 := by omega
      have hop : opB op = true := by rw [← HK.out.1, List.drop_eq_nil_of_le (by rw [HL.out]; exact Nat.le_refl _)]; rfl
      have d14 : wr.cell? ⟨w.heap.size, 14, none⟩ = some (.slice a n cap) := (HK.out.2.cell (p := ⟨w.heap.size, 14, none⟩) hsB).trans hc14
      have HH2 := Lib.hid (HH.out.kept (F' := fun k => k < wr.heap.size) (fun k hk => HK.out.2.block k hk) (fun k hk => Nat.lt_of_lt_of_le hk HK.out.2.size))
      have HB := Lib.hid (HW.out.trans (HK.out.2.mono HW.out.size))
      have hR2 : R = if holB (-1) hol then 0 else 1 := by rw [HR.out]; unfold chkC; rw [hop, Bool.true_and]
      have HR2 := Lib.hid hR2
      clear HK hop hR2 hlt HH
      have hlt7 : ¬ ((7 : Int) < 7) := by omega
      go_wp2
      go_loopw [5, 32] (fun s t wz => ∃ (k : Nat) (E : Int), k ≤ n ∧ s = .int .i64 E ∧ t = .int .i64 (k : Int) ∧ -1 ≤ E ∧ E ≤ 745654 ∧ Hid (holB (-1) hol = holB E (hol.drop k)) ∧ wr = wz) (fun _ t _ => n - (intOf t).toNat)
      case atStart => exact ⟨0, -1, by omega, rfl, rfl, by omega, by omega, Lib.hid rfl, rfl⟩
      case round =>
        obtain ⟨k, E, hk, rfl, rfl, hE1, hE2, HK, rfl⟩ := hrel
        by_cases hlt : k < n
        · have hlt2 : (k : Int) < (n : Int) := by omega
          obtain ⟨g, off, x, rfl, hg, hx, hxi, c0, hcap⟩ := HH2.out.pick k (by have := HN.out; omega)
          have hst := HK.out
          rw [drop_consI hx] at hst
          simp only [holB] at hst
          have hcall := isDay_any x wr
          by_cases c1 : x ≤ E
          · have d1 : decide (x ≤ E) = true := decide_eq_true c1
            have hone : R = 1 := by rw [HR2.out, hst, decide_eq_false (by omega : ¬ E < x)]; simp
            subst hone
            clear hst hx hcall
            go_wp2
            go_ret
            exact ⟨rfl, HB.out⟩
          have d1 : decide (x ≤ E) = false := decide_eq_false c1
          by_cases c2 : x ≤ 745654
          · rw [decide_eq_true (And.intro (by omega : 0 ≤ x) c2)] at hcall
            rw [decide_eq_true (by omega : E < x), decide_eq_true c2] at hst
            simp only [Bool.true_and] at hst
            have HST := Lib.hid hst; have HC := Lib.hid hcall
            clear hst hcall hx
            go_wp2_with fail
            refine HC.out.mono ?_
            rintro e w1 ⟨rfl, rfl⟩
            go_wp2
            go_roundw
            case rel => exact ⟨k + 1, x, by omega, rfl, by go_num, by omega, by omega, Lib.hid HST.out, trivial⟩
            case measure => simp [intOf]; omega
          · rw [decide_eq_false (fun hh => c2 hh.2)] at hcall
            have hone : R = 1 := by rw [HR2.out, hst, decide_eq_false c2]; simp
            subst hone
            have HC := Lib.hid hcall
            clear hst hcall hx
            go_wp2_with fail
            refine HC.out.mono ?_
            rintro e w1 ⟨rfl, rfl⟩
            go_wp2
            go_ret
            exact ⟨rfl, HB.out⟩
        · obtain rfl : k = n := by omega
          have hz : R = 0 := by rw [HR2.out, HK.out, List.drop_eq_nil_of_le (by rw [← HN.out]; exact Nat.le_refl _)]; rfl
          subst hz
          have hlt2 : ¬ ((k : Int) < (k : Int)) := by omega
          clear hlt HK HR2
          go_wp2
          go_ret
          exact ⟨rfl, HB.out⟩

end Go.Proofs.Ytijdjbkmkopmnaa.Kal
