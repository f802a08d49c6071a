/-
  Walks: the check of a range; the reference's check of a calendar; few; Lists.
-/
import Derived.Test.YtciopemodfpecaaDoorKb
import Derived.Test.YtciopemodfpecaaDoorCc
namespace Go.Proofs.YtciopemodfpecaaDoor
open Go.RowKit
set_option linter.unusedVariables false
set_option linter.unusedSimpArgs false

theorem eR_zero {op : List (Int × Int)} {hol : List Int} {f t : Int} (h1 : chkC op hol = 0) (h2 : 0 ≤ f) (h3 : f ≤ t) (h4 : t ≤ 1073741824) : eR op hol f t = 0 := by
  obtain ⟨a, b⟩ := (chkC_zero op hol).1 h1
  unfold eR okR
  rw [a, b, decide_eq_true h2, decide_eq_true h3, decide_eq_true h4]; rfl
theorem eR_one {op : List (Int × Int)} {hol : List Int} {f t : Int} (h : chkC op hol = 1 ∨ f < 0 ∨ t < f ∨ 1073741824 < t) : eR op hol f t = 1 := by
  unfold eR
  have : ¬ okR op hol f t = true := by
    unfold okR
    simp only [Bool.and_eq_true, decide_eq_true_eq]
    rintro ⟨⟨⟨⟨a, b⟩, c⟩, d⟩, e⟩
    rcases h with h | h | h | h
    · have := (chkC_zero op hol).2 ⟨a, b⟩; omega
    · omega
    · omega
    · omega
  rw [if_neg this]

set_option maxRecDepth 100000 in
set_option maxHeartbeats 4000000 in
theorem checkRange_any (cs : Array Value) (op : List (Int × Int)) (hol : List Int) (f t : Int) (w : World) (h : Cal (fun k => k < w.heap.size) w cs op hol) (hf : I64 f) (ht : I64 t) (E : Int) (hE : E = eR op hol f t) :
    Calls Tryd.prog 40 #[.agg cs, .int .i64 f, .int .i64 t] w fun e w' => e = .returned (.int .i64 E) ∧ Below w.heap.size w w' := by
  have hW : Below w.heap.size w (w.alloc (.cells cs 27)) := ball (Below.refl _ _) _
  have hbox := heap_alloc_new w (.cells cs 27)
  obtain ⟨R, hR⟩ : ∃ R, R = chkC op hol := ⟨_, rfl⟩
  have hc := ccheck_any cs op hol _ (h.on hW) R hR
  have HC := Lib.hid hc; have HB := Lib.hid hbox; have HS := Lib.hid h.size; have HE := Lib.hid hE; have HW := Lib.hid hW
  have htwo := chkC_two op hol
  rw [← hR] at htwo
  clear hc hW hbox hE h
  generalize hWW : w.alloc (.cells cs 27) = W at *
  rcases htwo with rfl | rfl
  · by_cases c1 : f < 0
    · have d1 : decide (f < 0) = true := decide_eq_true c1
      obtain rfl : E = 1 := by rw [HE.out]; exact eR_one (.inr (.inl c1))
      clear hR
      go_enter Tryd.func40, Tryd.ntmps40
      go_wp2_with (first | (refine wpList_load_row rfl 27 (.tmp 3) rfl w.heap.size rfl 27 cs (0, 0) _ HB.out Tryd.underlying27 rfl (size27 HS.out) ?_) | (go_at_call 19; refine HC.out.mono ?_; rintro e w1 ⟨rfl, hb1⟩))
      go_ret
      exact ⟨rfl, HW.out.trans (hb1.mono HW.out.size)⟩
    have d1 : decide (f < 0) = false := decide_eq_false c1
    by_cases c2 : t < f
    · have d2 : decide (t < f) = true := decide_eq_true c2
      obtain rfl : E = 1 := by rw [HE.out]; exact eR_one (.inr (.inr (.inl c2)))
      clear hR
      go_enter Tryd.func40, Tryd.ntmps40
      go_wp2_with (first | (refine wpList_load_row rfl 27 (.tmp 3) rfl w.heap.size rfl 27 cs (0, 0) _ HB.out Tryd.underlying27 rfl (size27 HS.out) ?_) | (go_at_call 19; refine HC.out.mono ?_; rintro e w1 ⟨rfl, hb1⟩))
      go_ret
      exact ⟨rfl, HW.out.trans (hb1.mono HW.out.size)⟩
    have d2 : decide (t < f) = false := decide_eq_false c2
    by_cases c3 : 1073741824 < t
    · have d3 : decide (1073741824 < t) = true := decide_eq_true c3
      obtain rfl : E = 1 := by rw [HE.out]; exact eR_one (.inr (.inr (.inr c3)))
      clear hR
      go_enter Tryd.func40, Tryd.ntmps40
      go_wp2_with (first | (refine wpList_load_row rfl 27 (.tmp 3) rfl w.heap.size rfl 27 cs (0, 0) _ HB.out Tryd.underlying27 rfl (size27 HS.out) ?_) | (go_at_call 19; refine HC.out.mono ?_; rintro e w1 ⟨rfl, hb1⟩))
      go_ret
      exact ⟨rfl, HW.out.trans (hb1.mono HW.out.size)⟩
    have d3 : decide (1073741824 < t) = false := decide_eq_false c3
    obtain rfl : E = 0 := by rw [HE.out]; exact eR_zero hR.symm (by omega) (by omega) (by omega)
    clear hR
    go_enter Tryd.func40, Tryd.ntmps40
    go_wp2_with (first | (refine wpList_load_row rfl 27 (.tmp 3) rfl w.heap.size rfl 27 cs (0, 0) _ HB.out Tryd.underlying27 rfl (size27 HS.out) ?_) | (go_at_call 19; refine HC.out.mono ?_; rintro e w1 ⟨rfl, hb1⟩))
    go_ret
    exact ⟨rfl, HW.out.trans (hb1.mono HW.out.size)⟩
  · obtain rfl : E = 1 := by rw [HE.out]; exact eR_one (.inl hR.symm)
    clear hR
    go_enter Tryd.func40, Tryd.ntmps40
    go_wp2_with (first | (refine wpList_load_row rfl 27 (.tmp 3) rfl w.heap.size rfl 27 cs (0, 0) _ HB.out Tryd.underlying27 rfl (size27 HS.out) ?_) | (go_at_call 19; refine HC.out.mono ?_; rintro e w1 ⟨rfl, hb1⟩))
    go_ret
    exact ⟨rfl, HW.out.trans (hb1.mono HW.out.size)⟩

set_option maxRecDepth 100000 in
set_option maxHeartbeats 4000000 in
theorem rccheck_any (cs : Array Value) (op : List (Int × Int)) (hol : List Int) (w : World) (h : Cal (fun k => k < w.heap.size) w cs op hol) (R : Int) (hR : R = chkC op hol) :
    Calls Tryd.prog 20 #[.agg cs] w fun e w' => e = .returned (.int .i64 R) ∧ Below w.heap.size w w' := by
  have hW : Below w.heap.size w (w.alloc (.cells cs 27)) := ball (Below.refl _ _) _
  have hbox := heap_alloc_new w (.cells cs 27)
  obtain ⟨_, hcell, a, cap, hc14, hhl⟩ := h.box hbox
  have hhl1 : Hl (fun k => k < (w.alloc (.cells cs 27)).heap.size) (w.alloc (.cells cs 27)) (.slice a hol.length cap) hol := hhl.kept (fun k hk => hW.block k hk) (fun k hk => Nat.lt_of_lt_of_le hk hW.size)
  have hlen := h.len
  have hok := h.ok
  obtain ⟨n, hn⟩ : ∃ n, n = hol.length := ⟨_, rfl⟩
  have hnn := hhl.1
  rw [← hn] at hc14 hhl1 hnn
  have HR := Lib.hid hR; have HN := Lib.hid hn; have HL := Lib.hid hlen; have HOK := Lib.hid hok; have HH := Lib.hid hhl1; have HW := Lib.hid hW; have HCELL := Lib.hid hcell
  have hsB : w.heap.size < (w.alloc (.cells cs 27)).heap.size := by simp
  clear hR hn hlen hok hhl1 hhl hW hbox hcell h
  generalize hWW : w.alloc (.cells cs 27) = W at *
  go_enter Tryd.func20, Tryd.ntmps20
  go_wp2
  clear hWW
  go_loopw [3] (fun s wr => ∃ k : Nat, k ≤ 7 ∧ s = .int .i64 (k : Int) ∧ Hid (opB (op.drop k) = opB op ∧ Below W.heap.size W wr)) (fun s _ => 7 - (intOf s).toNat)
  case atStart => exact ⟨0, by omega, rfl, Lib.hid ⟨rfl, Below.refl _ _⟩⟩
  case round =>
    obtain ⟨k, hk, rfl, HK⟩ := hrel
    by_cases hlt : k < 7
    · have hlt2 : (k : Int) < 7 := by omega
      obtain ⟨s, hs⟩ : ∃ s, op[k]? = some s := ⟨_, List.getElem?_eq_getElem (by rw [HL.out]; exact hlt)⟩
      obtain ⟨x, y⟩ := s
      obtain ⟨e0, e1⟩ := HCELL.out k (x, y) hs
      have c0 : wr.cell? ⟨w.heap.size, k * 2, none⟩ = some (.int .i64 x) := (HK.out.2.cell (p := ⟨w.heap.size, k * 2, none⟩) hsB).trans e0
      have c1' : wr.cell? ⟨w.heap.size, k * 2 + 1, none⟩ = some (.int .i64 y) := (HK.out.2.cell (p := ⟨w.heap.size, k * 2 + 1, none⟩) hsB).trans e1
      have hr := HK.out.1
      rw [drop_consS hs] at hr
      simp only [opB] at hr
      have HB := Lib.hid (HW.out.trans (HK.out.2.mono HW.out.size))
      clear e0 e1
      by_cases c1 : x < 0
      · have d1 : decide (x < 0) = true := decide_eq_true c1
        have hone : R = 1 := by rw [HR.out]; apply chkC_one; rw [← hr, decide_eq_false (by omega : ¬ 0 ≤ x)]; simp
        subst hone
        clear hr hs
        go_wp2
        go_ret
        exact ⟨rfl, HB.out.alloc HB.out.size _⟩
      have d1 : decide (x < 0) = false := decide_eq_false c1
      by_cases c2 : y < x
      · have d2 : decide (y < x) = true := decide_eq_true c2
        have hone : R = 1 := by rw [HR.out]; apply chkC_one; rw [← hr, decide_eq_false (by omega : ¬ x ≤ y)]; simp
        subst hone
        clear hr hs
        go_wp2
        go_ret
        exact ⟨rfl, HB.out.alloc HB.out.size _⟩
      have d2 : decide (y < x) = false := decide_eq_false c2
      by_cases c3 : 1440 < y
      · have d3 : decide (1440 < y) = true := decide_eq_true c3
        have hone : R = 1 := by rw [HR.out]; apply chkC_one; rw [← hr, decide_eq_false (by omega : ¬ y ≤ 1440)]; simp
        subst hone
        clear hr hs
        go_wp2
        go_ret
        exact ⟨rfl, HB.out.alloc HB.out.size _⟩
      have d3 : decide (1440 < y) = false := decide_eq_false c3
      rw [decide_eq_true (by omega : 0 ≤ x), decide_eq_true (by omega : x ≤ y), decide_eq_true (by omega : y ≤ 1440)] at hr
      simp only [Bool.true_and] at hr
      have HRR := Lib.hid hr
      clear hr hs
      go_wp2
      go_roundw
      case rel => exact ⟨k + 1, by omega, by go_num, Lib.hid ⟨HRR.out, HK.out.2.alloc HK.out.2.size _⟩⟩
      case measure => simp [intOf]; omega
    · obtain rfl : k = 7 := by omega
      have hop : opB op = true := by rw [← HK.out.1, List.drop_eq_nil_of_le (by rw [HL.out]; exact Nat.le_refl _)]; rfl
      have d14 : wr.cell? ⟨w.heap.size, 14, none⟩ = some (.slice a n cap) := (HK.out.2.cell (p := ⟨w.heap.size, 14, none⟩) hsB).trans hc14
      have HH2 := Lib.hid (HH.out.kept (F' := fun k => k < wr.heap.size) (fun k hk => HK.out.2.block k hk) (fun k hk => Nat.lt_of_lt_of_le hk HK.out.2.size))
      have HB := Lib.hid (HW.out.trans (HK.out.2.mono HW.out.size))
      have hR2 : R = if holB (-1) hol then 0 else 1 := by rw [HR.out]; unfold chkC; rw [hop, Bool.true_and]
      have HR2 := Lib.hid hR2
      clear HK hop hR2 hlt HH
      have hlt7 : ¬ ((7 : Int) < 7) := by omega
      go_wp2
      go_loopw [5] (fun t wz => ∃ (k : Nat), k ≤ n ∧ t = .int .i64 (k : Int) ∧ Hid (∃ E : Int, -1 ≤ E ∧ holB (-1) hol = holB E (hol.drop k) ∧ (k = 0 → E = -1) ∧ ∀ p, hol[k - 1]? = some p → 0 < k → E = p) ∧ wr = wz) (fun t _ => n - (intOf t).toNat)
      case atStart => exact ⟨0, by omega, rfl, Lib.hid ⟨-1, by omega, rfl, fun _ => rfl, fun p hp h => by omega⟩, rfl⟩
      case round =>
        obtain ⟨k, hk, rfl, HK, rfl⟩ := hrel
        by_cases hlt : k < n
        · have hlt2 : (k : Int) < (n : Int) := by omega
          obtain ⟨g, off, x, rfl, hg, hx, hxi, c0, hcap⟩ := HH2.out.pick k (by have := HN.out; omega)
          obtain ⟨E, hE1, hst, hE0, hEp⟩ := HK.out
          rw [drop_consI hx] at hst
          simp only [holB] at hst
          by_cases c1 : x < 0
          · have d1 : decide (x < 0) = true := decide_eq_true c1
            have hone : R = 1 := by rw [HR2.out, hst, decide_eq_false (by omega : ¬ E < x)]; simp
            subst hone
            clear hst hx hEp hE0
            go_wp2
            go_ret
            exact ⟨rfl, HB.out⟩
          have d1 : decide (x < 0) = false := decide_eq_false c1
          by_cases c2 : 745654 < x
          · have d2 : decide (745654 < x) = true := decide_eq_true c2
            have hone : R = 1 := by rw [HR2.out, hst, decide_eq_false (by omega : ¬ x ≤ 745654)]; simp
            subst hone
            clear hst hx hEp hE0
            go_wp2
            go_ret
            exact ⟨rfl, HB.out⟩
          have d2 : decide (745654 < x) = false := decide_eq_false c2
          rcases Nat.eq_zero_or_pos k with rfl | hpos
          · have hE := hE0 rfl
            subst hE
            rw [decide_eq_true (by omega : -1 < x), decide_eq_true (by omega : x ≤ 745654)] at hst
            simp only [Bool.true_and] at hst
            rw [Nat.add_zero] at c0
            have HST := Lib.hid (show ∃ E : Int, -1 ≤ E ∧ holB (-1) hol = holB E (hol.drop (0 + 1)) ∧ (0 + 1 = 0 → E = -1) ∧ ∀ p, hol[0 + 1 - 1]? = some p → 0 < 0 + 1 → E = p from ⟨x, by omega, hst, fun h => by omega, fun p hp _ => by rw [Nat.add_sub_cancel, hx] at hp; exact Option.some.inj hp⟩)
            clear hst hx hEp hE0 hE1 HK
            go_wp2
            go_roundw
            case rel => exact ⟨0 + 1, by omega, rfl, HST, trivial⟩
            case measure => simp [intOf]; omega
          · have hk1 : k - 1 < hol.length := by have := HN.out; omega
            have hpv := List.getElem?_eq_getElem hk1
            obtain ⟨p, hp⟩ : ∃ p, hol[k - 1]? = some p := ⟨_, hpv⟩
            have hEpp := hEp p hp hpos
            subst hEpp
            have cp := (HH2.out.at hp).2.1
            obtain ⟨j, rfl⟩ : ∃ j, k = j + 1 := ⟨k - 1, by omega⟩
            rw [Nat.add_sub_cancel] at cp
            have dpos : decide ((0 : Int) < ((j + 1 : Nat) : Int)) = true := decide_eq_true (by omega)
            by_cases c3 : x ≤ E
            · have d3 : decide (x ≤ E) = true := decide_eq_true c3
              have hone : R = 1 := by rw [HR2.out, hst, decide_eq_false (by omega : ¬ E < x)]; simp
              subst hone
              clear hst hx hEp hE0 hpv hp
              go_wp2
              go_ret
              exact ⟨rfl, HB.out⟩
            · have d3 : decide (x ≤ E) = false := decide_eq_false c3
              rw [decide_eq_true (by omega : E < x), decide_eq_true (by omega : x ≤ 745654)] at hst
              simp only [Bool.true_and] at hst
              have HST := Lib.hid (show ∃ E : Int, -1 ≤ E ∧ holB (-1) hol = holB E (hol.drop (j + 1 + 1)) ∧ (j + 1 + 1 = 0 → E = -1) ∧ ∀ p, hol[j + 1 + 1 - 1]? = some p → 0 < j + 1 + 1 → E = p from ⟨x, by omega, hst, fun h => by omega, fun p hp _ => by rw [Nat.add_sub_cancel, hx] at hp; exact Option.some.inj hp⟩)
              clear hst hx hEp hE0 hpv hp HK
              go_wp2
              go_roundw
              case rel => exact ⟨j + 1 + 1, by omega, by go_num, HST, trivial⟩
              case measure => simp [intOf]; omega
        · obtain rfl : k = n := by omega
          have hz : R = 0 := by
            obtain ⟨E, _, hst, _⟩ := HK.out
            rw [HR2.out, hst, List.drop_eq_nil_of_le (by rw [← HN.out]; exact Nat.le_refl _)]; rfl
          subst hz
          have hlt2 : ¬ ((k : Int) < (k : Int)) := by omega
          clear hlt HK HR2
          go_wp2
          go_ret
          exact ⟨rfl, HB.out⟩

/-- What few says. -/
def fewB (hol : List Int) (f t : Int) : Bool := decide (hol.length ≤ 300) && (decide (f < 0) || decide (t < f) || decide (1073741824 < t) || decide (t - f ≤ 576000))

set_option maxRecDepth 100000 in
set_option maxHeartbeats 4000000 in
theorem few_any (cs : Array Value) (op : List (Int × Int)) (hol : List Int) (f t : Int) (w : World) (h : Cal (fun k => k < w.heap.size) w cs op hol) (hf : I64 f) (ht : I64 t) (V : Bool) (hV : V = fewB hol f t) :
    Calls Tryd.prog 12 #[.agg cs, .int .i64 f, .int .i64 t] w fun e w' => e = .returned (.bool V) ∧ Below w.heap.size w w' := by
  have hW : Below w.heap.size w (w.alloc (.cells cs 27)) := ball (Below.refl _ _) _
  have hbox := heap_alloc_new w (.cells cs 27)
  obtain ⟨_, _, a, cap, hc14, hhl⟩ := h.box hbox
  obtain ⟨n, hn⟩ : ∃ n, n = hol.length := ⟨_, rfl⟩
  have hnn := hhl.1
  rw [← hn] at hc14 hnn
  unfold fewB at hV
  rw [← hn] at hV
  have HW := Lib.hid hW
  clear hn hhl hW hbox h
  generalize hWW : w.alloc (.cells cs 27) = W at *
  by_cases c0 : n ≤ 300
  · rw [decide_eq_true c0, Bool.true_and] at hV
    have c0' : (n : Int) ≤ 300 := by omega
    have d0 : decide ((n : Int) ≤ 300) = true := decide_eq_true c0'
    by_cases c1 : f < 0
    · have d1 : decide (f < 0) = true := decide_eq_true c1
      obtain rfl : V = true := by rw [hV, d1]; rfl
      clear hV
      go_enter Tryd.func12, Tryd.ntmps12
      go_wp2
      go_ret
      exact ⟨rfl, HW.out⟩
    have d1 : decide (f < 0) = false := decide_eq_false c1
    by_cases c2 : t < f
    · have d2 : decide (t < f) = true := decide_eq_true c2
      obtain rfl : V = true := by rw [hV, d1, d2]; rfl
      clear hV
      go_enter Tryd.func12, Tryd.ntmps12
      go_wp2
      go_ret
      exact ⟨rfl, HW.out⟩
    have d2 : decide (t < f) = false := decide_eq_false c2
    by_cases c3 : 1073741824 < t
    · have d3 : decide (1073741824 < t) = true := decide_eq_true c3
      obtain rfl : V = true := by rw [hV, d1, d2, d3]; rfl
      clear hV
      go_enter Tryd.func12, Tryd.ntmps12
      go_wp2
      go_ret
      exact ⟨rfl, HW.out⟩
    have d3 : decide (1073741824 < t) = false := decide_eq_false c3
    rw [d1, d2, d3] at hV
    simp only [Bool.false_or] at hV
    have HV := Lib.hid hV
    clear hV
    go_enter Tryd.func12, Tryd.ntmps12
    go_wp2
    go_ret
    refine ⟨?_, HW.out⟩
    rw [HV.out]; rfl
  · rw [decide_eq_false c0, Bool.false_and] at hV
    subst hV
    have d0 : decide ((n : Int) ≤ 300) = false := decide_eq_false (by omega)
    go_enter Tryd.func12, Tryd.ntmps12
    go_wp2
    go_ret
    exact ⟨rfl, HW.out⟩
end Go.Proofs.YtciopemodfpecaaDoor
