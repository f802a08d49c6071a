/-
  The reference's check of a calendar.
-/
import Derived.Test.YtijdjbkmkopmnaaOa
namespace Go.Proofs.Ytijdjbkmkopmnaa.Kal
open Go.RowKit
set_option linter.unusedVariables false
set_option linter.unusedSimpArgs false

set_option maxRecDepth 100000 in
set_option maxHeartbeats 4000000 in
theorem rccheck_any (cs : Array Value) (op : List (Int × Int)) (hol : List Int) (w : World) (h : Cal (fun k => k < w.heap.size) w cs op hol) (R : Int) (hR : R = chkC op hol) :
    Calls Try.prog 73 #[.agg cs] w fun e w' => e = .returned (.int .i64 R) ∧ Below w.heap.size w w' := by
  have hW : Below w.heap.size w (w.alloc (.cells cs 55)) := ball (Below.refl _ _) _
  have hbox := heap_alloc_new w (.cells cs 55)
  obtain ⟨_, hcell, a, cap, hc14, hhl⟩ := h.box hbox
  have hhl1 : Hl (fun k => k < (w.alloc (.cells cs 55)).heap.size) (w.alloc (.cells cs 55)) (.slice a hol.length cap) hol := hhl.kept (fun k hk => hW.block k hk) (fun k hk => Nat.lt_of_lt_of_le hk hW.size)
  have hlen := h.len
  have hok := h.ok
  obtain ⟨n, hn⟩ : ∃ n, n = hol.length := ⟨_, rfl⟩
  have hnn := hhl.1
  rw [← hn] at hc14 hhl1 hnn
  have HR := Lib.hid hR; have HN := Lib.hid hn; have HL := Lib.hid hlen; have HOK := Lib.hid hok; have HH := Lib.hid hhl1; have HW := Lib.hid hW; have HCELL := Lib.hid hcell
  have hsB : w.heap.size < (w.alloc (.cells cs 55)).heap.size := by simp
  clear hR hn hlen hok hhl1 hhl hW hbox hcell h
  generalize hWW : w.alloc (.cells cs 55) = W at *
  go_enter Try.func73, Try.ntmps73
  go_wp2
  clear hWW
  go_loopw [3] (fun s wr => ∃ k : Nat, k ≤ 7 ∧ s = .int .i64 (k : Int) ∧ Hid (opB (op.drop k) = opB op ∧ Below W.heap.size W wr)) (fun s _ => 7 - (intOf s).toNat)
  case atStart => exact ⟨0, by omega, rfl, Lib.hid ⟨rfl, Below.refl _ _⟩⟩
  case round =>
    obtain ⟨k, hk, rfl, HK⟩ := hrel
    by_cases hlt : k < 7
    · have hlt2 : (k : Int) < 7 := by omega
      obtain ⟨s, hs⟩ : ∃ s, op[k]? = some s := ⟨_, List.getElem?_eq_getElem (by rw [HL.out]; exact hlt)⟩
      obtain ⟨x, y⟩ := s
      obtain ⟨e0, e1⟩ := HCELL.out k (x, y) hs
      have c0 : wr.cell? ⟨w.heap.size, k * 2, none⟩ = some (.int .i64 x) := (HK.out.2.cell (p := ⟨w.heap.size, k * 2, none⟩) hsB).trans e0
      have c1' : wr.cell? ⟨w.heap.size, k * 2 + 1, none⟩ = some (.int .i64 y) := (HK.out.2.cell (p := ⟨w.heap.size, k * 2 + 1, none⟩) hsB).trans e1
      have hr := HK.out.1
      rw [drop_consS hs] at hr
      simp only [opB] at hr
      have HB := Lib.hid (HW.out.trans (HK.out.2.mono HW.out.size))
      clear e0 e1
      by_cases c1 : x < 0
      · have d1 : decide (x < 0) = true := decide_eq_true c1
        have hone : R = 1 := by rw [HR.out]; apply chkC_one; rw [← hr, decide_eq_false (by omega : ¬ 0 ≤ x)]; simp
        subst hone
        clear hr hs
        go_wp2
        go_ret
        exact ⟨rfl, HB.out.alloc HB.out.size _⟩
      have d1 : decide (x < 0) = false := decide_eq_false c1
      by_cases c2 : y < x
      · have d2 : decide (y < x) = true := decide_eq_true c2
        have hone : R = 1 := by rw [HR.out]; apply chkC_one; rw [← hr, decide_eq_false (by omega : ¬ x ≤ y)]; simp
        subst hone
        clear hr hs
        go_wp2
        go_ret
        exact ⟨rfl, HB.out.alloc HB.out.size _⟩
      have d2 : decide (y < x) = false := decide_eq_false c2
      by_cases c3 : 1440 < y
      · have d3 : decide (1440 < y) = true := decide_eq_true c3
        have hone : R = 1 := by rw [HR.out]; apply chkC_one; rw [← hr, decide_eq_false (by omega : ¬ y ≤ 1440)]; simp
        subst hone
        clear hr hs
        go_wp2
        go_ret
        exact ⟨rfl, HB.out.alloc HB.out.size _⟩
      have d3 : decide (1440 < y) = false := decide_eq_false c3
      rw [decide_eq_true (by omega : 0 ≤ x), decide_eq_true (by omega : x ≤ y), decide_eq_true (by omega : y ≤ 1440)] at hr
      simp only [Bool.true_and] at hr
      have HRR := Lib.hid hr
      clear hr hs
      go_wp2
      go_roundw
      case rel => exact ⟨k + 1, by omega, by go_num, Lib.hid ⟨HRR.out, HK.out.2.alloc HK.out.2.size _⟩⟩
      case measure => simp [intOf]; omega
    · obtain rfl : k = 7 := by omega
      have hop : opB op = true := by rw [← HK.out.1, List.drop_eq_nil_of_le (by rw [HL.out]; exact Nat.le_refl _)]; rfl
      have d14 : wr.cell? ⟨w.heap.size, 14, none⟩ = some (.slice a n cap) := (HK.out.2.cell (p := ⟨w.heap.size, 14, none⟩) hsB).trans hc14
      have HH2 := Lib.hid (HH.out.kept (F' := fun k => k < wr.heap.size) (fun k hk => HK.out.2.block k hk) (fun k hk => Nat.lt_of_lt_of_le hk HK.out.2.size))
      have HB := Lib.hid (HW.out.trans (HK.out.2.mono HW.out.size))
      have hR2 : R = if holB (-1) hol then 0 else 1 := by rw [HR.out]; unfold chkC; rw [hop, Bool.true_and]
      have HR2 := Lib.hid hR2
      clear HK hop hR2 hlt HH
      have hlt7 : ¬ ((7 : Int) < 7) := by omega
      go_wp2
      go_loopw [5] (fun t wz => ∃ (k : Nat), k ≤ n ∧ t = .int .i64 (k : Int) ∧ Hid (∃ E : Int, -1 ≤ E ∧ holB (-1) hol = holB E (hol.drop k) ∧ (k = 0 → E = -1) ∧ ∀ p, hol[k - 1]? = some p → 0 < k → E = p) ∧ wr = wz) (fun t _ => n - (intOf t).toNat)
      case atStart => exact ⟨0, by omega, rfl, Lib.hid ⟨-1, by omega, rfl, fun _ => rfl, fun p hp h => by omega⟩, rfl⟩
      case round =>
        obtain ⟨k, hk, rfl, HK, rfl⟩ := hrel
        by_cases hlt : k < n
        · have hlt2 : (k : Int) < (n : Int) := by omega
          obtain ⟨g, off, x, rfl, hg, hx, hxi, c0, hcap⟩ := HH2.out.pick k (by have := HN.out; omega)
          obtain ⟨E, hE1, hst, hE0, hEp⟩ := HK.out
          rw [drop_consI hx] at hst
          simp only [holB] at hst
          by_cases c1 : x < 0
          · have d1 : decide (x < 0) = true := decide_eq_true c1
            have hone : R = 1 := by rw [HR2.out, hst, decide_eq_false (by omega : ¬ E < x)]; simp
            subst hone
            clear hst hx hEp hE0
            go_wp2
            go_ret
            exact ⟨rfl, HB.out⟩
          have d1 : decide (x < 0) = false := decide_eq_false c1
          by_cases c2 : 745654 < x
          · have d2 : decide (745654 < x) = true := decide_eq_true c2
            have hone : R = 1 := by rw [HR2.out, hst, decide_eq_false (by omega : ¬ x ≤ 745654)]; simp
            subst hone
            clear hst hx hEp hE0
            go_wp2
            go_ret
            exact ⟨rfl, HB.out⟩
          have d2 : decide (745654 < x) = false := decide_eq_false c2
          rcases Nat.eq_zero_or_pos k with rfl | hpos
          · have hE := hE0 rfl
            subst hE
            rw [decide_eq_true (by omega : -1 < x), decide_eq_true (by omega : x ≤ 745654)] at hst
            simp only [Bool.true_and] at hst
            rw [Nat.add_zero] at c0
            have HST := Lib.hid (show ∃ E : Int, -1 ≤ E ∧ holB (-1) hol = holB E (hol.drop (0 + 1)) ∧ (0 + 1 = 0 → E = -1) ∧ ∀ p, hol[0 + 1 - 1]? = some p → 0 < 0 + 1 → E = p from ⟨x, by omega, hst, fun h => by omega, fun p hp _ => by rw [Nat.add_sub_cancel, hx] at hp; exact Option.some.inj hp⟩)
            clear hst hx hEp hE0 hE1 HK
            go_wp2
            go_roundw
            case rel => exact ⟨0 + 1, by omega, rfl, HST, trivial⟩
            case measure => simp [intOf]; omega
          · have hk1 : k - 1 < hol.length := by have := HN.out; omega
            have hpv := List.getElem?_eq_getElem hk1
            obtain ⟨p, hp⟩ : ∃ p, hol[k - 1]? = some p := ⟨_, hpv⟩
            have hEpp := hEp p hp hpos
            subst hEpp
            have cp := (HH2.out.at hp).2.1
            obtain ⟨j, rfl⟩ : ∃ j, k = j + 1 := ⟨k - 1, by omega⟩
            rw [Nat.add_sub_cancel] at cp
            have dpos : decide ((0 : Int) < ((j + 1 : Nat) : Int)) = true := decide_eq_true (by omega)
            by_cases c3 : x ≤ E
            · have d3 : decide (x ≤ E) = true := decide_eq_true c3
              have hone : R = 1 := by rw [HR2.out, hst, decide_eq_false (by omega : ¬ E < x)]; simp
              subst hone
              clear hst hx hEp hE0 hpv hp
              go_wp2
              go_ret
              exact ⟨rfl, HB.out⟩
            · have d3 : decide (x ≤ E) = false := decide_eq_false c3
              rw [decide_eq_true (by omega : E < x), decide_eq_true (by omega : x ≤ 745654)] at hst
              simp only [Bool.true_and] at hst
              have HST := Lib.hid (show ∃ E : Int, -1 ≤ E ∧ holB (-1) hol = holB E (hol.drop (j + 1 + 1)) ∧ (j + 1 + 1 = 0 → E = -1) ∧ ∀ p, hol[j + 1 + 1 - 1]? = some p → 0 < j + 1 + 1 → E = p from ⟨x, by omega, hst, fun h => by omega, fun p hp _ => by rw [Nat.add_sub_cancel, hx] at hp; exact Option.some.inj hp⟩)
              clear hst hx hEp hE0 hpv hp HK
              go_wp2
              go_roundw
              case rel => exact ⟨j + 1 + 1, by omega, by go_num, HST, trivial⟩
              case measure => simp [intOf]; omega
        · obtain rfl : k = n := by omega
          have hz : R = 0 := by
            obtain ⟨E, _, hst, _⟩ := HK.out
            rw [HR2.out, hst, List.drop_eq_nil_of_le (by rw [← HN.out]; exact Nat.le_refl _)]; rfl
          subst hz
          have hlt2 : ¬ ((k : Int) < (k : Int)) := by omega
          clear hlt HK HR2
          go_wp2
          go_ret
          exact ⟨rfl, HB.out⟩

end Go.Proofs.Ytijdjbkmkopmnaa.Kal
