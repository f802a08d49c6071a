/-
  Walks: the program's check of a calendar, and of a range.
-/
import Derived.Test.YtciopemodfpecaaDoorKa
namespace Go.Proofs.YtciopemodfpecaaDoor
open Go.RowKit
set_option linter.unusedVariables false
set_option linter.unusedSimpArgs false

theorem drop_consI {l : List Int} {k : Nat} {s : Int} (h : l[k]? = some s) : l.drop k = s :: l.drop (k + 1) := by
  have hk := (List.getElem?_eq_some_iff.1 h).1
  rw [List.drop_eq_getElem_cons hk]
  rw [List.getElem?_eq_getElem hk] at h
  rw [Option.some.inj h]
theorem drop_consS {l : List (Int × Int)} {k : Nat} {s : Int × Int} (h : l[k]? = some s) : l.drop k = s :: l.drop (k + 1) := by
  have hk := (List.getElem?_eq_some_iff.1 h).1
  rw [List.drop_eq_getElem_cons hk]
  rw [List.getElem?_eq_getElem hk] at h
  rw [Option.some.inj h]
theorem chkC_one {op : List (Int × Int)} {hol : List Int} (h : (opB op && holB (-1) hol) = false) : chkC op hol = 1 := by unfold chkC; rw [h]; rfl
theorem chkC_two (op : List (Int × Int)) (hol : List Int) : chkC op hol = 0 ∨ chkC op hol = 1 := by unfold chkC; split <;> simp
theorem chkC_zero (op : List (Int × Int)) (hol : List Int) : chkC op hol = 0 ↔ opB op = true ∧ holB (-1) hol = true := by
  unfold chkC
  rw [← Bool.and_eq_true]
  split <;> simp_all

set_option maxRecDepth 100000 in
set_option maxHeartbeats 4000000 in
theorem ccheck_any (cs : Array Value) (op : List (Int × Int)) (hol : List Int) (w : World) (h : Cal (fun k => k < w.heap.size) w cs op hol) (R : Int) (hR : R = chkC op hol) :
    Calls Tryd.prog 19 #[.agg cs] w fun e w' => e = .returned (.int .i64 R) ∧ Below w.heap.size w w' := by
  have hW : Below w.heap.size w (w.alloc (.cells cs 27)) := ball (Below.refl _ _) _
  have hbox := heap_alloc_new w (.cells cs 27)
  obtain ⟨hrng, _, a, cap, hc14, hhl⟩ := h.box hbox
  have hhl1 : Hl (fun k => k < (w.alloc (.cells cs 27)).heap.size) (w.alloc (.cells cs 27)) (.slice a hol.length cap) hol := hhl.kept (fun k hk => hW.block k hk) (fun k hk => Nat.lt_of_lt_of_le hk hW.size)
  have hlen := h.len
  have hok := h.ok
  have hsz := h.size
  have hlc : (cells op).length = 14 := by rw [cells_length, hlen]
  have hidx := idx24 hlen
  obtain ⟨n, hn⟩ : ∃ n, n = hol.length := ⟨_, rfl⟩
  have hnn := hhl.1
  rw [← hn] at hc14 hhl1 hnn
  obtain ⟨A, hA⟩ : ∃ A, A = (cells op).toArray := ⟨_, rfl⟩
  rw [← hA] at hidx
  have HR := Lib.hid hR; have HN := Lib.hid hn; have HL := Lib.hid hlen; have HOK := Lib.hid hok; have HH := Lib.hid hhl1; have HW := Lib.hid hW; have HIDX := Lib.hid hidx; have HRNG := Lib.hid hrng; have HLC := Lib.hid hlc; have HA := Lib.hid hA
  have hsB : w.heap.size < (w.alloc (.cells cs 27)).heap.size := by simp
  clear hR hn hlen hok hhl1 hhl hW hidx hrng hlc hA hbox hsz h
  generalize hWW : w.alloc (.cells cs 27) = W at *
  go_enter Tryd.func19, Tryd.ntmps19
  go_wp2_with (first | (refine wpList_load_mid rfl 24 (.tmp 8) rfl w.heap.size 0 rfl (cells op) _ HRNG.out Tryd.underlying24 rfl (size24 HLC.out) ?_; rw [← HA.out]))
  clear hWW
  go_loopw [10] (fun s wr => ∃ k : Nat, k ≤ 7 ∧ s = .int .i64 (k : Int) ∧ Hid (opB (op.drop k) = opB op ∧ Below W.heap.size W wr)) (fun s _ => 7 - (intOf s).toNat)
  case atStart => exact ⟨0, by omega, rfl, Lib.hid ⟨rfl, Below.refl _ _⟩⟩
  case round =>
    obtain ⟨k, hk, rfl, HK⟩ := hrel
    by_cases hlt : k < 7
    · have hlt2 : (k : Int) < 7 := by omega
      obtain ⟨s, hs⟩ : ∃ s, op[k]? = some s := ⟨_, List.getElem?_eq_getElem (by rw [HL.out]; exact hlt)⟩
      obtain ⟨x, y⟩ := s
      have hi := fun w => HIDX.out k (x, y) hs w
      have hr := HK.out.1
      rw [drop_consS hs] at hr
      simp only [opB] at hr
      have HB := Lib.hid (HW.out.trans (HK.out.2.mono HW.out.size))
      by_cases c1 : x < 0
      · have d1 : decide (x < 0) = true := decide_eq_true c1
        have hone : R = 1 := by rw [HR.out]; apply chkC_one; rw [← hr, decide_eq_false (by omega : ¬ 0 ≤ x)]; simp
        subst hone
        clear hr hs
        go_wp2
        go_ret
        exact ⟨rfl, HB.out.alloc HB.out.size _⟩
      have d1 : decide (x < 0) = false := decide_eq_false c1
      by_cases c2 : y < x
      · have d2 : decide (y < x) = true := decide_eq_true c2
        have hone : R = 1 := by rw [HR.out]; apply chkC_one; rw [← hr, decide_eq_false (by omega : ¬ x ≤ y)]; simp
        subst hone
        clear hr hs
        go_wp2
        go_ret
        exact ⟨rfl, HB.out.alloc HB.out.size _⟩
      have d2 : decide (y < x) = false := decide_eq_false c2
      by_cases c3 : 1440 < y
      · have d3 : decide (1440 < y) = true := decide_eq_true c3
        have hone : R = 1 := by rw [HR.out]; apply chkC_one; rw [← hr, decide_eq_false (by omega : ¬ y ≤ 1440)]; simp
        subst hone
        clear hr hs
        go_wp2
        go_ret
        exact ⟨rfl, HB.out.alloc HB.out.size _⟩
      have d3 : decide (1440 < y) = false := decide_eq_false c3
      rw [decide_eq_true (by omega : 0 ≤ x), decide_eq_true (by omega : x ≤ y), decide_eq_true (by omega : y ≤ 1440)] at hr
      simp only [Bool.true_and] at hr
      have HRR := Lib.hid hr
      clear hr hs
      go_wp2
      go_roundw
      case rel => exact ⟨k + 1, by omega, by go_num, Lib.hid ⟨HRR.out, HK.out.2.alloc HK.out.2.size _⟩⟩
      case measure => simp [intOf]; omega
    · obtain rfl : k = 7 := by omega
      have hop : opB op = true := by rw [← HK.out.1, List.drop_eq_nil_of_le (by rw [HL.out]; exact Nat.le_refl _)]; rfl
      have d14 : wr.cell? ⟨w.heap.size, 14, none⟩ = some (.slice a n cap) := (HK.out.2.cell (p := ⟨w.heap.size, 14, none⟩) hsB).trans hc14
      have HH2 := Lib.hid (HH.out.kept (F' := fun k => k < wr.heap.size) (fun k hk => HK.out.2.block k hk) (fun k hk => Nat.lt_of_lt_of_le hk HK.out.2.size))
      have HB := Lib.hid (HW.out.trans (HK.out.2.mono HW.out.size))
      have hR2 : R = if holB (-1) hol then 0 else 1 := by rw [HR.out]; unfold chkC; rw [hop, Bool.true_and]
      have HR2 := Lib.hid hR2
      clear HK hop hR2 hlt HH
      have hlt7 : ¬ ((7 : Int) < 7) := by omega
      go_wp2
      go_loopw [5, 32] (fun s t wz => ∃ (k : Nat) (E : Int), k ≤ n ∧ s = .int .i64 E ∧ t = .int .i64 (k : Int) ∧ -1 ≤ E ∧ E ≤ 745654 ∧ Hid (holB (-1) hol = holB E (hol.drop k)) ∧ wr = wz) (fun _ t _ => n - (intOf t).toNat)
      case atStart => exact ⟨0, -1, by omega, rfl, rfl, by omega, by omega, Lib.hid rfl, rfl⟩
      case round =>
        obtain ⟨k, E, hk, rfl, rfl, hE1, hE2, HK, rfl⟩ := hrel
        by_cases hlt : k < n
        · have hlt2 : (k : Int) < (n : Int) := by omega
          obtain ⟨g, off, x, rfl, hg, hx, hxi, c0, hcap⟩ := HH2.out.pick k (by have := HN.out; omega)
          have hst := HK.out
          rw [drop_consI hx] at hst
          simp only [holB] at hst
          have hcall := isDay_any x wr
          by_cases c1 : x ≤ E
          · have d1 : decide (x ≤ E) = true := decide_eq_true c1
            have hone : R = 1 := by rw [HR2.out, hst, decide_eq_false (by omega : ¬ E < x)]; simp
            subst hone
            clear hst hx hcall
            go_wp2
            go_ret
            exact ⟨rfl, HB.out⟩
          have d1 : decide (x ≤ E) = false := decide_eq_false c1
          by_cases c2 : x ≤ 745654
          · rw [decide_eq_true (And.intro (by omega : 0 ≤ x) c2)] at hcall
            rw [decide_eq_true (by omega : E < x), decide_eq_true c2] at hst
            simp only [Bool.true_and] at hst
            have HST := Lib.hid hst; have HC := Lib.hid hcall
            clear hst hcall hx
            go_wp2_with fail
            refine HC.out.mono ?_
            rintro e w1 ⟨rfl, rfl⟩
            go_wp2
            go_roundw
            case rel => exact ⟨k + 1, x, by omega, rfl, by go_num, by omega, by omega, Lib.hid HST.out, trivial⟩
            case measure => simp [intOf]; omega
          · rw [decide_eq_false (fun hh => c2 hh.2)] at hcall
            have hone : R = 1 := by rw [HR2.out, hst, decide_eq_false c2]; simp
            subst hone
            have HC := Lib.hid hcall
            clear hst hcall hx
            go_wp2_with fail
            refine HC.out.mono ?_
            rintro e w1 ⟨rfl, rfl⟩
            go_wp2
            go_ret
            exact ⟨rfl, HB.out⟩
        · obtain rfl : k = n := by omega
          have hz : R = 0 := by rw [HR2.out, HK.out, List.drop_eq_nil_of_le (by rw [← HN.out]; exact Nat.le_refl _)]; rfl
          subst hz
          have hlt2 : ¬ ((k : Int) < (k : Int)) := by omega
          clear hlt HK HR2
          go_wp2
          go_ret
          exact ⟨rfl, HB.out⟩
end Go.Proofs.YtciopemodfpecaaDoor
