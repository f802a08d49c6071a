/-
  Walks: Check.
-/
import Derived.Test.YtciopemodfpecaaDoorPn
import Derived.Test.YtciopemodfpecaaDoorCa
namespace Go.Proofs.YtciopemodfpecaaDoor
open Go.RowKit
set_option linter.unusedVariables false
set_option linter.unusedSimpArgs false

set_option maxRecDepth 100000 in
set_option maxHeartbeats 1000000 in
theorem check_any (l : List (Int × Int)) (a : Option Addr) (cap : Nat) (w : World) (hv : Sl (fun k => k < w.heap.size) w (.slice a l.length cap) l) :
    Calls Tryd.prog 34 #[.slice a l.length cap] w fun e w' => e = .returned (.int .i64 (chk (-1) l)) ∧ Below w.heap.size w w' := by
  have HV := Lib.hid hv
  have hl := hv.1
  clear hv
  obtain ⟨n, hn⟩ : ∃ n, n = l.length := ⟨_, rfl⟩
  obtain ⟨R, hR⟩ : ∃ R, R = chk (-1) l := ⟨_, rfl⟩
  have HN := Lib.hid hn; have HR := Lib.hid hR
  rw [← hn] at hl
  rw [← hR]
  go_enter Tryd.func34, Tryd.ntmps34
  rw [← hn]
  clear hn hR
  go_wp2
  go_loopw [3, 8] (fun f t wr => ∃ (k : Nat) (F : Int), k ≤ n ∧ t = .int .i64 k ∧ f = .int .i64 F ∧ Hid (R = chk F (l.drop k)) ∧ Hid (Below w.heap.size w wr)) (fun _ t _ => n - (intOf t).toNat)
  case atStart => exact ⟨0, -1, by omega, rfl, rfl, Lib.hid (by rw [List.drop_zero]; exact HR.out), Lib.hid (Below.refl _ _)⟩
  case round =>
    obtain ⟨k, F, hk, rfl, rfl, HF, H⟩ := hrel
    by_cases hlt : k < n
    · have hlt2 : (k : Int) < (n : Int) := by omega
      obtain ⟨g, off, x, y, rfl, hg, hx, hxi, hyi, c0, c1, hcap⟩ := HV.out.pick k (by have := HN.out; omega)
      have d0 : wr.cell? ⟨g, off + k * 2, none⟩ = some (.int .i64 x) := (H.out.cell (p := ⟨g, off + k * 2, none⟩) hg).trans c0
      have d1 : wr.cell? ⟨g, off + k * 2 + 1, none⟩ = some (.int .i64 y) := (H.out.cell (p := ⟨g, off + k * 2 + 1, none⟩) hg).trans c1
      have hstep := HF.out
      rw [drop_cons hx, chk_cons] at hstep
      have HB := Lib.hid (ball H.out (.cells #[.int .i64 x, .int .i64 y] 23))
      have HS := Lib.hid hstep
      have hc2 := cell_new2 wr (.int .i64 x) (.int .i64 y) 23 _ rfl
      clear hx c0 c1 HF hstep
      by_cases h1 : x ≤ F
      · rw [if_pos h1] at HS
        have hR1 := HS.out
        subst hR1
        go_wp2
        go_ret
        exact ⟨rfl, HB.out⟩
      · rw [if_neg h1] at HS
        have h1' : F < x := by omega
        clear h1
        go_wp2_with fail
        refine (empty_any x y _).mono ?_
        rintro e w2 ⟨rfl, hb2⟩
        have e0 := (hb2.cell (p := ⟨wr.heap.size, 0, none⟩) (by simp)).trans hc2.1
        have e1 := (hb2.cell (p := ⟨wr.heap.size, 1, none⟩) (by simp)).trans hc2.2
        have HB2 := Lib.hid (HB.out.trans (hb2.mono HB.out.size))
        clear HB hb2 hc2
        by_cases h2 : y ≤ x
        · rw [if_pos h2] at HS
          rw [decide_eq_true h2]
          have hR1 := HS.out
          subst hR1
          go_wp2
          go_ret
          exact ⟨rfl, HB2.out⟩
        · rw [if_neg h2] at HS
          rw [decide_eq_false h2]
          by_cases h3 : 1073741824 < y
          · rw [if_pos h3] at HS
            have hR1 := HS.out
            subst hR1
            go_wp2
            go_ret
            exact ⟨rfl, HB2.out⟩
          · rw [if_neg h3] at HS
            go_wp2
            go_roundw
            case rel => exact ⟨k + 1, y, by omega, by go_num, rfl, HS, HB2⟩
            case measure => simp [intOf]; omega
    · have hk2 : k = n := by omega
      subst hk2
      have hT : l.drop k = [] := List.drop_eq_nil_of_le (by rw [HN.out]; exact Nat.le_refl _)
      rw [hT] at HF
      have hR1 : R = 0 := HF.out
      subst hR1
      have hlt2 : ¬ ((k : Int) < (k : Int)) := by omega
      go_wp2
      go_ret
      exact ⟨rfl, H.out⟩
end Go.Proofs.YtciopemodfpecaaDoor
