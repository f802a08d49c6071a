/-
  Walks: Check of the reference.
-/
import Derived.Test.YtboojinokljelaaPn
import Derived.Test.YtboojinokljelaaCa
namespace Go.Proofs.Ytboojinokljelaa
open Go.RowKit

set_option maxRecDepth 100000 in
set_option maxHeartbeats 2000000 in
theorem rcheck_any (l : List (Int × Int)) (a : Option Addr) (cap : Nat) (w : World) (hv : Sl (fun k => k < w.heap.size) w (.slice a l.length cap) l) :
    Calls Try.prog 22 #[.slice a l.length cap] w fun e w' => e = .returned (.int .i64 (chk (-1) l)) ∧ Below w.heap.size w w' := by
  have HV := Lib.hid hv
  have hl := hv.1
  clear hv
  obtain ⟨n, hn⟩ : ∃ n, n = l.length := ⟨_, rfl⟩
  obtain ⟨R, hR⟩ : ∃ R, R = chk (-1) l := ⟨_, rfl⟩
  have HN := Lib.hid hn; have HR := Lib.hid hR
  rw [← hn] at hl
  rw [← hR]
  go_enter Try.func22, Try.ntmps22
  rw [← hn]
  clear hn hR
  go_wp2
  go_loopw [3] (fun t wr => ∃ (k : Nat) (F : Int), k ≤ n ∧ t = .int .i64 k ∧ Hid (-1 ≤ F ∧ R = chk F (l.drop k) ∧ (k = 0 → F = -1) ∧ ∀ (j : Nat) (s : Int × Int), k = j + 1 → l[j]? = some s → F = s.2) ∧ Hid (Below w.heap.size w wr)) (fun t _ => n - (intOf t).toNat)
  case atStart => exact ⟨0, -1, by omega, rfl, Lib.hid ⟨by omega, by rw [List.drop_zero]; exact HR.out, fun _ => rfl, fun j s h => by omega⟩, Lib.hid (Below.refl _ _)⟩
  case round =>
    obtain ⟨k, F, hk, rfl, HF, H⟩ := hrel
    by_cases hlt : k < n
    · have hlt2 : (k : Int) < (n : Int) := by omega
      obtain ⟨g, off, x, y, rfl, hg, hx, hxi, hyi, c0, c1, hcap⟩ := HV.out.pick k (by have := HN.out; omega)
      have d0 : wr.cell? ⟨g, off + k * 2, none⟩ = some (.int .i64 x) := (H.out.cell (p := ⟨g, off + k * 2, none⟩) hg).trans c0
      have d1 : wr.cell? ⟨g, off + k * 2 + 1, none⟩ = some (.int .i64 y) := (H.out.cell (p := ⟨g, off + k * 2 + 1, none⟩) hg).trans c1
      have hstep := HF.out.2.1
      have hF1 := HF.out.1
      rw [drop_cons hx, chk_cons] at hstep
      have hnext : ∀ (j : Nat) (s : Int × Int), k + 1 = j + 1 → l[j]? = some s → y = s.2 := by
        intro j s hj hs
        obtain rfl : k = j := by omega
        rw [hx] at hs
        rw [← Option.some.inj hs]
      have HS := Lib.hid hstep; have HX := Lib.hid hnext
      clear hstep hnext c0 c1
      by_cases h0 : x < 0
      · have g0 : decide (x < 0) = true := decide_eq_true h0
        have hR1 : R = 1 := by rw [HS.out, if_pos (by omega)]
        subst hR1
        clear HS HF HX hF1
        go_wp2_with fail
        go_quiet (fail)
        have HD : Hid (Below w.heap.size w (wr.drewN nq)) := Lib.hid (bdrewN H.out nq)
        clear H d0 d1
        generalize wr.drewN nq = w7 at *
        go_wp2
        go_ret
        exact ⟨rfl, HD.out⟩
      · have g0 : decide (x < 0) = false := decide_eq_false h0
        by_cases h1 : y ≤ x
        · have g1 : decide (y ≤ x) = true := decide_eq_true h1
          have hR1 : R = 1 := by
            rw [HS.out]
            by_cases h : x ≤ F
            · rw [if_pos h]
            · rw [if_neg h, if_pos h1]
          subst hR1
          clear HS HF HX hF1
          go_wp2_with fail
          go_quiet (fail)
          have HD : Hid (Below w.heap.size w (wr.drewN nq)) := Lib.hid (bdrewN H.out nq)
          clear H d0 d1
          generalize wr.drewN nq = w7 at *
          go_wp2
          go_ret
          exact ⟨rfl, HD.out⟩
        · have g1 : decide (y ≤ x) = false := decide_eq_false h1
          by_cases h2 : 1073741824 < y
          · have g2 : decide (1073741824 < y) = true := decide_eq_true h2
            have hR1 : R = 1 := by
              rw [HS.out]
              by_cases h : x ≤ F
              · rw [if_pos h]
              · rw [if_neg h, if_neg h1, if_pos h2]
            subst hR1
            clear HS HF HX hF1
            go_wp2_with fail
            go_quiet (fail)
            have HD : Hid (Below w.heap.size w (wr.drewN nq)) := Lib.hid (bdrewN H.out nq)
            clear H d0 d1
            generalize wr.drewN nq = w7 at *
            go_wp2
            go_ret
            exact ⟨rfl, HD.out⟩
          · have g2 : decide (1073741824 < y) = false := decide_eq_false h2
            by_cases hk0 : k = 0
            · have hF := HF.out.2.2.1 hk0
              subst hF
              have hR1 : R = chk y (l.drop (k + 1)) := by rw [HS.out, if_neg (by omega), if_neg h1, if_neg h2]
              have HR1 := Lib.hid hR1
              have g3 : decide (0 < k) = false := decide_eq_false (by omega)
              have HK0 := Lib.hid hk0
              clear HS HF hF1 hR1 hk0
              go_wp2_with fail
              go_quiet (fail)
              have HD : Hid (Below w.heap.size w (wr.drewN nq)) := Lib.hid (bdrewN H.out nq)
              clear H d0 d1
              generalize wr.drewN nq = w7 at *
              go_wp2
              go_roundw
              case rel => exact ⟨k + 1, y, by omega, by go_num, Lib.hid ⟨by omega, HR1.out, fun h => by omega, HX.out⟩, HD⟩
              case measure => simp [intOf]; omega
            · obtain ⟨j, hj⟩ : ∃ j, k = j + 1 := ⟨k - 1, by omega⟩
              obtain ⟨g', off', x0, y0, hag, hg', hx0, _, _, c0, c1, _⟩ := HV.out.pick j (by have := HN.out; omega)
              simp only [Option.some.injEq, Addr.mk.injEq, and_true] at hag
              obtain ⟨rfl, rfl⟩ := hag
              have d2 : wr.cell? ⟨g, off + j * 2, none⟩ = some (.int .i64 x0) := (H.out.cell (p := ⟨g, off + j * 2, none⟩) hg).trans c0
              have d3 : wr.cell? ⟨g, off + j * 2 + 1, none⟩ = some (.int .i64 y0) := (H.out.cell (p := ⟨g, off + j * 2 + 1, none⟩) hg).trans c1
              have hF := HF.out.2.2.2 j _ hj hx0
              simp only at hF
              subst hF
              have hk1 : (k : Int) - 1 = (j : Int) := by omega
              have hk2 : (0 : Int) < (k : Int) := by omega
              clear c0 c1 hx0 hx HF hj hk0
              have g3 : decide (0 < k) = true := decide_eq_true (by omega)
              clear hk2
              by_cases h3 : x ≤ F
              · have g4 : decide (x ≤ F) = true := decide_eq_true h3
                have hR1 : R = 1 := by rw [HS.out, if_pos h3]
                subst hR1
                clear HS HX hF1
                go_wp2_with fail
                go_quiet (fail)
                have HD : Hid (Below w.heap.size w (wr.drewN nq)) := Lib.hid (bdrewN H.out nq)
                clear H d0 d1 d2 d3
                generalize wr.drewN nq = w7 at *
                go_wp2
                go_ret
                exact ⟨rfl, HD.out⟩
              · have g4 : decide (x ≤ F) = false := decide_eq_false h3
                have hR1 : R = chk y (l.drop (k + 1)) := by rw [HS.out, if_neg h3, if_neg h1, if_neg h2]
                have HR1 := Lib.hid hR1
                clear HS hF1 hR1
                go_wp2_with fail
                go_quiet (fail)
                have HD : Hid (Below w.heap.size w (wr.drewN nq)) := Lib.hid (bdrewN H.out nq)
                clear H d0 d1 d2 d3
                generalize wr.drewN nq = w7 at *
                go_wp2
                go_roundw
                case rel => exact ⟨k + 1, y, by omega, by go_num, Lib.hid ⟨by omega, HR1.out, fun h => by omega, HX.out⟩, HD⟩
                case measure => simp [intOf]; omega
    · have hk2 : k = n := by omega
      subst hk2
      have hT : l.drop k = [] := List.drop_eq_nil_of_le (by rw [HN.out]; exact Nat.le_refl _)
      have hR1 : R = 0 := by rw [HF.out.2.1, hT]; rfl
      subst hR1
      have hlt2 : ¬ ((k : Int) < (k : Int)) := by omega
      clear HF
      go_wp2
      go_ret
      exact ⟨rfl, H.out⟩
end Go.Proofs.Ytboojinokljelaa
