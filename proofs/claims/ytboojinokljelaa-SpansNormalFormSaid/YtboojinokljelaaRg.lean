/-
  Walks: Advance of the reference.
-/
import Derived.Test.YtboojinokljelaaRf
import Derived.Test.YtboojinokljelaaAd
namespace Go.Proofs.Ytboojinokljelaa
open Go.RowKit

set_option maxRecDepth 100000 in
set_option maxHeartbeats 2000000 in
theorem radvance_any (l : List (Int × Int)) (a : Option Addr) (cap : Nat) (f n : Int) (w : World) (hv : Sl (fun k => k < w.heap.size) w (.slice a l.length cap) l) (hl : l.length ≤ 400) (hf : I64 f) (hn : I64 n) :
    Calls Try.prog 26 #[.slice a l.length cap, .int .i64 f, .int .i64 n] w fun e w' => e = .returned (.tuple #[.int .i64 (advM (ahead l f) f n), .bool (advB (ahead l f) n)]) ∧ Below w.heap.size w w' := by
  by_cases h0 : n < 0
  · unfold advM advB
    rw [if_pos h0, if_pos h0]
    clear hv
    go_enter Try.func26, Try.ntmps26
    go_wp2
    go_ret2
    exact ⟨rfl, Below.refl _ _⟩
  · by_cases h00 : n = 0
    · subst h00
      unfold advM advB
      rw [if_neg h0, if_neg h0, if_pos rfl, if_pos rfl]
      clear hv
      go_enter Try.func26, Try.ntmps26
      go_wp2
      go_ret2
      exact ⟨rfl, Below.refl _ _⟩
    · have h1 := rnormal_any l a cap w hv hl
      have hnl := norm_length l
      have hnr := norm_nr l
      have hra := radv_ahead l f n
      have hM : advM (ahead l f) f n = (radv f (norm l) n).getD 0 := by unfold advM; rw [if_neg h0, if_neg h00, hra]
      have hB : advB (ahead l f) n = (radv f (norm l) n).isSome := by unfold advB; rw [if_neg h0, if_neg h00, hra]
      rw [hM, hB]
      have H1 := Lib.hid h1
      obtain ⟨x, hx⟩ : ∃ x, x = norm l := ⟨_, rfl⟩
      rw [← hx] at H1 hnl hnr ⊢
      have HNR := Lib.hid hnr
      have hpos : 0 < n := by omega
      have hn2 : n ≤ 9223372036854775807 := hn.2
      obtain ⟨q0, hq0⟩ : ∃ q0, q0 = radv f x n := ⟨_, rfl⟩
      rw [← hq0]
      have HQ := Lib.hid hq0
      clear h1 hv hnr hx hra hM hB hq0
      go_enter Try.func26, Try.ntmps26
      go_wp2_with fail
      refine H1.out.mono ?_
      rintro e w1 ⟨v1, rfl, hA1⟩
      have hs1 := hA1.sl2 (nr_i64' HNR.out) (by omega)
      obtain ⟨o1, c1, rfl⟩ := hs1.shape
      obtain ⟨N, hN⟩ : ∃ N, N = x.length := ⟨_, rfl⟩
      have HN := Lib.hid hN
      rw [← hN] at hs1 ⊢
      have HS := Lib.hid hs1; have HB1 := Lib.hid hA1.below
      have hn5 : N ≤ 500 := by omega
      clear hA1 hs1 hN H1 hnl
      go_wp2
      go_loopw [2, 9] (fun r t wr => ∃ (k : Nat) (v : Int), k ≤ N ∧ t = .int .i64 k ∧ r = .int .i64 v ∧ 0 < v ∧ v ≤ n ∧ Hid (q0 = radv f (x.drop k) v) ∧ wr = w1) (fun _ t _ => N - (intOf t).toNat)
      case atStart => exact ⟨0, n, by omega, rfl, rfl, hpos, by omega, Lib.hid (by rw [List.drop_zero]; exact HQ.out), rfl⟩
      case round =>
        obtain ⟨k, v, hk, rfl, rfl, hv1, hv2, HF, rfl⟩ := hrel
        by_cases hlt : k < N
        · have hlt2 : (k : Int) < (N : Int) := by omega
          obtain ⟨g, off, p, q, rfl, hg, hpq, hpi, hqi, c0, c1', hcap⟩ := HS.out.pick k (by have := HN.out; omega)
          have hm := nr_of x (-1) HNR.out (p, q) (List.mem_of_getElem? hpq)
          simp only at hm
          obtain ⟨b, hb⟩ : ∃ b, b = max p f := ⟨_, rfl⟩
          have hstep := HF.out
          rw [drop_cons hpq, radv_cons f v p q _ b hb] at hstep
          have hmx : max p f = b := hb.symm
          have b1 : 0 ≤ b := by omega
          have b3 : q ≤ 1073741824 := hm.2.2
          have HST := Lib.hid hstep
          clear hpq hm hstep HF hb
          by_cases hqb : q ≤ b
          · rw [if_pos hqb] at HST
            go_wp2
            go_roundw
            case rel => exact ⟨k + 1, v, by omega, by go_num, rfl, hv1, hv2, HST, trivial⟩
            case measure => simp [intOf]; omega
          · rw [if_neg hqb] at HST
            have hqb2 : b < q := by omega
            by_cases hvl : v ≤ q - b
            · rw [if_pos hvl] at HST
              have hq1 := HST.out
              subst hq1
              clear HQ HST
              go_wp2
              go_ret2
              exact ⟨rfl, HB1.out⟩
            · rw [if_neg hvl] at HST
              go_wp2
              go_roundw
              case rel => exact ⟨k + 1, v - (q - b), by omega, by go_num, by go_num, by omega, by omega, HST, trivial⟩
              case measure => simp [intOf]; omega
        · have hk2 : k = N := by omega
          subst hk2
          have hT : x.drop k = [] := List.drop_eq_nil_of_le (by rw [HN.out]; exact Nat.le_refl _)
          have hq1 : q0 = none := by rw [HF.out, hT]; rfl
          subst hq1
          have hlt2 : ¬ ((k : Int) < (k : Int)) := by omega
          clear HF HQ hT
          go_wp2
          go_ret2
          exact ⟨rfl, HB1.out⟩
end Go.Proofs.Ytboojinokljelaa
