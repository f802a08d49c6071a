/-
  Walks: the laws' own leaves, element.
-/
import Derived.Test.YthmpeeipbclhkaaDoorSp
namespace Go.Proofs.YthmpeeipbclhkaaDoor
set_option linter.unusedSimpArgs false
set_option linter.unusedVariables false
open Go.RowKit

theorem lawLeaves_any (l : List (List Int)) (a : Option Addr) (c : Nat) (w : World) (hl : l.length ≤ 64) :
    Calls Tryd.prog 30 #[.slice a l.length c] w fun e w' => e = .returned (.int .i64 ((2 ^ dpt l.length : Nat) : Int)) ∧ w' = w := by
  have h6 := dpt_le6 hl
  have hge := dpt_ge l.length
  have hls := dpt_least l.length
  have hp : 2 ^ dpt l.length ≤ 2 ^ 6 := Nat.pow_le_pow_right (by decide) h6
  obtain ⟨D, hD⟩ : ∃ D, D = dpt l.length := ⟨_, rfl⟩
  obtain ⟨R, hR⟩ : ∃ R, R = 2 ^ dpt l.length := ⟨_, rfl⟩
  obtain ⟨n, hn⟩ : ∃ n, n = l.length := ⟨_, rfl⟩
  rw [← hR]
  rw [← hD] at h6 hls
  rw [← hR] at hge hp
  rw [← hn] at hl hge hls ⊢
  have hR64 : R ≤ 64 := by omega
  have hRD : R = 2 ^ D := by rw [hR, hD]
  have HLS := Lib.hid hls; have HRD := Lib.hid hRD
  clear hls hR hD hp hRD hn
  go_enter Tryd.func30, Tryd.ntmps30
  go_wp2
  go_loopw [3] (fun t wr => ∃ k N : Nat, Hid (N = 2 ^ k ∧ k ≤ D) ∧ 1 ≤ N ∧ N ≤ R ∧ t = .int .i64 N ∧ wr = w) (fun t _ => 128 - (intOf t).toNat)
  case atStart => exact ⟨0, 1, Lib.hid ⟨rfl, by omega⟩, by omega, by have := HRD.out; have := Nat.pow_pos (n := D) (show 0 < 2 by decide); omega, rfl, rfl⟩
  case round =>
    obtain ⟨k, N, HN, h1, hN, rfl, rfl⟩ := hrel
    by_cases hlt : N < n
    · have hlt2 : (N : Int) < (n : Int) := by omega
      have HN2 : Hid (2 * N = 2 ^ (k + 1) ∧ k + 1 ≤ D) := by
        obtain ⟨e1, e2⟩ := HN.out
        have hk : k < D := by
          rcases Nat.lt_or_ge k D with h | h
          · exact h
          · have : k = D := by omega
            subst this
            rw [← HRD.out] at e1
            omega
        exact Lib.hid ⟨by rw [e1, Nat.pow_succ]; omega, hk⟩
      have hN2 : 2 * N ≤ R := by
        have := HRD.out
        have h2 := Nat.pow_le_pow_right (n := 2) (by decide) HN2.out.2
        have := HN2.out.1
        omega
      clear HN
      go_wp2
      go_roundw
      case rel => exact ⟨k + 1, 2 * N, HN2, by omega, hN2, by go_num, trivial⟩
      case measure => simp [intOf]; omega
    · have hlt2 : ¬ ((N : Int) < (n : Int)) := by omega
      have hNR : N = R := by
        obtain ⟨e1, e2⟩ := HN.out
        have := HLS.out k (by omega)
        have : k = D := by omega
        subst this
        rw [e1, HRD.out]
      subst hNR
      go_wp2
      go_ret
      exact ⟨rfl, rfl⟩

set_option maxRecDepth 100000 in
set_option maxHeartbeats 2000000 in
theorem element_any (l : List (List Int)) (v : Value) (k : Nat) (w : World) (hk0 : KOk w) (hv : Dl (fun k => k < w.heap.size) w v l) (hk : k < 4611686018427387904) :
    Calls Tryd.prog 31 #[v, .int .i64 (k : Int)] w fun e w' => e = .returned (.agg (byteVals (l.getD k pdd)).toArray) ∧ Below w.heap.size w w' := by
  have hb0 : Below w.heap.size w (w.alloc (.cells #[Value.int .u8 0, Value.int .u8 0, Value.int .u8 0, Value.int .u8 0, Value.int .u8 0, Value.int .u8 0, Value.int .u8 0, Value.int .u8 0, Value.int .u8 0, Value.int .u8 0, Value.int .u8 0, Value.int .u8 0, Value.int .u8 0, Value.int .u8 0, Value.int .u8 0, Value.int .u8 0, Value.int .u8 0, Value.int .u8 0, Value.int .u8 0, Value.int .u8 0, Value.int .u8 0, Value.int .u8 0, Value.int .u8 0, Value.int .u8 0, Value.int .u8 0, Value.int .u8 0, Value.int .u8 0, Value.int .u8 0, Value.int .u8 0, Value.int .u8 0, Value.int .u8 0, Value.int .u8 0] 26)) := ball (Below.refl _ _) _
  have hbl := pdd_dg.1
  obtain ⟨a, cap, hvs, hcap, hcell⟩ := hv.2.2
  subst hvs
  have hlen := hv.1
  have HV := Lib.hid hv; have HC := Lib.hid hcell
  have hp : ∀ w', Below w.heap.size w w' → Calls Tryd.prog 20 #[] w' fun e w'' => e = .returned (.agg (byteVals pdd).toArray) ∧ Below w'.heap.size w' w'' := fun w' hb => pad_any w' (hk0.below hb)
  obtain ⟨PD, hPD⟩ : ∃ PD, PD = pdd := ⟨_, rfl⟩
  rw [← hPD] at hp hbl ⊢
  have HP := Lib.hid hp
  have Hb0 := Lib.hid hb0
  clear hv hcell hp hPD hb0 hk0
  by_cases hlt : k < l.length
  · have hlt2 : (k : Int) < (l.length : Int) := by omega
    obtain ⟨g, off, rfl, hg, hcs⟩ := HC.out (by omega)
    obtain ⟨x, hx⟩ : ∃ x, l[k]? = some x := ⟨_, List.getElem?_eq_getElem hlt⟩
    have hr := hcs k x hx
    have hgd : l.getD k PD = x := by rw [List.getD_eq_getElem?_getD, hx]; rfl
    have hxl : x.length = 32 := (HV.out.2.1 x (List.mem_of_getElem? hx)).1
    rw [hgd]
    have hr2 : (w.alloc (.cells #[Value.int .u8 0, Value.int .u8 0, Value.int .u8 0, Value.int .u8 0, Value.int .u8 0, Value.int .u8 0, Value.int .u8 0, Value.int .u8 0, Value.int .u8 0, Value.int .u8 0, Value.int .u8 0, Value.int .u8 0, Value.int .u8 0, Value.int .u8 0, Value.int .u8 0, Value.int .u8 0, Value.int .u8 0, Value.int .u8 0, Value.int .u8 0, Value.int .u8 0, Value.int .u8 0, Value.int .u8 0, Value.int .u8 0, Value.int .u8 0, Value.int .u8 0, Value.int .u8 0, Value.int .u8 0, Value.int .u8 0, Value.int .u8 0, Value.int .u8 0, Value.int .u8 0, Value.int .u8 0] 26)).rangeAt g (off + k * 32) (byteVals x) := rangeAt_kept hr (heap_alloc_old _ _ hg)
    have hnew : RowB (w.alloc (.cells #[Value.int .u8 0, Value.int .u8 0, Value.int .u8 0, Value.int .u8 0, Value.int .u8 0, Value.int .u8 0, Value.int .u8 0, Value.int .u8 0, Value.int .u8 0, Value.int .u8 0, Value.int .u8 0, Value.int .u8 0, Value.int .u8 0, Value.int .u8 0, Value.int .u8 0, Value.int .u8 0, Value.int .u8 0, Value.int .u8 0, Value.int .u8 0, Value.int .u8 0, Value.int .u8 0, Value.int .u8 0, Value.int .u8 0, Value.int .u8 0, Value.int .u8 0, Value.int .u8 0, Value.int .u8 0, Value.int .u8 0, Value.int .u8 0, Value.int .u8 0, Value.int .u8 0, Value.int .u8 0] 26)) w.heap.size 26 (List.replicate 32 0) := RowB.new' (l := List.replicate 32 0) _ rfl rfl
    have Hr := Lib.hid hr2
    clear hr hcs hgd hx hr2
    go_enter Tryd.func31, Tryd.ntmps31
    go_wp2_with (first | (refine wpList_load_mid rfl 26 (.tmp 15) rfl g (off + k * 32) rfl (byteVals x) _ Hr.out Tryd.underlying26 rfl (size26 _ hxl) ?_) | (refine wpList_store_row rfl 26 (.tmp 4) (.tmp 16) rfl w.heap.size _ rfl rfl 26 _ hnew (size25 _ hxl) (by rw [bvsz _ hxl, bvsz _ zl32]) (all_byteVals _) ?_))
    refine bodyPost_ret (results_cell_row rfl _ _ w.heap.size 26 _ (0, 0) _ rfl (RowB.put hnew) Tryd.underlying26 rfl (size25 _ hxl)) rfl ?_
    exact ⟨rfl, bsetRow Hb0.out (Nat.le_refl _) _⟩
  · have hlt2 : ¬ ((k : Int) < (l.length : Int)) := by omega
    have hgd : l.getD k PD = PD := by rw [List.getD_eq_getElem?_getD, List.getElem?_eq_none (by omega)]; rfl
    rw [hgd]
    clear hgd
    have hS := SumS.new w #[Value.int .u8 0, Value.int .u8 0, Value.int .u8 0, Value.int .u8 0, Value.int .u8 0, Value.int .u8 0, Value.int .u8 0, Value.int .u8 0, Value.int .u8 0, Value.int .u8 0, Value.int .u8 0, Value.int .u8 0, Value.int .u8 0, Value.int .u8 0, Value.int .u8 0, Value.int .u8 0, Value.int .u8 0, Value.int .u8 0, Value.int .u8 0, Value.int .u8 0, Value.int .u8 0, Value.int .u8 0, Value.int .u8 0, Value.int .u8 0, Value.int .u8 0, Value.int .u8 0, Value.int .u8 0, Value.int .u8 0, Value.int .u8 0, Value.int .u8 0, Value.int .u8 0, Value.int .u8 0] rfl
    go_enter Tryd.func31, Tryd.ntmps31
    go_wp2_with (first | (go_at_call 20; refine (HP.out _ Hb0.out).mono ?_; rintro e w3 ⟨rfl, hb3⟩; obtain ⟨l0, hl0, hrl⟩ := (hS.call hb3).row; have HB3 := Lib.hid (hS.call hb3).below; clear hb3) | (refine wpList_store_row rfl 26 (.tmp 4) (.tmp 17) rfl w.heap.size _ rfl rfl 26 _ hrl (size25 _ hbl) (by rw [bvsz _ hbl, bvsz _ hl0]) (all_byteVals _) ?_))
    refine bodyPost_ret (results_cell_row rfl _ _ w.heap.size 26 _ (0, 0) _ rfl (RowB.put hrl) Tryd.underlying26 rfl (size25 _ hbl)) rfl ?_
    exact ⟨rfl, bsetRow HB3.out (Nat.le_refl _) _⟩
end Go.Proofs.YthmpeeipbclhkaaDoor
