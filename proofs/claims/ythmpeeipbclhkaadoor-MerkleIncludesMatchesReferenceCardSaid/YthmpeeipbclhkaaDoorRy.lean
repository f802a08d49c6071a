/-
  Walks of the reference's functions: Pair, power, Depth, Pad, Parent, sibling, Climb, Includes.
-/
import Derived.Test.YthmpeeipbclhkaaDoorFd
import Derived.Test.YthmpeeipbclhkaaDoorGa
import Derived.Test.YthmpeeipbclhkaaDoorFg
import Derived.Test.YthmpeeipbclhkaaDoorSp
import Derived.Deep.CutRange
import Derived.Test.YthmpeeipbclhkaaDoorIn
import Derived.StillTailTactics
import Derived.Test.YthmpeeipbclhkaaDoorEq
namespace Go.Proofs.YthmpeeipbclhkaaDoor
set_option linter.unusedSimpArgs false
set_option linter.unusedVariables false
open Go.RowKit

theorem PdS.bs {w : World} {v : Value} {l : List Int} {wr : World} (h : PdS w v l wr) (hl : l.length ≤ 140737488355328) (hr : ∀ u ∈ l, 0 ≤ u ∧ u ≤ 255) : Bs (fun k => w.heap.size ≤ k ∧ k < wr.heap.size) wr v l :=
  (Bs.ofOwn h.1 hl hr).kept (fun _ _ => rfl) (fun k hk => ⟨hk.1, hk.2.1⟩)

set_option maxRecDepth 100000 in
set_option maxHeartbeats 2000000 in
theorem pair_any (a b : List Int) (w : World) (ha : Dg a) (hb : Dg b) :
    Calls Tryd.prog 33 #[.agg (byteVals a).toArray, .agg (byteVals b).toArray] w fun e w' => ∃ u, e = .returned u ∧ Below w.heap.size w w' ∧ Bs (fun k => k < w'.heap.size) w' u (a ++ b) := by
  have hal := ha.1; have hbl := hb.1
  have hrA : RowB ((w.alloc (.cells (byteVals a).toArray 26)).alloc (.cells (byteVals b).toArray 26)) w.heap.size 26 a := (RowB.new w 26 a).kept (heap_alloc_old _ _ (by simp))
  have hrB : RowB ((w.alloc (.cells (byteVals a).toArray 26)).alloc (.cells (byteVals b).toArray 26)) (w.heap.size + 1) 26 b := RowB.new' _ (by simp) rfl
  have hbW : Below w.heap.size w ((w.alloc (.cells (byteVals a).toArray 26)).alloc (.cells (byteVals b).toArray 26)) := (ball (Below.refl _ _) _).alloc (by simp) _
  have hsW : ((w.alloc (.cells (byteVals a).toArray 26)).alloc (.cells (byteVals b).toArray 26)).heap.size = w.heap.size + 1 + 1 := by simp
  have HA := Lib.hid hrA; have HB := Lib.hid hrB; have HW := Lib.hid hbW; have HDA := Lib.hid ha; have HDB := Lib.hid hb
  clear hrA hrB hbW ha hb
  go_enter Tryd.func33, Tryd.ntmps33
  go_wp2_with fail
  generalize ((w.alloc (.cells (byteVals a).toArray 26)).alloc (.cells (byteVals b).toArray 26)) = W at *
  have hP0 : Hid (PdS W (.slice (some ⟨W.heap.size, 0, none⟩) 0 0) ([] : List Int) (W.alloc (.cells #[] 5))) := Lib.hid ⟨World.ownsRow_made W #[] 0 (Nat.le_refl _) (by unfold maxLen; omega) (by simp), ball (Below.refl _ _) _⟩
  go_loopw [5, 6] (fun x i wr => ∃ k : Nat, k ≤ 32 ∧ i = .int .i64 k ∧ Hid (PdS W x (a.take k) wr)) (fun _ i _ => 32 - (intOf i).toNat)
  case atStart => exact ⟨0, by omega, rfl, by rw [← hsW]; exact hP0⟩
  case round =>
    obtain ⟨k, hk, rfl, H⟩ := hrel
    obtain ⟨xa, xc, rfl⟩ := H.out.len
    by_cases hlt : k < 32
    · have hx : a[k]? = some (a[k]'(by omega)) := List.getElem?_eq_getElem (by omega)
      have hr := HDA.out.2 _ (List.getElem_mem (l := a) (n := k) (by omega))
      generalize (a[k]'(by omega)) = x at hx hr
      have hc : wr.cell? ⟨w.heap.size, k, none⟩ = some (.int .u8 x) := (World.cell?_of_block (w := W) (H.out.2.block _ (by show w.heap.size < _; omega))).trans (HA.out.cell hx)
      obtain ⟨v', w', hr2, hP⟩ := append_one W wr _ _ x hr H.out (by rw [List.length_take]; omega)
      have htk : a.take k ++ [x] = a.take (k + 1) := by rw [List.take_add_one, hx]; rfl
      rw [htk] at hP
      have hlt2 : (k : Int) < 32 := by omega
      generalize (a.take k).length = m at hr2 H ⊢
      have R := Lib.hid hr2; have HP := Lib.hid hP
      clear hr2 hP hx htk hr
      go_wp2_with (at_builtin; refine wp_app rfl rfl rfl (.tmp 13) (.tmp 17) rfl rfl rfl R.out ?_)
      go_roundw
      case rel => exact ⟨k + 1, by omega, by go_num, HP⟩
      case measure => simp [intOf]; omega
    · have hk2 : k = 32 := by omega
      subst hk2
      have hT : a.take 32 = a := List.take_of_length_le (by omega)
      rw [hT] at H
      rw [hT]
      clear hlt hP0
      go_wp2
      rw [show ((32 : Nat) : Int) = 32 from rfl]
      go_loopw [5, 7] (fun x i wr => ∃ k : Nat, k ≤ 32 ∧ i = .int .i64 k ∧ Hid (PdS W x (a ++ b.take k) wr)) (fun _ i _ => 32 - (intOf i).toNat)
      case atStart => exact ⟨0, by omega, rfl, by rw [List.take_zero, List.append_nil]; exact H⟩
      case round =>
        clear H
        obtain ⟨k, hk, rfl, H⟩ := hrel
        obtain ⟨ya, yc, rfl⟩ := H.out.len
        by_cases hlt : k < 32
        · have hx : b[k]? = some (b[k]'(by omega)) := List.getElem?_eq_getElem (by omega)
          have hr := HDB.out.2 _ (List.getElem_mem (l := b) (n := k) (by omega))
          generalize (b[k]'(by omega)) = x at hx hr
          have hc : wr.cell? ⟨w.heap.size + 1, k, none⟩ = some (.int .u8 x) := (World.cell?_of_block (w := W) (H.out.2.block _ (by show w.heap.size + 1 < _; omega))).trans (HB.out.cell hx)
          obtain ⟨v', w', hr2, hP⟩ := append_one W wr _ _ x hr H.out (by rw [List.length_append, List.length_take]; omega)
          have htk : a ++ b.take k ++ [x] = a ++ b.take (k + 1) := by rw [List.take_add_one, hx, List.append_assoc]; rfl
          rw [htk] at hP
          have hlt2 : (k : Int) < 32 := by omega
          generalize (a ++ b.take k).length = m at hr2 H ⊢
          have R := Lib.hid hr2; have HP := Lib.hid hP
          clear hr2 hP hx htk hr
          go_wp2_with (at_builtin; refine wp_app rfl rfl rfl (.tmp 23) (.tmp 27) rfl rfl rfl R.out ?_)
          go_roundw
          case rel => exact ⟨k + 1, by omega, by go_num, HP⟩
          case measure => simp [intOf]; omega
        · have hk2 : k = 32 := by omega
          subst hk2
          have hT : b.take 32 = b := List.take_of_length_le (by omega)
          rw [hT] at H
          rw [hT]
          go_wp2
          go_ret
          exact ⟨_, rfl, HW.out.trans (H.out.2.mono (by omega)), (H.out.bs (by rw [List.length_append]; omega) (by
            intro u hu
            rcases List.mem_append.1 hu with h | h
            · exact HDA.out.2 u h
            · exact HDB.out.2 u h)).kept (fun _ _ => rfl) (fun k hk => hk.2)⟩
end Go.Proofs.YthmpeeipbclhkaaDoor

namespace Go.Proofs.YthmpeeipbclhkaaDoor
set_option linter.unusedSimpArgs false
set_option linter.unusedVariables false
open Go.RowKit

theorem power_any (n : Nat) (w : World) (hn : n ≤ 16) :
    Calls Tryd.prog 37 #[.int .i64 (n : Int)] w fun e w' => e = .returned (.int .i64 ((2 ^ n : Nat) : Int)) ∧ w' = w := by
  have hp : 2 ^ n ≤ 2 ^ 16 := Nat.pow_le_pow_right (by decide) hn
  obtain ⟨R, hR⟩ : ∃ R, R = 2 ^ n := ⟨_, rfl⟩
  rw [← hR] at hp ⊢
  have HR := Lib.hid hR
  have hR2 : R ≤ 65536 := by simpa using hp
  clear hR hp
  go_enter Tryd.func37, Tryd.ntmps37
  go_wp2
  go_loopw [3, 4] (fun p i wr => ∃ k N : Nat, Hid (N = 2 ^ k) ∧ k ≤ n ∧ N ≤ 65536 ∧ p = .int .i64 N ∧ i = .int .i64 k ∧ wr = w) (fun _ i _ => n - (intOf i).toNat)
  case atStart => exact ⟨0, 1, Lib.hid rfl, by omega, by omega, rfl, rfl, rfl⟩
  case round =>
    obtain ⟨k, N, HN, hkD, hN, rfl, rfl, rfl⟩ := hrel
    by_cases hlt : k < n
    · have hlt2 : (k : Int) < (n : Int) := by omega
      have HN2 : Hid (2 * N = 2 ^ (k + 1)) := Lib.hid (by rw [HN.out, Nat.pow_succ]; omega)
      have hN2 : 2 * N ≤ 65536 := by
        rw [HN2.out]
        have : 2 ^ (k + 1) ≤ 2 ^ 16 := Nat.pow_le_pow_right (by decide) (by omega)
        omega
      clear HN
      go_wp2
      go_roundw
      case rel => exact ⟨k + 1, 2 * N, HN2, by omega, hN2, by go_num, by go_num, trivial⟩
      case measure => simp [intOf]; omega
    · have hkk : k = n := by omega
      subst hkk
      have hlt2 : ¬ ((k : Int) < (k : Int)) := by omega
      have hNR : N = R := by rw [HN.out, HR.out]
      subst hNR
      go_wp2
      go_ret
      exact ⟨rfl, rfl⟩

theorem rdepth_any (n : Int) (w : World) : Calls Tryd.prog 25 #[.int .i64 n] w fun e w' => e = .returned (.int .i64 (dep n)) ∧ w' = w := by
  by_cases h0 : n < 0
  · have hd : dep n = -1 := by unfold dep; rw [if_pos (Or.inl h0)]
    rw [hd]
    clear hd
    go_enter Tryd.func25, Tryd.ntmps25
    go_wp2
    go_ret
    exact ⟨rfl, rfl⟩
  · by_cases h1 : 65536 < n
    · have hd : dep n = -1 := by unfold dep; rw [if_pos (Or.inr h1)]
      rw [hd]
      clear hd
      go_enter Tryd.func25, Tryd.ntmps25
      go_wp2
      go_ret
      exact ⟨rfl, rfl⟩
    · obtain ⟨m, rfl⟩ : ∃ m : Nat, n = (m : Int) := ⟨n.toNat, by omega⟩
      have hm : m ≤ 65536 := by omega
      rw [dep_nat m hm]
      have h16 := dpt_le16 hm
      have hge := dpt_ge m
      have hls := dpt_least m
      have hpw : ∀ k w', k ≤ dpt m → Calls Tryd.prog 37 #[.int .i64 (k : Int)] w' fun e w'' => e = .returned (.int .i64 ((2 ^ k : Nat) : Int)) ∧ w' = w'' := fun k w' hk => (power_any k w' (by omega)).mono (fun e w2 h => ⟨h.1, h.2.symm⟩)
      obtain ⟨D, hD⟩ : ∃ D, D = dpt m := ⟨_, rfl⟩
      rw [← hD] at h16 hge hls hpw ⊢
      have HP := Lib.hid hpw; have HG := Lib.hid hge; have HLS := Lib.hid hls
      clear hpw hge hls hD
      go_enter Tryd.func25, Tryd.ntmps25
      go_wp2
      go_loopw [3] (fun t wr => ∃ k : Nat, k ≤ D ∧ t = .int .i64 k ∧ wr = w) (fun t _ => D - (intOf t).toNat)
      case atStart => exact ⟨0, by omega, rfl, rfl⟩
      case round =>
        obtain ⟨k, hk, rfl, rfl⟩ := hrel
        have hc := HP.out k wr hk
        obtain ⟨N, hN⟩ : ∃ N, N = 2 ^ k := ⟨_, rfl⟩
        rw [← hN] at hc
        have HC := Lib.hid hc; have HN := Lib.hid hN
        clear hc hN
        by_cases hlt : k < D
        · have hlt2 : (N : Int) < (m : Int) := by
            have : ¬ (m ≤ 2 ^ k) := fun h => by have := HLS.out _ h; omega
            have := HN.out
            omega
          go_wp2_with fail
          refine HC.out.mono ?_
          rintro e w2 ⟨rfl, rfl⟩
          go_wp2
          go_roundw
          case rel => exact ⟨k + 1, by omega, by go_num, trivial⟩
          case measure => simp [intOf]; omega
        · have hkk : k = D := by omega
          subst hkk
          have hlt2 : ¬ ((N : Int) < (m : Int)) := by have := HG.out; have := HN.out; omega
          go_wp2_with fail
          refine HC.out.mono ?_
          rintro e w2 ⟨rfl, rfl⟩
          go_wp2
          go_ret
          exact ⟨rfl, rfl⟩

set_option maxRecDepth 100000 in
set_option maxHeartbeats 1000000 in
theorem rpad_any (w : World) : Calls Tryd.prog 21 #[] w fun e w' => e = .returned (.agg (byteVals pdd).toArray) ∧ Below w.heap.size w w' := by
  obtain ⟨D, hD⟩ : ∃ D, D = pdd := ⟨_, rfl⟩
  rw [← hD]
  have hDl : D.length = 32 := by rw [hD]; exact pdd_dg.1
  have ht : ∀ w', Calls Tryd.prog 40 #[.string padS, .slice none 0 0] w' fun e w'' => e = .returned (.agg (byteVals D).toArray) ∧ Below w'.heap.size w' w'' := by
    intro w'
    have := rtagged_any padS [] _ w' (bs_nil w') (by decide) (by simp)
    rw [show sha (hmsg (strB padS) []) = D from hD.symm] at this
    exact this
  have HT := Lib.hid ht
  clear ht hD
  go_enter Tryd.func21, Tryd.ntmps21
  go_wp2_with (first | (go_at_call 40; refine (HT.out _).mono ?_; rintro e w3 ⟨rfl, hb3⟩; obtain ⟨l, hl, hrl⟩ := ((SumS.new w _ rfl).call hb3).row; have Hbf := Lib.hid ((SumS.new w _ rfl).call hb3).below; clear hb3) | (refine wpList_store_row rfl 26 (.tmp 0) (.tmp 1) rfl w.heap.size _ rfl rfl 26 _ hrl (size25 _ hDl) (by rw [List.size_toArray, List.size_toArray, bv_length, bv_length]; omega) (all_byteVals _) ?_))
  refine bodyPost_ret (results_cell_row rfl _ _ w.heap.size 26 _ (0, 0) _ rfl (RowB.put hrl) Tryd.underlying26 rfl (size25 _ hDl)) rfl ?_
  exact ⟨rfl, bsetRow Hbf.out (Nat.le_refl _) _⟩

set_option maxRecDepth 100000 in
set_option maxHeartbeats 1000000 in
theorem rparent_any (a b : List Int) (w : World) (ha : Dg a) (hb : Dg b) : Calls Tryd.prog 23 #[.agg (byteVals a).toArray, .agg (byteVals b).toArray] w fun e w' => e = .returned (.agg (byteVals (prt a b)).toArray) ∧ Below w.heap.size w w' := by
  obtain ⟨D, hD⟩ : ∃ D, D = prt a b := ⟨_, rfl⟩
  rw [← hD]
  have hDl : D.length = 32 := by rw [hD]; exact (prt_dg a b).1
  have hal := ha.1; have hbl := hb.1
  have hp : ∀ w', Calls Tryd.prog 33 #[.agg (byteVals a).toArray, .agg (byteVals b).toArray] w' fun e w'' => ∃ u, e = .returned u ∧ Below w'.heap.size w' w'' ∧ Bs (fun k => k < w''.heap.size) w'' u (a ++ b) := fun w' => pair_any a b w' ha hb
  have ht : ∀ w' u, Bs (fun k => k < w'.heap.size) w' u (a ++ b) → Calls Tryd.prog 40 #[.string nodeS, u] w' fun e w'' => e = .returned (.agg (byteVals D).toArray) ∧ Below w'.heap.size w' w'' := by
    intro w' u hu
    have := rtagged_any nodeS (a ++ b) u w' hu (by decide) (by simp; omega)
    rw [show sha (hmsg (strB nodeS) (a ++ b)) = D from hD.symm] at this
    exact this
  have HP := Lib.hid hp; have HT := Lib.hid ht
  have hs1 : (w.alloc (.cells (byteVals a).toArray 26)).heap.size = w.heap.size + 1 := by simp
  have hs2 : ((w.alloc (.cells (byteVals a).toArray 26)).alloc (.cells (byteVals b).toArray 26)).heap.size = w.heap.size + 1 + 1 := by simp
  have hS0 := (((St4.nil w).new 26 (byteVals a)).new 26 (byteVals b)).new 26 (byteVals (List.replicate 32 0))
  rw [hs1, hs2] at hS0
  have HS : Hid (St4 w [(w.heap.size + 1 + 1, 26, byteVals (List.replicate 32 0)), (w.heap.size + 1, 26, byteVals b), (w.heap.size, 26, byteVals a)] [] (((w.alloc (.cells (byteVals a).toArray 26)).alloc (.cells (byteVals b).toArray 26)).alloc (.cells #[.int .u8 0, .int .u8 0, .int .u8 0, .int .u8 0, .int .u8 0, .int .u8 0, .int .u8 0, .int .u8 0, .int .u8 0, .int .u8 0, .int .u8 0, .int .u8 0, .int .u8 0, .int .u8 0, .int .u8 0, .int .u8 0, .int .u8 0, .int .u8 0, .int .u8 0, .int .u8 0, .int .u8 0, .int .u8 0, .int .u8 0, .int .u8 0, .int .u8 0, .int .u8 0, .int .u8 0, .int .u8 0, .int .u8 0, .int .u8 0, .int .u8 0, .int .u8 0] 26))) := Lib.hid hS0
  clear hp ht hD hs1 hs2 ha hb hS0
  go_enter Tryd.func23, Tryd.ntmps23
  go_wp2_with (first | (refine wpList_loadG (by rfl) (.tmp 2) rfl w.heap.size rfl a (HS.out.range (by (with_reducible (repeat (first | exact List.mem_cons_self | refine List.mem_cons_of_mem _ ?_))))) hal ?_) | (refine wpList_loadG (by rfl) (.tmp 3) rfl (w.heap.size + 1) rfl b (HS.out.range (by (with_reducible (repeat (first | exact List.mem_cons_self | refine List.mem_cons_of_mem _ ?_))))) hbl ?_))
  refine (HP.out _).mono ?_
  rintro e w5 ⟨u, rfl, hb5, hu⟩
  replace HS := Lib.hid (HS.out.call hb5)
  have HU := Lib.hid hu
  clear hb5 hu
  go_wp2_with fail
  refine (HT.out _ _ HU.out).mono ?_
  rintro e w6 ⟨rfl, hb6⟩
  replace HS := Lib.hid (HS.out.call hb6)
  have hrl : RowB w6 (w.heap.size + 1 + 1) 26 (List.replicate 32 0) := HS.out.row (by (with_reducible (repeat (first | exact List.mem_cons_self | refine List.mem_cons_of_mem _ ?_))))
  clear hb6 HU
  go_wp2_with (refine wpList_store_row rfl 26 (.tmp 4) (.tmp 8) rfl (w.heap.size + 1 + 1) _ rfl rfl 26 _ hrl (size25 _ hDl) (by rw [bvsz _ hDl, bvsz _ zl32]) (all_byteVals _) ?_)
  refine bodyPost_ret (results_cell_row rfl _ _ (w.heap.size + 1 + 1) 26 _ (0, 0) _ rfl (RowB.put hrl) Tryd.underlying26 rfl (size25 _ hDl)) rfl ?_
  exact ⟨rfl, bsetRow HS.out.below (by omega) _⟩

theorem sibling_any (n : Nat) (w : World) (hn : n < 4611686018427387904) : Calls Tryd.prog 39 #[.int .i64 (n : Int)] w fun e w' => e = .returned (.int .i64 ((sib n : Nat) : Int)) ∧ w' = w := by
  have e0 : (n : Int).tmod 2 = ((n % 2 : Nat) : Int) := by rw [Int.tmod_eq_emod_of_nonneg (by omega)]; omega
  by_cases h : n % 2 = 0
  · have hs : sib n = n + 1 := by unfold sib; rw [if_pos h]
    rw [hs]
    rw [h] at e0
    have e1 : (n : Int) % 2 = 0 := by omega
    have e2 : ((n + 1 : Nat) : Int) = (n : Int) + 1 := by omega
    clear hs h
    go_enter Tryd.func39, Tryd.ntmps39
    go_wp2
    go_ret
    exact ⟨by go_num, rfl⟩
  · have hs : sib n = n - 1 := by unfold sib; rw [if_neg h]
    rw [hs]
    have h1 : n % 2 = 1 := by omega
    rw [h1] at e0
    have e1 : (n : Int) % 2 = 1 := by omega
    have e2 : ((n - 1 : Nat) : Int) = (n : Int) - 1 := by omega
    clear hs h h1
    go_enter Tryd.func39, Tryd.ntmps39
    go_wp2
    go_ret
    exact ⟨by go_num, rfl⟩
end Go.Proofs.YthmpeeipbclhkaaDoor

namespace Go.Proofs.YthmpeeipbclhkaaDoor
set_option linter.unusedSimpArgs false
set_option linter.unusedVariables false
open Go.RowKit

theorem climb_nat (I : Nat) (x s : List Int) (p : List (List Int)) (k : Nat) (hs : p[k]? = some s) (hI : I % 2 = 0) : climb prt I x (p.drop k) = climb prt (I / 2) (prt x s) (p.drop (k + 1)) := by
  have hk := (List.getElem?_eq_some_iff.1 hs).1
  rw [List.drop_eq_getElem_cons hk]
  have : p[k] = s := by rw [List.getElem?_eq_getElem hk] at hs; exact Option.some.inj hs
  rw [this]
  show climb prt (I / 2) (if I % 2 = 0 then prt x s else prt s x) _ = _
  rw [if_pos hI]
theorem climb_nat1 (I : Nat) (x s : List Int) (p : List (List Int)) (k : Nat) (hs : p[k]? = some s) (hI : ¬ I % 2 = 0) : climb prt I x (p.drop k) = climb prt (I / 2) (prt s x) (p.drop (k + 1)) := by
  have hk := (List.getElem?_eq_some_iff.1 hs).1
  rw [List.drop_eq_getElem_cons hk]
  have : p[k] = s := by rw [List.getElem?_eq_getElem hk] at hs; exact Option.some.inj hs
  rw [this]
  show climb prt (I / 2) (if I % 2 = 0 then prt x s else prt s x) _ = _
  rw [if_neg hI]

set_option maxRecDepth 100000 in
set_option maxHeartbeats 4000000 in
theorem rclimb_any (I : Nat) (leaf : List Int) (p : List (List Int)) (op : Option Addr) (cp : Nat) (w : World) (hp : Dl (fun k => k < w.heap.size) w (.slice op p.length cp) p) (hx : Dg leaf) (hI : I < 4611686018427387904) (hpl : p.length ≤ 1000) :
    Calls Tryd.prog 47 #[.int .i64 (I : Int), .agg (byteVals leaf).toArray, .slice op p.length cp] w fun e w' => e = .returned (.agg (byteVals (climb prt I leaf p)).toArray) ∧ Below w.heap.size w w' := by
  have hll := hx.1
  obtain ⟨R, hR⟩ : ∃ R, R = climb prt I leaf p := ⟨_, rfl⟩
  rw [← hR]
  have hz32 : (List.replicate 32 (0 : Int)).length = 32 := by simp
  have hs1 : (w.alloc (.cells (byteVals leaf).toArray 26)).heap.size = w.heap.size + 1 := by simp
  have hs2 : ((w.alloc (.cells (byteVals leaf).toArray 26)).alloc (.cells #[.int .u8 0, .int .u8 0, .int .u8 0, .int .u8 0, .int .u8 0, .int .u8 0, .int .u8 0, .int .u8 0, .int .u8 0, .int .u8 0, .int .u8 0, .int .u8 0, .int .u8 0, .int .u8 0, .int .u8 0, .int .u8 0, .int .u8 0, .int .u8 0, .int .u8 0, .int .u8 0, .int .u8 0, .int .u8 0, .int .u8 0, .int .u8 0, .int .u8 0, .int .u8 0, .int .u8 0, .int .u8 0, .int .u8 0, .int .u8 0, .int .u8 0, .int .u8 0] 26)).heap.size = w.heap.size + 1 + 1 := by simp
  have hS0 := ((St4.nil w).new 26 (byteVals leaf)).new 26 (byteVals (List.replicate 32 0))
  rw [hs1] at hS0
  have HS : Hid (St4 w [(w.heap.size + 1, 26, byteVals (List.replicate 32 0)), (w.heap.size, 26, byteVals leaf)] [] ((w.alloc (.cells (byteVals leaf).toArray 26)).alloc (.cells #[.int .u8 0, .int .u8 0, .int .u8 0, .int .u8 0, .int .u8 0, .int .u8 0, .int .u8 0, .int .u8 0, .int .u8 0, .int .u8 0, .int .u8 0, .int .u8 0, .int .u8 0, .int .u8 0, .int .u8 0, .int .u8 0, .int .u8 0, .int .u8 0, .int .u8 0, .int .u8 0, .int .u8 0, .int .u8 0, .int .u8 0, .int .u8 0, .int .u8 0, .int .u8 0, .int .u8 0, .int .u8 0, .int .u8 0, .int .u8 0, .int .u8 0, .int .u8 0] 26))) := Lib.hid hS0
  have hrz : RowB (((w.alloc (.cells (byteVals leaf).toArray 26)).alloc (.cells #[.int .u8 0, .int .u8 0, .int .u8 0, .int .u8 0, .int .u8 0, .int .u8 0, .int .u8 0, .int .u8 0, .int .u8 0, .int .u8 0, .int .u8 0, .int .u8 0, .int .u8 0, .int .u8 0, .int .u8 0, .int .u8 0, .int .u8 0, .int .u8 0, .int .u8 0, .int .u8 0, .int .u8 0, .int .u8 0, .int .u8 0, .int .u8 0, .int .u8 0, .int .u8 0, .int .u8 0, .int .u8 0, .int .u8 0, .int .u8 0, .int .u8 0, .int .u8 0] 26)).alloc (.cells #[.int .u8 0, .int .u8 0, .int .u8 0, .int .u8 0, .int .u8 0, .int .u8 0, .int .u8 0, .int .u8 0, .int .u8 0, .int .u8 0, .int .u8 0, .int .u8 0, .int .u8 0, .int .u8 0, .int .u8 0, .int .u8 0, .int .u8 0, .int .u8 0, .int .u8 0, .int .u8 0, .int .u8 0, .int .u8 0, .int .u8 0, .int .u8 0, .int .u8 0, .int .u8 0, .int .u8 0, .int .u8 0, .int .u8 0, .int .u8 0, .int .u8 0, .int .u8 0] 26)) (w.heap.size + 1 + 1) 26 (List.replicate 32 0) := RowB.new' _ (by simp) rfl
  have hS1 := hS0.made 26 #[.int .u8 0, .int .u8 0, .int .u8 0, .int .u8 0, .int .u8 0, .int .u8 0, .int .u8 0, .int .u8 0, .int .u8 0, .int .u8 0, .int .u8 0, .int .u8 0, .int .u8 0, .int .u8 0, .int .u8 0, .int .u8 0, .int .u8 0, .int .u8 0, .int .u8 0, .int .u8 0, .int .u8 0, .int .u8 0, .int .u8 0, .int .u8 0, .int .u8 0, .int .u8 0, .int .u8 0, .int .u8 0, .int .u8 0, .int .u8 0, .int .u8 0, .int .u8 0] (byteVals leaf)
  have hs3 : ((w.alloc (.cells (byteVals leaf).toArray 26)).alloc (.cells (byteVals (List.replicate 32 0)).toArray 26)).heap.size = w.heap.size + 1 + 1 := by simp
  rw [hs3] at hS1
  have HS1 : Hid (St4 w [(w.heap.size + 1 + 1, 26, byteVals leaf), (w.heap.size + 1, 26, byteVals (List.replicate 32 0)), (w.heap.size, 26, byteVals leaf)] [] ((((w.alloc (.cells (byteVals leaf).toArray 26)).alloc (.cells #[.int .u8 0, .int .u8 0, .int .u8 0, .int .u8 0, .int .u8 0, .int .u8 0, .int .u8 0, .int .u8 0, .int .u8 0, .int .u8 0, .int .u8 0, .int .u8 0, .int .u8 0, .int .u8 0, .int .u8 0, .int .u8 0, .int .u8 0, .int .u8 0, .int .u8 0, .int .u8 0, .int .u8 0, .int .u8 0, .int .u8 0, .int .u8 0, .int .u8 0, .int .u8 0, .int .u8 0, .int .u8 0, .int .u8 0, .int .u8 0, .int .u8 0, .int .u8 0] 26)).alloc (.cells #[.int .u8 0, .int .u8 0, .int .u8 0, .int .u8 0, .int .u8 0, .int .u8 0, .int .u8 0, .int .u8 0, .int .u8 0, .int .u8 0, .int .u8 0, .int .u8 0, .int .u8 0, .int .u8 0, .int .u8 0, .int .u8 0, .int .u8 0, .int .u8 0, .int .u8 0, .int .u8 0, .int .u8 0, .int .u8 0, .int .u8 0, .int .u8 0, .int .u8 0, .int .u8 0, .int .u8 0, .int .u8 0, .int .u8 0, .int .u8 0, .int .u8 0, .int .u8 0] 26)).setRow (w.heap.size + 1 + 1) (byteVals leaf).toArray)) := Lib.hid hS1
  have HP := Lib.hid hp; have HR := Lib.hid hR; have HX := Lib.hid hx
  clear hp hR hx hS0 hS1 hs1 hs2 hs3
  go_enter Tryd.func47, Tryd.ntmps47
  go_wp2_with (first | (refine wpList_loadG (by rfl) (.tmp 4) rfl w.heap.size rfl leaf (HS.out.range (by (with_reducible (repeat (first | exact List.mem_cons_self | refine List.mem_cons_of_mem _ ?_))))) hll ?_) | (refine wpList_store_row rfl 26 (.tmp 7) (.tmp 9) rfl (w.heap.size + 1 + 1) _ rfl rfl 26 _ hrz (size25 _ hll) (by rw [bvsz _ hll, bvsz _ zl32]) (all_byteVals _) ?_))
  clear HS
  go_loopw [0, 8] (fun i t wr => ∃ (k J : Nat) (x : List Int), k ≤ p.length ∧ J < 4611686018427387904 ∧ i = .int .i64 J ∧ t = .int .i64 k ∧ Hid (Dg x) ∧ Hid (climb prt J x (p.drop k) = R) ∧ Hid (St4 w [(w.heap.size + 1 + 1, 26, byteVals x), (w.heap.size + 1, 26, byteVals (List.replicate 32 0)), (w.heap.size, 26, byteVals leaf)] [] wr)) (fun _ t _ => p.length - (intOf t).toNat)
  case atStart => exact ⟨0, I, leaf, by omega, hI, rfl, rfl, HX, Lib.hid (by rw [List.drop_zero]; exact HR.out.symm), HS1⟩
  case round =>
    clear HS1 hrz
    obtain ⟨k, J, x, hk, hJ, rfl, rfl, HXx, HC, HS⟩ := hrel
    have hxl := HXx.out.1
    by_cases hlt : k < p.length
    · have hlt2 : (k : Int) < (p.length : Int) := by omega
      obtain ⟨g, off, s, rfl, hg, hs, hsl, hr, hc⟩ := HP.out.pick k hlt
      have hsd : Dg s := HP.out.2.1 s (List.mem_of_getElem? hs)
      have HSD := Lib.hid hsd; have HR2 := Lib.hid (And.intro hg hr)
      have e0 : (J : Int).tmod 2 = ((J % 2 : Nat) : Int) := by rw [Int.tmod_eq_emod_of_nonneg (by omega)]; omega
      obtain ⟨J2, hJ2⟩ : ∃ J2, J2 = J / 2 := ⟨_, rfl⟩
      have e9 : IntKind.i64.wrap ((J : Int).tdiv 2) = (J2 : Int) := by rw [Int.tdiv_eq_ediv_of_nonneg (by omega), IntKind.wrap_i64]; omega
      have HQ2 : Hid ((J : Int) / 2 = (J2 : Int)) := Lib.hid (by omega)
      have HJ2 : Hid (J2 < 4611686018427387904) := Lib.hid (by omega)
      by_cases hm : J % 2 = 0
      · have hcl := climb_nat J x s p k hs hm
        rw [hm] at e0
        have e1 : (J : Int) % 2 = 0 := by omega
        have hDd := prt_dg x s
        obtain ⟨D, hD⟩ : ∃ D, D = prt x s := ⟨_, rfl⟩
        have hpa : ∀ w', Calls Tryd.prog 23 #[.agg (byteVals x).toArray, .agg (byteVals s).toArray] w' fun e w'' => e = .returned (.agg (byteVals D).toArray) ∧ Below w'.heap.size w' w'' := by
          intro w'; rw [hD]; exact rparent_any x s w' HXx.out HSD.out
        rw [← hD, ← hJ2] at hcl
        rw [← hD] at hDd
        have hDl := hDd.1
        have HCL := Lib.hid hcl; have HPA := Lib.hid hpa; have HDD := Lib.hid hDd
        clear hJ2 hcl hpa hDd hD hm hr hg hsd hs
        go_upto_region 6 with fail
        refine wp_region_still_tail 5 (by kernel_rfl) (by kernel_rfl) ?_
        simp only [List.take_succ_cons, List.take_zero, List.drop_succ_cons, List.drop_zero]
        refine still_load_mid (by rfl) (.tmp 7) rfl (w.heap.size + 1 + 1) 0 rfl x (HS.out.drew.range (by (with_reducible (repeat (first | exact List.mem_cons_self | refine List.mem_cons_of_mem _ ?_))))) hxl ?_
        iterate 3 still_step
        refine still_load_mid (by rfl) (.tmp 22) rfl g (off + k * 32) rfl s (rangeAt_kept HR2.out.2 (HS.out.drew.below.block _ HR2.out.1)) hsl ?_
        refine wpStill_nil ?_
        change wpList _ _ _ _ _ wr.drew
        replace HS := Lib.hid (HS.out.drew)
        generalize wr.drew = W at *
        go_wp2_with fail
        refine (HPA.out _).mono ?_
        rintro e w5 ⟨rfl, hb⟩
        replace HS := Lib.hid (HS.out.call hb)
        clear hb
        have hrl : RowB w5 (w.heap.size + 1 + 1) 26 x := HS.out.row (by (with_reducible (repeat (first | exact List.mem_cons_self | refine List.mem_cons_of_mem _ ?_))))
        have H7 := Lib.hid (HS.out.put1 (w.heap.size + 1 + 1) 26 (byteVals x) (byteVals D) (by intro y hy; simp at hy; rcases hy with rfl | rfl <;> (simp only []; omega)))
        clear HS
        go_wp2_with (refine wpList_store_row rfl 26 (.tmp 7) (.tmp 24) rfl (w.heap.size + 1 + 1) _ rfl rfl 26 _ hrl (size25 _ hDl) (by rw [bvsz _ hDl, bvsz _ hxl]) (all_byteVals _) ?_)
        go_roundw
        case rel => exact ⟨k + 1, J2, D, by omega, HJ2.out, by rw [HQ2.out], by go_num, HDD, Lib.hid (by rw [← HCL.out]; exact HC.out), H7⟩
        case measure => simp [intOf]; omega
      · have hcl := climb_nat1 J x s p k hs hm
        have hm1 : J % 2 = 1 := by omega
        rw [hm1] at e0
        have e1 : (J : Int) % 2 = 1 := by omega
        have hDd := prt_dg s x
        obtain ⟨D, hD⟩ : ∃ D, D = prt s x := ⟨_, rfl⟩
        have hpa : ∀ w', Calls Tryd.prog 23 #[.agg (byteVals s).toArray, .agg (byteVals x).toArray] w' fun e w'' => e = .returned (.agg (byteVals D).toArray) ∧ Below w'.heap.size w' w'' := by
          intro w'; rw [hD]; exact rparent_any s x w' HSD.out HXx.out
        rw [← hD, ← hJ2] at hcl
        rw [← hD] at hDd
        have hDl := hDd.1
        have HCL := Lib.hid hcl; have HPA := Lib.hid hpa; have HDD := Lib.hid hDd
        clear hJ2 hcl hpa hDd hD hm hm1 hr hg hsd hs
        go_upto_region 7 with fail
        refine wp_region_still_tail 5 (by kernel_rfl) (by kernel_rfl) ?_
        simp only [List.take_succ_cons, List.take_zero, List.drop_succ_cons, List.drop_zero]
        iterate 3 still_step
        refine still_load_mid (by rfl) (.tmp 27) rfl g (off + k * 32) rfl s (rangeAt_kept HR2.out.2 (HS.out.drew.below.block _ HR2.out.1)) hsl ?_
        refine still_load_mid (by rfl) (.tmp 7) rfl (w.heap.size + 1 + 1) 0 rfl x (HS.out.drew.range (by (with_reducible (repeat (first | exact List.mem_cons_self | refine List.mem_cons_of_mem _ ?_))))) hxl ?_
        refine wpStill_nil ?_
        change wpList _ _ _ _ _ wr.drew
        replace HS := Lib.hid (HS.out.drew)
        generalize wr.drew = W at *
        go_wp2_with fail
        refine (HPA.out _).mono ?_
        rintro e w5 ⟨rfl, hb⟩
        replace HS := Lib.hid (HS.out.call hb)
        clear hb
        have hrl : RowB w5 (w.heap.size + 1 + 1) 26 x := HS.out.row (by (with_reducible (repeat (first | exact List.mem_cons_self | refine List.mem_cons_of_mem _ ?_))))
        have H7 := Lib.hid (HS.out.put1 (w.heap.size + 1 + 1) 26 (byteVals x) (byteVals D) (by intro y hy; simp at hy; rcases hy with rfl | rfl <;> (simp only []; omega)))
        clear HS
        go_wp2_with (refine wpList_store_row rfl 26 (.tmp 7) (.tmp 30) rfl (w.heap.size + 1 + 1) _ rfl rfl 26 _ hrl (size25 _ hDl) (by rw [bvsz _ hDl, bvsz _ hxl]) (all_byteVals _) ?_)
        go_roundw
        case rel => exact ⟨k + 1, J2, D, by omega, HJ2.out, by rw [HQ2.out], by go_num, HDD, Lib.hid (by rw [← HCL.out]; exact HC.out), H7⟩
        case measure => simp [intOf]; omega
    · have hk2 : k = p.length := by omega
      subst hk2
      have hxR : x = R := by have := HC.out; rw [List.drop_length] at this; exact this
      subst hxR
      have hlt2 : ¬ ((p.length : Int) < (p.length : Int)) := by omega
      have hrl : RowB wr (w.heap.size + 1) 26 (List.replicate 32 0) := HS.out.row (by (with_reducible (repeat (first | exact List.mem_cons_self | refine List.mem_cons_of_mem _ ?_))))
      go_wp2_with (first | (refine wpList_loadG (by rfl) (.tmp 7) rfl (w.heap.size + 1 + 1) rfl x (HS.out.range (by (with_reducible (repeat (first | exact List.mem_cons_self | refine List.mem_cons_of_mem _ ?_))))) hxl ?_) | (refine wpList_store_row rfl 26 (.tmp 6) (.tmp 33) rfl (w.heap.size + 1) _ rfl rfl 26 _ hrl (size25 _ hxl) (by rw [bvsz _ hxl, bvsz _ zl32]) (all_byteVals _) ?_))
      refine bodyPost_ret (results_cell_row rfl _ _ (w.heap.size + 1) 26 _ (0, 0) _ rfl (RowB.put hrl) Tryd.underlying26 rfl (size25 _ hxl)) rfl ?_
      exact ⟨rfl, bsetRow HS.out.below (by omega) _⟩
end Go.Proofs.YthmpeeipbclhkaaDoor

namespace Go.Proofs.YthmpeeipbclhkaaDoor
set_option linter.unusedSimpArgs false
set_option linter.unusedVariables false
open Go.RowKit

theorem range_tail {w : World} {B : Nat} {v : Value} {cs : List Value} (h : w.rangeAt B 0 (v :: cs)) : w.rangeAt B 1 cs := by
  intro j u hj
  have := h (j + 1) u (by simpa using hj)
  rw [show 0 + (j + 1) = 1 + j from by omega] at this
  exact this

set_option maxRecDepth 100000 in
set_option maxHeartbeats 4000000 in
theorem rinc_any (n : Int) (root : List Int) (i : Int) (leaf : List Int) (p : List (List Int)) (op : Option Addr) (cp : Nat) (w : World) (hr : Dg root) (hl : Dg leaf) (hp : Dl (fun k => k < w.heap.size) w (.slice op p.length cp) p) (hpl : p.length ≤ 1000) :
    Calls Tryd.prog 29 #[.agg (.int .i64 n :: byteVals root).toArray, .int .i64 i, .agg (byteVals leaf).toArray, .slice op p.length cp] w fun e w' => e = .returned (.bool (inc n root i leaf p)) ∧ Below w.heap.size w w' := by
  have hrl := hr.1; have hll := hl.1
  have hdp : ∀ w', Calls Tryd.prog 25 #[.int .i64 n] w' fun e w'' => e = .returned (.int .i64 (dep n)) ∧ w' = w'' :=
    fun w' => (rdepth_any n w').mono (fun e w2 h => ⟨h.1, h.2.symm⟩)
  have hs1 : (w.alloc (.cells (.int .i64 n :: byteVals root).toArray 30)).heap.size = w.heap.size + 1 := by simp
  have hS := ((St4.nil w).new 30 (.int .i64 n :: byteVals root)).new 26 (byteVals leaf)
  rw [hs1] at hS
  have hc0 : ((w.alloc (.cells (.int .i64 n :: byteVals root).toArray 30)).alloc (.cells (byteVals leaf).toArray 26)).cell? ⟨w.heap.size, 0, none⟩ = some (.int .i64 n) := hS.range (by (with_reducible (repeat (first | exact List.mem_cons_self | refine List.mem_cons_of_mem _ ?_)))) 0 _ rfl
  have HS := Lib.hid hS; have HP := Lib.hid hp; have HR := Lib.hid hr; have HL := Lib.hid hl
  clear hS hp hr hl hs1
  by_cases f1 : n < 0
  · have e2 : inc n root i leaf p = false := by unfold inc; rw [decide_eq_false (by omega)]; rfl
    rw [e2]
    clear hdp e2
    go_enter Tryd.func29, Tryd.ntmps29
    go_wp2_with fail
    go_ret
    exact ⟨rfl, HS.out.below⟩
  by_cases f2 : 65536 < n
  · have e2 : inc n root i leaf p = false := by unfold inc; rw [decide_eq_false (by omega)]; rfl
    rw [e2]
    clear hdp e2
    have g1 : decide (n < 0) = false := decide_eq_false f1
    go_enter Tryd.func29, Tryd.ntmps29
    go_wp2_with fail
    go_ret
    exact ⟨rfl, HS.out.below⟩
  obtain ⟨d, hd⟩ : ∃ d, d = dpt n.toNat := ⟨_, rfl⟩
  have e1 : dep n = (d : Int) := by unfold dep; rw [if_neg (by omega), hd]
  have hd16 : d ≤ 16 := by rw [hd]; exact dpt_le16 (by omega)
  have einc : inc n root i leaf p = (decide (0 ≤ i ∧ i < ((2 ^ d : Nat) : Int)) && (decide (p.length = d) && decide (climb prt i.toNat leaf p = root))) := by unfold inc; rw [decide_eq_true (by omega), hd]; rfl
  rw [e1] at hdp
  rw [einc]
  have hpw : ∀ w', Calls Tryd.prog 37 #[.int .i64 (d : Int)] w' fun e w'' => e = .returned (.int .i64 ((2 ^ d : Nat) : Int)) ∧ w' = w'' := fun w' => (power_any d w' hd16).mono (fun e w2 h => ⟨h.1, h.2.symm⟩)
  have hQ3 : 2 ^ d ≤ 2 ^ 16 := Nat.pow_le_pow_right (by decide) hd16
  have hQ4 : (2 : Nat) ^ 16 = 65536 := by decide
  obtain ⟨Q, hQ⟩ : ∃ Q, Q = 2 ^ d := ⟨_, rfl⟩
  rw [← hQ] at hpw hQ3 ⊢
  rw [hQ4] at hQ3
  have HDP := Lib.hid hdp; have HPW := Lib.hid hpw
  clear e1 einc hd hQ hdp hpw hQ4
  have g1 : decide (n < 0) = false := decide_eq_false f1
  have g2 : decide (65536 < n) = false := decide_eq_false f2
  by_cases f3 : i < 0
  · have e2 : decide (0 ≤ i ∧ i < (Q : Int)) = false := decide_eq_false (by omega)
    rw [e2, Bool.false_and]
    clear e2 f1 f2
    go_enter Tryd.func29, Tryd.ntmps29
    go_wp2_with fail
    go_ret
    exact ⟨rfl, HS.out.below⟩
  have g3 : decide (i < 0) = false := decide_eq_false f3
  by_cases f4 : (Q : Int) ≤ i
  · have e2 : decide (0 ≤ i ∧ i < (Q : Int)) = false := decide_eq_false (by omega)
    rw [e2, Bool.false_and]
    clear e2 f1 f2 f3
    go_enter Tryd.func29, Tryd.ntmps29
    go_wp2_with (first | (go_at_call 25; refine (HDP.out _).mono ?_; rintro e w2 ⟨rfl, rfl⟩) | (go_at_call 37; refine (HPW.out _).mono ?_; rintro e w2 ⟨rfl, rfl⟩))
    go_ret
    exact ⟨rfl, HS.out.below⟩
  have g4 : decide ((Q : Int) ≤ i) = false := decide_eq_false f4
  have e2 : decide (0 ≤ i ∧ i < (Q : Int)) = true := decide_eq_true (by omega)
  rw [e2, Bool.true_and]
  clear e2
  by_cases f5 : p.length = d
  · rw [decide_eq_true f5, Bool.true_and]
    subst f5
    obtain ⟨I, hI⟩ := Int.eq_ofNat_of_zero_le (by omega : 0 ≤ i)
    rw [show i.toNat = I from by omega]
    have hIb : I < 4611686018427387904 := by omega
    have hcl : ∀ w', St4 w [(w.heap.size + 1, 26, byteVals leaf), (w.heap.size, 30, Value.int .i64 n :: byteVals root)] [] w' → Calls Tryd.prog 47 #[.int .i64 i, .agg (byteVals leaf).toArray, .slice op p.length cp] w' fun e w'' => e = .returned (.agg (byteVals (climb prt I leaf p)).toArray) ∧ Below w'.heap.size w' w'' := by
      intro w' h
      rw [hI]
      exact rclimb_any I leaf p op cp w' (HP.out.on h.below) HL.out hIb hpl
    have hDl : Dg (climb prt I leaf p) := climb_dg _ _ _ HL.out
    obtain ⟨D, hD⟩ : ∃ D, D = climb prt I leaf p := ⟨_, rfl⟩
    rw [← hD] at hcl hDl ⊢
    have hDl := hDl.1
    have hq := eqDig D root hDl hrl
    obtain ⟨q, hqq⟩ : ∃ q, q = decide (D = root) := ⟨_, rfl⟩
    rw [← hqq] at hq ⊢
    have HC := Lib.hid hcl
    have f5 : ((p.length : Int) != (p.length : Int)) = false := by simp
    clear hcl hD hqq hI hIb f1 f2 f3 f4
    go_enter Tryd.func29, Tryd.ntmps29
    go_upto_region 3 with (first | (go_at_call 25; refine (HDP.out _).mono ?_; rintro e w2 ⟨rfl, rfl⟩) | (go_at_call 37; refine (HPW.out _).mono ?_; rintro e w2 ⟨rfl, rfl⟩))
    clear hc0
    refine wp_region_held_drew (S := fun w' => St4 w [(w.heap.size + 1, 26, byteVals leaf), (w.heap.size, 30, Value.int .i64 n :: byteVals root)] [] w') (by kernel_rfl) HS.out.drew (fun hHeld => ?_)
    change wpAnyH _ _ _ _ _ 8 #[false, false, false, false, false, false, false, false] _ _
    refine wpAnyH_take (i := 0) (oi := _) (v := .int .i64 i) rfl (by kernel_rfl) (by kernel_rfl) (by kernel_rfl) (fun _ _ _ h => h) (Or.inl ⟨by rfl, fun wx hSw => ?_⟩) (by assumption) ?_
    · go_simp
      try (first | omega | (rw [IntKind.wrap_i64]; omega))
    (try simp only [Act.put, List.setIfInBounds_toArray, List.set_cons_zero, List.set_cons_succ, List.getElem_toArray, List.getElem_cons_zero, List.getElem_cons_succ])
    refine wpAnyH_take (i := 1) (oi := _) (v := .agg (byteVals leaf).toArray) rfl (by kernel_rfl) (by kernel_rfl) (by kernel_rfl) (fun _ _ _ h => h) (yieldsIf_load_mid (by rfl) 26 _ rfl (w.heap.size + 1) 0 rfl (byteVals leaf) _ (fun wx hSw => hSw.range (by (with_reducible (repeat (first | exact List.mem_cons_self | refine List.mem_cons_of_mem _ ?_))))) Tryd.underlying26 rfl (size26 _ hll)) (by assumption) ?_
    (try simp only [Act.put, List.setIfInBounds_toArray, List.set_cons_zero, List.set_cons_succ, List.getElem_toArray, List.getElem_cons_zero, List.getElem_cons_succ])
    refine wpAnyH_take (i := 2) (oi := _) (v := .slice op p.length cp) rfl (by kernel_rfl) (by kernel_rfl) (by kernel_rfl) (fun _ _ _ h => h) (Or.inl ⟨by rfl, fun wx hSw => ?_⟩) (by assumption) ?_
    · go_simp
      try (first | omega | (rw [IntKind.wrap_i64]; omega))
    (try simp only [Act.put, List.setIfInBounds_toArray, List.set_cons_zero, List.set_cons_succ, List.getElem_toArray, List.getElem_cons_zero, List.getElem_cons_succ])
    refine wpAnyH_take (i := 4) (oi := _) (v := .pointer (some ⟨w.heap.size, 1, none⟩)) rfl (by kernel_rfl) (by kernel_rfl) (by kernel_rfl) (fun _ _ _ h => h) (Or.inl ⟨by rfl, fun wx hSw => ?_⟩) (by assumption) ?_
    · go_simp
      try (first | omega | (rw [IntKind.wrap_i64]; omega))
    (try simp only [Act.put, List.setIfInBounds_toArray, List.set_cons_zero, List.set_cons_succ, List.getElem_toArray, List.getElem_cons_zero, List.getElem_cons_succ])
    refine wpAnyH_take (i := 5) (oi := _) (v := .agg (byteVals root).toArray) rfl (by kernel_rfl) (by kernel_rfl) (by kernel_rfl) (fun _ _ _ h => h) (yieldsIf_load_mid (by rfl) 26 _ rfl w.heap.size 1 rfl (byteVals root) _ (fun wx hSw => range_tail (hSw.range (by (with_reducible (repeat (first | exact List.mem_cons_self | refine List.mem_cons_of_mem _ ?_)))))) Tryd.underlying26 rfl (size26 _ hrl)) (by assumption) ?_
    (try simp only [Act.put, List.setIfInBounds_toArray, List.set_cons_zero, List.set_cons_succ, List.getElem_toArray, List.getElem_cons_zero, List.getElem_cons_succ])
    refine wpAnyH_ready (rs := [3]) (by kernel_rfl) (by simp) ?_
    refine AllReadyH.cons (o := _) rfl (fun K hK => ?_) AllReadyH.nil
    go_simp
    refine (HC.out _ hHeld).mono ?_
    rintro e V1 ⟨rfl, hb⟩
    have h5 := hHeld.call hb
    clear hb hHeld
    go_wp2_with fail
    refine hK.out _ _ (h5) (fun hHeld => ?_)
    clear hK K
    (try simp only [Act.put, List.setIfInBounds_toArray, List.set_cons_zero, List.set_cons_succ, List.getElem_toArray, List.getElem_cons_zero, List.getElem_cons_succ])
    refine wpAnyH_take (i := 6) (oi := _) (v := .bool q) rfl (by kernel_rfl) (by kernel_rfl) (by kernel_rfl) (fun _ _ _ h => h) (Or.inl ⟨by rfl, fun wx hSw => ?_⟩) (by assumption) ?_
    · go_simp
      try (first | omega | (rw [IntKind.wrap_i64]; omega))
    (try simp only [Act.put, List.setIfInBounds_toArray, List.set_cons_zero, List.set_cons_succ, List.getElem_toArray, List.getElem_cons_zero, List.getElem_cons_succ])
    refine wpAnyH_take (i := 7) (oi := _) (v := .bool q) rfl (by kernel_rfl) (by kernel_rfl) (by kernel_rfl) (fun _ _ _ h => h) (Or.inl ⟨by rfl, fun wx hSw => ?_⟩) (by assumption) ?_
    · go_simp
      try (first | omega | (rw [IntKind.wrap_i64]; omega))
    (try simp only [Act.put, List.setIfInBounds_toArray, List.set_cons_zero, List.set_cons_succ, List.getElem_toArray, List.getElem_cons_zero, List.getElem_cons_succ])
    refine wpAnyH_done (by kernel_rfl) ?_ _
    go_wp2_with fail
    go_ret
    exact ⟨rfl, h5.below⟩
  · rw [decide_eq_false f5, Bool.false_and]
    have f6 : ((p.length : Int) != (d : Int)) = true := by simp; omega
    clear f1 f2 f3 f4 f5
    go_enter Tryd.func29, Tryd.ntmps29
    go_wp2_with (first | (go_at_call 25; refine (HDP.out _).mono ?_; rintro e w2 ⟨rfl, rfl⟩) | (go_at_call 37; refine (HPW.out _).mono ?_; rintro e w2 ⟨rfl, rfl⟩))
    go_ret
    exact ⟨rfl, HS.out.below⟩
end Go.Proofs.YthmpeeipbclhkaaDoor

