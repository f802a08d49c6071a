/-
  Walks of the program's digest: the schedule of a block.
-/
import Derived.Test.YthmpeeipbclhkaaDoorDb
import Derived.RegionTactic
import Derived.BigRegion
import Derived.Deep.QuietTactic
import Derived.BigQuiet
import Derived.StillTailTactics
namespace Go.Proofs.YthmpeeipbclhkaaDoor
open Go.RowKit

/-- The first j bytes of word i as a number. -/
def wordTo (b : List Int) (i j : Nat) : Int := num ((b.drop (4 * i)).take j)
def wordOf (b : List Int) (i : Nat) : Int := wordTo b i 4
/-- The row while word i has j of its bytes. -/
def rowTo (b : List Int) (i j : Nat) : List Int := (part (wordOf b) 64 i).set i (wordTo b i j)

theorem wordTo_next (b : List Int) (i j : Nat) (h : 4 * i + j < b.length) : wordTo b i (j + 1) = wordTo b i j * 256 + b[4 * i + j] := by
  unfold wordTo
  rw [num_take _ j (by simp; omega)]
  simp
theorem wordTo_range (b : List Int) (hb : ∀ u ∈ b, 0 ≤ u ∧ u ≤ 255) (i j : Nat) (h : 4 * i + j ≤ b.length) : 0 ≤ wordTo b i j ∧ wordTo b i j < 256 ^ j := by
  unfold wordTo
  exact num_range _ (fun u hu => hb u (List.mem_of_mem_drop hu)) j (by simp; omega)

theorem join32 (n c : Int) (h0 : 0 ≤ n) (h1 : n < 16777216) (hc0 : 0 ≤ c) (hc1 : c ≤ 255) : bits .or .u32 (n * 256) c = n * 256 + c := by
  refine bits_join .u32 32 (by decide) (fun n h0 h1 => ?_) 8 _ _ (by omega) (by omega) (by omega) hc0 (by omega) (by omega)
  rw [IntKind.wrap_u32]; omega

/-- A further word of the schedule. -/
def newW (c16 c15 c7 c2 : Int) : Int :=
  (c16 + bits .xor .u32 (bits .xor .u32 (rot c15 7) (rot c15 18)) (c15 / 8) + c7 + bits .xor .u32 (bits .xor .u32 (rot c2 17) (rot c2 19)) (c2 / 1024)) % 4294967296
def nextW (l : List Int) (k : Nat) : Int := newW (l.getD (k - 16) 0) (l.getD (k - 15) 0) (l.getD (k - 7) 0) (l.getD (k - 2) 0)
/-- The row while k words are there. -/
def sch (b : List Int) : Nat → List Int
  | 0 => part (wordOf b) 64 16
  | k + 1 => if k + 1 ≤ 16 then part (wordOf b) 64 16 else (sch b k).set k (nextW (sch b k) k)
theorem sch_16 (b : List Int) : sch b 16 = part (wordOf b) 64 16 := by unfold sch; rfl
theorem sch_next (b : List Int) (k : Nat) (h : 16 ≤ k) : sch b (k + 1) = (sch b k).set k (nextW (sch b k) k) := by
  rw [sch, if_neg (by omega)]
theorem getD_some {l : List Int} {i : Nat} (h : i < l.length) : l[i]? = some (l.getD i 0) := by
  rw [List.getD_eq_getElem?_getD, List.getElem?_eq_getElem h]; rfl
theorem sch_length (b : List Int) (k : Nat) : (sch b k).length = 64 := by
  induction k with
  | zero => simp [sch, part_length]
  | succ k ih =>
    rw [sch]
    split
    · exact part_length _ _ _
    · rw [List.length_set]; exact ih

set_option maxHeartbeats 1000000 in
theorem schedule_any (b : List Int) (w : World) (v : Value) (hl : b.length = 64) (hv : Bs (fun k => k < w.heap.size) w v b) :
    Calls Tryd.prog 66 #[v] w fun e w' => e = .returned (.agg (words (sch b 64)).toArray) ∧ Below w.heap.size w w' := by
  obtain ⟨g, off, cap, rfl, hcap, hg, hcell⟩ := hv.at (by omega)
  rw [hl] at hcap ⊢
  have HR := Lib.hid hv.2.1
  clear hv
  have HC := Lib.hid hcell; clear hcell
  go_enter Tryd.func66, Tryd.ntmps66
  go_wp2
  go_loopw [12] (fun i wr => ∃ k : Nat, k ≤ 16 ∧ i = .int .i64 k ∧ Hid (RowW wr w.heap.size 81 (part (wordOf b) 64 k) ∧ Below w.heap.size w wr ∧ wr.heap.size = w.heap.size + 1)) (fun i _ => 16 - (intOf i).toNat)
  case atStart =>
    refine ⟨0, by omega, rfl, ?_⟩
    refine ⟨?_, ball (Below.refl _ _) _, by simp⟩
    rw [part_zero]
    exact RowW.new' _ (by simp) rfl
  case round =>
    obtain ⟨k, hk, rfl, H⟩ := hrel
    by_cases hlt : k < 16
    · go_wp2
      have hd : decide ((k : Int) < 16) = true := by simp; omega
      rw [hd]
      clear hd
      go_loopw [15] (fun j wq => ∃ m : Nat, m ≤ 4 ∧ j = .int .i64 m ∧ Hid (RowW wq w.heap.size 81 (rowTo b k m) ∧ Below w.heap.size w wq ∧ wq.heap.size = w.heap.size + 1)) (fun i _ => 4 - (intOf i).toNat)
      case atStart =>
        refine ⟨0, by omega, rfl, ?_⟩
        obtain ⟨h1, h2, h3⟩ := H.out
        refine ⟨?_, h2, h3⟩
        have : rowTo b k 0 = part (wordOf b) 64 k := by
          unfold rowTo part wordTo num
          apply List.ext_getElem
          · simp
          · intro i a1 a2
            simp only [List.getElem_set, List.getElem_map, List.getElem_range]
            by_cases h : k = i
            · subst h; simp
            · rw [if_neg h]
        rw [this]; exact h1
      case round =>
        obtain ⟨m, hm, rfl, H2⟩ := hrel
        by_cases hlt2 : m < 4
        · obtain ⟨q, c, q0, hx, w1, w2, w3, e4, b3⟩ : ∃ (q : Nat) (c : Int) (q0 : Nat), wr.cell? ⟨g, off + q, none⟩ = some (.int .u8 c) ∧ IntKind.i64.wrap (4 * (k : Int)) = (q0 : Int) ∧ IntKind.i64.wrap ((q0 : Int) + (m : Int)) = (q : Int) ∧
              IntKind.u32.wrap c = c ∧ bits .or .u32 (IntKind.u32.wrap (wordTo b k m * 256)) c = wordTo b k (m + 1) ∧ q < 64 := by
            have hx := (World.cell?_of_block (w := w) (a := ⟨g, off + (4 * k + m), none⟩) (H2.out.2.1.block g hg)).trans (HC.out (4 * k + m) b[4 * k + m] (List.getElem?_eq_getElem (by omega)))
            have hr := HR.out _ (List.getElem_mem (l := b) (n := 4 * k + m) (by omega))
            obtain ⟨r0, r1⟩ := wordTo_range b HR.out k m (by omega)
            have hp : (256 : Int) ^ m ≤ 16777216 := by
              have : (256 : Nat) ^ m ≤ 256 ^ 3 := Nat.pow_le_pow_right (by decide) (by omega)
              have e : ((256 ^ m : Nat) : Int) = (256 : Int) ^ m := by simp
              rw [← e]
              omega
            refine ⟨4 * k + m, _, 4 * k, hx, by rw [IntKind.wrap_i64]; omega, by rw [IntKind.wrap_i64]; omega, by rw [IntKind.wrap_u32]; omega, ?_, by omega⟩
            rw [wordTo_next b k m (by omega), show IntKind.u32.wrap (wordTo b k m * 256) = wordTo b k m * 256 from by rw [IntKind.wrap_u32]; omega]
            exact join32 _ _ r0 (by omega) hr.1 hr.2
          have hc := H2.out.1.cell (j := k) (x := wordTo b k m) (by unfold rowTo; rw [List.getElem?_set_self (by rw [part_length]; omega)])
          have hz := frozen_of_row wr _ k _ _ H2.out.1
          have b1 : (k : Int) < 64 := by omega
          have b2 : (q : Int) < 64 := by omega
          go_wp2
          go_still_tail 14, (by kernel_rfl)
          change wpList _ _ _ _ _ wr.drew
          clear e4
          have H3 : Hid (RowW wr.drew w.heap.size 81 (rowTo b k m) ∧ Below w.heap.size w wr.drew ∧ wr.drew.heap.size = w.heap.size + 1) := ⟨H2.out.1, Below.drew H2.out.2.1, H2.out.2.2⟩
          have hc' : wr.drew.cell? ⟨w.heap.size, k, none⟩ = some (.int .u32 (wordTo b k m)) := hc
          have hz' : wr.drew.frozen? ⟨w.heap.size, k, none⟩ = false := hz
          clear H2 hc hz hx
          generalize wr.drew = w4 at *
          go_wp2
          go_roundw
          case rel =>
            refine ⟨m + 1, by omega, by go_num, ?_⟩
            obtain ⟨h1, h2, h3⟩ := H3.out
            refine ⟨?_, h2.setCell (by simp) _, by simpa using h3⟩
            have : rowTo b k (m + 1) = (rowTo b k m).set k (wordTo b k (m + 1)) := by unfold rowTo; rw [List.set_set]
            rw [this]
            exact h1.set k _
          case measure => simp [intOf]; omega
        · have hm' : m = 4 := by omega
          subst hm'
          have H3 : Hid (RowW wr w.heap.size 81 (part (wordOf b) 64 (k + 1)) ∧ Below w.heap.size w wr ∧ wr.heap.size = w.heap.size + 1) := by
            refine ⟨?_, H2.out.2⟩
            rw [← part_set _ _ _ (by omega)]
            exact H2.out.1
          clear H2
          go_wp2
          go_roundw
          case rel => exact ⟨k + 1, by omega, by go_num, H3⟩
          case measure => simp [intOf]; omega
    · have hk' : k = 16 := by omega
      subst hk'
      go_wp2
      rw [show ((16 : Nat) : Int) = 16 from rfl]
      go_loopw [6] (fun i wr => ∃ k : Nat, 16 ≤ k ∧ k ≤ 64 ∧ i = .int .i64 k ∧ Hid (RowW wr w.heap.size 81 (sch b k) ∧ Below w.heap.size w wr ∧ wr.heap.size = w.heap.size + 1)) (fun i _ => 64 - (intOf i).toNat)
      case atStart => exact ⟨16, by omega, by omega, rfl, by rw [sch_16]; exact H.out⟩
      case round =>
        clear H
        obtain ⟨k, hk0, hk, rfl, H⟩ := hrel
        by_cases hlt : k < 64
        · obtain ⟨q2, q7, q15, q16, c2, c7, c15, c16, f2, f7, f15, f16, h2, h7, h15, h16, b2, b7, b15, b16, hn⟩ : ∃ (q2 q7 q15 q16 : Nat) (c2 c7 c15 c16 : Int), IntKind.i64.wrap ((k : Int) - 2) = (q2 : Int) ∧ IntKind.i64.wrap ((k : Int) - 7) = (q7 : Int) ∧ IntKind.i64.wrap ((k : Int) - 15) = (q15 : Int) ∧ IntKind.i64.wrap ((k : Int) - 16) = (q16 : Int) ∧
              wr.cell? ⟨w.heap.size, q2, none⟩ = some (.int .u32 c2) ∧ wr.cell? ⟨w.heap.size, q7, none⟩ = some (.int .u32 c7) ∧ wr.cell? ⟨w.heap.size, q15, none⟩ = some (.int .u32 c15) ∧ wr.cell? ⟨w.heap.size, q16, none⟩ = some (.int .u32 c16) ∧
              (q2 : Int) < 64 ∧ (q7 : Int) < 64 ∧ (q15 : Int) < 64 ∧ (q16 : Int) < 64 ∧ nextW (sch b k) k = newW c16 c15 c7 c2 := by
            have hs := sch_length b k
            exact ⟨k - 2, k - 7, k - 15, k - 16, _, _, _, _, by rw [IntKind.wrap_i64]; omega, by rw [IntKind.wrap_i64]; omega, by rw [IntKind.wrap_i64]; omega, by rw [IntKind.wrap_i64]; omega,
              H.out.1.cell (getD_some (by omega)), H.out.1.cell (getD_some (by omega)), H.out.1.cell (getD_some (by omega)), H.out.1.cell (getD_some (by omega)), by omega, by omega, by omega, by omega, rfl⟩
          have hc := H.out.1.cell (getD_some (l := sch b k) (i := k) (by rw [sch_length]; omega))
          have hz := frozen_of_row wr _ k _ _ H.out.1
          have b1 : (k : Int) < 64 := by omega
          go_wp2
          go_quiet (fail)
          have H3 : Hid (RowW (wr.drewN nq) w.heap.size 81 (sch b k) ∧ Below w.heap.size w (wr.drewN nq) ∧ (wr.drewN nq).heap.size = w.heap.size + 1) := ⟨H.out.1, bdrewN H.out.2.1 _, H.out.2.2⟩
          have h7' : (wr.drewN nq).cell? ⟨w.heap.size, q7, none⟩ = some (.int .u32 c7) := h7
          have h16' : (wr.drewN nq).cell? ⟨w.heap.size, q16, none⟩ = some (.int .u32 c16) := h16
          have hc' : (wr.drewN nq).cell? ⟨w.heap.size, k, none⟩ = some (.int .u32 ((sch b k).getD k 0)) := hc
          have hz' := frozen_of_row (wr.drewN nq) _ k _ _ H3.out.1
          clear h2 h7 h15 h16 hc hz
          generalize wr.drewN nq = w5 at *
          go_wp2_with (go_at_call 67; refine (rotr_lit _ _ _ (by decide)).mono ?_; rintro e w6 ⟨rfl, rfl⟩)
          go_still_tail 14, (by kernel_rfl)
          change wpList _ _ _ _ _ w5.drew
          have H4 : Hid (RowW w5.drew w.heap.size 81 (sch b k) ∧ Below w.heap.size w w5.drew ∧ w5.drew.heap.size = w.heap.size + 1) := ⟨H3.out.1, Below.drew H3.out.2.1, H3.out.2.2⟩
          have hc2 : w5.drew.cell? ⟨w.heap.size, k, none⟩ = some (.int .u32 ((sch b k).getD k 0)) := hc'
          have hz2 := frozen_of_row w5.drew _ k _ _ H4.out.1
          clear h7' h16' hc' hz'
          generalize w5.drew = w6 at *
          go_wp2
          go_roundw
          case rel =>
            refine ⟨k + 1, by omega, by omega, by go_num, ?_⟩
            obtain ⟨h1, h2, h3⟩ := H4.out
            refine ⟨?_, h2.setCell (by simp) _, by simpa using h3⟩
            rw [sch_next b k hk0, hn]
            exact h1.set k (newW c16 c15 c7 c2)
          case measure => simp [intOf]; omega
        · have hk' : k = 64 := by omega
          subst hk'
          obtain ⟨h1, h2, h3⟩ := H.out
          clear H
          unfold RowW at h1
          have hl64 : (sch b 64).length = 64 := sch_length b 64
          obtain ⟨s, hs⟩ : ∃ s, s = sch b 64 := ⟨_, rfl⟩
          rw [← hs] at h1 hl64
          go_wp2_with (first | (refine wpList_load_row rfl 81 (.tmp 2) rfl w.heap.size rfl 81 _ (0, 0) _ h1 Tryd.underlying81 rfl (size73 _ hl64) ?_) | (refine wpList_store_row rfl 81 (.tmp 2) (.tmp 79) rfl w.heap.size _ rfl rfl 81 _ h1 (size73 _ hl64) rfl (all_words _) ?_))
          refine bodyPost_ret (results_cell_row rfl _ _ w.heap.size 81 _ (0, 0) _ (by kernel_rfl) (RowW.put h1) Tryd.underlying81 rfl (size73 _ hl64)) rfl ?_
          exact ⟨by rw [← hs], bsetRow h2 (by omega) _⟩

end Go.Proofs.YthmpeeipbclhkaaDoor
