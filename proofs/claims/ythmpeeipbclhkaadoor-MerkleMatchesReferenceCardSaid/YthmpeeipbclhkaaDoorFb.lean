/-
  Walks of the reference's digest: the schedule of a block.
-/
import Derived.Test.YthmpeeipbclhkaaDoorFa
import Derived.Test.YthmpeeipbclhkaaDoorDd
namespace Go.Proofs.YthmpeeipbclhkaaDoor
open Go.RowKit

/-- 64 words stored whole into a block that holds some: the world behind it, under a name of its own. -/
theorem st73 {ops : Array Oper} {rest : List Oper} {o : Oper} {a : Act} {w : World} {Q : Exit → Act → World → Prop} (hgd : o.guard = none) (x y : Operand) (ho : o.op = .store 81 x y)
    (g : Nat) (l l0 : List Int) (hx : a.eval x = .pointer (some ⟨g, 0, none⟩)) (hy : a.eval y = .agg (words l).toArray) (hg : RowW w g 81 l0) (h0 : l0.length = 64) (h1 : l.length = 64)
    (h : ∀ w', RowW w' g 81 l → (∀ k, k ≠ g → w'.heap[k]? = w.heap[k]?) → w'.heap.size = w.heap.size → (∀ (B0 : Nat) (c : World), B0 ≤ g → Below B0 c w → Below B0 c w') → wpList Tryd.prog ops Q rest (a.put o.dst undef) w') : wpList Tryd.prog ops Q (o :: rest) a w :=
  wpList_store_row hgd 81 x y ho g _ hx hy 81 _ hg (size73 _ h1) (by simp [words, h0, h1]) (all_words _)
    (h _ (RowW.put hg) (fun k hk => setRow_other _ _ _ _ hk) (by simp) (fun _ _ hB hb => bsetRow hb hB _))

/-- Four bytes joined. -/
theorem join4 (c0 c1 c2 c3 : Int) (h0 : 0 ≤ c0 ∧ c0 ≤ 255) (h1 : 0 ≤ c1 ∧ c1 ≤ 255) (h2 : 0 ≤ c2 ∧ c2 ≤ 255) (h3 : 0 ≤ c3 ∧ c3 ≤ 255) :
    bits .or .u32 (bits .or .u32 (bits .or .u32 (c0 * 16777216) (c1 * 65536)) (c2 * 256)) c3 = ((c0 * 256 + c1) * 256 + c2) * 256 + c3 := by
  have e1 : bits .or .u32 (c0 * 16777216) (c1 * 65536) = c0 * 16777216 + c1 * 65536 := by
    refine bits_join .u32 32 (by decide) (fun n h0 h1 => ?_) 24 _ _ (by omega) (by omega) (by omega) (by omega) (by omega) (by omega)
    rw [IntKind.wrap_u32]; omega
  have e2 : bits .or .u32 (c0 * 16777216 + c1 * 65536) (c2 * 256) = c0 * 16777216 + c1 * 65536 + c2 * 256 := by
    refine bits_join .u32 32 (by decide) (fun n h0 h1 => ?_) 16 _ _ (by omega) (by omega) (by omega) (by omega) (by omega) (by omega)
    rw [IntKind.wrap_u32]; omega
  have e3 : bits .or .u32 (c0 * 16777216 + c1 * 65536 + c2 * 256) c3 = c0 * 16777216 + c1 * 65536 + c2 * 256 + c3 := by
    refine bits_join .u32 32 (by decide) (fun n h0 h1 => ?_) 8 _ _ (by omega) (by omega) (by omega) (by omega) (by omega) (by omega)
    rw [IntKind.wrap_u32]; omega
  rw [e1, e2, e3]; omega

theorem wordOf_eq (b : List Int) (k : Nat) (h : 4 * k + 3 < b.length) : wordOf b k = ((b[4 * k] * 256 + b[4 * k + 1]) * 256 + b[4 * k + 2]) * 256 + b[4 * k + 3] := by
  unfold wordOf
  rw [wordTo_next b k 3 (by omega), wordTo_next b k 2 (by omega), wordTo_next b k 1 (by omega), wordTo_next b k 0 (by omega)]
  simp [wordTo, num]

/-- What holds while the schedule is made. -/
def SchS (w : World) (l : List Int) (wr : World) : Prop := RowW wr (w.heap.size + 1) 81 l ∧ RowW wr w.heap.size 81 (List.replicate 64 0) ∧ Below w.heap.size w wr ∧ wr.heap.size = w.heap.size + 2
theorem SchS.drewN {w : World} {l : List Int} {wr : World} (h : SchS w l wr) (n : Nat) : SchS w l (wr.drewN n) := ⟨h.1, h.2.1, bdrewN h.2.2.1 n, h.2.2.2⟩
theorem SchS.drew {w : World} {l : List Int} {wr : World} (h : SchS w l wr) : SchS w l wr.drew := ⟨h.1, h.2.1, Below.drew h.2.2.1, h.2.2.2⟩
theorem SchS.set {w : World} {l : List Int} {wr : World} (h : SchS w l wr) (k : Nat) (x : Int) : SchS w (l.set k x) (wr.setCell ⟨w.heap.size + 1, k, none⟩ (.int .u32 x)) :=
  ⟨h.1.set k x, RowW.kept h.2.1 (heap_setCell_other _ _ _ _ (by show _ ≠ w.heap.size + 1; omega)), h.2.2.1.setCell (by simp) _, by simpa using h.2.2.2⟩

set_option maxRecDepth 100000 in
set_option maxHeartbeats 2000000 in
theorem rschedule_any (b : List Int) (w : World) (v : Value) (hl : b.length = 64) (hv : Bs (fun k => k < w.heap.size) w v b) :
    Calls Tryd.prog 63 #[v] w fun e w' => e = .returned (.agg (words (sch b 64)).toArray) ∧ Below w.heap.size w w' := by
  obtain ⟨g, off, cap, rfl, hcap, hg, hcell⟩ := hv.at (by omega)
  rw [hl] at hcap ⊢
  have HR := Lib.hid hv.2.1
  clear hv
  have HC := Lib.hid hcell; clear hcell
  have hz0 : (part (wordOf b) 64 0) = List.replicate 64 0 := part_zero _ _
  go_enter Tryd.func63, Tryd.ntmps63
  go_wp2_with (refine st73 rfl (.tmp 3) (.tmp 8) rfl (w.heap.size + 1) (List.replicate 64 0) (List.replicate 64 0) rfl rfl (RowW.new' _ (by simp) rfl) rfl rfl ?_; intro wA rA oA sA bA)
  have hS0 : SchS w (part (wordOf b) 64 0) wA := by
    refine ⟨by rw [hz0]; exact rA, ?_, ?_, by rw [sA]; simp⟩
    · refine RowW.kept (RowW.kept (RowW.new' (B := w.heap.size) w rfl rfl) (heap_alloc_old _ _ (by simp))) (oA _ (by omega))
    · exact bA _ _ (by omega) (ball (ball (Below.refl _ _) _) _)
  clear rA oA sA bA
  have HS0 := Lib.hid hS0; clear hS0 hz0
  go_loopw [4] (fun i wr => ∃ k : Nat, k ≤ 16 ∧ i = .int .i64 k ∧ Hid (SchS w (part (wordOf b) 64 k) wr)) (fun i _ => 16 - (intOf i).toNat)
  case atStart => exact ⟨0, by omega, rfl, HS0.out⟩
  case round =>
    obtain ⟨k, hk, rfl, H⟩ := hrel
    by_cases hlt : k < 16
    · obtain ⟨q0, q1, q2, q3, c0, c1, c2, c3, w0, w1, w2, w3, x0, x1, x2, x3, e0, e1, e2, e3, s0, s1, s2, hj, b0, b1, b2, b3⟩ : ∃ (q0 q1 q2 q3 : Nat) (c0 c1 c2 c3 : Int), IntKind.i64.wrap (4 * (k : Int)) = (q0 : Int) ∧ IntKind.i64.wrap ((q0 : Int) + 1) = (q1 : Int) ∧ IntKind.i64.wrap ((q0 : Int) + 2) = (q2 : Int) ∧ IntKind.i64.wrap ((q0 : Int) + 3) = (q3 : Int) ∧
          wr.cell? ⟨g, off + q0, none⟩ = some (.int .u8 c0) ∧ wr.cell? ⟨g, off + q1, none⟩ = some (.int .u8 c1) ∧ wr.cell? ⟨g, off + q2, none⟩ = some (.int .u8 c2) ∧ wr.cell? ⟨g, off + q3, none⟩ = some (.int .u8 c3) ∧
          IntKind.u32.wrap c0 = c0 ∧ IntKind.u32.wrap c1 = c1 ∧ IntKind.u32.wrap c2 = c2 ∧ IntKind.u32.wrap c3 = c3 ∧
          IntKind.u32.wrap (c0 * 16777216) = c0 * 16777216 ∧ IntKind.u32.wrap (c1 * 65536) = c1 * 65536 ∧ IntKind.u32.wrap (c2 * 256) = c2 * 256 ∧
          bits .or .u32 (bits .or .u32 (bits .or .u32 (c0 * 16777216) (c1 * 65536)) (c2 * 256)) c3 = wordOf b k ∧ q0 < 64 ∧ q1 < 64 ∧ q2 < 64 ∧ q3 < 64 := by
        have hcell : ∀ q (hq : q < 64), wr.cell? ⟨g, off + q, none⟩ = some (.int .u8 (b[q]'(by omega))) := fun q hq =>
          (World.cell?_of_block (w := w) (a := ⟨g, off + q, none⟩) (H.out.2.2.1.block g hg)).trans (HC.out q _ (List.getElem?_eq_getElem (by omega)))
        have r0 := HR.out _ (List.getElem_mem (l := b) (n := 4 * k) (by omega)); have r1 := HR.out _ (List.getElem_mem (l := b) (n := 4 * k + 1) (by omega))
        have r2 := HR.out _ (List.getElem_mem (l := b) (n := 4 * k + 2) (by omega)); have r3 := HR.out _ (List.getElem_mem (l := b) (n := 4 * k + 3) (by omega))
        refine ⟨4 * k, 4 * k + 1, 4 * k + 2, 4 * k + 3, _, _, _, _, by rw [IntKind.wrap_i64]; omega, by rw [IntKind.wrap_i64]; omega, by rw [IntKind.wrap_i64]; omega, by rw [IntKind.wrap_i64]; omega,
          hcell _ (by omega), hcell _ (by omega), hcell _ (by omega), hcell _ (by omega), by rw [IntKind.wrap_u32]; omega, by rw [IntKind.wrap_u32]; omega, by rw [IntKind.wrap_u32]; omega, by rw [IntKind.wrap_u32]; omega,
          by rw [IntKind.wrap_u32]; omega, by rw [IntKind.wrap_u32]; omega, by rw [IntKind.wrap_u32]; omega, ?_, by omega, by omega, by omega, by omega⟩
        rw [join4 _ _ _ _ r0 r1 r2 r3, wordOf_eq b k (by omega)]
      have hc := H.out.1.cell (j := k) (x := 0) (by rw [part_at _ _ _ _ (by omega), if_neg (by omega)])
      have hz := frozen_of_row wr _ k _ _ H.out.1
      have b4 : (k : Int) < 64 := by omega
      have b5 : (q0 : Int) < 64 := by omega
      have b6 : (q1 : Int) < 64 := by omega
      have b7 : (q2 : Int) < 64 := by omega
      have b8 : (q3 : Int) < 64 := by omega
      go_wp2
      go_still_tail 35, (by kernel_rfl)
      change wpList _ _ _ _ _ wr.drew
      have H3 : Hid (SchS w (part (wordOf b) 64 k) wr.drew) := H.out.drew
      have hc' : wr.drew.cell? ⟨w.heap.size + 1, k, none⟩ = some (.int .u32 0) := hc
      have hz' : wr.drew.frozen? ⟨w.heap.size + 1, k, none⟩ = false := hz
      clear H hc hz x0 x1 x2 x3
      generalize wr.drew = w4 at *
      go_wp2
      go_roundw
      case rel =>
        refine ⟨k + 1, by omega, by go_num, ?_⟩
        rw [← part_set _ _ _ (by omega)]
        exact H3.out.set k _
      case measure => simp [intOf]; omega
    · have hk' : k = 16 := by omega
      subst hk'
      go_wp2
      rw [show ((16 : Nat) : Int) = 16 from rfl]
      go_loopw [5, 6, 7] (fun i _ _ wr => ∃ k : Nat, 16 ≤ k ∧ k ≤ 64 ∧ i = .int .i64 k ∧ Hid (SchS w (sch b k) wr)) (fun i _ _ _ => 64 - (intOf i).toNat)
      case atStart => exact ⟨16, by omega, by omega, rfl, by rw [sch_16]; exact H.out⟩
      case round =>
        clear H
        obtain ⟨k, hk0, hk, rfl, H⟩ := hrel
        by_cases hlt : k < 64
        · obtain ⟨q2, q7, q15, q16, c2, c7, c15, c16, cz, f2, f7, f15, f16, F2, F7, F15, F16, FK, b2, b7, b15, b16, hn⟩ : ∃ (q2 q7 q15 q16 : Nat) (c2 c7 c15 c16 cz : Int), IntKind.i64.wrap ((k : Int) - 2) = (q2 : Int) ∧ IntKind.i64.wrap ((k : Int) - 7) = (q7 : Int) ∧ IntKind.i64.wrap ((k : Int) - 15) = (q15 : Int) ∧ IntKind.i64.wrap ((k : Int) - 16) = (q16 : Int) ∧
              Hid (∀ W, SchS w (sch b k) W → W.cell? ⟨w.heap.size + 1, q2, none⟩ = some (.int .u32 c2)) ∧ Hid (∀ W, SchS w (sch b k) W → W.cell? ⟨w.heap.size + 1, q7, none⟩ = some (.int .u32 c7)) ∧
              Hid (∀ W, SchS w (sch b k) W → W.cell? ⟨w.heap.size + 1, q15, none⟩ = some (.int .u32 c15)) ∧ Hid (∀ W, SchS w (sch b k) W → W.cell? ⟨w.heap.size + 1, q16, none⟩ = some (.int .u32 c16)) ∧
              Hid (∀ W, SchS w (sch b k) W → W.cell? ⟨w.heap.size + 1, k, none⟩ = some (.int .u32 cz)) ∧
              (q2 : Int) < 64 ∧ (q7 : Int) < 64 ∧ (q15 : Int) < 64 ∧ (q16 : Int) < 64 ∧ nextW (sch b k) k = newW c16 c15 c7 c2 := by
            have hs := sch_length b k
            exact ⟨k - 2, k - 7, k - 15, k - 16, _, _, _, _, _, by rw [IntKind.wrap_i64]; omega, by rw [IntKind.wrap_i64]; omega, by rw [IntKind.wrap_i64]; omega, by rw [IntKind.wrap_i64]; omega,
              fun W hW => hW.1.cell (getD_some (by omega)), fun W hW => hW.1.cell (getD_some (by omega)), fun W hW => hW.1.cell (getD_some (by omega)), fun W hW => hW.1.cell (getD_some (by omega)), fun W hW => hW.1.cell (getD_some (by omega)), by omega, by omega, by omega, by omega, rfl⟩
          have b1 : (k : Int) < 64 := by omega
          have h15 := F15.out _ H.out
          go_wp2_with fail
          go_quiet ((go_at_call 65; exact Calls.quiet_of (rrotr_lit _ _ _ (by decide))))
          have H3 : Hid (SchS w (sch b k) (wr.drewN nq)) := H.out.drewN nq
          clear H h15
          generalize wr.drewN nq = w5 at *
          have h2 := F2.out _ H3.out
          go_wp2_with fail
          go_quiet ((go_at_call 65; exact Calls.quiet_of (rrotr_lit _ _ _ (by decide))))
          have H4 : Hid (SchS w (sch b k) (w5.drewN nq)) := H3.out.drewN nq
          clear H3 h2
          generalize w5.drewN nq = w6 at *
          have h7 := F7.out _ H4.out
          have h16 := F16.out _ H4.out
          have hc := FK.out _ H4.out
          have hz := frozen_of_row w6 _ k _ _ H4.out.1
          go_wp2_with fail
          go_still_tail 15, (by kernel_rfl)
          change wpList _ _ _ _ _ w6.drew
          have H5 : Hid (SchS w (sch b k) w6.drew) := H4.out.drew
          clear h7 h16 hc hz H4
          generalize w6.drew = w7 at *
          have hc := FK.out _ H5.out
          have hz := frozen_of_row w7 _ k _ _ H5.out.1
          go_wp2
          go_roundw
          case rel =>
            refine ⟨k + 1, by omega, by omega, by go_num, ?_⟩
            rw [sch_next b k hk0, hn]
            exact H5.out.set k (newW c16 c15 c7 c2)
          case measure => simp [intOf]; omega
        · have hk' : k = 64 := by omega
          subst hk'
          obtain ⟨h1, h2, h3, h4⟩ := H.out
          clear H
          unfold RowW at h1 h2
          have hl64 : (sch b 64).length = 64 := sch_length b 64
          obtain ⟨s, hs⟩ : ∃ s, s = sch b 64 := ⟨_, rfl⟩
          rw [← hs] at h1 hl64
          go_wp2_with (first | (refine wpList_load_row rfl 81 (.tmp 3) rfl (w.heap.size + 1) rfl 81 _ (0, 0) _ h1 Tryd.underlying81 rfl (size73 _ hl64) ?_) | (refine wpList_store_row rfl 81 (.tmp 2) (.tmp 101) rfl w.heap.size _ rfl rfl 81 _ h2 (size73 _ hl64) (by simp [words, hl64]) (all_words _) ?_))
          refine bodyPost_ret (results_cell_row rfl _ _ w.heap.size 81 _ (0, 0) _ (by kernel_rfl) (RowW.put h2) Tryd.underlying81 rfl (size73 _ hl64)) rfl ?_
          exact ⟨by rw [← hs], bsetRow h3 (by omega) _⟩

end Go.Proofs.YthmpeeipbclhkaaDoor
