/-
  Walks: the washes of the reference.
-/
import Derived.Test.YtijdjbkmkopmnaaDb
import Derived.Test.YtijdjbkmkopmnaaMk
namespace Go.Proofs.Ytijdjbkmkopmnaa
open Go.RowKit
set_option linter.unusedVariables false
set_option linter.unusedSimpArgs false


/-- The pairs known behind k washes, in memory. -/
structure WS (w : World) (G : Nat) (hs : List Wh) (k : Nat) (wr : World) (R : List Bool) : Prop where
  below : Below w.heap.size w wr
  rw : Rw 4 bz wr G R
  len : R.length = 4096
  is : ∀ p q, p < 64 → q < 64 → bv R (64 * p + q) = kS (fun _ _ => false) hs k p q
  ok : ∀ j x, j < k → hs[j]? = some x → (hOk x && !inS (kS (fun _ _ => false) hs j) x) = true
theorem WS.on {w wr wr' : World} {G k : Nat} {hs : List Wh} {R : List Bool} (h : WS w G hs k wr R) (hb : Below wr.heap.size wr wr') : WS w G hs k wr' R := ⟨btrans h.below hb, h.rw.on hb, h.len, h.is, h.ok⟩
theorem WS.step {w wr : World} {G k p q : Nat} {mi : Int} {hs : List Wh} {R : List Bool} (h : WS w G hs k wr R) (hG : w.heap.size ≤ G) (hx : hs[k]? = some ⟨(p : Int), (q : Int), mi⟩) (hp : p < 64) (hq : q < 64) (hok : (hOk ⟨(p : Int), (q : Int), mi⟩ && !inS (kS (fun _ _ => false) hs k) ⟨(p : Int), (q : Int), mi⟩) = true) :
    WS w G hs (k + 1) (wr.setCell ⟨G, 64 * p + q, none⟩ (.bool true)) (R.set (64 * p + q) true) := by
  have hl : 64 * p + q < R.length := by rw [h.len]; omega
  refine ⟨Below.setCell h.below hG _, h.rw.put _ true, by rw [List.length_set]; exact h.len, fun a b ha hb => ?_, fun j y hj hy => ?_⟩
  · rw [kS_succ hx, bv_set hl]
    unfold addS
    rw [← h.is a b ha hb]
    simp only [Int.toNat_natCast]
    by_cases e : 64 * p + q = 64 * a + b
    · have e1 : a = p := by omega
      have e2 : b = q := by omega
      rw [if_pos e, e1, e2]
      simp
    · rw [if_neg e]
      have : (a == p && b == q) = false := by
        by_cases e1 : a = p
        · by_cases e2 : b = q
          · exact absurd (by rw [e1, e2]) e
          · simp [e2]
        · simp [e1]
      rw [this, Bool.or_false]
  · by_cases e : j < k
    · exact h.ok j y e hy
    · obtain rfl : j = k := by omega
      rw [hx] at hy
      cases hy
      exact hok

set_option maxRecDepth 100000 in
set_option maxHeartbeats 8000000 in
theorem rwashes_any {w : World} {a : Option Addr} {n c : Nat} {hs : List Wh} (hn : n = hs.length) (hl : Hs (fun k => k < w.heap.size) w (.slice a n c) hs) (R0 : Int) (hR : R0 = if hgo (fun _ _ => false) hs then 0 else 1) :
    Calls Try.prog 50 #[.slice a n c] w fun e w' => e = .returned (.int .i64 R0) ∧ Below w.heap.size w w' := by
  obtain ⟨G, hG⟩ : ∃ G, G = w.heap.size := ⟨_, rfl⟩
  obtain ⟨w4, h4⟩ : ∃ w4, w4 = w.alloc (.cells (madeCells #[.bool false] 4096) 4) := ⟨_, rfl⟩
  have hmk := made4 w 4096 (by omega)
  rw [← hG, ← h4] at hmk
  have hws : WS w G hs 0 w4 (List.replicate 4096 false) := ⟨by rw [h4]; exact ball (Below.refl _ _) _, by rw [h4, hG]; exact rw_made (f := bz) _ 4096 false, List.length_replicate, fun p q _ _ => by rw [bv_rep]; cases hs <;> rfl, fun j x hj => by omega⟩
  have HWS := Lib.hid hws; have HG := Lib.hid hG; have HL := Lib.hid hl; have HN := Lib.hid hn; have HR := Lib.hid hR
  have hn1 : n ≤ 70368744177664 := by have := hl.1; omega
  have hmk2 : Sem.run Try.prog (Instr.makeSlice 63 (.int .i64 4096) (.int .i64 4096)) w = .ok (.slice (some ⟨G, 0, none⟩) 4096 4096) w4 := hmk
  clear hmk hws hG h4 hl hn hR
  go_enter Try.func50, Try.ntmps50
  go_wp2
  clear hmk2
  go_loopw [4] (fun s4 wr => ∃ k : Nat, k ≤ n ∧ s4 = .int .i64 (k : Int) ∧ Hid (∃ R, WS w G hs k wr R)) (fun s4 _ => n - (intOf s4).toNat)
  case atStart => exact ⟨0, by omega, rfl, Lib.hid ⟨_, HWS.out⟩⟩
  case round =>
    clear HWS
    obtain ⟨k, hk, rfl, HI⟩ := hrel
    obtain ⟨R, hR⟩ := HI.out
    by_cases hlt : k < n
    rotate_left
    · obtain rfl : k = n := by omega
      have hlt2 : ¬ ((k : Int) < (k : Int)) := by omega
      have hr0 : R0 = 0 := by
        rw [HR.out, if_pos]
        exact hgo_iff.2 fun j x hx => hR.ok j x (by rw [HN.out]; exact (List.getElem?_eq_some_iff.1 hx).1) hx
      subst hr0
      have HB := Lib.hid hR.below
      clear hR HI
      go_wp2
      go_ret
      exact ⟨rfl, HB.out⟩
    have hlt2 : (k : Int) < (n : Int) := by omega
    obtain ⟨g, off, ⟨fr, tt, mi⟩, rfl, hg, hx, _, hra, _⟩ := (HL.out.on hR.below).pick k (by rw [← HN.out]; exact hlt)
    have HRR : Hid (wr.rangeAt g (off + k * 3) [.int .i64 fr, .int .i64 tt, .int .i64 mi]) := Lib.hid hra
    have HBAD : Hid ((hOk ⟨fr, tt, mi⟩ && !inS (kS (fun _ _ => false) hs k) ⟨fr, tt, mi⟩) = false → R0 = 1) := Lib.hid (fun h => by
      rw [HR.out, if_neg]
      intro e
      have := hgo_iff.1 e k _ hx
      rw [h] at this
      cases this)
    obtain ⟨ZB, hZB⟩ : ∃ ZB, ZB = wr.heap.size := ⟨_, rfl⟩
    obtain ⟨wx, hwx⟩ : ∃ wx, wx = wr.alloc (.cells #[.int .i64 fr, .int .i64 tt, .int .i64 mi] 87) := ⟨_, rfl⟩
    have hbx : Below wr.heap.size wr wx := by rw [hwx]; exact ball (Below.refl _ _) _
    have hwb : wx.heap[ZB]? = some (.cells #[.int .i64 fr, .int .i64 tt, .int .i64 mi] 87 (0, 0)) := by rw [hwx, hZB]; exact bnew _ _
    have e0 : wx.cell? ⟨ZB, 0, none⟩ = some (.int .i64 fr) := by rw [cell_of_row wx _ 0 _ 87 (0, 0) hwb]; rfl
    have e1 : wx.cell? ⟨ZB, 1, none⟩ = some (.int .i64 tt) := by rw [cell_of_row wx _ 1 _ 87 (0, 0) hwb]; rfl
    have e2 : wx.cell? ⟨ZB, 2, none⟩ = some (.int .i64 mi) := by rw [cell_of_row wx _ 2 _ 87 (0, 0) hwb]; rfl
    have HRX := Lib.hid (hR.on hbx); have HXX := Lib.hid hx; have HWX := Lib.hid hwx; have HZB := Lib.hid hZB; have HLT := Lib.hid hR.rw.lt
    clear hR HI hg hx hra hbx hwb hlt hwx
    cases h0 : rng 0 fr 63 with
    | false =>
      have H0 := Lib.hid (within_any 0 fr 63)
      rw [h0] at H0
      obtain rfl : R0 = 1 := HBAD.out (by unfold hOk; simp [h0])
      have HB := Lib.hid HRX.out.below
      clear h0
      go_upto_region 6 with (refine wpList_load_mid rfl 87 (.tmp 15) rfl g (off + k * 3) rfl [.int .i64 fr, .int .i64 tt, .int .i64 mi] _ HRR.out Try.underlying87 rfl (by kernel_rfl) ?_)
      rw [← HWX.out]
      rw [← HZB.out]
      clear hZB
      go_wp2_with fail
      refine (H0.out _).mono ?_
      rintro e w' ⟨rfl, rfl⟩
      go_wp2
      go_ret
      exact ⟨rfl, HB.out⟩
    | true =>
      have H0 := Lib.hid (within_any 0 fr 63)
      rw [h0] at H0
      cases h1 : rng 0 tt 63 with
      | false =>
        have H1 := Lib.hid (within_any 0 tt 63)
        rw [h1] at H1
        obtain rfl : R0 = 1 := HBAD.out (by unfold hOk; simp [h0, h1])
        have HB := Lib.hid HRX.out.below
        clear h0 h1
        go_upto_region 6 with (refine wpList_load_mid rfl 87 (.tmp 15) rfl g (off + k * 3) rfl [.int .i64 fr, .int .i64 tt, .int .i64 mi] _ HRR.out Try.underlying87 rfl (by kernel_rfl) ?_)
        rw [← HWX.out]
        rw [← HZB.out]
        clear hZB
        go_wp2_with fail
        refine (H0.out _).mono ?_
        rintro e w' ⟨rfl, rfl⟩
        go_wp2_with fail
        refine (H1.out _).mono ?_
        rintro e w' ⟨rfl, rfl⟩
        go_wp2
        go_ret
        exact ⟨rfl, HB.out⟩
      | true =>
        have H1 := Lib.hid (within_any 0 tt 63)
        rw [h1] at H1
        by_cases h2 : fr = tt
        · have d2 : (fr == tt) = true := by simpa using h2
          have h2b : (fr != tt) = false := by simpa using h2
          obtain rfl : R0 = 1 := HBAD.out (by unfold hOk; simp [h0, h1, h2b])
          have HB := Lib.hid HRX.out.below
          clear h0 h1 h2 h2b
          go_upto_region 6 with (refine wpList_load_mid rfl 87 (.tmp 15) rfl g (off + k * 3) rfl [.int .i64 fr, .int .i64 tt, .int .i64 mi] _ HRR.out Try.underlying87 rfl (by kernel_rfl) ?_)
          rw [← HWX.out]
          rw [← HZB.out]
          clear hZB
          go_wp2_with fail
          refine (H0.out _).mono ?_
          rintro e w' ⟨rfl, rfl⟩
          go_wp2_with fail
          refine (H1.out _).mono ?_
          rintro e w' ⟨rfl, rfl⟩
          go_wp2
          go_ret
          exact ⟨rfl, HB.out⟩
        have d2 : (fr == tt) = false := by simpa using h2
        have h2b : (fr != tt) = true := by simpa using h2
        cases h3 : rng 0 mi 100000 with
        | false =>
          have H3 := Lib.hid (within_any 0 mi 100000)
          rw [h3] at H3
          obtain rfl : R0 = 1 := HBAD.out (by unfold hOk; simp [h0, h1, h2b, h3])
          have HB := Lib.hid HRX.out.below
          clear h0 h1 h2 h2b h3
          go_upto_region 6 with (refine wpList_load_mid rfl 87 (.tmp 15) rfl g (off + k * 3) rfl [.int .i64 fr, .int .i64 tt, .int .i64 mi] _ HRR.out Try.underlying87 rfl (by kernel_rfl) ?_)
          rw [← HWX.out]
          rw [← HZB.out]
          clear hZB
          go_wp2_with fail
          refine (H0.out _).mono ?_
          rintro e w' ⟨rfl, rfl⟩
          go_wp2_with fail
          refine (H1.out _).mono ?_
          rintro e w' ⟨rfl, rfl⟩
          go_wp2_with fail
          refine (H3.out _).mono ?_
          rintro e w' ⟨rfl, rfl⟩
          go_wp2
          go_ret
          exact ⟨rfl, HB.out⟩
        | true =>
          have H3 := Lib.hid (within_any 0 mi 100000)
          rw [h3] at H3
          have b0 := rng_iff.1 h0
          have b1 := rng_iff.1 h1
          have hok : hOk ⟨fr, tt, mi⟩ = true := by unfold hOk; simp [h0, h1, h2b, h3]
          obtain ⟨p, rfl⟩ : ∃ p : Nat, fr = (p : Int) := ⟨fr.toNat, by omega⟩
          obtain ⟨q, rfl⟩ : ∃ q : Nat, tt = (q : Int) := ⟨tt.toNat, by omega⟩
          have hp : p < 64 := by omega
          have hq : q < 64 := by omega
          obtain ⟨P, hP⟩ : ∃ P : Nat, P = 64 * p := ⟨_, rfl⟩
          obtain ⟨I, hI⟩ : ∃ I : Nat, I = P + q := ⟨_, rfl⟩
          have hIe : I = 64 * p + q := by omega
          have u1 : IntKind.i64.wrap (64 * (p : Int)) = (P : Int) := by rw [wrap_in (by omega) (by omega)]; omega
          have u2 : IntKind.i64.wrap ((P : Int) + (q : Int)) = (I : Int) := by rw [wrap_in (by omega) (by omega)]; omega
          have i1 : (I : Int) < 4096 := by omega
          have r0 : wx.cell? ⟨G, I, none⟩ = some (.bool (bv R I)) := HRX.out.rw.cell (bv_get (by rw [HRX.out.len]; omega))
          have f0 := HRX.out.rw.free I
          have hin : inS (kS (fun _ _ => false) hs k) ⟨(p : Int), (q : Int), mi⟩ = bv R I := by rw [hIe, HRX.out.is p q hp hq]; unfold inS; simp
          have HSTEP : Hid (bv R I = false → WS w G hs (k + 1) (wx.setCell ⟨G, I, none⟩ (.bool true)) (R.set I true)) := Lib.hid (fun e => by rw [hIe]; exact HRX.out.step (by rw [HG.out]; exact Nat.le_refl _) HXX.out hp hq (by rw [hok, hin, e]; rfl))
          have HSB : Hid (bv R I = true → R0 = 1) := Lib.hid (fun e => HBAD.out (by rw [hok, hin, e]; rfl))
          have HB := Lib.hid HRX.out.below
          have hne : ZB ≠ G := by have := HLT.out; omega
          have x0 : (wx.setCell ⟨G, I, none⟩ (.bool true)).cell? ⟨ZB, 0, none⟩ = some (.int .i64 (p : Int)) := (World.cell?_of_block (w := wx) (a := ⟨ZB, 0, none⟩) (heap_setCell_other wx ⟨G, I, none⟩ ZB _ hne)).trans e0
          obtain ⟨V, hV⟩ : ∃ V, V = bv R I := ⟨_, rfl⟩
          rw [← hV] at r0
          have HV := Lib.hid hV
          clear x0 h0 h1 h2 h2b h3 b0 b1 hok hp hq hP hI hIe hin hne hV HLT
          cases V with
          | true =>
            obtain rfl : R0 = 1 := HSB.out HV.out.symm
            go_upto_region 6 with (refine wpList_load_mid rfl 87 (.tmp 15) rfl g (off + k * 3) rfl [.int .i64 (p : Int), .int .i64 (q : Int), .int .i64 mi] _ HRR.out Try.underlying87 rfl (by kernel_rfl) ?_)
            rw [← HWX.out]
            rw [← HZB.out]
            clear hZB
            go_wp2_with fail
            refine (H0.out _).mono ?_
            rintro e w' ⟨rfl, rfl⟩
            go_wp2_with fail
            refine (H1.out _).mono ?_
            rintro e w' ⟨rfl, rfl⟩
            go_wp2_with fail
            refine (H3.out _).mono ?_
            rintro e w' ⟨rfl, rfl⟩
            go_wp2
            go_ret
            exact ⟨rfl, HB.out⟩
          | false =>
            have HN2 := Lib.hid (HSTEP.out HV.out.symm)
            go_upto_region 6 with (refine wpList_load_mid rfl 87 (.tmp 15) rfl g (off + k * 3) rfl [.int .i64 (p : Int), .int .i64 (q : Int), .int .i64 mi] _ HRR.out Try.underlying87 rfl (by kernel_rfl) ?_)
            rw [← HWX.out]
            rw [← HZB.out]
            clear hZB
            go_wp2_with fail
            refine (H0.out _).mono ?_
            rintro e w' ⟨rfl, rfl⟩
            go_wp2_with fail
            refine (H1.out _).mono ?_
            rintro e w' ⟨rfl, rfl⟩
            go_wp2_with fail
            refine (H3.out _).mono ?_
            rintro e w' ⟨rfl, rfl⟩
            go_wp2
            go_roundw
            case rel => exact ⟨k + 1, by omega, by go_num, Lib.hid ⟨_, HN2.out⟩⟩
            case measure => simp [intOf]; omega
end Go.Proofs.Ytijdjbkmkopmnaa
