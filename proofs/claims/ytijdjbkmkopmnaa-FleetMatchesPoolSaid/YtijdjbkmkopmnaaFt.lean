/-
  Walks: Fits, Worth, Clean of the program.
-/
import Derived.Test.YtijdjbkmkopmnaaFd
import Derived.Test.YtijdjbkmkopmnaaVb
namespace Go.Proofs.Ytijdjbkmkopmnaa
open Go.RowKit
set_option linter.unusedVariables false
set_option linter.unusedSimpArgs false

theorem FR.one {ts : List Ty} {ws : List Wn} {ss : List Sw} {hs : List Wh} {wagon : Int} {cs ds : Array Value} {E : Int} (h : FR ts ws ss hs wagon cs ds E) : cs.all (·.oneCell') = true ∧ ds.all (·.oneCell') = true := by
  rcases h with ⟨_, _, rfl, rfl⟩ | ⟨_, _, _, rfl, rfl⟩ | ⟨_, _, _, _, x, y, _, _, _, _, rfl, rfl⟩
  · exact ⟨all66z, all68z⟩
  · exact ⟨all66z, all68z⟩
  · exact ⟨all66 x, all68 y⟩
theorem sz66s {cs : Array Value} (h : cs.size = 5) : (Try.prog.info? 66).map (·.size) = some cs.size := by rw [h]; kernel_rfl
theorem sz68s {ds : Array Value} (h : ds.size = 8) : (Try.prog.info? 68).map (·.size) = some ds.size := by rw [h]; kernel_rfl
theorem and_one (a : Nat) (h : a < 18446744073709551616) : bits .and .u64 (a : Int) 1 = ((a % 2 : Nat) : Int) := by
  have h2 := bits_and_u64_nat a 1 h (by omega)
  rw [Nat.and_one_is_mod] at h2
  exact h2
/-- Whether a class is an element of a set. -/
def bit (cl : Int) (c : Int) : Bool := cl.toNat / 2 ^ c.toNat % 2 == 1
def fitE (y : Ty) (c wt : Int) : Int := if rng 0 c 63 && (bit y.cl c && rng 0 wt y.ld) then 0 else 91
/-- What the question of a wagon answers, where there is one: the rest by q. -/
def QR (ts : List Ty) (ws : List Wn) (ss : List Sw) (hs : List Wh) (wagon : Int) (q : Wn → Ty → Prop) (E : Int) : Prop :=
  (chk ts ws ss hs ≠ 0 ∧ E = chk ts ws ss hs) ∨ (chk ts ws ss hs = 0 ∧ rng 0 wagon ((ws.length : Int) - 1) = false ∧ E = 90) ∨
  (chk ts ws ss hs = 0 ∧ ∃ (i j : Nat) (x : Wn) (y : Ty), wagon = (i : Int) ∧ ws[i]? = some x ∧ x.ty = (j : Int) ∧ ts[j]? = some y ∧ q x y)
/-- Two boxes filled. -/
theorem twoboxes (w : World) (z1 z2 cs ds : Array Value) (h1 : z1.size = cs.size) (h2 : z2.size = ds.size) : 
    ((w.alloc (.cells z1 66)).alloc (.cells z2 68)).heap[w.heap.size]? = some (.cells z1 66 (0, 0)) ∧
    (((w.alloc (.cells z1 66)).alloc (.cells z2 68)).setRow w.heap.size cs).heap[w.heap.size + 1]? = some (.cells z2 68 (0, 0)) ∧
    ((((w.alloc (.cells z1 66)).alloc (.cells z2 68)).setRow w.heap.size cs).setRow (w.heap.size + 1) ds).heap[w.heap.size]? = some (.cells cs 66 (0, 0)) ∧
    ((((w.alloc (.cells z1 66)).alloc (.cells z2 68)).setRow w.heap.size cs).setRow (w.heap.size + 1) ds).heap[w.heap.size + 1]? = some (.cells ds 68 (0, 0)) ∧
    Below w.heap.size w ((((w.alloc (.cells z1 66)).alloc (.cells z2 68)).setRow w.heap.size cs).setRow (w.heap.size + 1) ds) := by
  have e1 : ((w.alloc (.cells z1 66)).alloc (.cells z2 68)).heap[w.heap.size]? = some (.cells z1 66 (0, 0)) := bold (bnew _ _)
  have e2 : ((w.alloc (.cells z1 66)).alloc (.cells z2 68)).heap[w.heap.size + 1]? = some (.cells z2 68 (0, 0)) := by have h := bnew (w.alloc (.cells z1 66)) (.cells z2 68); simpa using h
  have e3 : (((w.alloc (.cells z1 66)).alloc (.cells z2 68)).setRow w.heap.size cs).heap[w.heap.size + 1]? = some (.cells z2 68 (0, 0)) := (setRow_other _ _ _ _ (by omega)).trans e2
  exact ⟨e1, e3, (setRow_other _ _ _ _ (by omega)).trans (setRow_heap _ _ _ _ _ _ e1), setRow_heap _ _ _ _ _ _ e3, bsetRow (bsetRow (ball (ball (Below.refl _ _) _) _) (Nat.le_refl _) _) (by omega) _⟩
set_option maxRecDepth 100000 in
set_option maxHeartbeats 8000000 in
theorem fits_any {V : Value} {ts : List Ty} {ws : List Wn} {ss : List Sw} {hs : List Wh} {w : World} (hf : Fl w V ts ws ss hs) (wagon c wt : Int) :
    Calls Try.prog 20 #[V, .int .i64 wagon, .int .i64 c, .int .i64 wt] w fun e w' => ∃ E, e = .returned (.int .i64 E) ∧ Below w.heap.size w w' ∧ QR ts ws ss hs wagon (fun _ y => E = fitE y c wt) E := by
  obtain ⟨a1, c1, a2, c2, a3, c3, a4, c4, rfl, g1, g2, g3, g4⟩ := hf.shape
  obtain ⟨n, hn⟩ : ∃ n, n = ts.length := ⟨_, rfl⟩
  obtain ⟨m, hm⟩ : ∃ m, m = ws.length := ⟨_, rfl⟩
  obtain ⟨k, hk⟩ : ∃ k, k = ss.length := ⟨_, rfl⟩
  obtain ⟨h, hh⟩ : ∃ h, h = hs.length := ⟨_, rfl⟩
  rw [← hn, ← hm, ← hk, ← hh] at hf ⊢
  obtain ⟨W, hW⟩ : ∃ W, W = w.alloc (.cells #[.slice a1 n c1, .slice a2 m c2, .slice a3 k c3, .slice a4 h c4] 27) := ⟨_, rfl⟩
  have hT := g1.2.1
  have HTO := Lib.hid hT
  clear hT
  have hB : Below w.heap.size w W := by rw [hW]; exact ball (Below.refl w.heap.size w) _
  have hr : W.heap[w.heap.size]? = some (.cells #[.slice a1 n c1, .slice a2 m c2, .slice a3 k c3, .slice a4 h c4] 27 (0, 0)) := by rw [hW]; exact bnew _ _
  have HF := Lib.hid (find_any (hf.on hB) wagon)
  have HW := Lib.hid hW; have HB := Lib.hid hB
  obtain ⟨b0, b1, b2, b3⟩ := box4 hr
  clear hf hW hB hr hn hm hk hh g1 g2 g3 g4
  go_enter Try.func20, Try.ntmps20
  go_upto_region 1 with (fail)
  rw [← HW.out]
  clear HW
  go_wp2_with fail
  refine HF.out.mono ?_
  rintro e w1 ⟨cs, ds, E, rfl, hb, hfr⟩
  have HB1 := Lib.hid (btrans HB.out hb)
  have HFR := Lib.hid hfr
  obtain ⟨s1, s2⟩ := hfr.size
  obtain ⟨o1, o2⟩ := hfr.one
  obtain ⟨wx, hwx⟩ : ∃ wx, wx = (((w1.alloc (.cells #[.int .i64 0, .int .i64 0, .int .i64 0, .int .i64 0, .int .i64 0] 66)).alloc (.cells #[.int .i64 0, .int .i64 0, .int .i64 0, .int .i64 0, .int .i64 0, .int .u64 0, .int .i64 0, .int .i64 0] 68)).setRow w1.heap.size cs).setRow (w1.heap.size + 1) ds := ⟨_, rfl⟩
  obtain ⟨t1, t2, t3, t4, t5⟩ := twoboxes w1 #[.int .i64 0, .int .i64 0, .int .i64 0, .int .i64 0, .int .i64 0] #[.int .i64 0, .int .i64 0, .int .i64 0, .int .i64 0, .int .i64 0, .int .u64 0, .int .i64 0, .int .i64 0] cs ds s1.symm s2.symm
  rw [← hwx] at t3 t4 t5
  have HWX := Lib.hid hwx; have HT1 := Lib.hid t1; have HT2 := Lib.hid t2; have HT3 := Lib.hid t3; have HT4 := Lib.hid t4; have HT5 := Lib.hid (btrans HB1.out t5); have HS := Lib.hid (And.intro (And.intro s1 s2) (And.intro o1 o2))
  clear hb hfr s1 s2 o1 o2 hwx t1 t2 t3 t4 t5 b0 b1 b2 b3 HF
  rcases HFR.out with ⟨e1, e2, hcs, hds⟩ | ⟨e1, e2, e3, hcs, hds⟩ | ⟨e1, e3, i, j, x, y, rfl, hx, hj, hy, hcs, hds⟩
  · have d0 : (E != 0) = true := by rw [e2]; simpa using e1
    have HE := Lib.hid (And.intro e1 e2)
    clear e1 e2 hcs hds
    go_wp2_with (first | (refine wpList_store_row rfl 66 (.tmp 9) (.tmp 15) rfl w1.heap.size _ rfl rfl 66 _ HT1.out (sz66s HS.out.1.1) HS.out.1.1.symm HS.out.2.1 ?_) | (refine wpList_store_row rfl 68 (.tmp 10) (.tmp 16) rfl (w1.heap.size + 1) _ rfl rfl 68 _ HT2.out (sz68s HS.out.1.2) HS.out.1.2.symm HS.out.2.2 ?_; rw [← HWX.out]))
    go_ret
    exact ⟨E, rfl, HT5.out, Or.inl HE.out⟩
  · subst e3
    have HE := Lib.hid (And.intro e1 e2)
    clear e1 e2 hcs hds
    go_wp2_with (first | (refine wpList_store_row rfl 66 (.tmp 9) (.tmp 15) rfl w1.heap.size _ rfl rfl 66 _ HT1.out (sz66s HS.out.1.1) HS.out.1.1.symm HS.out.2.1 ?_) | (refine wpList_store_row rfl 68 (.tmp 10) (.tmp 16) rfl (w1.heap.size + 1) _ rfl rfl 68 _ HT2.out (sz68s HS.out.1.2) HS.out.1.2.symm HS.out.2.2 ?_; rw [← HWX.out]))
    go_ret
    exact ⟨90, rfl, HT5.out, Or.inr (Or.inl ⟨HE.out.1, HE.out.2, rfl⟩)⟩
  · subst e3
    have t4 := HT4.out
    rw [hds] at t4
    have c0 : wx.cell? ⟨w1.heap.size + 1, 0, none⟩ = some (.int .i64 y.ld) := by rw [cell_of_row _ _ 0 _ 68 (0, 0) t4]; rfl
    have c5 : wx.cell? ⟨w1.heap.size + 1, 5, none⟩ = some (.int .u64 y.cl) := by rw [cell_of_row _ _ 5 _ 68 (0, 0) t4]; rfl
    have hcl := HTO.out y (List.mem_of_getElem? hy)
    unfold Ty.ok at hcl
    obtain ⟨C, hC⟩ : ∃ C : Nat, y.cl = (C : Int) := ⟨y.cl.toNat, by omega⟩
    obtain ⟨Y, hY⟩ : ∃ Y, Y = y.ld := ⟨_, rfl⟩
    rw [hC] at c5
    rw [← hY] at c0
    obtain ⟨R, hR⟩ : ∃ R, R = fitE y c wt := ⟨_, rfl⟩
    have HQ : Hid (∀ R', R' = fitE y c wt → QR ts ws ss hs (i : Int) (fun _ y => R' = fitE y c wt) R') := Lib.hid (fun R' h => Or.inr (Or.inr ⟨e1, i, j, x, y, rfl, hx, hj, hy, h⟩))
    have hR2 : R = if rng 0 c 63 && (C / 2 ^ c.toNat % 2 == 1 && rng 0 wt Y) then 0 else 91 := by rw [hR]; unfold fitE bit; rw [hC, ← hY]; rfl
    have HRR := Lib.hid hR
    have hC64 : C < 18446744073709551616 := by omega
    clear e1 hx hj hy hcs hds t4 hcl hC hY hR
    cases hB0 : rng 0 c 63 with
    | false =>
      have H0 := Lib.hid (class_any c)
      rw [hB0] at H0
      obtain rfl : R = 91 := by rw [hR2, hB0]; rfl
      clear hR2 hB0 c0 c5
      go_wp2_with (first | (refine wpList_store_row rfl 66 (.tmp 9) (.tmp 15) rfl w1.heap.size _ rfl rfl 66 _ HT1.out (sz66s HS.out.1.1) HS.out.1.1.symm HS.out.2.1 ?_) | (refine wpList_store_row rfl 68 (.tmp 10) (.tmp 16) rfl (w1.heap.size + 1) _ rfl rfl 68 _ HT2.out (sz68s HS.out.1.2) HS.out.1.2.symm HS.out.2.2 ?_; rw [← HWX.out]))
      refine (H0.out _).mono ?_
      rintro e w' ⟨rfl, rfl⟩
      go_wp2
      go_ret
      exact ⟨91, rfl, HT5.out, HQ.out _ HRR.out⟩
    | true =>
      have H0 := Lib.hid (class_any c)
      rw [hB0] at H0
      have hc := rng_iff.1 hB0
      obtain ⟨q, rfl⟩ : ∃ q : Nat, c = (q : Int) := ⟨c.toNat, by omega⟩
      obtain ⟨D, hD⟩ : ∃ D, D = C / 2 ^ q := ⟨_, rfl⟩
      have hD2 : (C : Int) / 2 ^ q = (D : Int) := by rw [hD]; simp
      have hmin : min q 64 = q := by omega
      have hand := and_one D (by rw [hD]; exact Nat.lt_of_le_of_lt (Nat.div_le_self _ _) hC64)
      rw [hB0, Int.toNat_natCast, ← hD] at hR2
      have hq0 : (0 : Int) ≤ (q : Int) := by omega
      have hq64 : (q : Int) < 64 := by omega
      clear hB0 hc hD
      rcases Nat.mod_two_eq_zero_or_one D with hb | hb
      · rw [hb] at hand hR2
        obtain rfl : R = 91 := by rw [hR2]; rfl
        clear hR2 hb c0
        go_wp2_with (first | (refine wpList_store_row rfl 66 (.tmp 9) (.tmp 15) rfl w1.heap.size _ rfl rfl 66 _ HT1.out (sz66s HS.out.1.1) HS.out.1.1.symm HS.out.2.1 ?_) | (refine wpList_store_row rfl 68 (.tmp 10) (.tmp 16) rfl (w1.heap.size + 1) _ rfl rfl 68 _ HT2.out (sz68s HS.out.1.2) HS.out.1.2.symm HS.out.2.2 ?_; rw [← HWX.out]))
        refine (H0.out _).mono ?_
        rintro e w' ⟨rfl, rfl⟩
        go_wp2
        go_ret
        exact ⟨91, rfl, HT5.out, HQ.out _ HRR.out⟩
      · rw [hb] at hand hR2
        cases hB1 : rng 0 wt Y with
        | false =>
          have H1 := Lib.hid (between_any 0 wt Y)
          rw [hB1] at H1
          obtain rfl : R = 91 := by rw [hR2, hB1]; rfl
          clear hR2 hb hB1
          go_wp2_with (first | (refine wpList_store_row rfl 66 (.tmp 9) (.tmp 15) rfl w1.heap.size _ rfl rfl 66 _ HT1.out (sz66s HS.out.1.1) HS.out.1.1.symm HS.out.2.1 ?_) | (refine wpList_store_row rfl 68 (.tmp 10) (.tmp 16) rfl (w1.heap.size + 1) _ rfl rfl 68 _ HT2.out (sz68s HS.out.1.2) HS.out.1.2.symm HS.out.2.2 ?_; rw [← HWX.out]))
          refine (H0.out _).mono ?_
          rintro e w' ⟨rfl, rfl⟩
          go_wp2_with fail
          refine (H1.out _).mono ?_
          rintro e w' ⟨rfl, rfl⟩
          go_wp2
          go_ret
          exact ⟨91, rfl, HT5.out, HQ.out _ HRR.out⟩
        | true =>
          have H1 := Lib.hid (between_any 0 wt Y)
          rw [hB1] at H1
          obtain rfl : R = 0 := by rw [hR2, hB1]; rfl
          clear hR2 hb hB1
          go_wp2_with (first | (refine wpList_store_row rfl 66 (.tmp 9) (.tmp 15) rfl w1.heap.size _ rfl rfl 66 _ HT1.out (sz66s HS.out.1.1) HS.out.1.1.symm HS.out.2.1 ?_) | (refine wpList_store_row rfl 68 (.tmp 10) (.tmp 16) rfl (w1.heap.size + 1) _ rfl rfl 68 _ HT2.out (sz68s HS.out.1.2) HS.out.1.2.symm HS.out.2.2 ?_; rw [← HWX.out]))
          refine (H0.out _).mono ?_
          rintro e w' ⟨rfl, rfl⟩
          go_wp2_with fail
          refine (H1.out _).mono ?_
          rintro e w' ⟨rfl, rfl⟩
          go_wp2
          go_ret
          exact ⟨0, rfl, HT5.out, HQ.out _ HRR.out⟩
set_option maxRecDepth 100000 in
set_option maxHeartbeats 8000000 in
theorem worthq_any {V : Value} {ts : List Ty} {ws : List Wn} {ss : List Sw} {hs : List Wh} {w : World} (hf : Fl w V ts ws ss hs) (wagon at0 : Int) :
    Calls Try.prog 16 #[V, .int .i64 wagon, .int .i64 at0] w fun e w' => ∃ A E, e = .returned (.tuple #[.int .i64 A, .int .i64 E]) ∧ Below w.heap.size w w' ∧ QR ts ws ss hs wagon (fun x y => (A, E) = worthV x.wo x.bu at0 y.li y.fl) E ∧ (E ≠ 0 → A = 0) := by
  obtain ⟨a1, c1, a2, c2, a3, c3, a4, c4, rfl, g1, g2, g3, g4⟩ := hf.shape
  obtain ⟨n, hn⟩ : ∃ n, n = ts.length := ⟨_, rfl⟩
  obtain ⟨m, hm⟩ : ∃ m, m = ws.length := ⟨_, rfl⟩
  obtain ⟨k, hk⟩ : ∃ k, k = ss.length := ⟨_, rfl⟩
  obtain ⟨h, hh⟩ : ∃ h, h = hs.length := ⟨_, rfl⟩
  rw [← hn, ← hm, ← hk, ← hh] at hf ⊢
  obtain ⟨W, hW⟩ : ∃ W, W = w.alloc (.cells #[.slice a1 n c1, .slice a2 m c2, .slice a3 k c3, .slice a4 h c4] 27) := ⟨_, rfl⟩
  have hB : Below w.heap.size w W := by rw [hW]; exact ball (Below.refl w.heap.size w) _
  have hr : W.heap[w.heap.size]? = some (.cells #[.slice a1 n c1, .slice a2 m c2, .slice a3 k c3, .slice a4 h c4] 27 (0, 0)) := by rw [hW]; exact bnew _ _
  have HF := Lib.hid (find_any (hf.on hB) wagon)
  have HW := Lib.hid hW; have HB := Lib.hid hB
  obtain ⟨b0, b1, b2, b3⟩ := box4 hr
  clear hf hW hB hr hn hm hk hh g1 g2 g3 g4
  go_enter Try.func16, Try.ntmps16
  go_upto_region 1 with (fail)
  rw [← HW.out]
  clear HW
  go_wp2_with fail
  refine HF.out.mono ?_
  rintro e w1 ⟨cs, ds, E, rfl, hb, hfr⟩
  have HB1 := Lib.hid (btrans HB.out hb)
  have HFR := Lib.hid hfr
  obtain ⟨s1, s2⟩ := hfr.size
  obtain ⟨o1, o2⟩ := hfr.one
  obtain ⟨wx, hwx⟩ : ∃ wx, wx = (((w1.alloc (.cells #[.int .i64 0, .int .i64 0, .int .i64 0, .int .i64 0, .int .i64 0] 66)).alloc (.cells #[.int .i64 0, .int .i64 0, .int .i64 0, .int .i64 0, .int .i64 0, .int .u64 0, .int .i64 0, .int .i64 0] 68)).setRow w1.heap.size cs).setRow (w1.heap.size + 1) ds := ⟨_, rfl⟩
  obtain ⟨t1, t2, t3, t4, t5⟩ := twoboxes w1 #[.int .i64 0, .int .i64 0, .int .i64 0, .int .i64 0, .int .i64 0] #[.int .i64 0, .int .i64 0, .int .i64 0, .int .i64 0, .int .i64 0, .int .u64 0, .int .i64 0, .int .i64 0] cs ds s1.symm s2.symm
  rw [← hwx] at t3 t4 t5
  have HWX := Lib.hid hwx; have HT1 := Lib.hid t1; have HT2 := Lib.hid t2; have HT3 := Lib.hid t3; have HT4 := Lib.hid t4; have HT5 := Lib.hid (btrans HB1.out t5); have HS := Lib.hid (And.intro (And.intro s1 s2) (And.intro o1 o2))
  clear hb hfr s1 s2 o1 o2 hwx t1 t2 t3 t4 t5 b0 b1 b2 b3 HF
  rcases HFR.out with ⟨e1, e2, hcs, hds⟩ | ⟨e1, e2, e3, hcs, hds⟩ | ⟨e1, e3, i, j, x, y, rfl, hx, hj, hy, hcs, hds⟩
  · have d0 : (E != 0) = true := by rw [e2]; simpa using e1
    have HE := Lib.hid (And.intro e1 e2)
    clear e1 e2 hcs hds
    go_wp2_with (first | (refine wpList_store_row rfl 66 (.tmp 8) (.tmp 14) rfl w1.heap.size _ rfl rfl 66 _ HT1.out (sz66s HS.out.1.1) HS.out.1.1.symm HS.out.2.1 ?_) | (refine wpList_store_row rfl 68 (.tmp 9) (.tmp 15) rfl (w1.heap.size + 1) _ rfl rfl 68 _ HT2.out (sz68s HS.out.1.2) HS.out.1.2.symm HS.out.2.2 ?_; rw [← HWX.out]))
    go_ret2
    exact ⟨0, E, rfl, HT5.out, Or.inl HE.out, fun _ => rfl⟩
  · subst e3
    have HE := Lib.hid (And.intro e1 e2)
    clear e1 e2 hcs hds
    go_wp2_with (first | (refine wpList_store_row rfl 66 (.tmp 8) (.tmp 14) rfl w1.heap.size _ rfl rfl 66 _ HT1.out (sz66s HS.out.1.1) HS.out.1.1.symm HS.out.2.1 ?_) | (refine wpList_store_row rfl 68 (.tmp 9) (.tmp 15) rfl (w1.heap.size + 1) _ rfl rfl 68 _ HT2.out (sz68s HS.out.1.2) HS.out.1.2.symm HS.out.2.2 ?_; rw [← HWX.out]))
    go_ret2
    exact ⟨0, 90, rfl, HT5.out, Or.inr (Or.inl ⟨HE.out.1, HE.out.2, rfl⟩), fun _ => rfl⟩
  · subst e3
    have t3 := HT3.out
    have t4 := HT4.out
    rw [hcs] at t3
    rw [hds] at t4
    have c3 : wx.cell? ⟨w1.heap.size, 3, none⟩ = some (.int .i64 x.bu) := by rw [cell_of_row _ _ 3 _ 66 (0, 0) t3]; rfl
    have c4 : wx.cell? ⟨w1.heap.size, 4, none⟩ = some (.int .i64 x.wo) := by rw [cell_of_row _ _ 4 _ 66 (0, 0) t3]; rfl
    have c6 : wx.cell? ⟨w1.heap.size + 1, 6, none⟩ = some (.int .i64 y.li) := by rw [cell_of_row _ _ 6 _ 68 (0, 0) t4]; rfl
    have c7 : wx.cell? ⟨w1.heap.size + 1, 7, none⟩ = some (.int .i64 y.fl) := by rw [cell_of_row _ _ 7 _ 68 (0, 0) t4]; rfl
    have hz : (worthV x.wo x.bu at0 y.li y.fl).2 ≠ 0 → (worthV x.wo x.bu at0 y.li y.fl).1 = 0 := by
      unfold worthV
      split
      · intro h; exact absurd rfl h
      · intro _; rfl
    obtain ⟨A, hA⟩ : ∃ A, A = (worthV x.wo x.bu at0 y.li y.fl).1 := ⟨_, rfl⟩
    obtain ⟨E, hE⟩ : ∃ E, E = (worthV x.wo x.bu at0 y.li y.fl).2 := ⟨_, rfl⟩
    have HP := Lib.hid (worth_any x.wo x.bu at0 y.li y.fl)
    rw [← hA, ← hE] at HP hz
    have HQ : Hid (QR ts ws ss hs (i : Int) (fun x y => (A, E) = worthV x.wo x.bu at0 y.li y.fl) E ∧ (E ≠ 0 → A = 0)) := Lib.hid ⟨Or.inr (Or.inr ⟨e1, i, j, x, y, rfl, hx, hj, hy, by rw [hA, hE]⟩), hz⟩
    clear e1 hx hj hy hcs hds t3 t4 hA hE hz
    go_wp2_with (first | (refine wpList_store_row rfl 66 (.tmp 8) (.tmp 14) rfl w1.heap.size _ rfl rfl 66 _ HT1.out (sz66s HS.out.1.1) HS.out.1.1.symm HS.out.2.1 ?_) | (refine wpList_store_row rfl 68 (.tmp 9) (.tmp 15) rfl (w1.heap.size + 1) _ rfl rfl 68 _ HT2.out (sz68s HS.out.1.2) HS.out.1.2.symm HS.out.2.2 ?_; rw [← HWX.out]))
    refine (HP.out _).mono ?_
    rintro e w2 ⟨rfl, hb⟩
    have HZ := Lib.hid (btrans HT5.out hb)
    clear hb c3 c4 c6 c7
    go_wp2
    go_ret2
    exact ⟨A, E, rfl, HZ.out, HQ.out⟩
end Go.Proofs.Ytijdjbkmkopmnaa
