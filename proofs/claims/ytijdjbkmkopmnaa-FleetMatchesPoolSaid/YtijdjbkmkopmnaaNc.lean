/-
  Walks: the check of a network, both sides.
-/
import Derived.Test.YtijdjbkmkopmnaaNb
namespace Go.Proofs.Ytijdjbkmkopmnaa.Net
open Go.RowKit Go.Lib
set_option linter.unusedVariables false
set_option linter.unusedSimpArgs false

/-- The error of a network. -/
def chk (ps : List Pc) (es : List Ed) : Int := if ps.length ≤ 512 ∧ es.length ≤ 2048 then (if ps.all pOk && es.all (eOk ps.length) then 0 else 1) else 2
theorem drop_cons {α : Type} {l : List α} {k : Nat} {s : α} (h : l[k]? = some s) : l.drop k = s :: l.drop (k + 1) := by
  have hk := (List.getElem?_eq_some_iff.1 h).1
  rw [List.drop_eq_getElem_cons hk]
  rw [List.getElem?_eq_getElem hk] at h
  rw [Option.some.inj h]
theorem chk_big {ps : List Pc} {es : List Ed} (h : ¬ (ps.length ≤ 512 ∧ es.length ≤ 2048)) : chk ps es = 2 := if_neg h
theorem chk_in {ps : List Pc} {es : List Ed} (h : ps.length ≤ 512 ∧ es.length ≤ 2048) : chk ps es = if ps.all pOk && es.all (eOk ps.length) then 0 else 1 := if_pos h

set_option maxRecDepth 100000 in
set_option maxHeartbeats 4000000 in
theorem check_any {V : Value} {ps : List Pc} {es : List Ed} {w : World} (h : Nw w V ps es) (R : Int) (hR : R = chk ps es) :
    Calls Try.prog 25 #[V] w fun e w' => e = .returned (.int .i64 R) ∧ Below w.heap.size w w' := by
  obtain ⟨va, vc, vb, vd, rfl, h1, h2⟩ := h.shape
  obtain ⟨n, hn⟩ : ∃ n, n = ps.length := ⟨_, rfl⟩
  obtain ⟨m, hm⟩ : ∃ m, m = es.length := ⟨_, rfl⟩
  rw [← hn] at h h1 ⊢
  rw [← hm] at h h2 ⊢
  have hnm : n ≤ 70368744177664 ∧ m ≤ 70368744177664 := by have := h1.1; have := h2.1; omega
  obtain ⟨W, hW⟩ : ∃ W, W = w.alloc (.cells #[.slice va n vc, .slice vb m vd] 44) := ⟨_, rfl⟩
  have hB : Below w.heap.size w W := by rw [hW]; exact ball (Below.refl w.heap.size w) _
  have e0 : W.heap[w.heap.size]? = some (.cells #[.slice va n vc, .slice vb m vd] 44 (0, 0)) := by rw [hW]; exact bnew _ _
  have HB := Lib.hid hB; have HE := Lib.hid e0
  have HP := Lib.hid (h1.on hB); have HL := Lib.hid (h2.on hB); have HV := Lib.hid (h.on hB)
  have HN := Lib.hid hn; have HM := Lib.hid hm; have HR := Lib.hid hR; have HNM := Lib.hid hnm
  clear h h1 h2 hn hm hR hB e0 hnm
  by_cases c1 : n ≤ 512
  · have d1 : decide ((n : Int) > 512) = false := decide_eq_false (by omega)
    by_cases c2 : m ≤ 2048
    · have d2 : decide ((m : Int) > 2048) = false := decide_eq_false (by omega)
      have hr := HR.out
      rw [chk_in (by rw [← HN.out, ← HM.out]; exact ⟨c1, c2⟩)] at hr
      replace HR := Lib.hid hr
      clear hr
      obtain ⟨b0, b1⟩ := box2 HE.out
      go_enter Try.func25, Try.ntmps25
      go_wp2
      rw [← hW]
      clear hW b0 b1
      go_loopw [20] (fun s wr => ∃ k : Nat, k ≤ n ∧ s = .int .i64 (k : Int) ∧ Hid ((ps.drop k).all pOk = ps.all pOk) ∧ Hid (Below W.heap.size W wr)) (fun s _ => n - (intOf s).toNat)
      case atStart => exact ⟨0, by omega, rfl, Lib.hid rfl, Lib.hid (Below.refl _ _)⟩
      case round =>
        obtain ⟨k, hk, rfl, HK, HW⟩ := hrel
        obtain ⟨b0, b1⟩ := box2 (bon HE.out HW.out)
        by_cases hlt : k < n
        · have hlt2 : (k : Int) < (n : Int) := by omega
          obtain ⟨g, off, x, rfl, hg, hx, c0, c1', c2', hcap⟩ := Ps.cells HP.out k (by have := HN.out; omega)
          have f0 : wr.cell? ⟨g, off + k * 3, none⟩ = some (.int .i64 x.k) := (HW.out.cell (p := ⟨g, off + k * 3, none⟩) hg).trans c0
          have f1 : wr.cell? ⟨g, off + k * 3 + 1, none⟩ = some (.int .i64 x.r) := (HW.out.cell (p := ⟨g, off + k * 3 + 1, none⟩) hg).trans c1'
          have f2 : wr.cell? ⟨g, off + k * 3 + 2, none⟩ = some (.int .i64 x.o) := (HW.out.cell (p := ⟨g, off + k * 3 + 2, none⟩) hg).trans c2'
          have hst := HK.out
          rw [drop_cons hx, List.all_cons] at hst
          have Hc := Lib.hid (vplace_any x.k x.r x.o (wr.alloc (.cells #[.int .i64 x.k, .int .i64 x.r, .int .i64 x.o] 77)))
          have HW2 := Lib.hid (ball HW.out (.cells #[.int .i64 x.k, .int .i64 x.r, .int .i64 x.o] 77))
          have hpx : pOk ⟨x.k, x.r, x.o⟩ = pOk x := rfl
          rw [hpx] at Hc
          clear hx c0 c1' c2' hpx
          cases hB1 : pOk x with
          | false =>
            rw [hB1] at Hc hst
            have hone : R = 1 := by rw [HR.out, ← hst]; rfl
            subst hone
            clear hst hB1
            go_wp2_with fail
            refine Hc.out.mono ?_
            rintro e w1 ⟨rfl, hb⟩
            have HZ := Lib.hid (btrans HB.out (btrans HW2.out hb))
            clear hb
            go_wp2
            go_ret
            exact ⟨rfl, HZ.out⟩
          | true =>
            rw [hB1, Bool.true_and] at hst
            rw [hB1] at Hc
            have HST := Lib.hid hst
            clear hst hB1
            go_wp2_with fail
            refine Hc.out.mono ?_
            rintro e w1 ⟨rfl, hb⟩
            have HW3 := Lib.hid (btrans HW2.out hb)
            clear hb b0 b1 f0 f1 f2
            go_wp2
            go_roundw
            case rel => exact ⟨k + 1, by omega, by go_num, HST, HW3⟩
            case measure => simp [intOf]; omega
        · obtain rfl : k = n := by omega
          have hlt2 : ¬ ((k : Int) < (k : Int)) := by omega
          have hall : ps.all pOk = true := by rw [← HK.out, List.drop_eq_nil_of_le (by rw [← HN.out]; exact Nat.le_refl _)]; rfl
          have hr := HR.out
          rw [hall, Bool.true_and] at hr
          replace HR := Lib.hid hr
          have HWW := Lib.hid (btrans HB.out HW.out)
          have HE2 := Lib.hid (bon HE.out HW.out); have HL2 := Lib.hid (HL.out.on HW.out); have HV2 := Lib.hid (HV.out.on HW.out)
          obtain ⟨W2, hW2⟩ : ∃ W2, W2 = wr := ⟨_, rfl⟩
          subst hW2
          clear hr hall HK hlt HW HE HL HV
          go_wp2
          go_loopw [31] (fun s wr => ∃ k : Nat, k ≤ m ∧ s = .int .i64 (k : Int) ∧ Hid ((es.drop k).all (eOk ps.length) = es.all (eOk ps.length)) ∧ Hid (Below W2.heap.size W2 wr)) (fun s _ => m - (intOf s).toNat)
          case atStart => exact ⟨0, by omega, rfl, Lib.hid rfl, Lib.hid (Below.refl _ _)⟩
          case round =>
            clear b0 b1
            obtain ⟨j, hj, rfl, HK, HW⟩ := hrel
            obtain ⟨b0, b1⟩ := box2 (bon HE2.out HW.out)
            by_cases hlt : j < m
            · have hlt3 : (j : Int) < (m : Int) := by omega
              obtain ⟨g, off, x, rfl, hg, hx, c0, c1', c2', c3', c4', hcap⟩ := Es.cells HL2.out j (by have := HM.out; omega)
              have f0 : wr.cell? ⟨g, off + j * 5, none⟩ = some (.int .i64 x.a) := (HW.out.cell (p := ⟨g, off + j * 5, none⟩) hg).trans c0
              have f1 : wr.cell? ⟨g, off + j * 5 + 1, none⟩ = some (.int .i64 x.b) := (HW.out.cell (p := ⟨g, off + j * 5 + 1, none⟩) hg).trans c1'
              have f2 : wr.cell? ⟨g, off + j * 5 + 2, none⟩ = some (.int .i64 x.r) := (HW.out.cell (p := ⟨g, off + j * 5 + 2, none⟩) hg).trans c2'
              have f3 : wr.cell? ⟨g, off + j * 5 + 3, none⟩ = some (.int .i64 x.m) := (HW.out.cell (p := ⟨g, off + j * 5 + 3, none⟩) hg).trans c3'
              have f4 : wr.cell? ⟨g, off + j * 5 + 4, none⟩ = some (.int .i64 x.k) := (HW.out.cell (p := ⟨g, off + j * 5 + 4, none⟩) hg).trans c4'
              have hst := HK.out
              rw [drop_cons hx, List.all_cons] at hst
              have HW2 := Lib.hid (ball HW.out (.cells #[.int .i64 x.a, .int .i64 x.b, .int .i64 x.r, .int .i64 x.m, .int .i64 x.k] 120))
              obtain ⟨b2, b3⟩ := box2 (bal (bon HE2.out HW.out) (.cells #[.int .i64 x.a, .int .i64 x.b, .int .i64 x.r, .int .i64 x.m, .int .i64 x.k] 120))
              have Hc := Lib.hid (vline_any (HV2.out.on HW2.out) x.a x.b x.r x.m x.k)
              have hpx : eOk ps.length ⟨x.a, x.b, x.r, x.m, x.k⟩ = eOk ps.length x := rfl
              rw [hpx] at Hc
              clear hx c0 c1' c2' c3' c4' hpx
              cases hB1 : eOk ps.length x with
              | false =>
                rw [hB1] at Hc hst
                have hone : R = 1 := by rw [HR.out, ← hst]; rfl
                subst hone
                clear hst hB1
                go_wp2_with fail
                refine Hc.out.mono ?_
                rintro e w1 ⟨rfl, hb⟩
                have HZ := Lib.hid (btrans HWW.out (btrans HW2.out hb))
                clear hb
                go_wp2
                go_ret
                exact ⟨rfl, HZ.out⟩
              | true =>
                rw [hB1, Bool.true_and] at hst
                rw [hB1] at Hc
                have HST := Lib.hid hst
                clear hst hB1
                go_wp2_with fail
                refine Hc.out.mono ?_
                rintro e w1 ⟨rfl, hb⟩
                have HW3 := Lib.hid (btrans HW2.out hb)
                clear hb b0 b1 b2 b3 f0 f1 f2 f3 f4
                go_wp2
                go_roundw
                case rel => exact ⟨j + 1, by omega, by go_num, HST, HW3⟩
                case measure => simp [intOf]; omega
            · obtain rfl : j = m := by omega
              have hlt3 : ¬ ((j : Int) < (j : Int)) := by omega
              have hz : R = 0 := by rw [HR.out, ← HK.out, List.drop_eq_nil_of_le (by rw [← HM.out]; exact Nat.le_refl _)]; rfl
              subst hz
              have HZ := Lib.hid (btrans HWW.out HW.out)
              go_wp2
              go_ret
              exact ⟨rfl, HZ.out⟩
    · have d2 : decide ((m : Int) > 2048) = true := decide_eq_true (by omega)
      have hr : R = 2 := by rw [HR.out]; exact chk_big (by rw [← HN.out, ← HM.out]; omega)
      subst hr
      go_enter Try.func25, Try.ntmps25
      go_wp2
      go_ret
      exact ⟨rfl, hW ▸ HB.out⟩
  · have d1 : decide ((n : Int) > 512) = true := decide_eq_true (by omega)
    have hr : R = 2 := by rw [HR.out]; exact chk_big (by rw [← HN.out, ← HM.out]; omega)
    subst hr
    go_enter Try.func25, Try.ntmps25
    go_wp2
    go_ret
    exact ⟨rfl, hW ▸ HB.out⟩
set_option maxRecDepth 100000 in
set_option maxHeartbeats 4000000 in
theorem rcheck_any {V : Value} {ps : List Pc} {es : List Ed} {w : World} (h : Nw w V ps es) (R : Int) (hR : R = chk ps es) :
    Calls Try.prog 70 #[V] w fun e w' => e = .returned (.int .i64 R) ∧ Below w.heap.size w w' := by
  obtain ⟨va, vc, vb, vd, rfl, h1, h2⟩ := h.shape
  obtain ⟨n, hn⟩ : ∃ n, n = ps.length := ⟨_, rfl⟩
  obtain ⟨m, hm⟩ : ∃ m, m = es.length := ⟨_, rfl⟩
  rw [← hn] at h h1 ⊢
  rw [← hm] at h h2 ⊢
  have hnm : n ≤ 70368744177664 ∧ m ≤ 70368744177664 := by have := h1.1; have := h2.1; omega
  obtain ⟨W, hW⟩ : ∃ W, W = w.alloc (.cells #[.slice va n vc, .slice vb m vd] 44) := ⟨_, rfl⟩
  have hB : Below w.heap.size w W := by rw [hW]; exact ball (Below.refl w.heap.size w) _
  have e0 : W.heap[w.heap.size]? = some (.cells #[.slice va n vc, .slice vb m vd] 44 (0, 0)) := by rw [hW]; exact bnew _ _
  have HB := Lib.hid hB; have HE := Lib.hid e0
  have HP := Lib.hid (h1.on hB); have HL := Lib.hid (h2.on hB); have HV := Lib.hid (h.on hB)
  have HN := Lib.hid hn; have HM := Lib.hid hm; have HR := Lib.hid hR; have HNM := Lib.hid hnm
  clear h h1 h2 hn hm hR hB e0 hnm
  by_cases c1 : n ≤ 512
  · have d1 : decide ((n : Int) > 512) = false := decide_eq_false (by omega)
    by_cases c2 : m ≤ 2048
    · have d2 : decide ((m : Int) > 2048) = false := decide_eq_false (by omega)
      have hr := HR.out
      rw [chk_in (by rw [← HN.out, ← HM.out]; exact ⟨c1, c2⟩)] at hr
      replace HR := Lib.hid hr
      clear hr
      obtain ⟨b0, b1⟩ := box2 HE.out
      go_enter Try.func70, Try.ntmps70
      go_wp2
      rw [← hW]
      clear hW b0 b1
      go_loopw [3] (fun s wr => ∃ k : Nat, k ≤ n ∧ s = .int .i64 (k : Int) ∧ Hid ((ps.drop k).all pOk = ps.all pOk) ∧ Hid (Below W.heap.size W wr)) (fun s _ => n - (intOf s).toNat)
      case atStart => exact ⟨0, by omega, rfl, Lib.hid rfl, Lib.hid (Below.refl _ _)⟩
      case round =>
        obtain ⟨k, hk, rfl, HK, HW⟩ := hrel
        obtain ⟨b0, b1⟩ := box2 (bon HE.out HW.out)
        by_cases hlt : k < n
        · have hlt2 : (k : Int) < (n : Int) := by omega
          obtain ⟨g, off, x, rfl, hg, hx, c0, c1', c2', hcap⟩ := Ps.cells HP.out k (by have := HN.out; omega)
          have f0 : wr.cell? ⟨g, off + k * 3, none⟩ = some (.int .i64 x.k) := (HW.out.cell (p := ⟨g, off + k * 3, none⟩) hg).trans c0
          have f1 : wr.cell? ⟨g, off + k * 3 + 1, none⟩ = some (.int .i64 x.r) := (HW.out.cell (p := ⟨g, off + k * 3 + 1, none⟩) hg).trans c1'
          have f2 : wr.cell? ⟨g, off + k * 3 + 2, none⟩ = some (.int .i64 x.o) := (HW.out.cell (p := ⟨g, off + k * 3 + 2, none⟩) hg).trans c2'
          have hst := HK.out
          rw [drop_cons hx, List.all_cons] at hst
          have Hc := Lib.hid (rplace_any x.k x.r x.o wr)
          have HW2 := HW
          have hpx : pOk ⟨x.k, x.r, x.o⟩ = pOk x := rfl
          rw [hpx] at Hc
          clear hx c0 c1' c2' hpx
          cases hB1 : pOk x with
          | false =>
            rw [hB1] at Hc hst
            have hone : R = 1 := by rw [HR.out, ← hst]; rfl
            subst hone
            clear hst hB1
            go_wp2_with fail
            refine Hc.out.mono ?_
            rintro e w1 ⟨rfl, hb⟩
            have HZ := Lib.hid (btrans HB.out (btrans HW2.out hb))
            clear hb
            go_wp2
            go_ret
            exact ⟨rfl, HZ.out⟩
          | true =>
            rw [hB1, Bool.true_and] at hst
            rw [hB1] at Hc
            have HST := Lib.hid hst
            clear hst hB1
            go_wp2_with fail
            refine Hc.out.mono ?_
            rintro e w1 ⟨rfl, hb⟩
            have HW3 := Lib.hid (btrans HW2.out hb)
            clear hb b0 b1 f0 f1 f2
            go_wp2
            go_roundw
            case rel => exact ⟨k + 1, by omega, by go_num, HST, HW3⟩
            case measure => simp [intOf]; omega
        · obtain rfl : k = n := by omega
          have hlt2 : ¬ ((k : Int) < (k : Int)) := by omega
          have hall : ps.all pOk = true := by rw [← HK.out, List.drop_eq_nil_of_le (by rw [← HN.out]; exact Nat.le_refl _)]; rfl
          have hr := HR.out
          rw [hall, Bool.true_and] at hr
          replace HR := Lib.hid hr
          have HWW := Lib.hid (btrans HB.out HW.out)
          have HE2 := Lib.hid (bon HE.out HW.out); have HL2 := Lib.hid (HL.out.on HW.out); have HV2 := Lib.hid (HV.out.on HW.out)
          obtain ⟨W2, hW2⟩ : ∃ W2, W2 = wr := ⟨_, rfl⟩
          subst hW2
          clear hr hall HK hlt HW HE HL HV
          go_wp2
          go_loopw [4] (fun s wr => ∃ k : Nat, k ≤ m ∧ s = .int .i64 (k : Int) ∧ Hid ((es.drop k).all (eOk ps.length) = es.all (eOk ps.length)) ∧ Hid (Below W2.heap.size W2 wr)) (fun s _ => m - (intOf s).toNat)
          case atStart => exact ⟨0, by omega, rfl, Lib.hid rfl, Lib.hid (Below.refl _ _)⟩
          case round =>
            clear b0 b1
            obtain ⟨j, hj, rfl, HK, HW⟩ := hrel
            obtain ⟨b0, b1⟩ := box2 (bon HE2.out HW.out)
            by_cases hlt : j < m
            · have hlt3 : (j : Int) < (m : Int) := by omega
              obtain ⟨g, off, x, rfl, hg, hx, c0, c1', c2', c3', c4', hcap⟩ := Es.cells HL2.out j (by have := HM.out; omega)
              have f0 : wr.cell? ⟨g, off + j * 5, none⟩ = some (.int .i64 x.a) := (HW.out.cell (p := ⟨g, off + j * 5, none⟩) hg).trans c0
              have f1 : wr.cell? ⟨g, off + j * 5 + 1, none⟩ = some (.int .i64 x.b) := (HW.out.cell (p := ⟨g, off + j * 5 + 1, none⟩) hg).trans c1'
              have f2 : wr.cell? ⟨g, off + j * 5 + 2, none⟩ = some (.int .i64 x.r) := (HW.out.cell (p := ⟨g, off + j * 5 + 2, none⟩) hg).trans c2'
              have f3 : wr.cell? ⟨g, off + j * 5 + 3, none⟩ = some (.int .i64 x.m) := (HW.out.cell (p := ⟨g, off + j * 5 + 3, none⟩) hg).trans c3'
              have f4 : wr.cell? ⟨g, off + j * 5 + 4, none⟩ = some (.int .i64 x.k) := (HW.out.cell (p := ⟨g, off + j * 5 + 4, none⟩) hg).trans c4'
              have hst := HK.out
              rw [drop_cons hx, List.all_cons] at hst
              have HW2 := HW
              have Hc := Lib.hid (fun w => rline_any x.a x.b x.r x.m x.k (k : Int) (by have := HNM.out; omega) w)
              have hpx : eOk (k : Int) ⟨x.a, x.b, x.r, x.m, x.k⟩ = eOk ps.length x := by rw [← HN.out]
              rw [hpx] at Hc
              clear hx c0 c1' c2' c3' c4' hpx
              cases hB1 : eOk ps.length x with
              | false =>
                rw [hB1] at Hc hst
                have hone : R = 1 := by rw [HR.out, ← hst]; rfl
                subst hone
                clear hst hB1
                go_wp2_with fail
                go_still_tail 8, (by kernel_rfl)
                change wpList _ _ _ _ _ wr.drew
                have HWD : Hid (Below W2.heap.size W2 wr.drew) := Lib.hid (Below.drew HW.out)
                clear b0 b1 f0 f1 f2 f3 f4
                generalize wr.drew = w7 at *
                go_wp2_with fail
                refine (Hc.out _).mono ?_
                rintro e w1 ⟨rfl, hb⟩
                have HZ := Lib.hid (btrans HWW.out (btrans HWD.out hb))
                clear hb
                go_wp2
                go_ret
                exact ⟨rfl, HZ.out⟩
              | true =>
                rw [hB1, Bool.true_and] at hst
                rw [hB1] at Hc
                have HST := Lib.hid hst
                clear hst hB1
                go_wp2_with fail
                go_still_tail 8, (by kernel_rfl)
                change wpList _ _ _ _ _ wr.drew
                have HWD : Hid (Below W2.heap.size W2 wr.drew) := Lib.hid (Below.drew HW.out)
                clear b0 b1 f0 f1 f2 f3 f4
                generalize wr.drew = w7 at *
                go_wp2_with fail
                refine (Hc.out _).mono ?_
                rintro e w1 ⟨rfl, hb⟩
                have HW3 := Lib.hid (btrans HWD.out hb)
                clear hb
                go_wp2
                go_roundw
                case rel => exact ⟨j + 1, by omega, by go_num, HST, HW3⟩
                case measure => simp [intOf]; omega
            · obtain rfl : j = m := by omega
              have hlt3 : ¬ ((j : Int) < (j : Int)) := by omega
              have hz : R = 0 := by rw [HR.out, ← HK.out, List.drop_eq_nil_of_le (by rw [← HM.out]; exact Nat.le_refl _)]; rfl
              subst hz
              have HZ := Lib.hid (btrans HWW.out HW.out)
              go_wp2
              go_ret
              exact ⟨rfl, HZ.out⟩
    · have d2 : decide ((m : Int) > 2048) = true := decide_eq_true (by omega)
      have hr : R = 2 := by rw [HR.out]; exact chk_big (by rw [← HN.out, ← HM.out]; omega)
      subst hr
      go_enter Try.func70, Try.ntmps70
      go_wp2
      go_ret
      exact ⟨rfl, hW ▸ HB.out⟩
  · have d1 : decide ((n : Int) > 512) = true := decide_eq_true (by omega)
    have hr : R = 2 := by rw [HR.out]; exact chk_big (by rw [← HN.out, ← HM.out]; omega)
    subst hr
    go_enter Try.func70, Try.ntmps70
    go_wp2
    go_ret
    exact ⟨rfl, hW ▸ HB.out⟩


end Go.Proofs.Ytijdjbkmkopmnaa.Net
