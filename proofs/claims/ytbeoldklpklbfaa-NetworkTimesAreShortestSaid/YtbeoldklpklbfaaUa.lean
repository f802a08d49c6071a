/-
  Walks: whether a time is attained.
-/
import Derived.Test.YtbeoldklpklbfaaSb
namespace Go.Proofs.Ytbeoldklpklbfaa
open Go.RowKit
set_option linter.unusedVariables false
set_option linter.unusedSimpArgs false

/-- Whether line x attains the time of p. -/
def attx (L : List Int) (p : Nat) (x : Ln) : Prop := x.a = p ∧ 0 ≤ dv L x.b ∧ dv L x.b + x.m = dv L p ∨ x.b = p ∧ 0 ≤ dv L x.a ∧ dv L x.a + x.m = dv L p
set_option maxRecDepth 100000 in
set_option maxHeartbeats 8000000 in
theorem attained_any {w : World} {V v : Value} {ps : List Pc} {es : List Ln} {L : List Int} {p : Nat} (h : Nw w V ps (es.map Ln.ed)) (hok : ∀ x ∈ es, x.ok ps.length) (hv : Hl (fun k => k < w.heap.size) w v L) (hL : L.length = ps.length) (hp : p < ps.length) (hn : ps.length ≤ 600) (hb : ∀ q, -1 ≤ dv L q ∧ dv L q ≤ 60000000) (R : Bool) (hR : R = true ↔ ∃ x ∈ es, attx L p x) :
    Calls Try.prog 29 #[V, v, .int .i64 (p : Int)] w fun e w' => e = .returned (.bool R) ∧ Below w.heap.size w w' := by
  obtain ⟨va, vc, vb, vd, rfl, h1, h2⟩ := h.shape
  obtain ⟨ua, uc, rfl⟩ := hv.shape
  obtain ⟨n, hnn⟩ : ∃ n, n = ps.length := ⟨_, rfl⟩
  obtain ⟨m, hm⟩ : ∃ m, m = (es.map Ln.ed).length := ⟨_, rfl⟩
  rw [hL, ← hnn] at hv
  rw [← hnn] at h hL hp hn hok
  rw [hL, ← hnn]
  rw [← hm] at h h2 ⊢
  have hm1 := h2.1
  have hml : m = es.length := by rw [hm, List.length_map]
  obtain ⟨W, hW⟩ : ∃ W, W = w.alloc (.cells #[.slice va n vc, .slice vb m vd] 25) := ⟨_, rfl⟩
  have hB : Below w.heap.size w W := by rw [hW]; exact ball (Below.refl w.heap.size w) _
  have e0 : W.heap[w.heap.size]? = some (.cells #[.slice va n vc, .slice vb m vd] 25 (0, 0)) := by rw [hW]; exact bnew _ _
  obtain ⟨b0, b1⟩ := box2 e0
  have hmb : m ≤ 70368744177664 := by omega
  obtain ⟨g2, off2, yp, rfl, hg2, hyp, hypi, c9, hcap2⟩ := (hv.on hB).pick p (by rw [hL]; exact hp)
  have HB := Lib.hid hB; have HE := Lib.hid e0; have HES := Lib.hid (h2.on hB); have HOK := Lib.hid hok; have HV := Lib.hid (hv.on hB); have HL := Lib.hid hL; have HBB := Lib.hid hb; have HML := Lib.hid hml; have HYP := Lib.hid hyp; have HC9 := Lib.hid c9; have HG2 := Lib.hid hg2; have HP := Lib.hid hp; have HRR := Lib.hid hR
  have hpn : (p : Int) < (n : Int) := by omega
  clear h h1 h2 hm hm1 hml hB e0 hok hv hL hb hyp hypi c9 hcap2 hg2 hnn hp hR
  go_enter Try.func29, Try.ntmps29
  go_wp2_with fail
  rw [← hW]
  clear hW b0 b1
  go_loopw [7] (fun s wr => ∃ k : Nat, k ≤ m ∧ s = .int .i64 (k : Int) ∧ Hid (∀ (j : Nat) (x : Ln), j < k → es[j]? = some x → ¬ attx L p x) ∧ Hid (Below W.heap.size W wr)) (fun s _ => m - (intOf s).toNat)
  case atStart => exact ⟨0, by omega, rfl, Lib.hid (fun j x hj => by omega), Lib.hid (Below.refl _ _)⟩
  case round =>
    obtain ⟨k, hk, rfl, HK, HW⟩ := hrel
    obtain ⟨b0, b1⟩ := box2 (bon HE.out HW.out)
    by_cases hlt : k < m
    · have hlt2 : (k : Int) < (m : Int) := by omega
      obtain ⟨x, hx⟩ : ∃ x, es[k]? = some x := ⟨_, List.getElem?_eq_getElem (by have := HML.out; omega)⟩
      have hxo := HOK.out x (List.mem_of_getElem? hx)
      obtain ⟨g, off, y, rfl, hg, hy, c0, c1, c2, c3, c4, hcap⟩ := Es.cells HES.out k (by rw [List.length_map]; have := HML.out; omega)
      rw [List.getElem?_map, hx] at hy
      obtain rfl : x.ed = y := Option.some.inj hy
      obtain ⟨xa, hxa⟩ : ∃ z, z = x.a := ⟨_, rfl⟩
      obtain ⟨xb, hxb⟩ : ∃ z, z = x.b := ⟨_, rfl⟩
      obtain ⟨xm, hxm⟩ : ∃ z, z = x.m := ⟨_, rfl⟩
      obtain ⟨xr, hxr⟩ : ∃ z, z = x.r := ⟨_, rfl⟩
      obtain ⟨xk, hxk⟩ : ∃ z, z = x.k := ⟨_, rfl⟩
      have f0 : wr.cell? ⟨g, off + k * 5, none⟩ = some (.int .i64 (xa : Int)) := by rw [hxa]; exact (HW.out.cell (p := ⟨g, off + k * 5, none⟩) hg).trans c0
      have f1 : wr.cell? ⟨g, off + k * 5 + 1, none⟩ = some (.int .i64 (xb : Int)) := by rw [hxb]; exact (HW.out.cell (p := ⟨g, off + k * 5 + 1, none⟩) hg).trans c1
      have f2 : wr.cell? ⟨g, off + k * 5 + 2, none⟩ = some (.int .i64 (xr : Int)) := by rw [hxr]; exact (HW.out.cell (p := ⟨g, off + k * 5 + 2, none⟩) hg).trans c2
      have f3 : wr.cell? ⟨g, off + k * 5 + 3, none⟩ = some (.int .i64 (xm : Int)) := by rw [hxm]; exact (HW.out.cell (p := ⟨g, off + k * 5 + 3, none⟩) hg).trans c3
      have f4 : wr.cell? ⟨g, off + k * 5 + 4, none⟩ = some (.int .i64 (xk : Int)) := by rw [hxk]; exact (HW.out.cell (p := ⟨g, off + k * 5 + 4, none⟩) hg).trans c4
      obtain ⟨o1, o2, o3, o4, o5, o6, o7⟩ := hxo
      have hlab := HL.out
      obtain ⟨ya, hya⟩ : ∃ z, z = dv L xa := ⟨_, rfl⟩
      obtain ⟨yb, hyb⟩ : ∃ z, z = dv L xb := ⟨_, rfl⟩
      have hla : L[xa]? = some ya := by rw [dv_some (by omega), hya]
      have hlb : L[xb]? = some yb := by rw [dv_some (by omega), hyb]
      have hya2 := HBB.out xa; have hyb2 := HBB.out xb
      rw [← hya] at hya2; rw [← hyb] at hyb2
      have hyp2 : dv L p = yp := dv_get HYP.out
      have hb2 := ball HW.out (.cells #[.int .i64 (xa : Int), .int .i64 (xb : Int), .int .i64 (xr : Int), .int .i64 (xm : Int), .int .i64 (xk : Int)] 45)
      have k0 : (wr.alloc (.cells #[.int .i64 (xa : Int), .int .i64 (xb : Int), .int .i64 (xr : Int), .int .i64 (xm : Int), .int .i64 (xk : Int)] 45)).cell? ⟨g2, off2 + xa, none⟩ = some (.int .i64 ya) := (hb2.cell (p := ⟨g2, off2 + xa, none⟩) HG2.out).trans (HV.out.at hla).2.1
      have k1 : (wr.alloc (.cells #[.int .i64 (xa : Int), .int .i64 (xb : Int), .int .i64 (xr : Int), .int .i64 (xm : Int), .int .i64 (xk : Int)] 45)).cell? ⟨g2, off2 + xb, none⟩ = some (.int .i64 yb) := (hb2.cell (p := ⟨g2, off2 + xb, none⟩) HG2.out).trans (HV.out.at hlb).2.1
      have k2 : (wr.alloc (.cells #[.int .i64 (xa : Int), .int .i64 (xb : Int), .int .i64 (xr : Int), .int .i64 (xm : Int), .int .i64 (xk : Int)] 45)).cell? ⟨g2, off2 + p, none⟩ = some (.int .i64 yp) := (hb2.cell (p := ⟨g2, off2 + p, none⟩) HG2.out).trans HC9.out
      have hwa : IntKind.i64.wrap (ya + (xm : Int)) = ya + (xm : Int) := wrap_in (by omega) (by omega)
      have hwb : IntKind.i64.wrap (yb + (xm : Int)) = yb + (xm : Int) := wrap_in (by omega) (by omega)
      have hax : (xa : Int) < (n : Int) := by omega
      have hbx : (xb : Int) < (n : Int) := by omega
      have hatt : attx L p x ↔ xa = p ∧ 0 ≤ yb ∧ yb + (xm : Int) = yp ∨ xb = p ∧ 0 ≤ ya ∧ ya + (xm : Int) = yp := by unfold attx; rw [← hxa, ← hxb, ← hxm, ← hya, ← hyb, hyp2]
      have hne : xa ≠ xb := by omega
      have HX := Lib.hid hx; have HATT := Lib.hid hatt; have HNE := Lib.hid hne; have HB2 := Lib.hid hb2
      clear hx hy hg c0 c1 c2 c3 c4 hcap hxa hxb hxm hxr hxk o1 o2 o3 o4 o5 o6 o7 hlab hya hyb hla hlb hya2 hyb2 hyp2 hatt hne hb2
      by_cases ca : xa = p
      · have d1 : ((xa : Int) == (p : Int)) = true := by simp; omega
        have d4 : ((xb : Int) == (p : Int)) = false := by have := HNE.out; simp; omega
        by_cases cb : 0 ≤ yb
        · have d2 : decide (yb ≥ 0) = true := decide_eq_true cb
          by_cases cc : yb + (xm : Int) = yp
          · have d3 : (yb + (xm : Int) == yp) = true := by simpa using cc
            have hr : R = true := HRR.out.2 ⟨x, List.mem_of_getElem? HX.out, HATT.out.2 (Or.inl ⟨ca, cb, cc⟩)⟩
            subst hr
            clear HK HRR
            clear ca cb cc
            go_wp2_with fail
            go_quiet (fail)
            have HW2 := Lib.hid (bdrewN HB2.out nq)
            clear k0 k1 k2 f0 f1 f2 f3 f4
            generalize (wr.alloc (.cells #[.int .i64 (xa : Int), .int .i64 (xb : Int), .int .i64 (xr : Int), .int .i64 (xm : Int), .int .i64 (xk : Int)] 45)).drewN nq = w7 at *
            go_wp2
            go_ret
            exact ⟨rfl, btrans HB.out HW2.out⟩
          · have d3 : (yb + (xm : Int) == yp) = false := by simpa using cc
            have hnot : ¬ (xa = p ∧ 0 ≤ yb ∧ yb + (xm : Int) = yp ∨ xb = p ∧ 0 ≤ ya ∧ ya + (xm : Int) = yp) := by have := HNE.out; omega
            have HK2 : Hid (∀ (j : Nat) (x : Ln), j < k + 1 → es[j]? = some x → ¬ attx L p x) := Lib.hid (by
              intro j z hj hz
              by_cases e : j = k
              · subst e; rw [HX.out] at hz; cases hz; exact fun h => hnot (HATT.out.1 h)
              · exact HK.out j z (by omega) hz)
            clear HK hnot
            clear ca cb cc
            go_wp2_with fail
            go_quiet (fail)
            have HW2 := Lib.hid (bdrewN HB2.out nq)
            clear k0 k1 k2 f0 f1 f2 f3 f4
            generalize (wr.alloc (.cells #[.int .i64 (xa : Int), .int .i64 (xb : Int), .int .i64 (xr : Int), .int .i64 (xm : Int), .int .i64 (xk : Int)] 45)).drewN nq = w7 at *
            go_wp2
            go_roundw
            case rel => exact ⟨k + 1, by omega, by go_num, HK2, HW2⟩
            case measure => simp [intOf]; omega
        · have d2 : decide (yb ≥ 0) = false := decide_eq_false cb
          have hnot : ¬ (xa = p ∧ 0 ≤ yb ∧ yb + (xm : Int) = yp ∨ xb = p ∧ 0 ≤ ya ∧ ya + (xm : Int) = yp) := by have := HNE.out; omega
          have HK2 : Hid (∀ (j : Nat) (x : Ln), j < k + 1 → es[j]? = some x → ¬ attx L p x) := Lib.hid (by
            intro j z hj hz
            by_cases e : j = k
            · subst e; rw [HX.out] at hz; cases hz; exact fun h => hnot (HATT.out.1 h)
            · exact HK.out j z (by omega) hz)
          clear HK hnot
          clear ca cb
          go_wp2_with fail
          go_quiet (fail)
          have HW2 := Lib.hid (bdrewN HB2.out nq)
          clear k0 k1 k2 f0 f1 f2 f3 f4
          generalize (wr.alloc (.cells #[.int .i64 (xa : Int), .int .i64 (xb : Int), .int .i64 (xr : Int), .int .i64 (xm : Int), .int .i64 (xk : Int)] 45)).drewN nq = w7 at *
          go_wp2
          go_roundw
          case rel => exact ⟨k + 1, by omega, by go_num, HK2, HW2⟩
          case measure => simp [intOf]; omega
      · have d1 : ((xa : Int) == (p : Int)) = false := by simp; omega
        by_cases cd : xb = p
        · have d4 : ((xb : Int) == (p : Int)) = true := by simp; omega
          by_cases ce : 0 ≤ ya
          · have d5 : decide (ya ≥ 0) = true := decide_eq_true ce
            by_cases cf : ya + (xm : Int) = yp
            · have d6 : (ya + (xm : Int) == yp) = true := by simpa using cf
              have hr : R = true := HRR.out.2 ⟨x, List.mem_of_getElem? HX.out, HATT.out.2 (Or.inr ⟨cd, ce, cf⟩)⟩
              subst hr
              clear HK HRR
              clear ca cd ce cf
              go_wp2_with fail
              go_quiet (fail)
              have HW2 := Lib.hid (bdrewN HB2.out nq)
              clear k0 k1 k2 f0 f1 f2 f3 f4
              generalize (wr.alloc (.cells #[.int .i64 (xa : Int), .int .i64 (xb : Int), .int .i64 (xr : Int), .int .i64 (xm : Int), .int .i64 (xk : Int)] 45)).drewN nq = w7 at *
              go_wp2
              go_ret
              exact ⟨rfl, btrans HB.out HW2.out⟩
            · have d6 : (ya + (xm : Int) == yp) = false := by simpa using cf
              have hnot : ¬ (xa = p ∧ 0 ≤ yb ∧ yb + (xm : Int) = yp ∨ xb = p ∧ 0 ≤ ya ∧ ya + (xm : Int) = yp) := by have := HNE.out; omega
              have HK2 : Hid (∀ (j : Nat) (x : Ln), j < k + 1 → es[j]? = some x → ¬ attx L p x) := Lib.hid (by
                intro j z hj hz
                by_cases e : j = k
                · subst e; rw [HX.out] at hz; cases hz; exact fun h => hnot (HATT.out.1 h)
                · exact HK.out j z (by omega) hz)
              clear HK hnot
              clear ca cd ce cf
              go_wp2_with fail
              go_quiet (fail)
              have HW2 := Lib.hid (bdrewN HB2.out nq)
              clear k0 k1 k2 f0 f1 f2 f3 f4
              generalize (wr.alloc (.cells #[.int .i64 (xa : Int), .int .i64 (xb : Int), .int .i64 (xr : Int), .int .i64 (xm : Int), .int .i64 (xk : Int)] 45)).drewN nq = w7 at *
              go_wp2
              go_roundw
              case rel => exact ⟨k + 1, by omega, by go_num, HK2, HW2⟩
              case measure => simp [intOf]; omega
          · have d5 : decide (ya ≥ 0) = false := decide_eq_false ce
            have hnot : ¬ (xa = p ∧ 0 ≤ yb ∧ yb + (xm : Int) = yp ∨ xb = p ∧ 0 ≤ ya ∧ ya + (xm : Int) = yp) := by have := HNE.out; omega
            have HK2 : Hid (∀ (j : Nat) (x : Ln), j < k + 1 → es[j]? = some x → ¬ attx L p x) := Lib.hid (by
              intro j z hj hz
              by_cases e : j = k
              · subst e; rw [HX.out] at hz; cases hz; exact fun h => hnot (HATT.out.1 h)
              · exact HK.out j z (by omega) hz)
            clear HK hnot
            clear ca cd ce
            go_wp2_with fail
            go_quiet (fail)
            have HW2 := Lib.hid (bdrewN HB2.out nq)
            clear k0 k1 k2 f0 f1 f2 f3 f4
            generalize (wr.alloc (.cells #[.int .i64 (xa : Int), .int .i64 (xb : Int), .int .i64 (xr : Int), .int .i64 (xm : Int), .int .i64 (xk : Int)] 45)).drewN nq = w7 at *
            go_wp2
            go_roundw
            case rel => exact ⟨k + 1, by omega, by go_num, HK2, HW2⟩
            case measure => simp [intOf]; omega
        · have d4 : ((xb : Int) == (p : Int)) = false := by simp; omega
          have hnot : ¬ (xa = p ∧ 0 ≤ yb ∧ yb + (xm : Int) = yp ∨ xb = p ∧ 0 ≤ ya ∧ ya + (xm : Int) = yp) := by have := HNE.out; omega
          have HK2 : Hid (∀ (j : Nat) (x : Ln), j < k + 1 → es[j]? = some x → ¬ attx L p x) := Lib.hid (by
            intro j z hj hz
            by_cases e : j = k
            · subst e; rw [HX.out] at hz; cases hz; exact fun h => hnot (HATT.out.1 h)
            · exact HK.out j z (by omega) hz)
          clear HK hnot
          clear ca cd
          go_wp2_with fail
          go_quiet (fail)
          have HW2 := Lib.hid (bdrewN HB2.out nq)
          clear k0 k1 k2 f0 f1 f2 f3 f4
          generalize (wr.alloc (.cells #[.int .i64 (xa : Int), .int .i64 (xb : Int), .int .i64 (xr : Int), .int .i64 (xm : Int), .int .i64 (xk : Int)] 45)).drewN nq = w7 at *
          go_wp2
          go_roundw
          case rel => exact ⟨k + 1, by omega, by go_num, HK2, HW2⟩
          case measure => simp [intOf]; omega
    · obtain rfl : k = m := by omega
      have hlt2 : ¬ ((k : Int) < (k : Int)) := by omega
      have hr : R = false := by
        cases hRR : R with
        | false => rfl
        | true =>
          obtain ⟨x, hx, ha⟩ := HRR.out.1 hRR
          obtain ⟨j, hj⟩ := List.getElem?_of_mem hx
          exact absurd ha (HK.out j x (by have := (List.getElem?_eq_some_iff.1 hj).1; have := HML.out; omega) hj)
      subst hr
      clear HK HRR
      go_wp2
      go_ret
      exact ⟨rfl, btrans HB.out HW.out⟩
end Go.Proofs.Ytbeoldklpklbfaa
