/-
  The statement 'Rows.NetworkTimesAreShortestSaid': for all arguments the law returns true; the arguments read as they did.
-/
import Derived.Test.YtbeoldklpklbfaaFr
import Derived.Test.YtbeoldklpklbfaaUa
import Derived.Test.YtbeoldklpklbfaaVa
namespace Go.Proofs.Ytbeoldklpklbfaa.networkTimesAreShortest
open Go.ChangeShapes Go.WideShapes Go.ChangeAt Go.RowKit
set_option linter.unusedVariables false
set_option linter.unusedSimpArgs false

theorem att_of {n : Nat} {es : List Ln} {f : Nat} {L : List Int} (h : Tm n es f L) {p : Nat} (h0 : 0 ≤ dv L p) (hne : p ≠ f) : ∃ x ∈ es, attx L p x := by
  rcases h.2.att p h0 with e | ⟨q, m, hw, hq, he⟩
  · exact absurd e hne
  obtain ⟨i, hi, hm⟩ := wt_some hw
  obtain ⟨x, hx, hj⟩ := fd_line hi
  rw [mi_get hx] at hm
  refine ⟨x, List.mem_of_getElem? hx, ?_⟩
  unfold attx
  unfold jn at hj
  rcases hj with ⟨e1, e2⟩ | ⟨e1, e2⟩
  · exact Or.inr ⟨e2, by rw [e1]; exact hq, by rw [e1]; omega⟩
  · exact Or.inl ⟨e1, by rw [e2]; exact hq, by rw [e2]; omega⟩
theorem line_of {n : Nat} {es : List Ln} {f : Nat} {L : List Int} (h : Tm n es f L) {i : Nat} {x : Ln} (hx : es[i]? = some x) : (dv L x.a < 0 ∧ dv L x.b < 0) ∨ (0 ≤ dv L x.a ∧ 0 ≤ dv L x.b ∧ dv L x.b ≤ dv L x.a + x.m ∧ dv L x.a ≤ dv L x.b + x.m) := by
  obtain ⟨m1, h1, w1⟩ := wt_line hx (show jn x x.a x.b from Or.inl ⟨rfl, rfl⟩)
  obtain ⟨m2, h2, w2⟩ := wt_line hx (show jn x x.b x.a from Or.inr ⟨rfl, rfl⟩)
  have ea := h.2.edge _ _ _ w1
  have eb := h.2.edge _ _ _ w2
  by_cases c : 0 ≤ dv L x.a
  · have := ea c
    have := eb this.1
    exact Or.inr ⟨c, by omega, by omega, by omega⟩
  · refine Or.inl ⟨by omega, ?_⟩
    by_cases d : 0 ≤ dv L x.b
    · have := eb d; omega
    · omega

set_option maxRecDepth 100000 in
set_option maxHeartbeats 8000000 in
theorem walk (V0 : Value) (ps0 : List Pc) (es0 : List Ed) (a1 : Int) (w : World) (h0 : Nw w V0 ps0 es0) (h1 : I64 a1) :
    Calls Try.prog 6 #[V0, .int .i64 a1] w fun e w' => e = .returned (.bool true) ∧ Below w.heap.size w w' := by
  obtain ⟨va, vc, vb, vd, rfl, hh1, hh2⟩ := h0.shape
  obtain ⟨n, hn⟩ : ∃ n, n = ps0.length := ⟨_, rfl⟩
  obtain ⟨m, hm⟩ : ∃ m, m = es0.length := ⟨_, rfl⟩
  rw [← hn, ← hm] at h0 ⊢
  have HN := Lib.hid hn; have HM := Lib.hid hm
  obtain ⟨W, hW⟩ : ∃ W, W = w.alloc (.cells #[.slice va n vc, .slice vb m vd] 25) := ⟨_, rfl⟩
  have hB : Below w.heap.size w W := by rw [hW]; exact ball (Below.refl w.heap.size w) _
  have e0 : W.heap[w.heap.size]? = some (.cells #[.slice va n vc, .slice vb m vd] 25 (0, 0)) := by rw [hW]; exact bnew _ _
  have HV := Lib.hid (h0.on hB); have HB := Lib.hid hB; have HX := Lib.hid e0
  obtain ⟨b0, b1⟩ := box2 e0
  clear h0 hh1 hh2 hn hm hB e0
  obtain ⟨S, hS⟩ : ∃ S, smB ps0.length es0.length = S := ⟨_, rfl⟩
  obtain ⟨E, hE⟩ : ∃ E, E = chk ps0 es0 := ⟨_, rfl⟩
  obtain ⟨A1, hA1⟩ : ∃ A, rng 0 a1 (ps0.length - 1) = A := ⟨_, rfl⟩
  have HS := Lib.hid hS; have HE := Lib.hid hE; have HA1 := Lib.hid hA1; have H1 := Lib.hid h1
  clear hS hE hA1 h1
  cases S with
  | false =>
    have Hc := Lib.hid (sane_true W)
    go_enter Try.func6, Try.ntmps6
    go_wp2_with fail
    rw [← hW]
    clear hW
    refine Hc.out.mono ?_
    rintro e w1 ⟨rfl, hb⟩
    replace HB := Lib.hid (btrans HB.out hb); replace HV := Lib.hid (HV.out.on hb); replace HX := Lib.hid (bon HX.out hb)
    clear hb b0 b1 Hc
    obtain ⟨b0, b1⟩ := box2 HX.out
    have Hc := Lib.hid (small_any HV.out)
    rw [HS.out] at Hc
    go_wp2_with fail
    refine Hc.out.mono ?_
    rintro e w2 ⟨rfl, hb⟩
    replace HB := Lib.hid (btrans HB.out hb); replace HV := Lib.hid (HV.out.on hb); replace HX := Lib.hid (bon HX.out hb)
    clear hb b0 b1 Hc
    obtain ⟨b0, b1⟩ := box2 HX.out
    go_wp2
    go_ret
    exact ⟨rfl, HB.out⟩
  | true =>
    by_cases cE : E = 0
    · subst cE
      cases A1 with
      | false =>
        have Hc := Lib.hid (sane_true W)
        go_enter Try.func6, Try.ntmps6
        go_wp2_with fail
        rw [← hW]
        clear hW
        refine Hc.out.mono ?_
        rintro e w1 ⟨rfl, hb⟩
        replace HB := Lib.hid (btrans HB.out hb); replace HV := Lib.hid (HV.out.on hb); replace HX := Lib.hid (bon HX.out hb)
        clear hb b0 b1 Hc
        obtain ⟨b0, b1⟩ := box2 HX.out
        have Hc := Lib.hid (small_any HV.out)
        rw [HS.out] at Hc
        go_wp2_with fail
        refine Hc.out.mono ?_
        rintro e w2 ⟨rfl, hb⟩
        replace HB := Lib.hid (btrans HB.out hb); replace HV := Lib.hid (HV.out.on hb); replace HX := Lib.hid (bon HX.out hb)
        clear hb b0 b1 Hc
        obtain ⟨b0, b1⟩ := box2 HX.out
        have Hc := Lib.hid (rcheck_any HV.out 0 HE.out)
        go_wp2_with fail
        refine Hc.out.mono ?_
        rintro e w3 ⟨rfl, hb⟩
        replace HB := Lib.hid (btrans HB.out hb); replace HV := Lib.hid (HV.out.on hb); replace HX := Lib.hid (bon HX.out hb)
        clear hb b0 b1 Hc
        obtain ⟨b0, b1⟩ := box2 HX.out
        have Hc := Lib.hid (exists_any HV.out a1)
        rw [HA1.out] at Hc
        go_wp2_with fail
        refine Hc.out.mono ?_
        rintro e w4 ⟨rfl, hb⟩
        replace HB := Lib.hid (btrans HB.out hb); replace HV := Lib.hid (HV.out.on hb); replace HX := Lib.hid (bon HX.out hb)
        clear hb b0 b1 Hc
        obtain ⟨b0, b1⟩ := box2 HX.out
        go_wp2
        go_ret
        exact ⟨rfl, HB.out⟩
      | true =>
        obtain ⟨es, hval⟩ := chk_val HE.out.symm
        obtain ⟨f, rfl, hf⟩ := val_arg HA1.out
        have hn512 : n ≤ 512 := by have := HN.out; have := hval.2.2.1; omega
        have hml : m = es.length := by rw [HM.out, hval.1, List.length_map]
        have hmb : m ≤ 2048 := by have := hval.2.2.2; omega
        have hfn : f < n := by rw [HN.out]; exact hf
        have hfn2 : (f : Int) < (n : Int) := by omega
        have HVAL := Lib.hid hval; have HF := Lib.hid hf; have HML := Lib.hid hml; have HFN := Lib.hid hfn
        clear hval hf hml hfn
        have Hc := Lib.hid (sane_true W)
        go_enter Try.func6, Try.ntmps6
        go_wp2_with fail
        rw [← hW]
        clear hW
        refine Hc.out.mono ?_
        rintro e w1 ⟨rfl, hb⟩
        replace HB := Lib.hid (btrans HB.out hb); replace HV := Lib.hid (HV.out.on hb); replace HX := Lib.hid (bon HX.out hb)
        clear hb b0 b1 Hc
        obtain ⟨b0, b1⟩ := box2 HX.out
        have Hc := Lib.hid (small_any HV.out)
        rw [HS.out] at Hc
        go_wp2_with fail
        refine Hc.out.mono ?_
        rintro e w2 ⟨rfl, hb⟩
        replace HB := Lib.hid (btrans HB.out hb); replace HV := Lib.hid (HV.out.on hb); replace HX := Lib.hid (bon HX.out hb)
        clear hb b0 b1 Hc
        obtain ⟨b0, b1⟩ := box2 HX.out
        have Hc := Lib.hid (rcheck_any HV.out 0 HE.out)
        go_wp2_with fail
        refine Hc.out.mono ?_
        rintro e w3 ⟨rfl, hb⟩
        replace HB := Lib.hid (btrans HB.out hb); replace HV := Lib.hid (HV.out.on hb); replace HX := Lib.hid (bon HX.out hb)
        clear hb b0 b1 Hc
        obtain ⟨b0, b1⟩ := box2 HX.out
        have Hc := Lib.hid (exists_any HV.out (f : Int))
        rw [HA1.out] at Hc
        go_wp2_with fail
        refine Hc.out.mono ?_
        rintro e w4 ⟨rfl, hb⟩
        replace HB := Lib.hid (btrans HB.out hb); replace HV := Lib.hid (HV.out.on hb); replace HX := Lib.hid (bon HX.out hb)
        clear hb b0 b1 Hc
        obtain ⟨b0, b1⟩ := box2 HX.out
        have Hc := Lib.hid (vT HV.out HVAL.out HE.out.symm HF.out)
        rw [← HN.out] at Hc
        go_wp2_with fail
        refine Hc.out.mono ?_
        rintro e w5 ⟨ta, tc, L, rfl, hb, hl, ht, hd⟩
        replace HB := Lib.hid (btrans HB.out hb); replace HV := Lib.hid (HV.out.on hb); replace HX := Lib.hid (bon HX.out hb)
        have HLL := Lib.hid hl
        have KT := Lib.hid ht
        have KD := Lib.hid hd
        clear hb b0 b1 Hc hl ht hd
        obtain ⟨b0, b1⟩ := box2 HX.out
        have hl0 := KT.out.1
        obtain ⟨g, off, y0, rfl, hg, hy0, hyi0, c0, hcap0⟩ := HLL.out.pick f (by rw [hl0]; exact HFN.out)
        have hz : y0 = 0 := by have := dv_get hy0; rw [KT.out.2.zero] at this; exact this.symm
        subst hz
        have HGG := Lib.hid hg; have HL0 := Lib.hid hl0
        have e1 : ((n : Int) != (n : Int)) = false := by simp
        clear hg hy0 hyi0 hcap0 hl0
        go_wp2
        clear c0 e1 b0 b1
        obtain ⟨W9, hW9⟩ : ∃ W9, W9 = w5 := ⟨_, rfl⟩
        subst hW9
        go_loopw [7] (fun s wr => ∃ k : Nat, k ≤ m ∧ s = .int .i64 (k : Int) ∧ Hid (Below W9.heap.size W9 wr)) (fun s _ => m - (intOf s).toNat)
        case atStart => exact ⟨0, by omega, rfl, Lib.hid (Below.refl _ _)⟩
        case round =>
          obtain ⟨k, hk, rfl, HW⟩ := hrel
          obtain ⟨b0, b1⟩ := box2 (bon HX.out HW.out)
          by_cases hlt : k < m
          · have hlt2 : (k : Int) < (m : Int) := by omega
            obtain ⟨x, hx⟩ : ∃ x, es[k]? = some x := ⟨_, List.getElem?_eq_getElem (by have := HML.out; omega)⟩
            have hxo := HVAL.out.2.1 x (List.mem_of_getElem? hx)
            have hline := line_of KT.out hx
            obtain ⟨va2, vc2, vb2, vd2, he2, _, hES⟩ := HV.out.shape
            simp only [Value.agg.injEq, Array.mk.injEq, List.cons.injEq, Value.slice.injEq, and_true] at he2
            rw [← he2.2.1, ← he2.2.2.1, ← he2.2.2.2] at hES
            obtain ⟨g3, off3, y, hvb, hg3, hy, c0, c1, c2, c3, c4, hcap⟩ := Es.cells hES k (by rw [HVAL.out.1, List.length_map]; have := HML.out; omega)
            rw [HVAL.out.1, List.getElem?_map, hx] at hy
            obtain rfl : x.ed = y := Option.some.inj hy
            subst hvb
            obtain ⟨xa, hxa⟩ : ∃ z, z = x.a := ⟨_, rfl⟩
            obtain ⟨xb, hxb⟩ : ∃ z, z = x.b := ⟨_, rfl⟩
            obtain ⟨xm, hxm⟩ : ∃ z, z = x.m := ⟨_, rfl⟩
            obtain ⟨xr, hxr⟩ : ∃ z, z = x.r := ⟨_, rfl⟩
            obtain ⟨xk, hxk⟩ : ∃ z, z = x.k := ⟨_, rfl⟩
            have f0 : wr.cell? ⟨g3, off3 + k * 5, none⟩ = some (.int .i64 (xa : Int)) := by rw [hxa]; exact (HW.out.cell (p := ⟨g3, off3 + k * 5, none⟩) hg3).trans c0
            have f1 : wr.cell? ⟨g3, off3 + k * 5 + 1, none⟩ = some (.int .i64 (xb : Int)) := by rw [hxb]; exact (HW.out.cell (p := ⟨g3, off3 + k * 5 + 1, none⟩) hg3).trans c1
            have f2 : wr.cell? ⟨g3, off3 + k * 5 + 2, none⟩ = some (.int .i64 (xr : Int)) := by rw [hxr]; exact (HW.out.cell (p := ⟨g3, off3 + k * 5 + 2, none⟩) hg3).trans c2
            have f3 : wr.cell? ⟨g3, off3 + k * 5 + 3, none⟩ = some (.int .i64 (xm : Int)) := by rw [hxm]; exact (HW.out.cell (p := ⟨g3, off3 + k * 5 + 3, none⟩) hg3).trans c3
            have f4 : wr.cell? ⟨g3, off3 + k * 5 + 4, none⟩ = some (.int .i64 (xk : Int)) := by rw [hxk]; exact (HW.out.cell (p := ⟨g3, off3 + k * 5 + 4, none⟩) hg3).trans c4
            obtain ⟨o1, o2, o3, o4, o5, o6, o7⟩ := hxo
            have hnn := HN.out
            have hlab := HL0.out
            obtain ⟨ya, hya⟩ : ∃ z, z = dv L xa := ⟨_, rfl⟩
            obtain ⟨yb, hyb⟩ : ∃ z, z = dv L xb := ⟨_, rfl⟩
            have hla : L[xa]? = some ya := by rw [dv_some (by omega), hya]
            have hlb : L[xb]? = some yb := by rw [dv_some (by omega), hyb]
            have hya2 := KD.out xa; have hyb2 := KD.out xb
            rw [← hya] at hya2; rw [← hyb] at hyb2
            rw [← hxa, ← hxb, ← hxm, ← hya, ← hyb] at hline
            have hb2 := ball HW.out (.cells #[.int .i64 (xa : Int), .int .i64 (xb : Int), .int .i64 (xr : Int), .int .i64 (xm : Int), .int .i64 (xk : Int)] 45)
            have k0 : (wr.alloc (.cells #[.int .i64 (xa : Int), .int .i64 (xb : Int), .int .i64 (xr : Int), .int .i64 (xm : Int), .int .i64 (xk : Int)] 45)).cell? ⟨g, off + xa, none⟩ = some (.int .i64 ya) := (hb2.cell (p := ⟨g, off + xa, none⟩) HGG.out).trans (HLL.out.at hla).2.1
            have k1 : (wr.alloc (.cells #[.int .i64 (xa : Int), .int .i64 (xb : Int), .int .i64 (xr : Int), .int .i64 (xm : Int), .int .i64 (xk : Int)] 45)).cell? ⟨g, off + xb, none⟩ = some (.int .i64 yb) := (hb2.cell (p := ⟨g, off + xb, none⟩) HGG.out).trans (HLL.out.at hlb).2.1
            have hwa : IntKind.i64.wrap (ya + (xm : Int)) = ya + (xm : Int) := wrap_in (by omega) (by omega)
            have hwb : IntKind.i64.wrap (yb + (xm : Int)) = yb + (xm : Int) := wrap_in (by omega) (by omega)
            have hax : (xa : Int) < (n : Int) := by omega
            have hbx : (xb : Int) < (n : Int) := by omega
            have HB2 := Lib.hid hb2
            clear hx hy hg3 c0 c1 c2 c3 c4 hcap hxa hxb hxm hxr hxk o1 o2 o3 o4 o5 o6 o7 hlab hya hyb hla hlb hya2 hyb2 hb2 hnn he2 hES
            rcases hline with ⟨n1, n2⟩ | ⟨n1, n2, n3, n4⟩
            · have d1 : decide (ya < 0) = true := decide_eq_true n1
              have d2 : decide (yb < 0) = true := decide_eq_true n2
              have d3 : decide (ya ≥ 0) = false := decide_eq_false (by omega)
              clear n1 n2
              go_wp2_with fail
              go_quiet (fail)
              have HW2 := Lib.hid (bdrewN HB2.out nq)
              clear k0 k1 f0 f1 f2 f3 f4 b0 b1
              generalize (wr.alloc (.cells #[.int .i64 (xa : Int), .int .i64 (xb : Int), .int .i64 (xr : Int), .int .i64 (xm : Int), .int .i64 (xk : Int)] 45)).drewN nq = w7 at *
              go_wp2
              go_roundw
              case rel => exact ⟨k + 1, by omega, by go_num, HW2⟩
              case measure => simp [intOf]; omega
            · have d1 : decide (ya < 0) = false := decide_eq_false (by omega)
              have d2 : decide (yb < 0) = false := decide_eq_false (by omega)
              have d3 : decide (ya ≥ 0) = true := decide_eq_true n1
              have d4 : decide (yb > ya + (xm : Int)) = false := decide_eq_false (by omega)
              have d5 : decide (ya > yb + (xm : Int)) = false := decide_eq_false (by omega)
              clear n1 n2 n3 n4
              go_wp2_with fail
              go_quiet (fail)
              have HW2 := Lib.hid (bdrewN HB2.out nq)
              clear k0 k1 f0 f1 f2 f3 f4 b0 b1
              generalize (wr.alloc (.cells #[.int .i64 (xa : Int), .int .i64 (xb : Int), .int .i64 (xr : Int), .int .i64 (xm : Int), .int .i64 (xk : Int)] 45)).drewN nq = w7 at *
              go_wp2
              go_roundw
              case rel => exact ⟨k + 1, by omega, by go_num, HW2⟩
              case measure => simp [intOf]; omega
          · obtain rfl : k = m := by omega
            have hlt2 : ¬ ((k : Int) < (k : Int)) := by omega
            have HV9 := Lib.hid (HV.out.on HW.out); have HB9 := Lib.hid (btrans HB.out HW.out); have HX9 := Lib.hid (bon HX.out HW.out); have HLL9 := Lib.hid (HLL.out.on HW.out); have HG9 := Lib.hid (Nat.lt_of_lt_of_le HGG.out HW.out.size)
            obtain ⟨W8, hW8⟩ : ∃ W8, W8 = wr := ⟨_, rfl⟩
            subst hW8
            clear HW
            go_wp2
            clear b0 b1
            go_loopw [9] (fun s wr => ∃ p : Nat, p ≤ n ∧ s = .int .i64 (p : Int) ∧ Hid (Below W8.heap.size W8 wr)) (fun s _ => n - (intOf s).toNat)
            case atStart => exact ⟨0, by omega, rfl, Lib.hid (Below.refl _ _)⟩
            case round =>
              obtain ⟨p, hp, rfl, HW⟩ := hrel
              by_cases hpl : p < n
              · have hpl2 : (p : Int) < (n : Int) := by omega
                obtain ⟨b0, b1⟩ := box2 (bon HX9.out HW.out)
                obtain ⟨yp, hyp⟩ : ∃ z, z = dv L p := ⟨_, rfl⟩
                have hlp : L[p]? = some yp := by rw [dv_some (by rw [HL0.out]; exact hpl), hyp]
                have hyp2 := KD.out p
                rw [← hyp] at hyp2
                have k0 : wr.cell? ⟨g, off + p, none⟩ = some (.int .i64 yp) := (HW.out.cell (p := ⟨g, off + p, none⟩) HG9.out).trans (HLL9.out.at hlp).2.1
                have d0 : decide (yp < -1) = false := decide_eq_false (by omega)
                have HYP := Lib.hid hyp
                clear hlp hyp hyp2
                by_cases h0 : 0 ≤ yp
                · have d1 : decide (yp ≥ 0) = true := decide_eq_true h0
                  by_cases hpf : p = f
                  · have d2 : ((p : Int) != (f : Int)) = false := by simp; omega
                    clear hpf
                    go_wp2
                    clear k0 b0 b1
                    go_roundw
                    case rel => exact ⟨p + 1, by omega, by go_num, HW⟩
                    case measure => simp [intOf]; omega
                  · have d2 : ((p : Int) != (f : Int)) = true := by simp; omega
                    have hat := att_of KT.out (p := p) (by rw [← HYP.out]; exact h0) hpf
                    have hV2 := HV9.out.on HW.out
                    rw [HVAL.out.1] at hV2
                    have Hc := Lib.hid (attained_any hV2 HVAL.out.2.1 (HLL9.out.on HW.out) (by rw [HL0.out]; exact HN.out) (p := p) (by rw [← HN.out]; exact hpl) (by rw [← HN.out]; omega) KD.out true ⟨fun _ => hat, fun _ => rfl⟩)
                    clear hpf hat hV2
                    go_wp2_with fail
                    refine Hc.out.mono ?_
                    rintro e wz ⟨rfl, hb⟩
                    replace HW := Lib.hid (btrans HW.out hb)
                    clear hb Hc k0 b0 b1
                    go_wp2
                    go_roundw
                    case rel => exact ⟨p + 1, by omega, by go_num, HW⟩
                    case measure => simp [intOf]; omega
                · have d1 : decide (yp ≥ 0) = false := decide_eq_false h0
                  go_wp2
                  clear k0 b0 b1
                  go_roundw
                  case rel => exact ⟨p + 1, by omega, by go_num, HW⟩
                  case measure => simp [intOf]; omega
              · obtain rfl : p = n := by omega
                have hpl2 : ¬ ((p : Int) < (p : Int)) := by omega
                go_wp2
                go_ret
                exact ⟨rfl, btrans HB9.out HW.out⟩
    · have dE : (E != 0) = true := by simpa using cE
      clear cE
      have Hc := Lib.hid (sane_true W)
      go_enter Try.func6, Try.ntmps6
      go_wp2_with fail
      rw [← hW]
      clear hW
      refine Hc.out.mono ?_
      rintro e w1 ⟨rfl, hb⟩
      replace HB := Lib.hid (btrans HB.out hb); replace HV := Lib.hid (HV.out.on hb); replace HX := Lib.hid (bon HX.out hb)
      clear hb b0 b1 Hc
      obtain ⟨b0, b1⟩ := box2 HX.out
      have Hc := Lib.hid (small_any HV.out)
      rw [HS.out] at Hc
      go_wp2_with fail
      refine Hc.out.mono ?_
      rintro e w2 ⟨rfl, hb⟩
      replace HB := Lib.hid (btrans HB.out hb); replace HV := Lib.hid (HV.out.on hb); replace HX := Lib.hid (bon HX.out hb)
      clear hb b0 b1 Hc
      obtain ⟨b0, b1⟩ := box2 HX.out
      have Hc := Lib.hid (rcheck_any HV.out E HE.out)
      go_wp2_with fail
      refine Hc.out.mono ?_
      rintro e w3 ⟨rfl, hb⟩
      replace HB := Lib.hid (btrans HB.out hb); replace HV := Lib.hid (HV.out.on hb); replace HX := Lib.hid (bon HX.out hb)
      clear hb b0 b1 Hc
      obtain ⟨b0, b1⟩ := box2 HX.out
      go_wp2
      go_ret
      exact ⟨rfl, HB.out⟩

set_option maxRecDepth 100000 in
theorem lifted (os : Os) (started : os.Started) (H : Type) (enc : TypeId × Value → H) :
    ReturnsInHanded {} Try.checked os 6 .any (Rows.networkTimesAreShortestSpec.pre6 enc Try.prog Try.f6 Rows.networkTimesAreShortestRow.domain false) (Rows.networkTimesAreShortestSpec.post enc Try.prog Try.f6 false true false false) := by
  refine returnsInHanded_of_change_sized (C := Try.checked) own started (by kernel_rfl) Try.func6
    (ChangeSpec.witness6 (enc := enc) (C := Try.checked) false ⟨#[], #[.agg #[.slice none 0 0, .slice none 0 0], .int .i64 0], []⟩ 8 (by kernel_rfl) (by kernel_rfl) (by kernel_rfl) (by kernel_rfl)) ?_
  intro W base args ds gs before hval0 hW _ hsz0 _
  have hsz : (DataW.weightsEach Try.prog (Try.f6.params.toList ++ Rows.networkTimesAreShortestSpec.plain.varTypes Try.prog) (ds ++ gs)).all (· ≤ reachBytes) = true := hsz0
  have hval : ∀ (j : Nat) t v, Try.f6.params[j]? = some t → args[j]? = some v → Value.okWide Try.prog W .any base t v := hval0
  clear hsz0 hval0
  have hW' := hW
  obtain ⟨p, q, hA0, hV, rfl, _, _⟩ := hW
  have hA : DataW.TrodAll enc Try.prog W 0 (fun _ => true) true Try.f6.params.toList args.toList ds p := hA0
  rw [Try.params6] at hA hval hsz
  obtain ⟨v0, vs0, d0, ds0, p0, q0, hargs, rfl, rfl, h0, r0⟩ := trodAll_cons hA
  obtain ⟨v1, vs1, d1, ds1, p1, q1, rfl, rfl, rfl, h1, r1⟩ := trodAll_cons r0
  obtain ⟨rfl, rfl, rfl⟩ := trodAll_nil r1
  obtain rfl : args = #[v0, v1] := by cases args; simp_all
  obtain ⟨rfl, rfl⟩ := trodVars_none hV
  have hw0 : ∀ n ∈ d0.weights Try.prog 25, n ≤ reachBytes := by
    intro n hn
    have := List.all_eq_true.1 hsz n (DataW.weights_mem_each (t := 25) (d := d0) (j := 0) rfl rfl n hn)
    simpa using this
  obtain ⟨ps0, es0, hn0⟩ := openNw (hval 0 25 v0 rfl rfl) h0 hw0
  obtain ⟨a1, rfl, rfl, rfl, wf1⟩ := open_int Try.underlying3 (hval 1 3 v1 rfl rfl) h1
  clear hA0
  refine (walk v0 ps0 es0 a1 W hn0 (i64_wf wf1)).mono fun e W' ⟨he, hb⟩ => ?_
  subst he
  refine ⟨_, rfl, post_law laidOut ?_ rfl rfl hW' rfl rfl rfl hb⟩
  intro t ht
  rw [Try.params6] at ht
  have hm : t ∈ [3, 25] := (by decide : ∀ t ∈ (#[25, 3] : Array TypeId).toList, t ∈ [3, 25]) t ht
  have hall : ([3, 25].all fun u => Try.prog.readableRec u && decide (u < Try.prog.types.size)) = true := by kernel_rfl
  have := List.all_eq_true.1 hall t hm
  simpa using this

theorem over : Rows.networkTimesAreShortestRow.holds Try.pinned (OpenSpec.ofChange Rows.networkTimesAreShortestSpec) :=
  OpenClaim.holds_of_wide 6 Try.f6 rfl rfl rfl rfl rfl rfl rfl ⟨rfl, rfl, rfl, rfl, rfl⟩ rfl rfl rfl rfl rfl (by kernel_rfl) Try.func6 (by kernel_rfl)
    (of_decide_eq_true (by kernel_rfl)) (by unfold Func.isWrapper; first | (rw [if_pos (by decide +kernel)]; kernel_rfl) | (rw [if_neg (by decide +kernel)]; exact ⟨rfl, rfl⟩))
    (fun os started H enc _ => lifted os started H enc)

/-- THE STATEMENT. -/
theorem proved : Rows.NetworkTimesAreShortestSaid :=
  over
#print axioms proved
end Go.Proofs.Ytbeoldklpklbfaa.networkTimesAreShortest
