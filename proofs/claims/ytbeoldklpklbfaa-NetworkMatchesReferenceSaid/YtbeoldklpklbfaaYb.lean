/-
  Walks: the reference's Between and Route.
-/
import Derived.Test.YtbeoldklpklbfaaYa
import Derived.Test.YtbeoldklpklbfaaOb
namespace Go.Proofs.Ytbeoldklpklbfaa
open Go.RowKit
set_option linter.unusedVariables false
set_option linter.unusedSimpArgs false

theorem cerr_two {ps : List Pc} {eds : List Ed} {a b : Int} (h : cerr ps eds [a] ≠ 0) : cerr ps eds [a, b] = cerr ps eds [a] := by
  unfold cerr at h ⊢
  by_cases hc : chk ps eds = 0
  · simp only [if_pos hc] at h ⊢
    by_cases hp : plc ps.length [a] = true
    · rw [if_pos hp] at h; exact absurd rfl h
    · rw [if_neg hp, if_neg]
      intro hq
      apply hp
      unfold plc at hq ⊢
      simp only [List.all_cons, Bool.and_eq_true, List.all_nil] at hq ⊢
      exact ⟨hq.1, trivial⟩
  · rw [if_neg hc, if_neg hc]

set_option maxRecDepth 100000 in
set_option maxHeartbeats 4000000 in
theorem rbetweenP_any {V : Value} {ps : List Pc} {eds : List Ed} {w : World} (h : Nw w V ps eds) (a b : Int) (hT : chk ps eds = 0 → ∀ (es : List Ln) (fn : Nat), Val ps eds es → a = (fn : Int) → fn < ps.length → ∃ L0, Tm ps.length es fn L0) :
    Calls Try.prog 22 #[V, .int .i64 a, .int .i64 b] w fun e w' => ∃ (T E : Int), e = .returned (.tuple #[.int .i64 T, .int .i64 E]) ∧ Below w.heap.size w w' ∧ BR ps eds a b T E := by
  obtain ⟨va, vc, vb, vd, rfl, h1, h2⟩ := h.shape
  obtain ⟨n, hn⟩ : ∃ n, n = ps.length := ⟨_, rfl⟩
  obtain ⟨m, hm⟩ : ∃ m, m = eds.length := ⟨_, rfl⟩
  rw [← hn, ← hm] at h ⊢
  have HN := Lib.hid hn; have HM := Lib.hid hm
  obtain ⟨W, hW⟩ : ∃ W, W = w.alloc (.cells #[.slice va n vc, .slice vb m vd] 25) := ⟨_, rfl⟩
  have hB : Below w.heap.size w W := by rw [hW]; exact ball (Below.refl w.heap.size w) _
  have e0 : W.heap[w.heap.size]? = some (.cells #[.slice va n vc, .slice vb m vd] 25 (0, 0)) := by rw [hW]; exact bnew _ _
  have hV := h.on hB
  obtain ⟨b0, b1⟩ := box2 e0
  obtain ⟨A1, hA1⟩ : ∃ A, rng 0 b ((ps.length : Int) - 1) = A := ⟨_, rfl⟩
  have HC := Lib.hid (rtimesP_any hV a hT)
  have HB := Lib.hid hB; have HX := Lib.hid e0; have HV := Lib.hid hV; have HA1 := Lib.hid hA1
  clear h h1 h2 hn hm hB e0 hV hA1 hT
  go_enter Try.func22, Try.ntmps22
  go_wp2_with fail
  rw [← hW]
  clear hW
  refine HC.out.mono ?_
  rintro e w1 ⟨ta, tk, tc, L, E, rfl, hb, hh, htr, hbd⟩
  replace HB := Lib.hid (btrans HB.out hb); replace HV := Lib.hid (HV.out.on hb); replace HX := Lib.hid (bon HX.out hb)
  have HH := Lib.hid hh; have HTR := Lib.hid htr
  clear hh htr hbd
  clear hb b0 b1 HC
  obtain ⟨b0, b1⟩ := box2 HX.out
  by_cases c0 : E = 0
  rotate_left
  · have d0 : (E != 0) = true := by simpa using c0
    have HC0 := Lib.hid c0
    clear c0
    go_wp2
    go_ret2
    have h1 := HTR.out.1
    exact ⟨0, E, rfl, HB.out, Or.inl ⟨by rw [cerr_two (by rw [← h1]; exact HC0.out), ← h1]; exact HC0.out, by rw [cerr_two (by rw [← h1]; exact HC0.out), ← h1], rfl⟩⟩
  subst c0
  obtain ⟨es, an, hval, rfl, han, htm⟩ := HTR.out.2.2 rfl
  have hchk := (cerr_zero HTR.out.1.symm).1
  have HCH := Lib.hid hchk; have HVAL := Lib.hid hval; have HAN := Lib.hid han; have HTM := Lib.hid htm
  clear hchk hval han htm
  have Hc := Lib.hid (exists_any HV.out b)
  rw [HA1.out] at Hc
  go_wp2_with fail
  refine Hc.out.mono ?_
  rintro e w2 ⟨rfl, hb⟩
  replace HB := Lib.hid (btrans HB.out hb)
  have hh := HH.out.on hb
  clear hb b0 b1 Hc
  cases A1 with
  | false =>
    have HF := Lib.hid (cerr_one (l := [(an : Int), b]) HCH.out.symm (by simp) HA1.out)
    clear hh
    go_wp2
    go_ret2
    exact ⟨0, 1, rfl, HB.out, Or.inl ⟨by rw [HF.out]; decide, HF.out.symm, rfl⟩⟩
  | true =>
    obtain ⟨bn, rfl, hbn⟩ := val_arg HA1.out
    have hce := val_chk (es := es) HCH.out [(an : Int), (bn : Int)] (fun p hp => by
      simp only [List.mem_cons, List.not_mem_nil, or_false] at hp
      rcases hp with rfl | rfl
      · exact ⟨an, rfl, HAN.out⟩
      · exact ⟨bn, rfl, hbn⟩)
    obtain ⟨ta', tc', hsh⟩ := hh.shape
    simp only [Value.slice.injEq] at hsh
    obtain ⟨z1, htk, z2⟩ := hsh
    clear z1 z2
    obtain ⟨g, off, y, rfl, hg, hy, hyi, k0, hcap⟩ := hh.pick bn (by rw [HTM.out.1]; exact hbn)
    have hdy := dv_get hy
    have hbk : (bn : Int) < (tk : Int) := by rw [htk, HTM.out.1]; omega
    have HDY := Lib.hid hdy; have HCE := Lib.hid hce; have HBN := Lib.hid hbn
    clear hh hg hy hyi hcap hdy hce hbn htk
    by_cases hneg : y < 0
    · have d0 : decide (y < 0) = true := decide_eq_true hneg
      have HNG := Lib.hid hneg
      clear hneg
      go_wp2
      go_ret2
      exact ⟨0, 80, rfl, HB.out, Or.inr ⟨HCE.out, es, an, bn, L, HVAL.out, rfl, rfl, HAN.out, HBN.out, HTM.out, Or.inl ⟨by rw [HDY.out]; exact HNG.out, rfl, rfl⟩⟩⟩
    · have d0 : decide (y < 0) = false := decide_eq_false hneg
      have HNG := Lib.hid hneg
      clear hneg
      go_wp2
      go_ret2
      exact ⟨y, 0, rfl, HB.out, Or.inr ⟨HCE.out, es, an, bn, L, HVAL.out, rfl, rfl, HAN.out, HBN.out, HTM.out, Or.inr ⟨by rw [HDY.out]; have := HNG.out; omega, rfl, HDY.out.symm⟩⟩⟩

/-- The search of the next place so far. -/
def SC (es : List Ln) (L : List Int) (cu : Nat) (r : Int) (q : Nat) : Prop :=
  (r = -1 ∧ ∀ q', q' < q → ¬ cand es L cu q') ∨ ∃ q1 : Nat, r = (q1 : Int) ∧ cand es L cu q1 ∧ ∀ q', q' < q1 → ¬ cand es L cu q'
theorem SC.nx {n : Nat} {es : List Ln} {L : List Int} {cu q : Nat} {r : Int} (G : Wt n (wt es)) (h : SC es L cu r q) (hq : q = n ∨ 0 ≤ r) : NX es L cu r := by
  rcases h with ⟨rfl, h1⟩ | ⟨q1, rfl, h1, h2⟩
  · rcases hq with rfl | hq
    · refine Or.inl ⟨rfl, fun q' hc => ?_⟩
      obtain ⟨m, hm, _⟩ := id hc
      exact h1 q' (G.lt hm).2 hc
    · omega
  · exact Or.inr ⟨q1, rfl, h1, fun q' hc => Nat.le_of_not_lt fun hlt => h2 q' hlt hc⟩

set_option maxRecDepth 100000 in
set_option maxHeartbeats 8000000 in
theorem rrouteP_any {V : Value} {ps : List Pc} {eds : List Ed} {w : World} (h : Nw w V ps eds) (a b : Int) (hT : chk ps eds = 0 → ∀ (es : List Ln) (fn : Nat), Val ps eds es → a = (fn : Int) → fn < ps.length → ∃ L0, Tm ps.length es fn L0) (hU : cerr ps eds [a, b] = 0 → ∀ (es : List Ln) (fn : Nat), Val ps eds es → b = (fn : Int) → fn < ps.length → ∃ L0, Tm ps.length es fn L0) :
    Calls Try.prog 23 #[V, .int .i64 a, .int .i64 b] w fun e w' => ∃ (ad : Option Addr) (k c : Nat) (R : List Int) (E : Int), e = .returned (.tuple #[.slice ad k c, .int .i64 E]) ∧ Below w.heap.size w w' ∧ Hl (fun k => k < w'.heap.size) w' (.slice ad k c) R ∧ RR ps eds a b R E := by
  obtain ⟨va, vc, vb, vd, rfl, h1, h2⟩ := h.shape
  obtain ⟨n, hn⟩ : ∃ n, n = ps.length := ⟨_, rfl⟩
  obtain ⟨m, hm⟩ : ∃ m, m = eds.length := ⟨_, rfl⟩
  rw [← hn, ← hm] at h ⊢
  have HN := Lib.hid hn; have HM := Lib.hid hm
  obtain ⟨W, hW⟩ : ∃ W, W = w.alloc (.cells #[.slice va n vc, .slice vb m vd] 25) := ⟨_, rfl⟩
  have hB : Below w.heap.size w W := by rw [hW]; exact ball (Below.refl w.heap.size w) _
  have e0 : W.heap[w.heap.size]? = some (.cells #[.slice va n vc, .slice vb m vd] 25 (0, 0)) := by rw [hW]; exact bnew _ _
  have hV := h.on hB
  obtain ⟨b0, b1⟩ := box2 e0
  have HC := Lib.hid (rbetweenP_any hV a b hT)
  have HB := Lib.hid hB; have HX := Lib.hid e0; have HV := Lib.hid hV; have HU := Lib.hid hU
  clear h h1 h2 hn hm hB e0 hV hT hU
  go_enter Try.func23, Try.ntmps23
  go_wp2_with fail
  rw [← hW]
  clear hW
  refine HC.out.mono ?_
  rintro e w1 ⟨T, E, rfl, hb, hbr⟩
  replace HB := Lib.hid (btrans HB.out hb); replace HV := Lib.hid (HV.out.on hb); replace HX := Lib.hid (bon HX.out hb)
  have HBR := Lib.hid hbr
  clear hbr
  clear hb b0 b1 HC
  obtain ⟨b0, b1⟩ := box2 HX.out
  by_cases c0 : E = 0
  rotate_left
  · have d0 : (E != 0) = true := by simpa using c0
    have HC0 := Lib.hid c0
    clear c0
    go_wp2
    go_ret2
    refine ⟨_, _, _, [], E, rfl, HB.out, hl_nil _ _ _ _, ?_⟩
    rcases HBR.out with ⟨z0, z1, z2⟩ | ⟨z0, es, an, bn, L, hv, rfl, rfl, z1, z2, z3, z4⟩
    · exact Or.inl ⟨z0, z1, rfl⟩
    · rcases z4 with ⟨z4, z5, _⟩ | ⟨_, z5, _⟩
      · obtain ⟨Lb, hLb⟩ := HU.out z0 es bn hv rfl z2
        exact Or.inr ⟨z0, es, an, bn, Lb, hv, rfl, rfl, z1, z2, hLb, Or.inl ⟨by rw [← dist_symm (wt_wt hv.2.1) z3.2 hLb.2]; exact z4, z5, rfl⟩⟩
      · exact absurd z5 HC0.out
  subst c0
  have hbr := HBR.out
  rcases hbr with ⟨z0, z1, z2⟩ | ⟨z0, es, an, bn, La, hv, rfl, rfl, z1, z2, z3, z4⟩
  · exact absurd z1.symm z0
  have hLa : 0 ≤ dv La bn := by rcases z4 with ⟨_, z5, _⟩ | ⟨z5, _⟩ <;> omega
  have hchk := (cerr_zero z0).1
  have hcb : cerr ps eds [(bn : Int)] = 0 := val_chk (es := es) hchk [(bn : Int)] (fun p hp => by
    simp only [List.mem_cons, List.not_mem_nil, or_false] at hp
    exact ⟨bn, hp, z2⟩)
  have HCE := Lib.hid z0; have HVAL := Lib.hid hv; have HAN := Lib.hid z1; have HBN := Lib.hid z2; have HTA := Lib.hid z3; have HLA := Lib.hid hLa; have HCB := Lib.hid hcb
  have Hc := Lib.hid (rtimesP_any HV.out (bn : Int) (fun _ => HU.out z0))
  clear z0 hv z1 z2 z3 z4 hLa hchk hcb HBR
  go_wp2_with fail
  refine Hc.out.mono ?_
  rintro e w4 ⟨ta, tk, tc, L, E, rfl, hb, hh, htr, hbd⟩
  replace HB := Lib.hid (btrans HB.out hb); replace HV := Lib.hid (HV.out.on hb); replace HX := Lib.hid (bon HX.out hb)
  clear b0 b1 hb
  obtain rfl : E = 0 := by rw [htr.1]; exact HCB.out
  obtain ⟨es', bn', hv', e1, hbn', htm⟩ := htr.2.2 rfl
  obtain rfl := HVAL.out.one hv'
  obtain rfl : bn = bn' := by omega
  obtain rfl := HVAL.out.1
  rw [← HN.out] at htm
  have hsym : dv L an = dv La bn := (dist_symm (wt_wt HVAL.out.2.1) HTA.out.2 htm.2).symm
  have hn512 : n ≤ 512 := by rw [HN.out]; exact HVAL.out.2.2.1
  have hm2048 : m ≤ 2048 := by rw [HM.out, List.length_map]; exact HVAL.out.2.2.2
  have han1 : an < n := by rw [HN.out]; exact HAN.out
  obtain ⟨ta', tc', hsh⟩ := hh.shape
  simp only [Value.slice.injEq] at hsh
  obtain ⟨zz1, htk, zz2⟩ := hsh
  clear zz1 zz2
  obtain rfl : tk = n := by rw [htk, htm.1]
  obtain ⟨g, off, y, rfl, hg, hy, hyi, k0, hcap⟩ := hh.pick an (by rw [htm.1]; exact han1)
  have hpos : 0 ≤ dv L an := by rw [hsym]; exact HLA.out
  have HI0 : Hid (1 = (([] : List Nat) ++ [an]).length ∧ Own w4.heap.size (w4.alloc (.cells #[.int .i64 (an : Int)] 3)) (.slice (some ⟨w4.heap.size, 0, none⟩) 1 1) (ints ([] ++ [an])) ∧ Below w4.heap.size w4 (w4.alloc (.cells #[.int .i64 (an : Int)] 3)) ∧ an < tk ∧ dv L an = ((dv L an).toNat : Int) ∧ (([] : List Nat).length : Int) + dv L an ≤ 60000000 ∧ (∀ x ∈ ([] : List Nat) ++ [an], x < tk) ∧ ∀ P, Rt es L bn an P → Rt es L bn an ([] ++ P)) :=
    Lib.hid ⟨rfl, own_one _ _ _ (Nat.le_refl _), ball (Below.refl _ _) _, han1, by omega, by have := hbd an; simp; omega, fun x hx => by simp only [List.nil_append, List.mem_singleton] at hx; omega, fun P h => h⟩
  have HH := Lib.hid hh; have HTM := Lib.hid htm; have HBD := Lib.hid hbd; have HPOS := Lib.hid hpos
  clear hh htr hbd hv' e1 hbn' htm hsym htk hg hy hyi k0 hcap hpos han1 Hc HU HCB HTA HLA
  go_wp2
  go_loopg [1, 12] (dv L an).toNat (fun M s1 s12 wr => ∃ (cu kk cc : Nat) (aa : Option Addr) (Q : List Nat), s1 = .int .i64 (cu : Int) ∧ s12 = .slice aa kk cc ∧ Hid (kk = (Q ++ [cu]).length ∧ Own w4.heap.size wr (.slice aa kk cc) (ints (Q ++ [cu])) ∧ Below w4.heap.size w4 wr ∧ cu < tk ∧ dv L cu = (M : Int) ∧ (Q.length : Int) + dv L cu ≤ 60000000 ∧ (∀ x ∈ Q ++ [cu], x < tk) ∧ ∀ P, Rt es L bn cu P → Rt es L bn an (Q ++ P)))
  case atStart => exact ⟨_, _, _, _, [], rfl, rfl, HI0⟩
  case round =>
    clear HI0
    obtain ⟨cu, kk, cc, aa, Q, rfl, rfl, HI⟩ := hrel
    by_cases hcb : cu = bn
    · subst hcb
      have d1 : ((cu : Int) != (cu : Int)) = false := by simp
      obtain ⟨h1, h2, h3, h4, h5, h6, h8, h7⟩ := HI.out
      have hl := h2.hl (fun x hx => by
        obtain ⟨q, hq, rfl⟩ := List.mem_map.1 hx
        have := h8 q hq
        exact ⟨by omega, by omega⟩) (by rw [ints_length]; rw [List.length_append]; simp; omega)
      have HF := Lib.hid (And.intro (btrans HB.out h3) (And.intro hl (h7 _ Rt.stop)))
      clear h1 h2 h3 h4 h5 h6 h8 h7 hl HI
      go_wp2
      go_ret2
      exact ⟨_, _, _, _, 0, rfl, HF.out.1, HF.out.2.1, Or.inr ⟨HCE.out, es, an, cu, L, HVAL.out, rfl, rfl, HAN.out, HBN.out, by rw [← HN.out]; exact HTM.out, Or.inr ⟨HPOS.out, rfl, _, rfl, HF.out.2.2⟩⟩⟩
    have d1 : ((cu : Int) != (bn : Int)) = true := by simp; omega
    have HCB := Lib.hid hcb
    obtain ⟨wY, hwY⟩ : ∃ wY, wY = wr := ⟨_, rfl⟩
    subst hwY
    have HBY := Lib.hid HI.out.2.2.1
    clear hcb
    go_wp2
    clear d1
    go_loopw [13, 14] (fun s13 s14 wr => ∃ (q : Nat) (r : Int), q ≤ tk ∧ s13 = .int .i64 r ∧ s14 = .int .i64 (q : Int) ∧ Hid (Below wY.heap.size wY wr ∧ SC es L cu r q)) (fun _ s14 _ => tk - (intOf s14).toNat)
    case atStart => exact ⟨0, -1, by omega, rfl, rfl, Lib.hid ⟨Below.refl _ _, Or.inl ⟨rfl, fun q' h => by omega⟩⟩⟩
    case round =>
      obtain ⟨q, r, hq, rfl, rfl, HS⟩ := hrel
      by_cases hgo : q < tk ∧ r < 0
      · obtain ⟨hq1, hr1⟩ := hgo
        have hq2 : (q : Int) < (tk : Int) := by omega
        have dr : decide (r < 0) = true := decide_eq_true hr1
        have dq : decide ((q : Int) < (tk : Int)) = true := decide_eq_true hq2
        have dq2 : decide (q < tk) = true := decide_eq_true hq1
        obtain ⟨rfl, hno⟩ : r = -1 ∧ ∀ q', q' < q → ¬ cand es L cu q' := by
          rcases HS.out.2 with e | ⟨q1, e, _⟩
          · exact e
          · omega
        have hbz := btrans HBY.out HS.out.1
        obtain ⟨b0, b1⟩ := box2 (bon HX.out hbz)
        have Hc := Lib.hid (find_any (HV.out.on hbz) HVAL.out.2.1 HVAL.out.2.2.2 cu q)
        have HNO := Lib.hid hno; have HBZ := Lib.hid hbz; have HSB := Lib.hid HS.out.1
        clear hno hbz HS hr1
        cases hfd : fd es cu q with
        | none =>
          rw [hfd] at Hc
          simp only [av] at Hc
          have HS2 : Hid (SC es L cu (-1) (q + 1)) := Lib.hid (Or.inl ⟨rfl, fun q' h hc => by
            by_cases e : q' < q
            · exact HNO.out q' e hc
            · obtain rfl : q' = q := by omega
              obtain ⟨mm, hmm, _⟩ := hc
              rw [wt_none hfd] at hmm
              cases hmm⟩)
          clear hfd hq1
          go_wp2_with fail
          refine Hc.out.mono ?_
          rintro e w5 ⟨rfl, hb⟩
          have HBW := Lib.hid (btrans HSB.out hb)
          clear hb b0 b1 Hc
          go_wp2_with fail
          go_quiet (fail)
          have HBQ := Lib.hid (bdrewN HBW.out nq)
          generalize w5.drewN nq = w7 at *
          go_wp2
          go_roundw
          case rel => exact ⟨q + 1, -1, by omega, rfl, by go_num, Lib.hid ⟨HBQ.out, HS2.out⟩⟩
          case measure => simp [intOf]; omega
        | some ii =>
          rw [hfd] at Hc
          simp only [av] at Hc
          obtain ⟨⟨xa, xb, xr, xm, xk⟩, hx, hjn⟩ := fd_line hfd
          have hwt := wt_of hfd
          rw [mi_get hx] at hwt
          simp only at hwt
          have hxs : (es.map Ln.ed)[ii]? = some (⟨xa, xb, xr, xm, xk⟩ : Ln).ed := by rw [List.getElem?_map, hx]; rfl
          have ho := HVAL.out.2.1 _ (List.mem_of_getElem? hx)
          unfold Ln.ok at ho
          simp only at ho
          have hiim : ii < m := by rw [HM.out]; exact (List.getElem?_eq_some_iff.1 hxs).1
          have hcu : cu < tk := HI.out.2.2.2.1
          have hdec : ∀ y z : Int, dv L q = y → dv L cu = z → (cand es L cu q ↔ y + (xm : Int) = z) := fun y z ey ez => by
            constructor
            · rintro ⟨mm, h1, h2⟩
              rw [hwt] at h1
              cases h1
              rw [← ey, ← ez]; exact h2
            · intro h
              exact ⟨xm, hwt, by rw [ey, ez]; exact h⟩
          have hby := HBD.out q; have hbc := HBD.out cu
          obtain ⟨y, hy⟩ : ∃ y, dv L q = y := ⟨_, rfl⟩
          obtain ⟨z, hz⟩ : ∃ z, dv L cu = z := ⟨_, rfl⟩
          have hdc := hdec y z hy hz
          rw [hy] at hby
          rw [hz] at hbc
          have u1 : IntKind.i64.wrap (y + (xm : Int)) = y + (xm : Int) := by rw [IntKind.wrap_i64]; omega
          have HYZ := Lib.hid (And.intro hy hz); have HDC := Lib.hid hdc; have HXS := Lib.hid hxs; have HIIM := Lib.hid hiim; have HCU := Lib.hid hcu; have HQ1 := Lib.hid hq1
          have hi2 : (ii : Int) < (m : Int) := by omega
          have hc2 : (cu : Int) < (tk : Int) := by omega
          have di : decide ((ii : Int) ≥ 0) = true := decide_eq_true (by omega)
          have di2 : decide ((0 : Int) ≤ (ii : Int)) = true := decide_eq_true (by omega)
          clear hfd hx hjn hwt hxs ho hiim hcu hdec hby hbc hy hz hdc hq1
          go_wp2_with fail
          refine Hc.out.mono ?_
          rintro e w5 ⟨rfl, hb⟩
          have HBW := Lib.hid (btrans HSB.out hb)
          have hbz := btrans HBZ.out hb
          clear b0 b1 hb Hc
          obtain ⟨b0, b1⟩ := box2 (bon HX.out hbz)
          have hl5 := HH.out.on hbz
          have y1 := (hl5.at (k := q) (x := y) (by rw [← HYZ.out.1]; exact dv_some (by rw [HTM.out.1]; exact HQ1.out))).2.1
          have y2 := (hl5.at (k := cu) (x := z) (by rw [← HYZ.out.2]; exact dv_some (by rw [HTM.out.1]; exact HCU.out))).2.1
          obtain ⟨vp, ve, hVe, hp1, hp2⟩ := HV.out.on hbz
          simp only [Value.agg.injEq, Array.mk.injEq, List.cons.injEq, and_true] at hVe
          obtain ⟨rfl, rfl⟩ := hVe
          obtain ⟨ge, oe, yy, rfl, hge, hyy, k0, k1, k2, k3, k4, _⟩ := Es.cells hp2 ii (by rw [← HM.out]; exact HIIM.out)
          rw [HXS.out] at hyy
          cases hyy
          simp only [Ln.ed] at k3
          clear hl5 hp1 hp2 hge k0 k1 k2 k4 hbz
          by_cases hc : y + (xm : Int) = z
          · have dc : (y + (xm : Int) == z) = true := by simpa using hc
            have HS2 : Hid (SC es L cu (q : Int) (q + 1)) := Lib.hid (Or.inr ⟨q, rfl, HDC.out.2 hc, HNO.out⟩)
            clear hc
            go_wp2_with fail
            go_quiet (fail)
            have HBQ := Lib.hid (bdrewN HBW.out nq)
            clear b0 b1 y1 y2 k3 u1 di di2 dc
            generalize w5.drewN nq = w7 at *
            go_wp2
            go_roundw
            case rel => exact ⟨q + 1, (q : Int), by omega, rfl, by go_num, Lib.hid ⟨HBQ.out, HS2.out⟩⟩
            case measure => simp [intOf]; omega
          · have dc : (y + (xm : Int) == z) = false := by simpa using hc
            have HS2 : Hid (SC es L cu (-1) (q + 1)) := Lib.hid (Or.inl ⟨rfl, fun q' h hcd => by
              by_cases e : q' < q
              · exact HNO.out q' e hcd
              · obtain rfl : q' = q := by omega
                exact hc (HDC.out.1 hcd)⟩)
            clear hc
            go_wp2_with fail
            go_quiet (fail)
            have HBQ := Lib.hid (bdrewN HBW.out nq)
            clear b0 b1 y1 y2 k3 u1 di di2 dc
            generalize w5.drewN nq = w7 at *
            go_wp2
            go_roundw
            case rel => exact ⟨q + 1, -1, by omega, rfl, by go_num, Lib.hid ⟨HBQ.out, HS2.out⟩⟩
            case measure => simp [intOf]; omega
      -- the search is at its end
      have hnx : NX es L cu r := HS.out.2.nx (n := tk) (wt_wt (by rw [HN.out]; exact HVAL.out.2.1)) (by omega)
      obtain ⟨h1, h2, h3, h4, h5, h6, h8, h7⟩ := HI.out
      obtain ⟨p, rfl, hp1, hp2, hp3⟩ := nx_next (wt_wt (by rw [HN.out]; exact HVAL.out.2.1)) HTM.out (by omega) HCB.out hnx
      have h2' := h2.on HS.out.1
      have hbb := btrans h3 HS.out.1
      obtain ⟨v', w6, hr6, ho6, hg6, _⟩ := h2'.push hbb.size (p : Int) (by rw [ints_length, List.length_append]; simp; omega)
      have eb : [(p : Int)] = ints [p] := rfl
      rw [eb, ← ints_append] at ho6
      obtain ⟨a6, c6, rfl⟩ := ho6.shape
      have hk6 : (ints (Q ++ [cu] ++ [p])).length = kk + 1 := by rw [ints_length, List.length_append, ← h1]; rfl
      rw [hk6] at ho6 hr6
      have hbl6 : Below w4.heap.size w4 w6 := hbb.grown hg6 hbb.size (fun k hk => (World.ownsRow.lt h2' k hk).1)
      have HF : Hid (kk + 1 = ((Q ++ [cu]) ++ [p]).length ∧ Own w4.heap.size w6 (.slice a6 (kk + 1) c6) (ints ((Q ++ [cu]) ++ [p])) ∧ Below w4.heap.size w4 w6 ∧ p < tk ∧ dv L p = ((dv L p).toNat : Int) ∧ ((Q ++ [cu]).length : Int) + dv L p ≤ 60000000 ∧ (∀ x ∈ (Q ++ [cu]) ++ [p], x < tk) ∧ ∀ P, Rt es L bn p P → Rt es L bn an ((Q ++ [cu]) ++ P)) :=
        Lib.hid ⟨by rw [List.length_append, ← h1]; rfl, ho6, hbl6, hp1, by omega, by rw [List.length_append]; simp; omega, fun x hx => by
          rcases List.mem_append.1 hx with hm | hm
          · exact h8 x hm
          · simp only [List.mem_singleton] at hm; omega, fun P hP => by rw [List.append_assoc]; exact h7 _ (Rt.step HCB.out hnx hP)⟩
      have HR6 := Lib.hid hr6
      have hms : (dv L p).toNat < gk := by omega
      have HMS := Lib.hid hms
      have dr : decide ((p : Int) < 0) = false := decide_eq_false (by omega)
      clear h1 h2 h3 h4 h5 h6 h8 h7 h2' hbb hr6 ho6 hg6 hk6 hbl6 hnx hp1 hp2 hp3 eb hms HS HI
      by_cases hqn : q < tk
      · have dq : decide ((q : Int) < (tk : Int)) = true := decide_eq_true (by omega)
        have dq2 : decide (q < tk) = true := decide_eq_true hqn
        clear hqn hgo
        go_wp2_with (first | (at_builtin; refine wp_appi rfl rfl rfl (.tmp 72) (.tmp 74) rfl rfl rfl HR6.out ?_))
        go_roundg (dv L p).toNat
        case measure => exact HMS.out
        case rel => exact ⟨_, _, _, _, _, rfl, rfl, HF⟩
      · have dq : decide ((q : Int) < (tk : Int)) = false := decide_eq_false (by omega)
        have dq2 : decide (q < tk) = false := decide_eq_false hqn
        clear hqn hgo
        go_wp2_with (first | (at_builtin; refine wp_appi rfl rfl rfl (.tmp 72) (.tmp 74) rfl rfl rfl HR6.out ?_))
        go_roundg (dv L p).toNat
        case measure => exact HMS.out
        case rel => exact ⟨_, _, _, _, _, rfl, rfl, HF⟩
end Go.Proofs.Ytbeoldklpklbfaa
