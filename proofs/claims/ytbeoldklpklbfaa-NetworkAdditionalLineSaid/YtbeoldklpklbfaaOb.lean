/-
  Walks: Route.
-/
import Derived.Test.YtbeoldklpklbfaaOa
namespace Go.Proofs.Ytbeoldklpklbfaa
open Go.RowKit
set_option linter.unusedVariables false
set_option linter.unusedSimpArgs false

theorem nx_next {n : Nat} {es : List Ln} {L : List Int} {a b : Nat} {r : Int} (G : Wt n (wt es)) (h : Tm n es b L) (ha : 0 ≤ dv L a) (hne : a ≠ b) (hr : NX es L a r) : ∃ q : Nat, r = (q : Int) ∧ q < n ∧ 0 ≤ dv L q ∧ dv L q < dv L a := by
  rcases h.2.att a ha with e | ⟨q, m, hq, h0, he⟩
  · exact absurd e hne
  have hc : cand es L a q := ⟨m, by rw [G.symm]; exact hq, he⟩
  rcases hr with ⟨_, hno⟩ | ⟨q1, rfl, ⟨m1, hw, he1⟩, _⟩
  · exact absurd hc (hno q)
  · have := G.pos hw
    have := h.2.edge _ _ _ hw ha
    exact ⟨q1, rfl, (G.lt hw).2, this.1, by omega⟩

set_option maxRecDepth 100000 in
set_option maxHeartbeats 4000000 in
theorem routeP_any {V : Value} {ps : List Pc} {eds : List Ed} {w : World} (h : Nw w V ps eds) (a b : Int) (ha : I64 a) (hb : I64 b) :
    Calls Try.prog 17 #[V, .int .i64 a, .int .i64 b] w fun e w' => ∃ (ad : Option Addr) (k c : Nat) (R : List Int) (E : Int), e = .returned (.tuple #[.slice ad k c, .int .i64 E]) ∧ Below w.heap.size w w' ∧ Hl (fun k => k < w'.heap.size) w' (.slice ad k c) R ∧ RR ps eds a b R E := by
  obtain ⟨va, vc, vb, vd, rfl, h1, h2⟩ := h.shape
  obtain ⟨n, hn⟩ : ∃ n, n = ps.length := ⟨_, rfl⟩
  obtain ⟨m, hm⟩ : ∃ m, m = eds.length := ⟨_, rfl⟩
  rw [← hn, ← hm] at h ⊢
  have HN := Lib.hid hn; have HM := Lib.hid hm
  obtain ⟨W, hW⟩ : ∃ W, W = w.alloc (.cells #[.slice va n vc, .slice vb m vd] 25) := ⟨_, rfl⟩
  have hB : Below w.heap.size w W := by rw [hW]; exact ball (Below.refl w.heap.size w) _
  have e0 : W.heap[w.heap.size]? = some (.cells #[.slice va n vc, .slice vb m vd] 25 (0, 0)) := by rw [hW]; exact bnew _ _
  have hV := h.on hB
  obtain ⟨b0, b1⟩ := box2 e0
  have hl1 := ball (Below.refl W.heap.size W) (.cells #[.int .i64 a, .int .i64 b] 3)
  obtain ⟨E, hE⟩ : ∃ E, E = cerr ps eds [a, b] := ⟨_, rfl⟩
  have hlit := hl_lit2 W a b ha hb
  rw [show W.heap.size = w.heap.size + 1 by rw [hW, World.size_alloc]] at hlit
  have HC := Lib.hid (ccall_any (hV.on hl1) hlit E hE)
  have HB := Lib.hid hB; have HE0 := Lib.hid e0; have HL1 := Lib.hid hl1; have HV := Lib.hid hV; have HEE := Lib.hid hE
  clear h h1 h2 hn hm hB e0 hV hl1 hE hlit
  by_cases c0 : E = 0
  · subst c0
    obtain ⟨hc, hp⟩ := cerr_zero HEE.out.symm
    obtain ⟨es, hval⟩ := chk_val hc
    obtain ⟨an, rfl, han⟩ := plc_mem hp (p := a) (by simp)
    have HAN := Lib.hid han
    obtain ⟨bn, rfl, hbn⟩ := plc_mem hp (p := b) (by simp)
    have HBN := Lib.hid hbn
    have HGR := Lib.hid (fun (w' : World) (hb : Below W.heap.size W w') => graph_any (n := n) (by have := HV.out.on hb; rw [hval.1] at this; exact this) HN.out.symm (by have := hval.2.2.1; have := HN.out; omega) (by have := hval.2.2.2; omega) (by rw [HN.out]; exact hval.2.1))
    have HVAL := Lib.hid hval
    have hbn2 : (bn : Int) < (n : Int) := by have := HN.out; omega
    have han2 : (an : Int) < (n : Int) := by have := HN.out; omega
    have hn512 : n ≤ 512 := by have := HN.out; have := hval.2.2.1; omega
    clear hc hp hval han hbn ha hb
    go_enter Try.func17, Try.ntmps17
    go_wp2_with fail
    rw [← hW]
    clear hW
    refine HC.out.mono ?_
    rintro e w1 ⟨rfl, hb⟩
    have hbb := btrans HL1.out hb
    have HG := Lib.hid (HGR.out w1 hbb)
    have HB1 := Lib.hid (btrans HB.out hbb)
    obtain ⟨d0, d1⟩ := box2 (bon HE0.out hbb)
    clear hb hbb b0 b1 HC HV HE0 HGR
    go_wp2_with fail
    refine HG.out.mono ?_
    rintro e w2 ⟨ea, en, ec, B, G, rfl, hb2, hgr⟩
    obtain ⟨W3, hW3⟩ : ∃ W3, W3 = w2.alloc (.cells #[.slice ea en ec, .map (some B), .slice (some ⟨G, 0, none⟩) n n] 63) := ⟨_, rfl⟩
    have hb3 : Below w2.heap.size w2 W3 := by rw [hW3]; exact ball (Below.refl _ _) _
    have g3 : W3.heap[w2.heap.size]? = some (.cells #[.slice ea en ec, .map (some B), .slice (some ⟨G, 0, none⟩) n n] 63 (0, 0)) := by rw [hW3]; exact bnew _ _
    obtain ⟨x0, x1, x2⟩ := box3 g3
    have ht := times_any (hgr.on hb3) (by rw [HN.out]; exact HVAL.out.2.1) (by omega) (f := bn) (by rw [HN.out]; exact HBN.out)
    have HT := Lib.hid ht; have HB3 := Lib.hid (btrans (btrans HB1.out hb2) hb3); have HG3 := Lib.hid g3; have HGR3 := Lib.hid (hgr.on hb3)
    clear ht hgr hb2 hb3 d0 d1 HG HB1 g3
    go_wp2_with fail
    rw [← hW3]
    clear hW3
    refine HT.out.mono ?_
    rintro e w4 ⟨ta, tc, L, rfl, hb4, hh, htm, htop⟩
    have han1 : an < n := by omega
    obtain ⟨g, off, y, rfl, hg, hy, hyi, k0, hcap⟩ := hh.pick an (by rw [htm.1]; exact han1)
    have hdy := dv_get hy
    have HB4 := Lib.hid (btrans HB3.out hb4); have HG4 := Lib.hid (bon HG3.out hb4); have HGR4 := Lib.hid (HGR3.out.on hb4); have HH := Lib.hid hh; have HTM := Lib.hid htm; have HTOP := Lib.hid htop; have HDY := Lib.hid hdy
    clear hb4 hh htm htop hg hy hyi hcap hdy x0 x1 x2 HT HB3 HG3 HGR3
    by_cases hneg : y < 0
    · have d0 : decide (y < 0) = true := decide_eq_true hneg
      have HNG := Lib.hid hneg
      clear hneg
      go_wp2
      go_ret2
      exact ⟨_, _, _, [], 80, rfl, HB4.out, hl_nil _ _ _ _, Or.inr ⟨HEE.out.symm, es, an, bn, L, HVAL.out, rfl, rfl, HAN.out, HBN.out, by rw [← HN.out]; exact HTM.out, Or.inl ⟨by rw [HDY.out]; exact HNG.out, rfl, rfl⟩⟩⟩
    · have d0 : decide (y < 0) = false := decide_eq_false hneg
      have HI0 : Hid (1 = (([] : List Nat) ++ [an]).length ∧ Own w4.heap.size (w4.alloc (.cells #[.int .i64 (an : Int)] 3)) (.slice (some ⟨w4.heap.size, 0, none⟩) 1 1) (ints ([] ++ [an])) ∧ Below w4.heap.size w4 (w4.alloc (.cells #[.int .i64 (an : Int)] 3)) ∧ an < n ∧ dv L an = ((dv L an).toNat : Int) ∧ (([] : List Nat).length : Int) + dv L an ≤ 60000000 ∧ (∀ x ∈ ([] : List Nat) ++ [an], x < n) ∧ ∀ P, Rt es L bn an P → Rt es L bn an ([] ++ P)) :=
        Lib.hid ⟨rfl, own_one _ _ _ (Nat.le_refl _), ball (Below.refl _ _) _, han1, by rw [HDY.out]; omega, by have := HTOP.out an; simp; omega, fun x hx => by simp only [List.nil_append, List.mem_singleton] at hx; omega, fun P h => h⟩
      have HNN := Lib.hid hneg
      clear hneg
      go_wp2
      clear k0
      go_loopg [1, 6] (dv L an).toNat (fun M s1 s6 wr => ∃ (cu kk cc : Nat) (aa : Option Addr) (Q : List Nat), s1 = .int .i64 (cu : Int) ∧ s6 = .slice aa kk cc ∧ Hid (kk = (Q ++ [cu]).length ∧ Own w4.heap.size wr (.slice aa kk cc) (ints (Q ++ [cu])) ∧ Below w4.heap.size w4 wr ∧ cu < n ∧ dv L cu = (M : Int) ∧ (Q.length : Int) + dv L cu ≤ 60000000 ∧ (∀ x ∈ Q ++ [cu], x < n) ∧ ∀ P, Rt es L bn cu P → Rt es L bn an (Q ++ P)))
      case atStart => exact ⟨_, _, _, _, [], rfl, rfl, HI0⟩
      case round =>
        clear HI0
        obtain ⟨cu, kk, cc, aa, Q, rfl, rfl, HI⟩ := hrel
        by_cases hcb : cu = bn
        · subst hcb
          have d1 : ((cu : Int) != (cu : Int)) = false := by simp
          obtain ⟨h1, h2, h3, h4, h5, h6, h8, h7⟩ := HI.out
          have hl := h2.hl (fun x hx => by
            obtain ⟨q, hq, rfl⟩ := List.mem_map.1 hx
            have := h8 q hq
            exact ⟨by omega, by omega⟩) (by rw [ints_length]; rw [List.length_append]; simp; omega)
          have HF := Lib.hid (And.intro (btrans HB4.out h3) (And.intro hl (h7 _ Rt.stop)))
          clear h1 h2 h3 h4 h5 h6 h8 h7 hl HI
          go_wp2
          go_ret2
          exact ⟨_, _, _, _, 0, rfl, HF.out.1, HF.out.2.1, Or.inr ⟨HEE.out.symm, es, an, cu, L, HVAL.out, rfl, rfl, HAN.out, HBN.out, by rw [← HN.out]; exact HTM.out, Or.inr ⟨by rw [HDY.out]; have := HNN.out; omega, rfl, _, rfl, HF.out.2.2⟩⟩⟩
        · have d1 : ((cu : Int) != (bn : Int)) = true := by simp; omega
          obtain ⟨h1, h2, h3, h4, h5, h6, h8, h7⟩ := HI.out
          obtain ⟨x0, x1, x2⟩ := box3 (bon HG4.out h3)
          have hnx := next_any (HGR4.out.on h3) (by rw [HN.out]; exact HVAL.out.2.1) (by omega) h4 (HH.out.on h3) HTM.out.1 (ival hn512 HTOP.out HTM.out.2.low)
          have HNX := Lib.hid hnx
          have HCB := Lib.hid hcb
          clear hnx h1 h2 h3 h4 h5 h6 h7 hcb
          go_wp2_with fail
          refine HNX.out.mono ?_
          rintro e w5 ⟨r, rfl, hr, hb5⟩
          obtain ⟨h1, h2, h3, h4, h5, h6, h8, h7⟩ := HI.out
          obtain ⟨q, rfl, hq1, hq2, hq3⟩ := nx_next (wt_wt (by rw [HN.out]; exact HVAL.out.2.1)) HTM.out (by omega) HCB.out hr
          have h2' := h2.on hb5
          have hbb := btrans h3 hb5
          obtain ⟨v', w6, hr6, ho6, hg6, _⟩ := h2'.push hbb.size (q : Int) (by rw [ints_length, List.length_append]; simp; omega)
          have eb : [(q : Int)] = ints [q] := rfl
          rw [eb, ← ints_append] at ho6
          obtain ⟨a6, c6, rfl⟩ := ho6.shape
          have hk6 : (ints (Q ++ [cu] ++ [q])).length = kk + 1 := by rw [ints_length, List.length_append, ← h1]; rfl
          rw [hk6] at ho6 hr6
          have hbl6 : Below w4.heap.size w4 w6 := hbb.grown hg6 hbb.size (fun k hk => (World.ownsRow.lt h2' k hk).1)
          have HF : Hid (kk + 1 = ((Q ++ [cu]) ++ [q]).length ∧ Own w4.heap.size w6 (.slice a6 (kk + 1) c6) (ints ((Q ++ [cu]) ++ [q])) ∧ Below w4.heap.size w4 w6 ∧ q < n ∧ dv L q = ((dv L q).toNat : Int) ∧ ((Q ++ [cu]).length : Int) + dv L q ≤ 60000000 ∧ (∀ x ∈ (Q ++ [cu]) ++ [q], x < n) ∧ ∀ P, Rt es L bn q P → Rt es L bn an ((Q ++ [cu]) ++ P)) :=
            Lib.hid ⟨by rw [List.length_append, ← h1]; rfl, ho6, hbl6, hq1, by omega, by rw [List.length_append]; simp; omega, fun x hx => by
              rcases List.mem_append.1 hx with hm | hm
              · exact h8 x hm
              · simp only [List.mem_singleton] at hm; omega, fun P hP => by rw [List.append_assoc]; exact h7 _ (Rt.step HCB.out hr hP)⟩
          have HR6 := Lib.hid hr6
          have hms : (dv L q).toNat < gk := by omega
          clear h1 h2 h3 h4 h5 h6 h8 h7 hb5 h2' hbb hr6 ho6 hg6 hk6 hbl6 hr hq1 hq2 hq3 x0 x1 x2 HNX eb
          go_wp2_with (first | (at_builtin; refine wp_appi rfl rfl rfl (.tmp 37) (.tmp 39) rfl rfl rfl HR6.out ?_))
          go_roundg (dv L q).toNat
          case measure => exact hms
          case rel => exact ⟨_, _, _, _, _, rfl, rfl, HF⟩
  · have d0 : (E != 0) = true := by simpa using c0
    have HC0 := Lib.hid c0
    clear c0
    go_enter Try.func17, Try.ntmps17
    go_wp2_with fail
    rw [← hW]
    clear hW
    refine HC.out.mono ?_
    rintro e w1 ⟨rfl, hb⟩
    have HB1 := Lib.hid (btrans HB.out (btrans HL1.out hb))
    clear hb b0 b1 HC HV
    go_wp2
    go_ret2
    exact ⟨_, _, _, [], E, rfl, HB1.out, hl_nil _ _ _ _, Or.inl ⟨by rw [← HEE.out]; exact HC0.out, HEE.out, rfl⟩⟩
end Go.Proofs.Ytbeoldklpklbfaa
