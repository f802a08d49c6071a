/-
  Walks: the reference's Edge and the lesser of two times.
-/
import Derived.Test.YtbeoldklpklbfaaXa
namespace Go.Proofs.Ytbeoldklpklbfaa
open Go.RowKit
set_option linter.unusedVariables false
set_option linter.unusedSimpArgs false

theorem cerr_one {ps : List Pc} {eds : List Ed} {l : List Int} {x : Int} (hc : 0 = chk ps eds) (hx : x ∈ l) (hr : rng 0 x ((ps.length : Int) - 1) = false) : cerr ps eds l = 1 := by
  unfold cerr
  rw [if_pos hc.symm]
  cases h : plc ps.length l with
  | false => rfl
  | true =>
    obtain ⟨q, rfl, hq⟩ := plc_mem h hx
    rw [rng_true ⟨by omega, by omega⟩] at hr
    cases hr
set_option maxRecDepth 100000 in
set_option maxHeartbeats 4000000 in
theorem redgeP_any {V : Value} {ps : List Pc} {eds : List Ed} {w : World} (h : Nw w V ps eds) (a b : Int) :
    Calls Try.prog 24 #[V, .int .i64 a, .int .i64 b] w fun e w' => ∃ (I E : Int), e = .returned (.tuple #[.int .i64 I, .int .i64 E]) ∧ Below w.heap.size w w' ∧ ER ps eds a b I E := by
  obtain ⟨va, vc, vb, vd, rfl, h1, h2⟩ := h.shape
  obtain ⟨n, hn⟩ : ∃ n, n = ps.length := ⟨_, rfl⟩
  obtain ⟨m, hm⟩ : ∃ m, m = eds.length := ⟨_, rfl⟩
  rw [← hn, ← hm] at h ⊢
  have HN := Lib.hid hn; have HM := Lib.hid hm
  obtain ⟨W, hW⟩ : ∃ W, W = w.alloc (.cells #[.slice va n vc, .slice vb m vd] 25) := ⟨_, rfl⟩
  have hB : Below w.heap.size w W := by rw [hW]; exact ball (Below.refl w.heap.size w) _
  have e0 : W.heap[w.heap.size]? = some (.cells #[.slice va n vc, .slice vb m vd] 25 (0, 0)) := by rw [hW]; exact bnew _ _
  have hV := h.on hB
  obtain ⟨b0, b1⟩ := box2 e0
  obtain ⟨E, hE⟩ : ∃ E, E = chk ps eds := ⟨_, rfl⟩
  obtain ⟨A1, hA1⟩ : ∃ A, rng 0 a ((ps.length : Int) - 1) = A := ⟨_, rfl⟩
  obtain ⟨A2, hA2⟩ : ∃ A, rng 0 b ((ps.length : Int) - 1) = A := ⟨_, rfl⟩
  have HC := Lib.hid (rcheck_any hV E hE)
  have HB := Lib.hid hB; have HX := Lib.hid e0; have HV := Lib.hid hV; have HEE := Lib.hid hE; have HA1 := Lib.hid hA1; have HA2 := Lib.hid hA2
  clear h h1 h2 hn hm hB e0 hV hE hA1 hA2
  by_cases c0 : E = 0
  · subst c0
    cases A1 with
    | false =>
      go_enter Try.func24, Try.ntmps24
      go_wp2_with fail
      rw [← hW]
      clear hW
      refine HC.out.mono ?_
      rintro e w1 ⟨rfl, hb⟩
      replace HB := Lib.hid (btrans HB.out hb); replace HV := Lib.hid (HV.out.on hb); replace HX := Lib.hid (bon HX.out hb)
      clear hb b0 b1 HC
      obtain ⟨b0, b1⟩ := box2 HX.out
      have Hc := Lib.hid (exists_any HV.out a)
      rw [HA1.out] at Hc
      go_wp2_with fail
      refine Hc.out.mono ?_
      rintro e w2 ⟨rfl, hb⟩
      replace HB := Lib.hid (btrans HB.out hb); replace HV := Lib.hid (HV.out.on hb); replace HX := Lib.hid (bon HX.out hb)
      clear hb b0 b1 Hc
      obtain ⟨b0, b1⟩ := box2 HX.out
      have HF := Lib.hid (cerr_one (l := [a, b]) HEE.out (by simp) HA1.out)
      go_wp2
      go_ret2
      exact ⟨0, 1, rfl, HB.out, Or.inl ⟨by rw [HF.out]; decide, HF.out.symm, rfl⟩⟩
    | true =>
      cases A2 with
      | false =>
        go_enter Try.func24, Try.ntmps24
        go_wp2_with fail
        rw [← hW]
        clear hW
        refine HC.out.mono ?_
        rintro e w1 ⟨rfl, hb⟩
        replace HB := Lib.hid (btrans HB.out hb); replace HV := Lib.hid (HV.out.on hb); replace HX := Lib.hid (bon HX.out hb)
        clear hb b0 b1 HC
        obtain ⟨b0, b1⟩ := box2 HX.out
        have Hc := Lib.hid (exists_any HV.out a)
        rw [HA1.out] at Hc
        go_wp2_with fail
        refine Hc.out.mono ?_
        rintro e w2 ⟨rfl, hb⟩
        replace HB := Lib.hid (btrans HB.out hb); replace HV := Lib.hid (HV.out.on hb); replace HX := Lib.hid (bon HX.out hb)
        clear hb b0 b1 Hc
        obtain ⟨b0, b1⟩ := box2 HX.out
        have Hc := Lib.hid (exists_any HV.out b)
        rw [HA2.out] at Hc
        go_wp2_with fail
        refine Hc.out.mono ?_
        rintro e w3 ⟨rfl, hb⟩
        replace HB := Lib.hid (btrans HB.out hb); replace HV := Lib.hid (HV.out.on hb); replace HX := Lib.hid (bon HX.out hb)
        clear hb b0 b1 Hc
        obtain ⟨b0, b1⟩ := box2 HX.out
        have HF := Lib.hid (cerr_one (l := [a, b]) HEE.out (by simp) HA2.out)
        go_wp2
        go_ret2
        exact ⟨0, 1, rfl, HB.out, Or.inl ⟨by rw [HF.out]; decide, HF.out.symm, rfl⟩⟩
      | true =>
        obtain ⟨an, rfl, ha⟩ := val_arg HA1.out
        obtain ⟨bn, rfl, hb9⟩ := val_arg HA2.out
        obtain ⟨es, hval⟩ := chk_val HEE.out.symm
        obtain rfl := hval.1
        have HVAL := Lib.hid hval; have HAN := Lib.hid ha; have HBN := Lib.hid hb9
        have HCE := Lib.hid (val_chk (es := es) HEE.out.symm [(an : Int), (bn : Int)] (fun p hp => by
          simp only [List.mem_cons, List.not_mem_nil, or_false] at hp
          rcases hp with rfl | rfl
          · exact ⟨an, rfl, ha⟩
          · exact ⟨bn, rfl, hb9⟩))
        clear hval ha hb9
        go_enter Try.func24, Try.ntmps24
        go_wp2_with fail
        rw [← hW]
        clear hW
        refine HC.out.mono ?_
        rintro e w1 ⟨rfl, hb⟩
        replace HB := Lib.hid (btrans HB.out hb); replace HV := Lib.hid (HV.out.on hb); replace HX := Lib.hid (bon HX.out hb)
        clear hb b0 b1 HC
        obtain ⟨b0, b1⟩ := box2 HX.out
        have Hc := Lib.hid (exists_any HV.out (an : Int))
        rw [HA1.out] at Hc
        go_wp2_with fail
        refine Hc.out.mono ?_
        rintro e w2 ⟨rfl, hb⟩
        replace HB := Lib.hid (btrans HB.out hb); replace HV := Lib.hid (HV.out.on hb); replace HX := Lib.hid (bon HX.out hb)
        clear hb b0 b1 Hc
        obtain ⟨b0, b1⟩ := box2 HX.out
        have Hc := Lib.hid (exists_any HV.out (bn : Int))
        rw [HA2.out] at Hc
        go_wp2_with fail
        refine Hc.out.mono ?_
        rintro e w3 ⟨rfl, hb⟩
        replace HB := Lib.hid (btrans HB.out hb); replace HV := Lib.hid (HV.out.on hb); replace HX := Lib.hid (bon HX.out hb)
        clear hb b0 b1 Hc
        obtain ⟨b0, b1⟩ := box2 HX.out
        have Hc := Lib.hid (find_any HV.out HVAL.out.2.1 HVAL.out.2.2.2 an bn)
        cases hfd : fd es an bn with
        | none =>
          rw [hfd] at Hc
          simp only [av] at Hc
          have HFD := Lib.hid hfd
          clear hfd
          go_wp2_with fail
          refine Hc.out.mono ?_
          rintro e w4 ⟨rfl, hb⟩
          have HBB := Lib.hid (btrans HB.out hb)
          clear hb b0 b1 Hc
          go_wp2
          go_ret2
          exact ⟨0, 80, rfl, HBB.out, Or.inr ⟨HCE.out, es, an, bn, HVAL.out, rfl, rfl, HAN.out, HBN.out, Or.inl ⟨HFD.out, rfl, rfl⟩⟩⟩
        | some j =>
          rw [hfd] at Hc
          simp only [av] at Hc
          have HFD := Lib.hid hfd
          clear hfd
          have dj : decide ((j : Int) < 0) = false := decide_eq_false (by omega)
          go_wp2_with fail
          refine Hc.out.mono ?_
          rintro e w4 ⟨rfl, hb⟩
          have HBB := Lib.hid (btrans HB.out hb)
          clear hb b0 b1 Hc
          go_wp2
          go_ret2
          exact ⟨(j : Int), 0, rfl, HBB.out, Or.inr ⟨HCE.out, es, an, bn, HVAL.out, rfl, rfl, HAN.out, HBN.out, Or.inr ⟨j, HFD.out, rfl, rfl⟩⟩⟩
  · have d0 : (E != 0) = true := by simpa using c0
    have HC0 := Lib.hid c0
    clear c0
    go_enter Try.func24, Try.ntmps24
    go_wp2_with fail
    rw [← hW]
    clear hW
    refine HC.out.mono ?_
    rintro e w1 ⟨rfl, hb⟩
    replace HB := Lib.hid (btrans HB.out hb); replace HV := Lib.hid (HV.out.on hb); replace HX := Lib.hid (bon HX.out hb)
    clear hb b0 b1 HC
    obtain ⟨b0, b1⟩ := box2 HX.out
    go_wp2
    go_ret2
    exact ⟨0, E, rfl, HB.out, Or.inl ⟨by unfold cerr; rw [if_neg (by rw [← HEE.out]; exact HC0.out), ← HEE.out]; exact HC0.out, by unfold cerr; rw [if_neg (by rw [← HEE.out]; exact HC0.out), ← HEE.out], rfl⟩⟩
set_option maxRecDepth 100000 in
theorem better_any (a b : Int) (w : World) : Calls Try.prog 40 #[.int .i64 a, .int .i64 b] w fun e w' => e = .returned (.int .i64 (if a < 0 then b else min a b)) ∧ w' = w := by
  by_cases c : a < 0
  · have d : decide (a < 0) = true := decide_eq_true c
    rw [if_pos c]
    clear c
    go_enter Try.func40, Try.ntmps40
    go_wp2
    go_ret
    exact ⟨rfl, rfl⟩
  · have d : decide (a < 0) = false := decide_eq_false c
    rw [if_neg c]
    clear c
    go_enter Try.func40, Try.ntmps40
    go_wp2
    go_ret
    first | exact ⟨rfl, rfl⟩ | (refine ⟨?_, rfl⟩; simp)
end Go.Proofs.Ytbeoldklpklbfaa
