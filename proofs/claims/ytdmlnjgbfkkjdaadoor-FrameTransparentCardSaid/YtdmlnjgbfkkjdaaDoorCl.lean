/-
  Walks of the reference: Same; the laws' receives.
-/
import Derived.Test.YtdmlnjgbfkkjdaaDoorCg
import Derived.Test.YtdmlnjgbfkkjdaaDoorCi
namespace Go.Proofs.YtdmlnjgbfkkjdaaDoor
open Go.RowKit
set_option linter.unusedVariables false
set_option linter.unusedSimpArgs false

/-- The slice v holds the byte slices ll. -/
def Ls (F : Nat → Prop) (w : World) (v : Value) (ll : List (List Int)) : Prop :=
  ll.length ≤ 140737488355328 ∧ ∃ a cap, v = .slice a ll.length cap ∧ ll.length ≤ cap ∧
    (0 < ll.length → ∃ g off, a = some ⟨g, off, none⟩ ∧ F g ∧ ∀ (j : Nat) p, ll[j]? = some p → ∃ u, w.cell? ⟨g, off + j, none⟩ = some u ∧ Bs F w u p)

theorem Ls.up2 {w w' : World} {u : Value} {b : List (List Int)} (h : Ls (fun k => k < w.heap.size) w u b) (hw : ∀ k, k < w.heap.size → w'.heap[k]? = w.heap[k]?) (hs : w.heap.size ≤ w'.heap.size) : Ls (fun k => k < w'.heap.size) w' u b := by
  obtain ⟨h0, a, cap, h1, h2, h3⟩ := h
  refine ⟨h0, a, cap, h1, h2, fun hp => ?_⟩
  obtain ⟨g, off, ha, hg, hc⟩ := h3 hp
  refine ⟨g, off, ha, Nat.lt_of_lt_of_le hg hs, fun j p hj => ?_⟩
  obtain ⟨u, hu, hb⟩ := hc j p hj
  exact ⟨u, (World.cell?_of_block (w := w) (a := ⟨g, off + j, none⟩) (hw g hg)).trans hu, hb.kept hw (fun k hk => Nat.lt_of_lt_of_le hk hs)⟩

theorem Ls.on {w w' : World} {u : Value} {b : List (List Int)} (h : Ls (fun k => k < w.heap.size) w u b) (hb : Below w.heap.size w w') : Ls (fun k => k < w'.heap.size) w' u b :=
  h.up2 (fun k hk => hb.block k hk) hb.size
theorem Ls.shape {F : Nat → Prop} {w : World} {v : Value} {l : List (List Int)} (h : Ls F w v l) : ∃ a c, v = .slice a l.length c := by
  obtain ⟨_, a, c, rfl, _⟩ := h
  exact ⟨a, c, rfl⟩
theorem Ls.pick {F : Nat → Prop} {w : World} {a : Option Addr} {m c : Nat} {l : List (List Int)} (h : Ls F w (.slice a m c) l) (k : Nat) (hk : k < l.length) :
    ∃ g off u, a = some ⟨g, off, none⟩ ∧ F g ∧ w.cell? ⟨g, off + k, none⟩ = some u ∧ Bs F w u l[k] := by
  obtain ⟨_, a', c', e, _, h4⟩ := h
  simp only [Value.slice.injEq] at e
  obtain ⟨rfl, rfl, rfl⟩ := e
  obtain ⟨g, off, rfl, hg, hc⟩ := h4 (by omega)
  obtain ⟨u, h1, h2⟩ := hc k _ (List.getElem?_eq_getElem hk)
  exact ⟨g, off, u, rfl, hg, h1, h2⟩
theorem Ls.nil (F : Nat → Prop) (w : World) (a : Option Addr) (c : Nat) : Ls F w (.slice a 0 c) [] := ⟨by simp, a, c, rfl, by simp, by simp⟩

set_option maxHeartbeats 2000000 in
theorem same_any (L K : List (List Int)) (v u : Value) (w : World) (hv : Ls (fun k => k < w.heap.size) w v L) (hu : Ls (fun k => k < w.heap.size) w u K) :
    Calls Tryd.prog 18 #[v, u] w fun e w' => e = .returned (.bool (decide (L = K))) ∧ Below w.heap.size w w' := by
  obtain ⟨R, hR⟩ : ∃ R, R = decide (L = K) := ⟨_, rfl⟩
  rw [← hR]
  have hl := hv.1
  have hl2 := hu.1
  obtain ⟨a, c, rfl⟩ := hv.shape
  obtain ⟨a', c', rfl⟩ := hu.shape
  by_cases hlen : L.length = K.length
  rotate_left
  · have hr : R = false := by rw [hR, decide_eq_false_iff_not]; intro e; exact hlen (by rw [e])
    subst hr
    have hne : ((L.length : Int) != (K.length : Int)) = true := by simp; omega
    have hne2 : ((L.length : Int) == (K.length : Int)) = false := by simp; omega
    clear hR hv hu hlen
    generalize L.length = n at *
    generalize K.length = m at *
    go_enter Tryd.func18, Tryd.ntmps18
    go_wp2
    go_ret
    exact ⟨rfl, Below.refl _ _⟩
  have HV := Lib.hid hv; have HU := Lib.hid hu; have HR := Lib.hid hR
  rw [← hlen]
  rw [← hlen] at HU
  have HLEN := Lib.hid hlen
  obtain ⟨n, hn⟩ : ∃ n, n = L.length := ⟨_, rfl⟩
  rw [← hn] at HV HU HLEN hl ⊢
  have HN := Lib.hid hn
  clear hv hu hR hlen hn hl2
  go_enter Tryd.func18, Tryd.ntmps18
  go_wp2
  go_loopw [5] (fun i wr => ∃ k : Nat, k ≤ n ∧ i = .int .i64 k ∧ Hid (Below w.heap.size w wr ∧ L.take k = K.take k)) (fun i _ => n - (intOf i).toNat)
  case atStart => exact ⟨0, by omega, rfl, Lib.hid ⟨Below.refl _ _, rfl⟩⟩
  case round =>
    obtain ⟨k, hk, rfl, H⟩ := hrel
    by_cases hlt : k < n
    · have hkL : k < L.length := by have := HN.out; omega
      have hkK : k < K.length := by have := HLEN.out; omega
      obtain ⟨g, off, x, rfl, hg, hx, hbx⟩ := (HV.out.on H.out.1).pick k hkL
      obtain ⟨g', off', y, rfl, hg', hy, hby⟩ := (HU.out.on H.out.1).pick k hkK
      obtain ⟨SA, hSA⟩ : ∃ SA, SA = strOfNums L[k] := ⟨_, rfl⟩
      obtain ⟨SB, hSB⟩ : ∃ SB, SB = strOfNums K[k] := ⟨_, rfl⟩
      have hca : ∀ n, (convert 22 9 x).run Tryd.prog (wr.drewN n) = .ok (.string SA) (wr.drewN n) := fun n => by rw [hSA]; exact conv_str (hbx.on (bdrewN (Below.refl _ _) n))
      have hcb : ∀ n, (convert 22 9 y).run Tryd.prog (wr.drewN n) = .ok (.string SB) (wr.drewN n) := fun n => by rw [hSB]; exact conv_str (hby.on (bdrewN (Below.refl _ _) n))
      obtain ⟨Q, hQ⟩ : ∃ Q, Q = decide (L[k] = K[k]) := ⟨_, rfl⟩
      have hq : (SA.toList == SB.toList) = Q := by rw [hSA, hSB, hQ]; exact nums_inj hbx.2.1 hby.2.1
      have HQ := Lib.hid hQ
      clear hSA hSB hQ hbx hby
      go_wp2
      go_quiet (fail)
      cases Q
      · have hr : R = false := by
          rw [HR.out, decide_eq_false_iff_not]
          intro e
          have h := HQ.out
          have e2 : L[k] = K[k] := by subst e; rfl
          rw [decide_eq_true e2] at h
          cases h
        subst hr
        have HB := Lib.hid (bdrewN H.out.1 nq)
        go_wp2
        go_ret
        exact ⟨rfl, HB.out⟩
      · have HE := Lib.hid (show L[k] = K[k] from of_decide_eq_true HQ.out.symm)
        have HB := Lib.hid (bdrewN H.out.1 nq)
        go_wp2
        go_roundw
        case rel =>
          refine ⟨k + 1, by omega, by go_num, HB.out, ?_⟩
          rw [List.take_succ_eq_append_getElem hkL, List.take_succ_eq_append_getElem hkK, H.out.2, HE.out]
        case measure => simp [intOf]; omega
    · have hk' : k = n := by omega
      subst hk'
      have hr : R = true := by
        rw [HR.out, decide_eq_true_iff]
        have h := H.out.2
        rwa [HN.out, List.take_length, ← HN.out, HLEN.out, List.take_length] at h
      subst hr
      have HB := Lib.hid H.out.1
      go_wp2
      go_ret
      exact ⟨rfl, HB.out⟩

/-- What a list of received contents reads as. -/
theorem LV.ls {base : Nat} {w : World} {vr vl : Value} {L : List (List Int)} {vals : List Value} (h : LV base w vr vl L vals) (hl : L.length ≤ 140737488355328) : Ls (fun k => k < w.heap.size) w vl L := by
  obtain ⟨h1, h2, h3⟩ := h
  rcases h1.2 with ⟨rfl, h0⟩ | ⟨g, cap, cur, rfl, hb, hg, hn, hm, hs, ht⟩
  · have : L = [] := List.eq_nil_of_length_eq_zero h0
    subst this
    exact Ls.nil _ _ _ _
  · refine ⟨hl, _, cap, rfl, hn, fun _ => ⟨g, 0, rfl, blt hg, fun j p hj => ?_⟩⟩
    have hjl : j < L.length := (List.getElem?_eq_some_iff.1 hj).1
    obtain ⟨u, hvj⟩ : ∃ u, vals[j]? = some u := ⟨_, List.getElem?_eq_getElem (by omega)⟩
    refine ⟨u, ?_, (h3 j _ _ hvj hj).kept (fun _ _ => rfl) (fun k hk => hk.2.1)⟩
    rw [cell_of_row w g (0 + j) cur 22 (0, 0) hg]
    rw [← ht, List.getElem?_take] at hvj
    split at hvj
    · simpa using hvj
    · cases hvj

theorem sv0 (F : Nat → Prop) (w : World) : SV F w (.agg #[.slice none 0 0, .bool false, .bool false, .bool false]) st0 := ⟨none, 0, rfl, ⟨by simp [st0], by simp [st0], none, 0, rfl, by simp [st0], by simp [st0]⟩⟩
theorem svF (F : Nat → Prop) (w : World) : SV F w (.agg #[.slice none 0 0, .bool true, .bool false, .bool false]) stF := ⟨none, 0, rfl, ⟨by simp [stF], by simp [stF], none, 0, rfl, by simp [stF], by simp [stF]⟩⟩

set_option maxHeartbeats 2000000 in
theorem receives_any (b : List Int) (want : List (List Int)) (d : Nat) (vb vw : Value) (w : World) (hk : KOk w) (hb : Bs (fun k => k < w.heap.size) w vb b) (hw : Ls (fun k => k < w.heap.size) w vw want) (hsz : (b.length + 1) * 24 ≤ 140737488355328)
    (h1 : FS st0 b = stF) (h2 : FL st0 b = want) (h3 : FB st0 b = d) :
    Calls Tryd.prog 19 #[vb, vw, .int .i64 (d : Nat)] w fun e w' => e = .returned (.bool true) ∧ Below w.heap.size w w' := by
  have HC := Lib.hid (feed_any st0 b _ vb w hk (sv0 _ _) hb hsz)
  rw [h1, h2, h3] at HC
  have hd : d ≤ 140737488355328 := by rw [← h3]; exact Nat.le_trans (FB_le _ _) hb.1
  obtain ⟨a, c, rfl⟩ := hb.shape
  obtain ⟨a', c', rfl⟩ := hw.shape
  have hwl := hw.1
  have HW := Lib.hid hw
  clear hb hw hsz h1 h2 h3 hk
  generalize b.length = n at *
  obtain ⟨m, hm⟩ : ∃ m, m = want.length := ⟨_, rfl⟩
  rw [← hm] at HW hwl ⊢
  have HM := Lib.hid hm; clear hm
  go_enter Tryd.func19, Tryd.ntmps19
  go_wp2_with fail
  refine HC.out.mono ?_
  rintro e w1 ⟨vx, vl, rfl, hb1, ⟨ax, cx, rfl, hsv⟩, vals, hlv⟩
  have HB1 := Lib.hid hb1
  have HLV := Lib.hid (hlv.ls (by rw [← HM.out]; exact hwl))
  have HSV := Lib.hid hsv
  clear hb1 hlv hsv HC
  obtain ⟨W, hW⟩ : ∃ W, W = w1.alloc (.cells #[.slice ax stF.rest.length cx, .bool stF.inn, .bool stF.esc, .bool stF.bad] 31) := ⟨_, rfl⟩
  have hB : Below w1.heap.size w1 W := by rw [hW]; exact ball (Below.refl _ _) _
  have HS := Lib.hid (show Calls Tryd.prog 17 #[.agg #[.slice ax stF.rest.length cx, .bool stF.inn, .bool stF.esc, .bool stF.bad], .agg #[.slice none 0 0, .bool true, .bool false, .bool false]] W fun e w' => e = .returned (.bool true) ∧ Below W.heap.size W w' from (sameState_any stF stF _ _ W (show SV (fun k => k < W.heap.size) W (.agg #[.slice ax stF.rest.length cx, .bool stF.inn, .bool stF.esc, .bool stF.bad]) stF from ⟨ax, cx, rfl, HSV.out.on hB⟩) (svF _ _)).mono (fun e w' h => ⟨by rw [h.1, decide_eq_true rfl], h.2⟩))
  obtain ⟨al, cl, rfl⟩ := HLV.out.shape
  have HSM := Lib.hid (show ∀ wx, Below W.heap.size W wx → Calls Tryd.prog 18 #[.slice al want.length cl, .slice a' m c'] wx fun e w' => e = .returned (.bool true) ∧ Below wx.heap.size wx w' from fun wx hx =>
    (same_any want want _ _ wx ((HLV.out.on hB).on hx) (((HW.out.on HB1.out).on hB).on hx)).mono (fun e w' h => ⟨by rw [h.1, decide_eq_true rfl], h.2⟩))
  rw [← HM.out] at HSM HLV
  rw [← HM.out]
  have HBW := Lib.hid (btrans HB1.out hB)
  have HWW := Lib.hid hW
  clear hB hW
  go_wp2_with fail
  rw [← HWW.out]
  refine HS.out.mono ?_
  rintro e w2 ⟨rfl, hb2⟩
  have HB2 := Lib.hid hb2; clear hb2
  go_wp2_with fail
  refine (HSM.out w2 HB2.out).mono ?_
  rintro e w3 ⟨rfl, hb3⟩
  have HB3 := Lib.hid (btrans (btrans HBW.out HB2.out) hb3); clear hb3
  go_wp2
  go_ret
  exact ⟨rfl, HB3.out⟩
end Go.Proofs.YtdmlnjgbfkkjdaaDoor
