/-
  Walks: the reference's Sum, Total, Weights, Same.
-/
import Derived.Test.YtempnbchiofghaaGreatDoorAe
namespace Go.Proofs.YtempnbchiofghaaGreatDoor
open Go.RowKit
set_option linter.unusedVariables false
set_option linter.unusedSimpArgs false

/-- What the reference's sum is, so far. -/
def RumI (l : List Int) (k : Nat) (u v : Int) : Prop := u * 9007199254740992 + v = (l.take k).sum ∧ -2 * (k : Int) ≤ u ∧ u ≤ 2 * (k : Int) ∧ 0 ≤ v ∧ v < 9007199254740992 ∧ ∀ j x, j < k → l[j]? = some x → inR x
theorem RumI.next {l : List Int} {k : Nat} {u v x : Int} (h : RumI l k u v) (hx : l[k]? = some x) (hr : inR x) : RumI l (k + 1) (u + (v + x) / 9007199254740992) (v + x - (v + x) / 9007199254740992 * 9007199254740992) := by
  obtain ⟨h1, h2, h3, h4, h5, h6⟩ := h
  obtain ⟨r0, r1⟩ := hr
  refine ⟨?_, by omega, by omega, by omega, by omega, fun j y hj hy => ?_⟩
  · rw [sum_take l k x hx]; omega
  · rcases Nat.lt_or_ge j k with hjk | hjk
    · exact h6 j y hjk hy
    · obtain rfl : j = k := by omega
      rw [hx] at hy
      cases hy
      exact ⟨r0, r1⟩

set_option maxRecDepth 100000 in
set_option maxHeartbeats 4000000 in
theorem rsum_any (l : List Int) (v : Value) (w : World) (h : Hl (fun k => k < w.heap.size) w v l) (hlen : l.length ≤ 2147483647) :
    Calls Tryz.prog 22 #[v] w fun e w' => e = .returned (.tuple #[.int .i64 (sumV l).1, .int .i64 (sumV l).2]) ∧ w = w' := by
  obtain ⟨oa, c, rfl⟩ := h.shape
  obtain ⟨n, hn⟩ : ∃ n, n = l.length := ⟨_, rfl⟩
  rw [← hn] at h hlen ⊢
  obtain ⟨R, hR⟩ : ∃ R, sumV l = R := ⟨_, rfl⟩
  rw [hR]
  have HN := Lib.hid hn; have HH := Lib.hid h; have HR := Lib.hid hR
  clear hn h hR
  go_enter Tryz.func22, Tryz.ntmps22
  go_wp2
  go_loopw [4, 5, 6] (fun s t i wr => ∃ (k : Nat) (u v : Int), k ≤ n ∧ s = .int .i64 u ∧ t = .int .i64 v ∧ i = .int .i64 (k : Int) ∧ Hid (RumI l k u v) ∧ w = wr) (fun s t i _ => n - (intOf i).toNat)
  case atStart => exact ⟨0, 0, 0, by omega, rfl, rfl, rfl, Lib.hid ⟨by simp, by omega, by omega, by omega, by omega, fun j x hj => by omega⟩, rfl⟩
  case round =>
    obtain ⟨k, u, v, hk, rfl, rfl, rfl, HI, rfl⟩ := hrel
    by_cases hlt : k < n
    · have hlt2 : (k : Int) < (n : Int) := by omega
      obtain ⟨g, off, x, rfl, hg, hx, hxi, c0, hcap⟩ := HH.out.pick k (by have := HN.out; omega)
      have H1 := rin_any x
      by_cases hr : inR x
      · have HI2 := Lib.hid (HI.out.next hx hr)
        rw [decide_eq_true hr] at H1
        replace H1 := Lib.hid H1
        obtain ⟨_, h2, h3, h4, h5, _⟩ := HI.out
        obtain ⟨A, hA⟩ : ∃ A, v + x = A := ⟨_, rfl⟩
        obtain ⟨r0, r1⟩ := hr
        have H2 := floor_any A 9007199254740992 ⟨by omega, by omega⟩ (by decide) (by omega)
        rw [hA] at HI2
        obtain ⟨Q, hQ⟩ : ∃ Q, A / 9007199254740992 = Q := ⟨_, rfl⟩
        rw [hQ] at H2 HI2
        replace H2 := Lib.hid H2
        have w0 : IntKind.i64.wrap (v + x) = A := by rw [hA]; exact wrap_in (by omega) (by omega)
        have w1 : IntKind.i64.wrap (u + Q) = u + Q := by
          obtain ⟨_, h2, h3, h4, h5, _⟩ := HI2.out
          exact wrap_in (by omega) (by omega)
        have w2 : IntKind.i64.wrap (Q * 9007199254740992) = Q * 9007199254740992 := wrap_in (by omega) (by omega)
        have w3 : IntKind.i64.wrap (A - Q * 9007199254740992) = A - Q * 9007199254740992 := wrap_in (by omega) (by omega)
        clear hx HI r0 r1 h2 h3 h4 h5 hA hQ
        go_wp2_with fail
        refine (H1.out _).mono ?_
        rintro e w' ⟨rfl, rfl⟩
        go_wp2_with fail
        refine (H2.out _).mono ?_
        rintro e w' ⟨rfl, rfl⟩
        go_wp2
        go_roundw
        case rel => exact ⟨k + 1, u + Q, A - Q * 9007199254740992, by omega, rfl, rfl, by go_num, HI2, trivial⟩
        case measure => simp [intOf]; omega
      · have hb := sumV_bad hx hr
        rw [decide_eq_false hr] at H1
        replace H1 := Lib.hid H1
        rw [HR.out] at hb
        have HB := Lib.hid hb
        clear hx HI hr hb
        go_wp2_with fail
        refine (H1.out _).mono ?_
        rintro e w' ⟨rfl, rfl⟩
        go_wp2
        go_ret2
        exact ⟨retP (by rw [HB.out]; exact ⟨rfl, rfl⟩), rfl⟩
    · obtain rfl : k = n := by omega
      have hlt2 : ¬ ((k : Int) < (k : Int)) := by omega
      obtain ⟨h1, h2, h3, h4, h5, h6⟩ := HI.out
      have hs : sumV l = chk l.sum := sumV_end (by rw [← HN.out]; exact h6)
      rw [sum_all l k (by have := HN.out; omega)] at h1
      rw [HR.out] at hs
      obtain ⟨S, hS⟩ : ∃ S, l.sum = S := ⟨_, rfl⟩
      rw [hS] at h1 hs
      clear h6 hS HI
      by_cases b1 : u < -1
      · have e : chk S = (0, 3) := if_neg (fun hi => by obtain ⟨i0, i1⟩ := hi; omega)
        rw [e] at hs
        have HS := Lib.hid hs
        clear hs h1 h2 h3 h4 h5 e
        go_wp2
        go_ret2
        exact ⟨retP (by rw [HS.out]; exact ⟨rfl, rfl⟩), rfl⟩
      · by_cases b2 : 1 < u
        · have e : chk S = (0, 3) := if_neg (fun hi => by obtain ⟨i0, i1⟩ := hi; omega)
          rw [e] at hs
          have HS := Lib.hid hs
          clear hs h1 h2 h3 h4 h5 e
          go_wp2
          go_ret2
          exact ⟨retP (by rw [HS.out]; exact ⟨rfl, rfl⟩), rfl⟩
        · by_cases b3 : u = 1
          · subst b3
            by_cases b4 : 0 < v
            · have e : chk S = (0, 3) := if_neg (fun hi => by obtain ⟨i0, i1⟩ := hi; omega)
              rw [e] at hs
              have HS := Lib.hid hs
              clear hs h1 h2 h3 h4 h5 e
              go_wp2
              go_ret2
              exact ⟨retP (by rw [HS.out]; exact ⟨rfl, rfl⟩), rfl⟩
            · have e : chk S = (S, 0) := if_pos ⟨by omega, by omega⟩
              rw [e] at hs
              have HS := Lib.hid hs
              obtain rfl : v = 0 := by omega
              obtain rfl : S = 9007199254740992 := by omega
              clear hs h1 h2 h3 h4 h5 e b4
              go_wp2
              go_ret2
              exact ⟨retP (by rw [HS.out]; exact ⟨rfl, rfl⟩), rfl⟩
          · have e : chk S = (S, 0) := if_pos ⟨by omega, by omega⟩
            rw [e] at hs
            have HS := Lib.hid hs
            have w1 : IntKind.i64.wrap (u * 9007199254740992) = u * 9007199254740992 := wrap_in (by omega) (by omega)
            have w2 : IntKind.i64.wrap (u * 9007199254740992 + v) = S := by rw [h1]; exact wrap_in (by omega) (by omega)
            have t3 : (u == 1) = false := by simpa using b3
            clear hs h1 h2 h3 h4 h5 e b3
            go_wp2
            go_ret2
            exact ⟨retP (by rw [HS.out]; exact ⟨rfl, rfl⟩), rfl⟩

theorem sum_bnd : ∀ (l : List Int), (∀ x ∈ l, 0 ≤ x ∧ x ≤ 9007199254740992) → 0 ≤ l.sum ∧ l.sum ≤ 9007199254740992 * (l.length : Int)
  | [], _ => by simp
  | x :: t, h => by
    obtain ⟨h1, h2⟩ := sum_bnd t (fun y hy => h y (by simp [hy]))
    obtain ⟨h3, h4⟩ := h x (by simp)
    rw [List.sum_cons, List.length_cons]
    omega
theorem take_bnd (l : List Int) (h : ∀ x ∈ l, 0 ≤ x ∧ x ≤ 9007199254740992) (k : Nat) : 0 ≤ (l.take k).sum ∧ (l.take k).sum ≤ 9007199254740992 * (k : Int) := by
  obtain ⟨h1, h2⟩ := sum_bnd (l.take k) (fun x hx => h x (List.mem_of_mem_take hx))
  have : (l.take k).length ≤ k := List.length_take_le k l
  omega

set_option maxRecDepth 100000 in
set_option maxHeartbeats 4000000 in
theorem total_any (l : List Int) (v : Value) (w : World) (h : Hl (fun k => k < w.heap.size) w v l) (hlen : l.length ≤ 256) (hx : ∀ x ∈ l, 0 ≤ x ∧ x ≤ 9007199254740992) :
    Calls Tryz.prog 34 #[v] w fun e w' => e = .returned (.int .i64 l.sum) ∧ w = w' := by
  obtain ⟨oa, c, rfl⟩ := h.shape
  obtain ⟨n, hn⟩ : ∃ n, n = l.length := ⟨_, rfl⟩
  rw [← hn] at h hlen ⊢
  obtain ⟨R, hR⟩ : ∃ R, l.sum = R := ⟨_, rfl⟩
  rw [hR]
  have HN := Lib.hid hn; have HH := Lib.hid h; have HR := Lib.hid hR; have HX := Lib.hid hx
  clear hn h hR hx
  go_enter Tryz.func34, Tryz.ntmps34
  go_wp2
  go_loopw [3, 4] (fun s i wr => ∃ (k : Nat) (u : Int), k ≤ n ∧ s = .int .i64 u ∧ i = .int .i64 (k : Int) ∧ Hid (u = (l.take k).sum) ∧ w = wr) (fun s i _ => n - (intOf i).toNat)
  case atStart => exact ⟨0, 0, by omega, rfl, rfl, Lib.hid (by simp), rfl⟩
  case round =>
    obtain ⟨k, u, hk, rfl, rfl, HI, rfl⟩ := hrel
    by_cases hlt : k < n
    · have hlt2 : (k : Int) < (n : Int) := by omega
      obtain ⟨g, off, x, rfl, hg, hx, hxi, c0, hcap⟩ := HH.out.pick k (by have := HN.out; omega)
      have h1 := HI.out
      have h2 := take_bnd l HX.out (k + 1)
      have h3 := sum_take l k x hx
      have HI2 : Hid (u + x = (l.take (k + 1)).sum) := Lib.hid (by rw [h3, h1])
      have w1 : IntKind.i64.wrap (u + x) = u + x := wrap_in (by omega) (by omega)
      clear hx HI h1 h2 h3
      go_wp2
      go_roundw
      case rel => exact ⟨k + 1, u + x, by omega, rfl, by go_num, HI2, trivial⟩
      case measure => simp [intOf]; omega
    · obtain rfl : k = n := by omega
      have hlt2 : ¬ ((k : Int) < (k : Int)) := by omega
      have h1 := HI.out
      rw [sum_all l k (by have := HN.out; omega), HR.out] at h1
      have H1 := Lib.hid h1
      clear h1 HI
      go_wp2
      go_ret
      exact ⟨retI H1.out, rfl⟩

set_option maxRecDepth 100000 in
set_option maxHeartbeats 4000000 in
theorem same_any (a b : List Int) (v1 v2 : Value) (w : World) (hv : Hl (fun k => k < w.heap.size) w v1 a) (hv2 : Hl (fun k => k < w.heap.size) w v2 b) :
    Calls Tryz.prog 29 #[v1, v2] w fun e w' => e = .returned (.bool (decide (a = b))) ∧ Below w.heap.size w w' := by
  obtain ⟨oa, ca, rfl⟩ := hv.shape
  obtain ⟨ob, cb, rfl⟩ := hv2.shape
  have hla := hv.1; have hlb := hv2.1
  have HV := Lib.hid hv; have HV2 := Lib.hid hv2
  clear hv hv2
  by_cases hab : a.length = b.length
  · obtain ⟨n, hn⟩ : ∃ n, n = a.length := ⟨_, rfl⟩
    have hnb : b.length = n := by omega
    have e0 : ((n : Int) != (n : Int)) = false := by simp
    obtain ⟨R, hR⟩ : ∃ R, R = decide (a = b) := ⟨_, rfl⟩
    rw [← hR]
    have HN := Lib.hid hn; have HNB := Lib.hid hnb; have HR := Lib.hid hR
    have hl1 : n ≤ 70368744177664 := by omega
    rw [hnb, ← hn]
    clear hn hnb hab hR hla hlb
    go_enter Tryz.func29, Tryz.ntmps29
    go_wp2
    go_loopw [5] (fun i wr => ∃ k : Nat, k ≤ n ∧ i = .int .i64 k ∧ Hid (Below w.heap.size w wr) ∧ Hid (∀ j, j < k → a[j]? = b[j]?)) (fun i _ => n - (intOf i).toNat)
    case atStart => exact ⟨0, by omega, rfl, Lib.hid (Below.refl _ _), Lib.hid (fun j hj => by omega)⟩
    case round =>
      obtain ⟨k, hk, rfl, H, HE⟩ := hrel
      by_cases hlt : k < n
      · have hlt2 : (k : Int) < (n : Int) := by omega
        obtain ⟨g1, o1, x1, rfl, hg1, hx, _, c0, hc1⟩ := HV.out.pick k (by have := HN.out; omega)
        obtain ⟨g2, o2, x2, rfl, hg2, hy, _, c2, hc2⟩ := HV2.out.pick k (by have := HNB.out; omega)
        have d0 : wr.cell? ⟨g1, o1 + k, none⟩ = some (.int .i64 x1) := (H.out.cell (p := ⟨g1, o1 + k, none⟩) hg1).trans c0
        have d2 : wr.cell? ⟨g2, o2 + k, none⟩ = some (.int .i64 x2) := (H.out.cell (p := ⟨g2, o2 + k, none⟩) hg2).trans c2
        clear c0 c2
        have hstep : ∀ j, j < k + 1 → x1 = x2 → a[j]? = b[j]? := by
          intro j hj hxy
          rcases Nat.lt_or_ge j k with h | h
          · exact HE.out j h
          · have : j = k := by omega
            subst this
            rw [hx, hy, hxy]
        have hneq : x1 ≠ x2 → R = false := by
          intro h
          rw [HR.out]
          refine decide_eq_false (fun he => h ?_)
          rw [he, hy] at hx
          simp only [Option.some.injEq] at hx
          exact hx.symm
        have HST := Lib.hid hstep; have HNE := Lib.hid hneq
        clear hstep hneq hx hy HE
        by_cases hxy : x1 = x2
        · have HE2 : Hid (∀ j, j < k + 1 → a[j]? = b[j]?) := Lib.hid (fun j hj => HST.out j hj hxy)
          subst hxy
          have e1 : (x1 != x1) = false := by simp
          clear HST HNE
          go_wp2_with fail
          go_quiet (fail)
          have HD : Hid (Below w.heap.size w (wr.drewN nq)) := Lib.hid (bdrewN H.out nq)
          clear H e1 d0 d2
          generalize wr.drewN nq = w7 at *
          go_wp2
          go_roundw
          case rel => exact ⟨k + 1, by omega, by go_num, HD, HE2⟩
          case measure => simp [intOf]; omega
        · have hF : R = false := HNE.out hxy
          have HF := Lib.hid hF
          have e1 : (x1 != x2) = true := by simpa using hxy
          clear HST HNE hF hxy
          go_wp2_with fail
          go_quiet (fail)
          have HD : Hid (Below w.heap.size w (wr.drewN nq)) := Lib.hid (bdrewN H.out nq)
          clear H e1 d0 d2
          generalize wr.drewN nq = w7 at *
          go_wp2
          go_ret
          exact ⟨retB HF.out.symm, HD.out⟩
      · obtain rfl : k = n := by omega
        have hlt2 : ¬ ((k : Int) < (k : Int)) := by omega
        have hT : R = true := by
          rw [HR.out]
          refine decide_eq_true (List.ext_getElem? fun j => ?_)
          rcases Nat.lt_or_ge j k with h | h
          · exact HE.out j h
          · rw [List.getElem?_eq_none (by have := HN.out; omega), List.getElem?_eq_none (by have := HNB.out; omega)]
        have HT := Lib.hid hT
        clear hT HE
        go_wp2
        go_ret
        exact ⟨retB HT.out.symm, H.out⟩
  · have hne : decide (a = b) = false := decide_eq_false (fun h => hab (by rw [h]))
    rw [hne]
    have e0 : ((a.length : Int) != (b.length : Int)) = true := by
      simp only [bne_iff_ne, ne_eq]; omega
    obtain ⟨n, hn⟩ : ∃ n, a.length = n := ⟨_, rfl⟩
    obtain ⟨m, hm⟩ : ∃ m, b.length = m := ⟨_, rfl⟩
    rw [hn, hm] at e0 ⊢
    rw [hn] at hla; rw [hm] at hlb
    clear HV HV2 hne hab hn hm
    go_enter Tryz.func29, Tryz.ntmps29
    go_wp2
    go_ret
    exact ⟨rfl, Below.refl _ _⟩
end Go.Proofs.YtempnbchiofghaaGreatDoor
