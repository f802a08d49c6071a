/-
  The statement 'Rows.FleetMatchesSaid': for all arguments the law returns true; the arguments read as they did.
-/
import Derived.Test.YtijdjbkmkopmnaaFr
import Derived.Test.YtijdjbkmkopmnaaRe
namespace Go.Proofs.Ytijdjbkmkopmnaa.fleetMatches
open Go.ChangeShapes Go.WideShapes Go.ChangeAt Go.RowKit
set_option linter.unusedVariables false
set_option linter.unusedSimpArgs false

theorem box6 {w : World} {B : Nat} {a b c d e f : Value} {t : TypeId} (h : w.heap[B]? = some (.cells #[a, b, c, d, e, f] t (0, 0))) : w.cell? ⟨B, 0, none⟩ = some a ∧ w.cell? ⟨B, 1, none⟩ = some b ∧ w.cell? ⟨B, 2, none⟩ = some c ∧ w.cell? ⟨B, 3, none⟩ = some d ∧ w.cell? ⟨B, 4, none⟩ = some e ∧ w.cell? ⟨B, 5, none⟩ = some f := by
  refine ⟨?_, ?_, ?_, ?_, ?_, ?_⟩
  · rw [cell_of_row w B 0 _ t (0, 0) h]; rfl
  · rw [cell_of_row w B 1 _ t (0, 0) h]; rfl
  · rw [cell_of_row w B 2 _ t (0, 0) h]; rfl
  · rw [cell_of_row w B 3 _ t (0, 0) h]; rfl
  · rw [cell_of_row w B 4 _ t (0, 0) h]; rfl
  · rw [cell_of_row w B 5 _ t (0, 0) h]; rfl
theorem least_of {ts : List Ty} {ws : List Wn} {ss : List Sw} {hs : List Wh} {wanted : Int} {l : List Sw} {E : Int} (h : GR ts ws ss hs wanted l E) : chk ts ws ss hs = 0 → ∀ (f : Nat) (es : List Tr), wanted = (f : Int) → f < ts.length → ss = es.map toSw → ∃ L, Least es f L := by
  intro hc f es hw hf he
  rcases h with ⟨a, _⟩ | ⟨_, a, _⟩ | ⟨_, _, f', es', L, h1, h2, h3, h4, h5, h6⟩
  · exact absurd hc a
  · rw [hw, rng_true ⟨by omega, by omega⟩] at a; cases a
  · obtain rfl : es = es' := map_inj (by rw [← he, h3])
    obtain rfl : f = f' := by omega
    exact ⟨L, h5⟩
theorem cr_one {ts : List Ty} {ws : List Wn} {ss : List Sw} {hs : List Wh} {f t A E B F : Int} (h : CR ts ws ss hs f t A E) (k : CR ts ws ss hs f t B F) : A = B ∧ E = F := by
  rcases h with ⟨h1, h2, h3⟩ | ⟨h1, h2, h3, h4⟩ | ⟨h1, h2, h3, h4⟩
  · rcases k with ⟨k1, k2, k3⟩ | ⟨k1, _⟩ | ⟨k1, _⟩
    · exact ⟨by rw [h3, k3], by rw [h2, k2]⟩
    · exact absurd k1 h1
    · exact absurd k1 h1
  · rcases k with ⟨k1, k2, k3⟩ | ⟨k1, k2, k3, k4⟩ | ⟨k1, k2, k3, k4⟩
    · exact absurd h1 k1
    · exact ⟨by rw [h4, k4], by rw [h3, k3]⟩
    · rw [h2] at k2; cases k2
  · rcases k with ⟨k1, k2, k3⟩ | ⟨k1, k2, k3, k4⟩ | ⟨k1, k2, k3, k4⟩
    · exact absurd h1 k1
    · rw [h2] at k2; cases k2
    · exact ⟨by rw [h4, k4], by rw [h3, k3]⟩
theorem qr_out {ts : List Ty} {ws : List Wn} {wagon : Int} {i : Nat} {x : Wn} (h : rng 0 wagon ((ws.length : Int) - 1) = false) (e : wagon = (i : Int)) (hx : ws[i]? = some x) : False := by
  have := (List.getElem?_eq_some_iff.1 hx).1
  rw [e, rng_true ⟨by omega, by omega⟩] at h
  cases h
theorem fit_one {ts : List Ty} {ws : List Wn} {ss : List Sw} {hs : List Wh} {wagon c wt E F : Int} (h : QR ts ws ss hs wagon (fun _ y => E = fitE y c wt) E) (k : QR ts ws ss hs wagon (fun _ y => F = fitE y c wt) F) : E = F := by
  rcases h with ⟨h1, h2⟩ | ⟨h1, h2, h3⟩ | ⟨h1, i, j, x, y, h2, h3, h4, h5, h6⟩
  · rcases k with ⟨k1, k2⟩ | ⟨k1, _⟩ | ⟨k1, _⟩
    · rw [h2, k2]
    · exact absurd k1 h1
    · exact absurd k1 h1
  · rcases k with ⟨k1, k2⟩ | ⟨k1, k2, k3⟩ | ⟨k1, i, j, x, y, k2, k3, _⟩
    · exact absurd h1 k1
    · rw [h3, k3]
    · exact (qr_out (ts := ts) h2 k2 k3).elim
  · rcases k with ⟨k1, k2⟩ | ⟨k1, k2, k3⟩ | ⟨k1, i', j', x', y', k2, k3, k4, k5, k6⟩
    · exact absurd h1 k1
    · exact (qr_out (ts := ts) k2 h2 h3).elim
    · obtain rfl : i = i' := by omega
      rw [h3] at k3
      cases k3
      obtain rfl : j = j' := by omega
      rw [h5] at k5
      cases k5
      rw [h6, k6]
theorem worth_one {ts : List Ty} {ws : List Wn} {ss : List Sw} {hs : List Wh} {wagon a X E Y F : Int} (h : QR ts ws ss hs wagon (fun x y => (X, E) = worthV x.wo x.bu a y.li y.fl) E) (hz : E ≠ 0 → X = 0) (k : QR ts ws ss hs wagon (fun x y => (Y, F) = worthV x.wo x.bu a y.li y.fl) F) (kz : F ≠ 0 → Y = 0) : X = Y ∧ E = F := by
  rcases h with ⟨h1, h2⟩ | ⟨h1, h2, h3⟩ | ⟨h1, i, j, x, y, h2, h3, h4, h5, h6⟩
  · rcases k with ⟨k1, k2⟩ | ⟨k1, _⟩ | ⟨k1, _⟩
    · have e : E = F := by rw [h2, k2]
      exact ⟨by rw [hz (by rw [h2]; exact h1), kz (by rw [k2]; exact k1)], e⟩
    · exact absurd k1 h1
    · exact absurd k1 h1
  · rcases k with ⟨k1, k2⟩ | ⟨k1, k2, k3⟩ | ⟨k1, i, j, x, y, k2, k3, _⟩
    · exact absurd h1 k1
    · exact ⟨by rw [hz (by omega), kz (by omega)], by rw [h3, k3]⟩
    · exact (qr_out (ts := ts) h2 k2 k3).elim
  · rcases k with ⟨k1, k2⟩ | ⟨k1, k2, k3⟩ | ⟨k1, i', j', x', y', k2, k3, k4, k5, k6⟩
    · exact absurd h1 k1
    · exact (qr_out (ts := ts) k2 h2 h3).elim
    · obtain rfl : i = i' := by omega
      rw [h3] at k3
      cases k3
      obtain rfl : j = j' := by omega
      rw [h5] at k5
      cases k5
      have := h6.trans k6.symm
      simpa using this

set_option maxRecDepth 100000 in
set_option maxHeartbeats 8000000 in
theorem walk (V0 : Value) (ts0 : List Ty) (ws0 : List Wn) (ss0 : List Sw) (hs0 : List Wh) (q1 : Qu) (w : World) (h0 : Fl w V0 ts0 ws0 ss0 hs0) :
    Calls Try.prog 3 #[V0, q1.v] w fun e w' => e = .returned (.bool true) ∧ Below w.heap.size w w' := by
  obtain ⟨qw, qc, qt, qd, qq, qa⟩ := q1
  change Calls Try.prog 3 #[V0, .agg #[.int .i64 qw, .int .i64 qc, .int .i64 qt, .int .i64 qd, .int .i64 qq, .int .i64 qa]] w _
  obtain ⟨A1, c1, A2, c2, A3, c3, A4, c4, rfl, gg1, gg2, gg3, gg4⟩ := h0.shape
  obtain ⟨n, hn⟩ : ∃ n, n = ts0.length := ⟨_, rfl⟩
  obtain ⟨m, hm⟩ : ∃ m, m = ws0.length := ⟨_, rfl⟩
  obtain ⟨k, hk⟩ : ∃ k, k = ss0.length := ⟨_, rfl⟩
  obtain ⟨h, hh⟩ : ∃ h, h = hs0.length := ⟨_, rfl⟩
  rw [← hn, ← hm, ← hk, ← hh] at h0 ⊢
  have HN := Lib.hid hn; have HM := Lib.hid hm; have HK := Lib.hid hk; have HH := Lib.hid hh
  obtain ⟨W, hW⟩ : ∃ W, W = (w.alloc (.cells #[.slice A1 n c1, .slice A2 m c2, .slice A3 k c3, .slice A4 h c4] 27)).alloc (.cells #[.int .i64 qw, .int .i64 qc, .int .i64 qt, .int .i64 qd, .int .i64 qq, .int .i64 qa] 29) := ⟨_, rfl⟩
  have hB : Below w.heap.size w W := by rw [hW]; exact ball (ball (Below.refl w.heap.size w) _) _
  have e0 : W.heap[w.heap.size]? = some (.cells #[.slice A1 n c1, .slice A2 m c2, .slice A3 k c3, .slice A4 h c4] 27 (0, 0)) := by rw [hW]; exact bold (bnew _ _)
  have eq : W.heap[w.heap.size + 1]? = some (.cells #[.int .i64 qw, .int .i64 qc, .int .i64 qt, .int .i64 qd, .int .i64 qq, .int .i64 qa] 29 (0, 0)) := by rw [hW]; have h := bnew (w.alloc (.cells #[.slice A1 n c1, .slice A2 m c2, .slice A3 k c3, .slice A4 h c4] 27)) (.cells #[.int .i64 qw, .int .i64 qc, .int .i64 qt, .int .i64 qd, .int .i64 qq, .int .i64 qa] 29); simpa using h
  have HXQ := Lib.hid eq
  obtain ⟨q0, q1, q2, q3, q4, q5⟩ := box6 eq
  clear eq
  have HV := Lib.hid (h0.on hB); have HB := Lib.hid hB; have HX := Lib.hid e0; have HW := Lib.hid hW
  obtain ⟨b0, b1, b2, b3⟩ := box4 e0
  clear h0 gg1 gg2 gg3 gg4 hn hm hk hh hB e0 hW
  obtain ⟨S, hS⟩ : ∃ S, fewB ts0.length ws0.length ss0.length hs0.length = S := ⟨_, rfl⟩
  have HS := Lib.hid hS
  clear hS
  cases S with
  | false =>
    have Hc := Lib.hid (sane_true W)
    go_enter Try.func3, Try.ntmps3
    go_upto_region 1 with (fail)
    rw [← HW.out]
    clear HW
    go_wp2_with fail
    refine Hc.out.mono ?_
    rintro e w1 ⟨rfl, hb⟩
    replace HXQ := Lib.hid (bon HXQ.out hb)
    clear q0 q1 q2 q3 q4 q5
    replace HB := Lib.hid (btrans HB.out hb); replace HV := Lib.hid (HV.out.on hb); replace HX := Lib.hid (bon HX.out hb)
    clear hb b0 b1 b2 b3 Hc
    obtain ⟨b0, b1, b2, b3⟩ := box4 HX.out
    obtain ⟨q0, q1, q2, q3, q4, q5⟩ := box6 HXQ.out
    have Hc := Lib.hid (few_any HV.out)
    rw [HS.out] at Hc
    go_wp2_with fail
    refine Hc.out.mono ?_
    rintro e w2 ⟨rfl, hb⟩
    replace HXQ := Lib.hid (bon HXQ.out hb)
    clear q0 q1 q2 q3 q4 q5
    replace HB := Lib.hid (btrans HB.out hb); replace HV := Lib.hid (HV.out.on hb); replace HX := Lib.hid (bon HX.out hb)
    clear hb b0 b1 b2 b3 Hc
    obtain ⟨b0, b1, b2, b3⟩ := box4 HX.out
    obtain ⟨q0, q1, q2, q3, q4, q5⟩ := box6 HXQ.out
    go_wp2
    go_ret
    exact ⟨rfl, HB.out⟩
  | true =>
    have Hc := Lib.hid (sane_true W)
    go_enter Try.func3, Try.ntmps3
    go_upto_region 1 with (fail)
    rw [← HW.out]
    clear HW
    go_wp2_with fail
    refine Hc.out.mono ?_
    rintro e w1 ⟨rfl, hb⟩
    replace HXQ := Lib.hid (bon HXQ.out hb)
    clear q0 q1 q2 q3 q4 q5
    replace HB := Lib.hid (btrans HB.out hb); replace HV := Lib.hid (HV.out.on hb); replace HX := Lib.hid (bon HX.out hb)
    clear hb b0 b1 b2 b3 Hc
    obtain ⟨b0, b1, b2, b3⟩ := box4 HX.out
    obtain ⟨q0, q1, q2, q3, q4, q5⟩ := box6 HXQ.out
    have Hc := Lib.hid (few_any HV.out)
    rw [HS.out] at Hc
    go_wp2_with fail
    refine Hc.out.mono ?_
    rintro e w2 ⟨rfl, hb⟩
    replace HXQ := Lib.hid (bon HXQ.out hb)
    clear q0 q1 q2 q3 q4 q5
    replace HB := Lib.hid (btrans HB.out hb); replace HV := Lib.hid (HV.out.on hb); replace HX := Lib.hid (bon HX.out hb)
    clear hb b0 b1 b2 b3 Hc
    obtain ⟨b0, b1, b2, b3⟩ := box4 HX.out
    obtain ⟨q0, q1, q2, q3, q4, q5⟩ := box6 HXQ.out
    have Hc := Lib.hid (given_any HV.out qd)
    go_wp2_with fail
    refine Hc.out.mono ?_
    rintro e w3 ⟨aa, ka, ca, l, E1, rfl, hb, hss, hgr⟩
    replace HXQ := Lib.hid (bon HXQ.out hb)
    clear q0 q1 q2 q3 q4 q5
    replace HB := Lib.hid (btrans HB.out hb); replace HV := Lib.hid (HV.out.on hb); replace HX := Lib.hid (bon HX.out hb)
    have HLA := Lib.hid hss
    have HG := Lib.hid hgr
    clear hb b0 b1 b2 b3 Hc hss hgr
    obtain ⟨b0, b1, b2, b3⟩ := box4 HX.out
    obtain ⟨q0, q1, q2, q3, q4, q5⟩ := box6 HXQ.out
    have Hc := Lib.hid (rgiven_any HV.out qd (least_of HG.out))
    go_wp2_with fail
    refine Hc.out.mono ?_
    rintro e w4 ⟨ab, kb, cb, l2, E2, rfl, hb, hss, hgr⟩
    replace HXQ := Lib.hid (bon HXQ.out hb)
    clear q0 q1 q2 q3 q4 q5
    replace HB := Lib.hid (btrans HB.out hb); replace HV := Lib.hid (HV.out.on hb); replace HX := Lib.hid (bon HX.out hb)
    replace HLA := Lib.hid (HLA.out.on hb)
    have HLB := Lib.hid hss
    have HG2 := Lib.hid hgr
    clear hb b0 b1 b2 b3 Hc hss hgr
    obtain ⟨b0, b1, b2, b3⟩ := box4 HX.out
    obtain ⟨q0, q1, q2, q3, q4, q5⟩ := box6 HXQ.out
    obtain ⟨rfl, rfl⟩ := HG.out.one HG2.out
    clear HG HG2
    have Hc := Lib.hid (clean_any HV.out qc qq)
    go_wp2_with fail
    refine Hc.out.mono ?_
    rintro e w5 ⟨A, E3, rfl, hb, hcr⟩
    replace HXQ := Lib.hid (bon HXQ.out hb)
    clear q0 q1 q2 q3 q4 q5
    replace HB := Lib.hid (btrans HB.out hb); replace HV := Lib.hid (HV.out.on hb); replace HX := Lib.hid (bon HX.out hb)
    replace HLA := Lib.hid (HLA.out.on hb)
    replace HLB := Lib.hid (HLB.out.on hb)
    have HCR := Lib.hid hcr
    clear hb b0 b1 b2 b3 Hc hcr
    obtain ⟨b0, b1, b2, b3⟩ := box4 HX.out
    obtain ⟨q0, q1, q2, q3, q4, q5⟩ := box6 HXQ.out
    have Hc := Lib.hid (rclean_any HV.out qc qq)
    go_wp2_with fail
    refine Hc.out.mono ?_
    rintro e w6 ⟨A2, E4, rfl, hb, hcr⟩
    replace HXQ := Lib.hid (bon HXQ.out hb)
    clear q0 q1 q2 q3 q4 q5
    replace HB := Lib.hid (btrans HB.out hb); replace HV := Lib.hid (HV.out.on hb); replace HX := Lib.hid (bon HX.out hb)
    replace HLA := Lib.hid (HLA.out.on hb)
    replace HLB := Lib.hid (HLB.out.on hb)
    have HCR2 := Lib.hid hcr
    clear hb b0 b1 b2 b3 Hc hcr
    obtain ⟨b0, b1, b2, b3⟩ := box4 HX.out
    obtain ⟨q0, q1, q2, q3, q4, q5⟩ := box6 HXQ.out
    obtain ⟨rfl, rfl⟩ := cr_one HCR.out HCR2.out
    clear HCR HCR2
    have Hc := Lib.hid (worthq_any HV.out qw qa)
    go_wp2_with fail
    refine Hc.out.mono ?_
    rintro e w7 ⟨X, E5, rfl, hb, hq1, hz1⟩
    replace HXQ := Lib.hid (bon HXQ.out hb)
    clear q0 q1 q2 q3 q4 q5
    replace HB := Lib.hid (btrans HB.out hb); replace HV := Lib.hid (HV.out.on hb); replace HX := Lib.hid (bon HX.out hb)
    replace HLA := Lib.hid (HLA.out.on hb)
    replace HLB := Lib.hid (HLB.out.on hb)
    have HQ1 := Lib.hid hq1
    have HE1 := Lib.hid hz1
    clear hb b0 b1 b2 b3 Hc hq1 hz1
    obtain ⟨b0, b1, b2, b3⟩ := box4 HX.out
    obtain ⟨q0, q1, q2, q3, q4, q5⟩ := box6 HXQ.out
    have Hc := Lib.hid (rworthq_any HV.out qw qa)
    go_wp2_with fail
    refine Hc.out.mono ?_
    rintro e w8 ⟨Y, E6, rfl, hb, hq2, hz2⟩
    replace HXQ := Lib.hid (bon HXQ.out hb)
    clear q0 q1 q2 q3 q4 q5
    replace HB := Lib.hid (btrans HB.out hb); replace HV := Lib.hid (HV.out.on hb); replace HX := Lib.hid (bon HX.out hb)
    replace HLA := Lib.hid (HLA.out.on hb)
    replace HLB := Lib.hid (HLB.out.on hb)
    have HQ2 := Lib.hid hq2
    have HE2 := Lib.hid hz2
    clear hb b0 b1 b2 b3 Hc hq2 hz2
    obtain ⟨b0, b1, b2, b3⟩ := box4 HX.out
    obtain ⟨q0, q1, q2, q3, q4, q5⟩ := box6 HXQ.out
    obtain ⟨rfl, rfl⟩ := worth_one HQ1.out HE1.out HQ2.out HE2.out
    clear HQ1 HQ2 HE1 HE2
    have HFA : Hid (∀ w', Below w8.heap.size w8 w' → (w'.cell? ⟨w.heap.size, 0, none⟩ = some (.slice A1 n c1) ∧ w'.cell? ⟨w.heap.size, 1, none⟩ = some (.slice A2 m c2) ∧ w'.cell? ⟨w.heap.size, 2, none⟩ = some (.slice A3 k c3) ∧ w'.cell? ⟨w.heap.size, 3, none⟩ = some (.slice A4 h c4)) ∧ w'.cell? ⟨w.heap.size + 1, 0, none⟩ = some (.int .i64 qw) ∧ w'.cell? ⟨w.heap.size + 1, 1, none⟩ = some (.int .i64 qc) ∧ w'.cell? ⟨w.heap.size + 1, 2, none⟩ = some (.int .i64 qt)) := Lib.hid (fun w' hb => by
      obtain ⟨p0, p1, p2, _, _, _⟩ := box6 (bon HXQ.out hb)
      exact ⟨box4 (bon HX.out hb), p0, p1, p2⟩)
    obtain ⟨EC, hEC⟩ : ∃ EC, EC = chk ts0 ws0 ss0 hs0 := ⟨_, rfl⟩
    have HEC := Lib.hid hEC
    clear hEC
    go_wp2_with fail
    clear b0 b1 b2 b3 q0 q1 q2 q3 q4 q5
    have h7s := HFA.out w8.drew (Below.refl w8.heap.size w8).drew
    refine wp_region_held_drew (S := fun w' => (w'.cell? ⟨w.heap.size, 0, none⟩ = some (.slice A1 n c1) ∧ w'.cell? ⟨w.heap.size, 1, none⟩ = some (.slice A2 m c2) ∧ w'.cell? ⟨w.heap.size, 2, none⟩ = some (.slice A3 k c3) ∧ w'.cell? ⟨w.heap.size, 3, none⟩ = some (.slice A4 h c4)) ∧ w'.cell? ⟨w.heap.size + 1, 0, none⟩ = some (.int .i64 qw) ∧ w'.cell? ⟨w.heap.size + 1, 1, none⟩ = some (.int .i64 qc) ∧ w'.cell? ⟨w.heap.size + 1, 2, none⟩ = some (.int .i64 qt)) (by kernel_rfl) h7s (fun hHeld => ?_)
    change wpAnyH _ _ _ _ _ 55 #[false, false, false, false, false, false, false, false, false, false, false, false, false, false, false, false, false, false, false, false, false, false, false, false, false, false, false, false, false, false, false, false, false, false, false, false, false, false, false, false, false, false, false, false, false, false, false, false, false, false, false, false, false, false, false] _ _
    refine wpAnyH_take (i := 0) (oi := _) (v := .agg #[.slice A1 n c1, .slice A2 m c2, .slice A3 k c3, .slice A4 h c4]) rfl (by kernel_rfl) (by kernel_rfl) (by kernel_rfl) (fun _ _ _ h => h) (Or.inl ⟨by rfl, fun wx hSw => ?_⟩) (by assumption) ?_
    · go_simp
      try (first | omega | (rw [IntKind.wrap_i64]; omega))
    (try simp only [Act.put, List.setIfInBounds_toArray, List.set_cons_zero, List.set_cons_succ, List.getElem_toArray, List.getElem_cons_zero, List.getElem_cons_succ])
    refine wpAnyH_take (i := 2) (oi := _) (v := .agg #[.slice A1 n c1, .slice A2 m c2, .slice A3 k c3, .slice A4 h c4]) rfl (by kernel_rfl) (by kernel_rfl) (by kernel_rfl) (fun _ _ _ h => h) (Or.inl ⟨by rfl, fun wx hSw => ?_⟩) (by assumption) ?_
    · go_simp
      try (first | omega | (rw [IntKind.wrap_i64]; omega))
    (try simp only [Act.put, List.setIfInBounds_toArray, List.set_cons_zero, List.set_cons_succ, List.getElem_toArray, List.getElem_cons_zero, List.getElem_cons_succ])
    refine wpAnyH_ready (rs := [1]) (by kernel_rfl) (by simp) ?_
    refine AllReadyH.cons (o := _) rfl (fun K hK => ?_) AllReadyH.nil
    have Hc := Lib.hid (check_any (HV.out.on ((Below.refl w8.heap.size w8).drew)) EC HEC.out)
    go_simp
    refine Hc.out.mono ?_
    rintro e v0 ⟨rfl, hb⟩
    have HD0 : Hid (Below w8.heap.size w8 v0) := Lib.hid (btrans ((Below.refl w8.heap.size w8).drew) hb)
    have h70 := HFA.out v0 HD0.out
    clear hb Hc
    go_wp2_with fail
    refine hK.out _ _ (h70) (fun hHeld => ?_)
    clear hK K
    (try simp only [Act.put, List.setIfInBounds_toArray, List.set_cons_zero, List.set_cons_succ, List.getElem_toArray, List.getElem_cons_zero, List.getElem_cons_succ])
    refine wpAnyH_ready (rs := [3]) (by kernel_rfl) (by simp) ?_
    refine AllReadyH.cons (o := _) rfl (fun K hK => ?_) AllReadyH.nil
    have Hc := Lib.hid (rcheck_any (HV.out.on (HD0.out)) EC HEC.out)
    go_simp
    refine Hc.out.mono ?_
    rintro e v1 ⟨rfl, hb⟩
    have HD1 : Hid (Below w8.heap.size w8 v1) := Lib.hid (btrans (HD0.out) hb)
    have h71 := HFA.out v1 HD1.out
    clear hb Hc
    go_wp2_with fail
    refine hK.out _ _ (h71) (fun hHeld => ?_)
    clear hK K
    (try simp only [Act.put, List.setIfInBounds_toArray, List.set_cons_zero, List.set_cons_succ, List.getElem_toArray, List.getElem_cons_zero, List.getElem_cons_succ])
    refine wpAnyH_take (i := 4) (oi := _) (v := .bool true) rfl (by kernel_rfl) (by kernel_rfl) (by kernel_rfl) (fun _ _ _ h => h) (Or.inl ⟨by rfl, fun wx hSw => ?_⟩) (by assumption) ?_
    · go_simp
      try (first | omega | (rw [IntKind.wrap_i64]; omega))
    (try simp only [Act.put, List.setIfInBounds_toArray, List.set_cons_zero, List.set_cons_succ, List.getElem_toArray, List.getElem_cons_zero, List.getElem_cons_succ])
    refine wpAnyH_take (i := 5) (oi := _) (v := .bool true) rfl (by kernel_rfl) (by kernel_rfl) (by kernel_rfl) (fun _ _ _ h => h) (Or.inl ⟨by rfl, fun wx hSw => ?_⟩) (by assumption) ?_
    · go_simp
      try (first | omega | (rw [IntKind.wrap_i64]; omega))
    (try simp only [Act.put, List.setIfInBounds_toArray, List.set_cons_zero, List.set_cons_succ, List.getElem_toArray, List.getElem_cons_zero, List.getElem_cons_succ])
    refine wpAnyH_take (i := 6) (oi := _) (v := .agg #[.slice A1 n c1, .slice A2 m c2, .slice A3 k c3, .slice A4 h c4]) rfl (by kernel_rfl) (by kernel_rfl) (by kernel_rfl) (fun _ _ _ h => h) (Or.inl ⟨by rfl, fun wx hSw => ?_⟩) (by assumption) ?_
    · go_simp
      try (first | omega | (rw [IntKind.wrap_i64]; omega))
    (try simp only [Act.put, List.setIfInBounds_toArray, List.set_cons_zero, List.set_cons_succ, List.getElem_toArray, List.getElem_cons_zero, List.getElem_cons_succ])
    refine wpAnyH_take (i := 7) (oi := _) (v := .pointer (some ⟨w.heap.size + 1, 0, none⟩)) rfl (by kernel_rfl) (by kernel_rfl) (by kernel_rfl) (fun _ _ _ h => h) (Or.inl ⟨by rfl, fun wx hSw => ?_⟩) (by assumption) ?_
    · go_simp
      try (first | omega | (rw [IntKind.wrap_i64]; omega))
    (try simp only [Act.put, List.setIfInBounds_toArray, List.set_cons_zero, List.set_cons_succ, List.getElem_toArray, List.getElem_cons_zero, List.getElem_cons_succ])
    refine wpAnyH_take (i := 8) (oi := _) (v := .int .i64 qw) rfl (by kernel_rfl) (by kernel_rfl) (by kernel_rfl) (fun _ _ _ h => h) (Or.inl ⟨by rfl, fun wx hSw => ?_⟩) (by assumption) ?_
    · go_simp
      try (first | omega | (rw [IntKind.wrap_i64]; omega))
    (try simp only [Act.put, List.setIfInBounds_toArray, List.set_cons_zero, List.set_cons_succ, List.getElem_toArray, List.getElem_cons_zero, List.getElem_cons_succ])
    refine wpAnyH_take (i := 9) (oi := _) (v := .pointer (some ⟨w.heap.size + 1, 1, none⟩)) rfl (by kernel_rfl) (by kernel_rfl) (by kernel_rfl) (fun _ _ _ h => h) (Or.inl ⟨by rfl, fun wx hSw => ?_⟩) (by assumption) ?_
    · go_simp
      try (first | omega | (rw [IntKind.wrap_i64]; omega))
    (try simp only [Act.put, List.setIfInBounds_toArray, List.set_cons_zero, List.set_cons_succ, List.getElem_toArray, List.getElem_cons_zero, List.getElem_cons_succ])
    refine wpAnyH_take (i := 10) (oi := _) (v := .int .i64 qc) rfl (by kernel_rfl) (by kernel_rfl) (by kernel_rfl) (fun _ _ _ h => h) (Or.inl ⟨by rfl, fun wx hSw => ?_⟩) (by assumption) ?_
    · go_simp
      try (first | omega | (rw [IntKind.wrap_i64]; omega))
    (try simp only [Act.put, List.setIfInBounds_toArray, List.set_cons_zero, List.set_cons_succ, List.getElem_toArray, List.getElem_cons_zero, List.getElem_cons_succ])
    refine wpAnyH_take (i := 11) (oi := _) (v := .pointer (some ⟨w.heap.size + 1, 2, none⟩)) rfl (by kernel_rfl) (by kernel_rfl) (by kernel_rfl) (fun _ _ _ h => h) (Or.inl ⟨by rfl, fun wx hSw => ?_⟩) (by assumption) ?_
    · go_simp
      try (first | omega | (rw [IntKind.wrap_i64]; omega))
    (try simp only [Act.put, List.setIfInBounds_toArray, List.set_cons_zero, List.set_cons_succ, List.getElem_toArray, List.getElem_cons_zero, List.getElem_cons_succ])
    refine wpAnyH_take (i := 12) (oi := _) (v := .int .i64 qt) rfl (by kernel_rfl) (by kernel_rfl) (by kernel_rfl) (fun _ _ _ h => h) (Or.inl ⟨by rfl, fun wx hSw => ?_⟩) (by assumption) ?_
    · go_simp
      try (first | omega | (rw [IntKind.wrap_i64]; omega))
    (try simp only [Act.put, List.setIfInBounds_toArray, List.set_cons_zero, List.set_cons_succ, List.getElem_toArray, List.getElem_cons_zero, List.getElem_cons_succ])
    refine wpAnyH_take (i := 14) (oi := _) (v := .agg #[.slice A1 n c1, .slice A2 m c2, .slice A3 k c3, .slice A4 h c4]) rfl (by kernel_rfl) (by kernel_rfl) (by kernel_rfl) (fun _ _ _ h => h) (Or.inl ⟨by rfl, fun wx hSw => ?_⟩) (by assumption) ?_
    · go_simp
      try (first | omega | (rw [IntKind.wrap_i64]; omega))
    (try simp only [Act.put, List.setIfInBounds_toArray, List.set_cons_zero, List.set_cons_succ, List.getElem_toArray, List.getElem_cons_zero, List.getElem_cons_succ])
    refine wpAnyH_take (i := 15) (oi := _) (v := .pointer (some ⟨w.heap.size + 1, 0, none⟩)) rfl (by kernel_rfl) (by kernel_rfl) (by kernel_rfl) (fun _ _ _ h => h) (Or.inl ⟨by rfl, fun wx hSw => ?_⟩) (by assumption) ?_
    · go_simp
      try (first | omega | (rw [IntKind.wrap_i64]; omega))
    (try simp only [Act.put, List.setIfInBounds_toArray, List.set_cons_zero, List.set_cons_succ, List.getElem_toArray, List.getElem_cons_zero, List.getElem_cons_succ])
    refine wpAnyH_take (i := 16) (oi := _) (v := .int .i64 qw) rfl (by kernel_rfl) (by kernel_rfl) (by kernel_rfl) (fun _ _ _ h => h) (Or.inl ⟨by rfl, fun wx hSw => ?_⟩) (by assumption) ?_
    · go_simp
      try (first | omega | (rw [IntKind.wrap_i64]; omega))
    (try simp only [Act.put, List.setIfInBounds_toArray, List.set_cons_zero, List.set_cons_succ, List.getElem_toArray, List.getElem_cons_zero, List.getElem_cons_succ])
    refine wpAnyH_take (i := 17) (oi := _) (v := .pointer (some ⟨w.heap.size + 1, 1, none⟩)) rfl (by kernel_rfl) (by kernel_rfl) (by kernel_rfl) (fun _ _ _ h => h) (Or.inl ⟨by rfl, fun wx hSw => ?_⟩) (by assumption) ?_
    · go_simp
      try (first | omega | (rw [IntKind.wrap_i64]; omega))
    (try simp only [Act.put, List.setIfInBounds_toArray, List.set_cons_zero, List.set_cons_succ, List.getElem_toArray, List.getElem_cons_zero, List.getElem_cons_succ])
    refine wpAnyH_take (i := 18) (oi := _) (v := .int .i64 qc) rfl (by kernel_rfl) (by kernel_rfl) (by kernel_rfl) (fun _ _ _ h => h) (Or.inl ⟨by rfl, fun wx hSw => ?_⟩) (by assumption) ?_
    · go_simp
      try (first | omega | (rw [IntKind.wrap_i64]; omega))
    (try simp only [Act.put, List.setIfInBounds_toArray, List.set_cons_zero, List.set_cons_succ, List.getElem_toArray, List.getElem_cons_zero, List.getElem_cons_succ])
    refine wpAnyH_take (i := 19) (oi := _) (v := .pointer (some ⟨w.heap.size + 1, 2, none⟩)) rfl (by kernel_rfl) (by kernel_rfl) (by kernel_rfl) (fun _ _ _ h => h) (Or.inl ⟨by rfl, fun wx hSw => ?_⟩) (by assumption) ?_
    · go_simp
      try (first | omega | (rw [IntKind.wrap_i64]; omega))
    (try simp only [Act.put, List.setIfInBounds_toArray, List.set_cons_zero, List.set_cons_succ, List.getElem_toArray, List.getElem_cons_zero, List.getElem_cons_succ])
    refine wpAnyH_take (i := 20) (oi := _) (v := .int .i64 qt) rfl (by kernel_rfl) (by kernel_rfl) (by kernel_rfl) (fun _ _ _ h => h) (Or.inl ⟨by rfl, fun wx hSw => ?_⟩) (by assumption) ?_
    · go_simp
      try (first | omega | (rw [IntKind.wrap_i64]; omega))
    (try simp only [Act.put, List.setIfInBounds_toArray, List.set_cons_zero, List.set_cons_succ, List.getElem_toArray, List.getElem_cons_zero, List.getElem_cons_succ])
    refine wpAnyH_ready (rs := [13]) (by kernel_rfl) (by simp) ?_
    refine AllReadyH.cons (o := _) rfl (fun K hK => ?_) AllReadyH.nil
    have Hc := Lib.hid (fits_any (HV.out.on (HD1.out)) qw qc qt)
    go_simp
    refine Hc.out.mono ?_
    rintro e v2 ⟨F1, rfl, hb, hq1⟩
    have HQ1 := Lib.hid hq1
    clear hq1
    have HD2 : Hid (Below w8.heap.size w8 v2) := Lib.hid (btrans (HD1.out) hb)
    have h72 := HFA.out v2 HD2.out
    clear hb Hc
    go_wp2_with fail
    refine hK.out _ _ (h72) (fun hHeld => ?_)
    clear hK K
    (try simp only [Act.put, List.setIfInBounds_toArray, List.set_cons_zero, List.set_cons_succ, List.getElem_toArray, List.getElem_cons_zero, List.getElem_cons_succ])
    refine wpAnyH_ready (rs := [21]) (by kernel_rfl) (by simp) ?_
    refine AllReadyH.cons (o := _) rfl (fun K hK => ?_) AllReadyH.nil
    have Hc := Lib.hid (rfits_any (HV.out.on (HD2.out)) qw qc qt)
    go_simp
    refine Hc.out.mono ?_
    rintro e v3 ⟨F2, rfl, hb, hq2⟩
    obtain rfl := fit_one HQ1.out hq2
    clear hq2
    have HD3 : Hid (Below w8.heap.size w8 v3) := Lib.hid (btrans (HD2.out) hb)
    have h73 := HFA.out v3 HD3.out
    clear hb Hc
    go_wp2_with fail
    refine hK.out _ _ (h73) (fun hHeld => ?_)
    clear hK K
    (try simp only [Act.put, List.setIfInBounds_toArray, List.set_cons_zero, List.set_cons_succ, List.getElem_toArray, List.getElem_cons_zero, List.getElem_cons_succ])
    refine wpAnyH_take (i := 22) (oi := _) (v := .bool true) rfl (by kernel_rfl) (by kernel_rfl) (by kernel_rfl) (fun _ _ _ h => h) (Or.inl ⟨by rfl, fun wx hSw => ?_⟩) (by assumption) ?_
    · go_simp
      try (first | omega | (rw [IntKind.wrap_i64]; omega))
    (try simp only [Act.put, List.setIfInBounds_toArray, List.set_cons_zero, List.set_cons_succ, List.getElem_toArray, List.getElem_cons_zero, List.getElem_cons_succ])
    refine wpAnyH_take (i := 23) (oi := _) (v := .bool true) rfl (by kernel_rfl) (by kernel_rfl) (by kernel_rfl) (fun _ _ _ h => h) (Or.inl ⟨by rfl, fun wx hSw => ?_⟩) (by assumption) ?_
    · go_simp
      try (first | omega | (rw [IntKind.wrap_i64]; omega))
    (try simp only [Act.put, List.setIfInBounds_toArray, List.set_cons_zero, List.set_cons_succ, List.getElem_toArray, List.getElem_cons_zero, List.getElem_cons_succ])
    refine wpAnyH_take (i := 24) (oi := _) (v := .bool true) rfl (by kernel_rfl) (by kernel_rfl) (by kernel_rfl) (fun _ _ _ h => h) (Or.inl ⟨by rfl, fun wx hSw => ?_⟩) (by assumption) ?_
    · go_simp
      try (first | omega | (rw [IntKind.wrap_i64]; omega))
    (try simp only [Act.put, List.setIfInBounds_toArray, List.set_cons_zero, List.set_cons_succ, List.getElem_toArray, List.getElem_cons_zero, List.getElem_cons_succ])
    refine wpAnyH_take (i := 25) (oi := _) (v := .slice aa ka ca) rfl (by kernel_rfl) (by kernel_rfl) (by kernel_rfl) (fun _ _ _ h => h) (Or.inl ⟨by rfl, fun wx hSw => ?_⟩) (by assumption) ?_
    · go_simp
      try (first | omega | (rw [IntKind.wrap_i64]; omega))
    (try simp only [Act.put, List.setIfInBounds_toArray, List.set_cons_zero, List.set_cons_succ, List.getElem_toArray, List.getElem_cons_zero, List.getElem_cons_succ])
    refine wpAnyH_take (i := 26) (oi := _) (v := .slice ab kb cb) rfl (by kernel_rfl) (by kernel_rfl) (by kernel_rfl) (fun _ _ _ h => h) (Or.inl ⟨by rfl, fun wx hSw => ?_⟩) (by assumption) ?_
    · go_simp
      try (first | omega | (rw [IntKind.wrap_i64]; omega))
    (try simp only [Act.put, List.setIfInBounds_toArray, List.set_cons_zero, List.set_cons_succ, List.getElem_toArray, List.getElem_cons_zero, List.getElem_cons_succ])
    refine wpAnyH_ready (rs := [27]) (by kernel_rfl) (by simp) ?_
    refine AllReadyH.cons (o := _) rfl (fun K hK => ?_) AllReadyH.nil
    have Hc := Lib.hid (sameS_any (HLA.out.on (HD3.out)) (HLB.out.on (HD3.out)) true (by simp))
    go_simp
    refine Hc.out.mono ?_
    rintro e v4 ⟨rfl, hb⟩
    have HD4 : Hid (Below w8.heap.size w8 v4) := Lib.hid (btrans (HD3.out) hb)
    have h74 := HFA.out v4 HD4.out
    clear hb Hc
    go_wp2_with fail
    refine hK.out _ _ (h74) (fun hHeld => ?_)
    clear hK K
    (try simp only [Act.put, List.setIfInBounds_toArray, List.set_cons_zero, List.set_cons_succ, List.getElem_toArray, List.getElem_cons_zero, List.getElem_cons_succ])
    refine wpAnyH_take (i := 28) (oi := _) (v := .bool true) rfl (by kernel_rfl) (by kernel_rfl) (by kernel_rfl) (fun _ _ _ h => h) (Or.inl ⟨by rfl, fun wx hSw => ?_⟩) (by assumption) ?_
    · go_simp
      try (first | omega | (rw [IntKind.wrap_i64]; omega))
    (try simp only [Act.put, List.setIfInBounds_toArray, List.set_cons_zero, List.set_cons_succ, List.getElem_toArray, List.getElem_cons_zero, List.getElem_cons_succ])
    refine wpAnyH_take (i := 29) (oi := _) (v := .bool true) rfl (by kernel_rfl) (by kernel_rfl) (by kernel_rfl) (fun _ _ _ h => h) (Or.inl ⟨by rfl, fun wx hSw => ?_⟩) (by assumption) ?_
    · go_simp
      try (first | omega | (rw [IntKind.wrap_i64]; omega))
    (try simp only [Act.put, List.setIfInBounds_toArray, List.set_cons_zero, List.set_cons_succ, List.getElem_toArray, List.getElem_cons_zero, List.getElem_cons_succ])
    refine wpAnyH_take (i := 30) (oi := _) (v := .int .i64 E1) rfl (by kernel_rfl) (by kernel_rfl) (by kernel_rfl) (fun _ _ _ h => h) (Or.inl ⟨by rfl, fun wx hSw => ?_⟩) (by assumption) ?_
    · go_simp
      try (first | omega | (rw [IntKind.wrap_i64]; omega))
    (try simp only [Act.put, List.setIfInBounds_toArray, List.set_cons_zero, List.set_cons_succ, List.getElem_toArray, List.getElem_cons_zero, List.getElem_cons_succ])
    refine wpAnyH_take (i := 31) (oi := _) (v := .int .i64 E1) rfl (by kernel_rfl) (by kernel_rfl) (by kernel_rfl) (fun _ _ _ h => h) (Or.inl ⟨by rfl, fun wx hSw => ?_⟩) (by assumption) ?_
    · go_simp
      try (first | omega | (rw [IntKind.wrap_i64]; omega))
    (try simp only [Act.put, List.setIfInBounds_toArray, List.set_cons_zero, List.set_cons_succ, List.getElem_toArray, List.getElem_cons_zero, List.getElem_cons_succ])
    refine wpAnyH_take (i := 32) (oi := _) (v := .bool true) rfl (by kernel_rfl) (by kernel_rfl) (by kernel_rfl) (fun _ _ _ h => h) (Or.inl ⟨by rfl, fun wx hSw => ?_⟩) (by assumption) ?_
    · go_simp
      try (first | omega | (rw [IntKind.wrap_i64]; omega))
    (try simp only [Act.put, List.setIfInBounds_toArray, List.set_cons_zero, List.set_cons_succ, List.getElem_toArray, List.getElem_cons_zero, List.getElem_cons_succ])
    refine wpAnyH_take (i := 33) (oi := _) (v := .bool true) rfl (by kernel_rfl) (by kernel_rfl) (by kernel_rfl) (fun _ _ _ h => h) (Or.inl ⟨by rfl, fun wx hSw => ?_⟩) (by assumption) ?_
    · go_simp
      try (first | omega | (rw [IntKind.wrap_i64]; omega))
    (try simp only [Act.put, List.setIfInBounds_toArray, List.set_cons_zero, List.set_cons_succ, List.getElem_toArray, List.getElem_cons_zero, List.getElem_cons_succ])
    refine wpAnyH_take (i := 34) (oi := _) (v := .bool true) rfl (by kernel_rfl) (by kernel_rfl) (by kernel_rfl) (fun _ _ _ h => h) (Or.inl ⟨by rfl, fun wx hSw => ?_⟩) (by assumption) ?_
    · go_simp
      try (first | omega | (rw [IntKind.wrap_i64]; omega))
    (try simp only [Act.put, List.setIfInBounds_toArray, List.set_cons_zero, List.set_cons_succ, List.getElem_toArray, List.getElem_cons_zero, List.getElem_cons_succ])
    refine wpAnyH_take (i := 35) (oi := _) (v := .int .i64 A) rfl (by kernel_rfl) (by kernel_rfl) (by kernel_rfl) (fun _ _ _ h => h) (Or.inl ⟨by rfl, fun wx hSw => ?_⟩) (by assumption) ?_
    · go_simp
      try (first | omega | (rw [IntKind.wrap_i64]; omega))
    (try simp only [Act.put, List.setIfInBounds_toArray, List.set_cons_zero, List.set_cons_succ, List.getElem_toArray, List.getElem_cons_zero, List.getElem_cons_succ])
    refine wpAnyH_take (i := 36) (oi := _) (v := .int .i64 A) rfl (by kernel_rfl) (by kernel_rfl) (by kernel_rfl) (fun _ _ _ h => h) (Or.inl ⟨by rfl, fun wx hSw => ?_⟩) (by assumption) ?_
    · go_simp
      try (first | omega | (rw [IntKind.wrap_i64]; omega))
    (try simp only [Act.put, List.setIfInBounds_toArray, List.set_cons_zero, List.set_cons_succ, List.getElem_toArray, List.getElem_cons_zero, List.getElem_cons_succ])
    refine wpAnyH_take (i := 37) (oi := _) (v := .bool true) rfl (by kernel_rfl) (by kernel_rfl) (by kernel_rfl) (fun _ _ _ h => h) (Or.inl ⟨by rfl, fun wx hSw => ?_⟩) (by assumption) ?_
    · go_simp
      try (first | omega | (rw [IntKind.wrap_i64]; omega))
    (try simp only [Act.put, List.setIfInBounds_toArray, List.set_cons_zero, List.set_cons_succ, List.getElem_toArray, List.getElem_cons_zero, List.getElem_cons_succ])
    refine wpAnyH_take (i := 38) (oi := _) (v := .bool true) rfl (by kernel_rfl) (by kernel_rfl) (by kernel_rfl) (fun _ _ _ h => h) (Or.inl ⟨by rfl, fun wx hSw => ?_⟩) (by assumption) ?_
    · go_simp
      try (first | omega | (rw [IntKind.wrap_i64]; omega))
    (try simp only [Act.put, List.setIfInBounds_toArray, List.set_cons_zero, List.set_cons_succ, List.getElem_toArray, List.getElem_cons_zero, List.getElem_cons_succ])
    refine wpAnyH_take (i := 39) (oi := _) (v := .bool true) rfl (by kernel_rfl) (by kernel_rfl) (by kernel_rfl) (fun _ _ _ h => h) (Or.inl ⟨by rfl, fun wx hSw => ?_⟩) (by assumption) ?_
    · go_simp
      try (first | omega | (rw [IntKind.wrap_i64]; omega))
    (try simp only [Act.put, List.setIfInBounds_toArray, List.set_cons_zero, List.set_cons_succ, List.getElem_toArray, List.getElem_cons_zero, List.getElem_cons_succ])
    refine wpAnyH_take (i := 40) (oi := _) (v := .int .i64 E3) rfl (by kernel_rfl) (by kernel_rfl) (by kernel_rfl) (fun _ _ _ h => h) (Or.inl ⟨by rfl, fun wx hSw => ?_⟩) (by assumption) ?_
    · go_simp
      try (first | omega | (rw [IntKind.wrap_i64]; omega))
    (try simp only [Act.put, List.setIfInBounds_toArray, List.set_cons_zero, List.set_cons_succ, List.getElem_toArray, List.getElem_cons_zero, List.getElem_cons_succ])
    refine wpAnyH_take (i := 41) (oi := _) (v := .int .i64 E3) rfl (by kernel_rfl) (by kernel_rfl) (by kernel_rfl) (fun _ _ _ h => h) (Or.inl ⟨by rfl, fun wx hSw => ?_⟩) (by assumption) ?_
    · go_simp
      try (first | omega | (rw [IntKind.wrap_i64]; omega))
    (try simp only [Act.put, List.setIfInBounds_toArray, List.set_cons_zero, List.set_cons_succ, List.getElem_toArray, List.getElem_cons_zero, List.getElem_cons_succ])
    refine wpAnyH_take (i := 42) (oi := _) (v := .bool true) rfl (by kernel_rfl) (by kernel_rfl) (by kernel_rfl) (fun _ _ _ h => h) (Or.inl ⟨by rfl, fun wx hSw => ?_⟩) (by assumption) ?_
    · go_simp
      try (first | omega | (rw [IntKind.wrap_i64]; omega))
    (try simp only [Act.put, List.setIfInBounds_toArray, List.set_cons_zero, List.set_cons_succ, List.getElem_toArray, List.getElem_cons_zero, List.getElem_cons_succ])
    refine wpAnyH_take (i := 43) (oi := _) (v := .bool true) rfl (by kernel_rfl) (by kernel_rfl) (by kernel_rfl) (fun _ _ _ h => h) (Or.inl ⟨by rfl, fun wx hSw => ?_⟩) (by assumption) ?_
    · go_simp
      try (first | omega | (rw [IntKind.wrap_i64]; omega))
    (try simp only [Act.put, List.setIfInBounds_toArray, List.set_cons_zero, List.set_cons_succ, List.getElem_toArray, List.getElem_cons_zero, List.getElem_cons_succ])
    refine wpAnyH_take (i := 44) (oi := _) (v := .bool true) rfl (by kernel_rfl) (by kernel_rfl) (by kernel_rfl) (fun _ _ _ h => h) (Or.inl ⟨by rfl, fun wx hSw => ?_⟩) (by assumption) ?_
    · go_simp
      try (first | omega | (rw [IntKind.wrap_i64]; omega))
    (try simp only [Act.put, List.setIfInBounds_toArray, List.set_cons_zero, List.set_cons_succ, List.getElem_toArray, List.getElem_cons_zero, List.getElem_cons_succ])
    refine wpAnyH_take (i := 45) (oi := _) (v := .int .i64 X) rfl (by kernel_rfl) (by kernel_rfl) (by kernel_rfl) (fun _ _ _ h => h) (Or.inl ⟨by rfl, fun wx hSw => ?_⟩) (by assumption) ?_
    · go_simp
      try (first | omega | (rw [IntKind.wrap_i64]; omega))
    (try simp only [Act.put, List.setIfInBounds_toArray, List.set_cons_zero, List.set_cons_succ, List.getElem_toArray, List.getElem_cons_zero, List.getElem_cons_succ])
    refine wpAnyH_take (i := 46) (oi := _) (v := .int .i64 X) rfl (by kernel_rfl) (by kernel_rfl) (by kernel_rfl) (fun _ _ _ h => h) (Or.inl ⟨by rfl, fun wx hSw => ?_⟩) (by assumption) ?_
    · go_simp
      try (first | omega | (rw [IntKind.wrap_i64]; omega))
    (try simp only [Act.put, List.setIfInBounds_toArray, List.set_cons_zero, List.set_cons_succ, List.getElem_toArray, List.getElem_cons_zero, List.getElem_cons_succ])
    refine wpAnyH_take (i := 47) (oi := _) (v := .bool true) rfl (by kernel_rfl) (by kernel_rfl) (by kernel_rfl) (fun _ _ _ h => h) (Or.inl ⟨by rfl, fun wx hSw => ?_⟩) (by assumption) ?_
    · go_simp
      try (first | omega | (rw [IntKind.wrap_i64]; omega))
    (try simp only [Act.put, List.setIfInBounds_toArray, List.set_cons_zero, List.set_cons_succ, List.getElem_toArray, List.getElem_cons_zero, List.getElem_cons_succ])
    refine wpAnyH_take (i := 48) (oi := _) (v := .bool true) rfl (by kernel_rfl) (by kernel_rfl) (by kernel_rfl) (fun _ _ _ h => h) (Or.inl ⟨by rfl, fun wx hSw => ?_⟩) (by assumption) ?_
    · go_simp
      try (first | omega | (rw [IntKind.wrap_i64]; omega))
    (try simp only [Act.put, List.setIfInBounds_toArray, List.set_cons_zero, List.set_cons_succ, List.getElem_toArray, List.getElem_cons_zero, List.getElem_cons_succ])
    refine wpAnyH_take (i := 49) (oi := _) (v := .bool true) rfl (by kernel_rfl) (by kernel_rfl) (by kernel_rfl) (fun _ _ _ h => h) (Or.inl ⟨by rfl, fun wx hSw => ?_⟩) (by assumption) ?_
    · go_simp
      try (first | omega | (rw [IntKind.wrap_i64]; omega))
    (try simp only [Act.put, List.setIfInBounds_toArray, List.set_cons_zero, List.set_cons_succ, List.getElem_toArray, List.getElem_cons_zero, List.getElem_cons_succ])
    refine wpAnyH_take (i := 50) (oi := _) (v := .int .i64 E5) rfl (by kernel_rfl) (by kernel_rfl) (by kernel_rfl) (fun _ _ _ h => h) (Or.inl ⟨by rfl, fun wx hSw => ?_⟩) (by assumption) ?_
    · go_simp
      try (first | omega | (rw [IntKind.wrap_i64]; omega))
    (try simp only [Act.put, List.setIfInBounds_toArray, List.set_cons_zero, List.set_cons_succ, List.getElem_toArray, List.getElem_cons_zero, List.getElem_cons_succ])
    refine wpAnyH_take (i := 51) (oi := _) (v := .int .i64 E5) rfl (by kernel_rfl) (by kernel_rfl) (by kernel_rfl) (fun _ _ _ h => h) (Or.inl ⟨by rfl, fun wx hSw => ?_⟩) (by assumption) ?_
    · go_simp
      try (first | omega | (rw [IntKind.wrap_i64]; omega))
    (try simp only [Act.put, List.setIfInBounds_toArray, List.set_cons_zero, List.set_cons_succ, List.getElem_toArray, List.getElem_cons_zero, List.getElem_cons_succ])
    refine wpAnyH_take (i := 52) (oi := _) (v := .bool true) rfl (by kernel_rfl) (by kernel_rfl) (by kernel_rfl) (fun _ _ _ h => h) (Or.inl ⟨by rfl, fun wx hSw => ?_⟩) (by assumption) ?_
    · go_simp
      try (first | omega | (rw [IntKind.wrap_i64]; omega))
    (try simp only [Act.put, List.setIfInBounds_toArray, List.set_cons_zero, List.set_cons_succ, List.getElem_toArray, List.getElem_cons_zero, List.getElem_cons_succ])
    refine wpAnyH_take (i := 53) (oi := _) (v := .bool true) rfl (by kernel_rfl) (by kernel_rfl) (by kernel_rfl) (fun _ _ _ h => h) (Or.inl ⟨by rfl, fun wx hSw => ?_⟩) (by assumption) ?_
    · go_simp
      try (first | omega | (rw [IntKind.wrap_i64]; omega))
    (try simp only [Act.put, List.setIfInBounds_toArray, List.set_cons_zero, List.set_cons_succ, List.getElem_toArray, List.getElem_cons_zero, List.getElem_cons_succ])
    refine wpAnyH_take (i := 54) (oi := _) (v := .bool true) rfl (by kernel_rfl) (by kernel_rfl) (by kernel_rfl) (fun _ _ _ h => h) (Or.inl ⟨by rfl, fun wx hSw => ?_⟩) (by assumption) ?_
    · go_simp
      try (first | omega | (rw [IntKind.wrap_i64]; omega))
    (try simp only [Act.put, List.setIfInBounds_toArray, List.set_cons_zero, List.set_cons_succ, List.getElem_toArray, List.getElem_cons_zero, List.getElem_cons_succ])
    refine wpAnyH_done (by kernel_rfl) ?_ _
    clear hHeld
    have HZ := Lib.hid (btrans HB.out HD4.out)
    clear h7s h70 h71 h72 h73 h74
    go_wp2
    go_ret
    exact ⟨rfl, HZ.out⟩

set_option maxRecDepth 100000 in
theorem lifted (os : Os) (started : os.Started) (H : Type) (enc : TypeId × Value → H) :
    ReturnsInHanded {} Try.checked os 3 .any (Rows.fleetMatchesSpec.pre6 enc Try.prog Try.f3 Rows.fleetMatchesRow.domain false) (Rows.fleetMatchesSpec.post enc Try.prog Try.f3 false true false false) := by
  refine returnsInHanded_of_change_sized (C := Try.checked) own started (by kernel_rfl) Try.func3
    (ChangeSpec.witness6 (enc := enc) (C := Try.checked) false ⟨#[], #[.agg #[.slice none 0 0, .slice none 0 0, .slice none 0 0, .slice none 0 0], .agg #[.int .i64 0, .int .i64 0, .int .i64 0, .int .i64 0, .int .i64 0, .int .i64 0]], []⟩ 8 (by kernel_rfl) (by kernel_rfl) (by kernel_rfl) (by kernel_rfl)) ?_
  intro W base args ds gs before hval0 hW _ hsz0 _
  have hsz : (DataW.weightsEach Try.prog (Try.f3.params.toList ++ Rows.fleetMatchesSpec.plain.varTypes Try.prog) (ds ++ gs)).all (· ≤ reachBytes) = true := hsz0
  have hval : ∀ (j : Nat) t v, Try.f3.params[j]? = some t → args[j]? = some v → Value.okWide Try.prog W .any base t v := hval0
  clear hsz0 hval0
  have hW' := hW
  obtain ⟨p, q, hA0, hV, rfl, _, _⟩ := hW
  have hA : DataW.TrodAll enc Try.prog W 0 (fun _ => true) true Try.f3.params.toList args.toList ds p := hA0
  rw [Try.params3] at hA hval hsz
  obtain ⟨v0, vs0, d0, ds0, p0, q0, hargs, rfl, rfl, h0, r0⟩ := trodAll_cons hA
  obtain ⟨v1, vs1, d1, ds1, p1, q1, rfl, rfl, rfl, h1, r1⟩ := trodAll_cons r0
  obtain ⟨rfl, rfl, rfl⟩ := trodAll_nil r1
  obtain rfl : args = #[v0, v1] := by cases args; simp_all
  obtain ⟨rfl, rfl⟩ := trodVars_none hV
  have hw0 : ∀ n ∈ d0.weights Try.prog 27, n ≤ reachBytes := by
    intro n hn
    have := List.all_eq_true.1 hsz n (DataW.weights_mem_each (t := 27) (d := d0) (j := 0) rfl rfl n hn)
    simpa using this
  obtain ⟨ts0, ws0, ss0, hs0, hn0⟩ := openFl (hval 0 27 v0 rfl rfl) h0 hw0
  obtain ⟨q1, rfl⟩ := openQu (hval 1 29 v1 rfl rfl) h1
  clear hA0
  refine (walk v0 ts0 ws0 ss0 hs0 q1 W hn0).mono fun e W' ⟨he, hb⟩ => ?_
  subst he
  refine ⟨_, rfl, post_law laidOut ?_ rfl rfl hW' rfl rfl rfl hb⟩
  intro t ht
  rw [Try.params3] at ht
  have hm : t ∈ [27, 29] := (by decide : ∀ t ∈ (#[27, 29] : Array TypeId).toList, t ∈ [27, 29]) t ht
  have hall : ([27, 29].all fun u => Try.prog.readableRec u && decide (u < Try.prog.types.size)) = true := by kernel_rfl
  have := List.all_eq_true.1 hall t hm
  simpa using this

theorem over : Rows.fleetMatchesRow.holds Try.pinned (OpenSpec.ofChange Rows.fleetMatchesSpec) :=
  OpenClaim.holds_of_wide 3 Try.f3 rfl rfl rfl rfl rfl rfl rfl ⟨rfl, rfl, rfl, rfl, rfl⟩ rfl rfl rfl rfl rfl (by kernel_rfl) Try.func3 (by kernel_rfl)
    (of_decide_eq_true (by kernel_rfl)) (by unfold Func.isWrapper; first | (rw [if_pos (by decide +kernel)]; kernel_rfl) | (rw [if_neg (by decide +kernel)]; exact ⟨rfl, rfl⟩))
    (fun os started H enc _ => lifted os started H enc)

/-- THE STATEMENT. -/
theorem proved : Rows.FleetMatchesSaid :=
  over
#print axioms proved
end Go.Proofs.Ytijdjbkmkopmnaa.fleetMatches
