/-
  Walks: the reference's CheckPool.
-/
import Derived.Test.YtijdjbkmkopmnaaHg
import Derived.Test.YtijdjbkmkopmnaaHh
import Derived.Test.YtijdjbkmkopmnaaOb
import Derived.Test.YtijdjbkmkopmnaaRc
namespace Go.Proofs.Ytijdjbkmkopmnaa
open Go.RowKit
set_option linter.unusedVariables false
set_option linter.unusedSimpArgs false

theorem all_same {α : Type} : ∀ {l : List α} {p q : α → Bool}, (∀ x ∈ l, p x = q x) → l.all p = l.all q
  | [], _, _, _ => rfl
  | x :: l, p, q, h => by rw [List.all_cons, List.all_cons, h x List.mem_cons_self, all_same fun y hy => h y (List.mem_cons_of_mem _ hy)]
theorem fst0_in {a b c d e f : Bool} : fst0 [if a then 0 else 1, if b then 0 else 1, if c then 0 else 1, if d then 0 else 1, if e then 0 else 1, if f then 0 else 1] = if (b && (c && d)) && ((e && f) && a) then 0 else 1 := by
  cases a <;> cases b <;> cases c <;> cases d <;> cases e <;> cases f <;> rfl
/-- CheckPool where the network and the fleet are valid and the lists are not too long. -/
theorem ckp_in {P : Pool} (h0 : Net.chk (P.ps.map PlC.p) (P.es.map EdC.e) = 0) (h1 : chk P.ts P.ws P.ss P.hs = 0) (h2 : P.rs.length ≤ 256) (h3 : P.sh.length ≤ 256) (h4 : P.rl.length ≤ 16) :
    ckp P = if (endB P.ps.length P.ps P.rs P.sh P.ws && (roadB P.rl.length P.ps P.es && P.rl.all rwOk)) && decide (0 < P.rl.length) then 0 else 1 := by
  have hw : ∀ x ∈ P.ws, 0 ≤ x.ho := by
    intro x hx
    by_cases q : P.ts.length > 32 ∨ P.ws.length > 4096 ∨ P.ss.length > 1024 ∨ P.hs.length > 4096
    · rw [chk_out q] at h1; cases h1
    · rw [chk_in (by omega) (by omega) (by omega) (by omega)] at h1
      split at h1
      · rename_i h
        simp only [Bool.and_eq_true] at h
        have := List.all_eq_true.1 h.2.1 x hx
        unfold wOk at this
        simp only [Bool.and_eq_true, rng_iff] at this
        omega
      · cases h1
  have hn : P.ps.all (fun x => Net.pOk x.p) = true ∧ P.es.all (fun x => Net.eOk P.ps.length x.e) = true := by
    by_cases q : (P.ps.map PlC.p).length ≤ 512 ∧ (P.es.map EdC.e).length ≤ 2048
    · rw [Net.chk_in q] at h0
      split at h0
      · rename_i h
        simp only [Bool.and_eq_true, List.all_map, List.length_map] at h
        exact h
      · cases h0
    · rw [Net.chk_big q] at h0; cases h0
  have hp : ∀ x ∈ P.ps, 0 ≤ x.r ∧ (x.k = 3 → 0 ≤ x.o) ∧ (x.k ≠ 3 → x.o = -1) := by
    intro x hx
    have := List.all_eq_true.1 hn.1 x hx
    unfold Net.pOk at this
    simp only [Bool.and_eq_true] at this
    have h2 : (if x.k = 3 then Net.rng 0 x.o 15 && decide (x.o ≠ x.r) else decide (x.o = -1)) = true := this.2
    refine ⟨(Net.rng_iff.1 this.1.2).1, fun h => ?_, fun h => ?_⟩
    · rw [if_pos h] at h2
      simp only [Bool.and_eq_true] at h2
      exact (Net.rng_iff.1 h2.1).1
    · rw [if_neg h] at h2
      exact of_decide_eq_true h2
  have he : ∀ x ∈ P.es, 0 ≤ x.r := by
    intro x hx
    have := List.all_eq_true.1 hn.2 x hx
    unfold Net.eOk at this
    simp only [Bool.and_eq_true, Net.rng_iff, EdC.e] at this
    omega
  unfold ckp
  rw [h0, h1, decide_eq_true (show (P.rs.length : Int) ≤ 256 by omega), decide_eq_true (show (P.sh.length : Int) ≤ 256 by omega), decide_eq_true (show (P.rl.length : Int) ≤ 16 by omega)]
  by_cases hz : 0 < P.rl.length
  · rw [decide_eq_true (show (P.rl.length : Int) > 0 by omega), decide_eq_true hz, Bool.and_true]
    have e1 : P.ws.all (fun x => rng 0 x.ho ((P.ps.length : Int) - 1)) = P.ws.all (fun x => decide (x.ho < (P.ps.length : Int))) := all_same fun x hx => by
      have := hw x hx
      by_cases q : x.ho < (P.ps.length : Int)
      · rw [decide_eq_true q]; exact rng_true (by omega)
      · rw [decide_eq_false q]; exact rng_false (by omega)
    have e2 : P.ps.all (plOk P.rl.length) = P.ps.all (fun x => decide (x.r < (P.rl.length : Int)) && decide (x.o < (P.rl.length : Int))) := all_same fun x hx => by
      obtain ⟨k1, k2, k3⟩ := hp x hx
      unfold plOk
      by_cases q1 : x.r < (P.rl.length : Int)
      · rw [decide_eq_true q1, rng_true (show (0 : Int) ≤ x.r ∧ x.r ≤ (P.rl.length : Int) - 1 by omega)]
        by_cases q3 : x.k = 3
        · have := k2 q3
          by_cases q2 : x.o < (P.rl.length : Int)
          · rw [decide_eq_true q2, rng_true (show (0 : Int) ≤ x.o ∧ x.o ≤ (P.rl.length : Int) - 1 by omega)]; simp
          · rw [decide_eq_false q2, rng_false (show ¬ ((0 : Int) ≤ x.o ∧ x.o ≤ (P.rl.length : Int) - 1) by omega), decide_eq_false (show ¬ x.k ≠ 3 by omega)]; rfl
        · have := k3 q3
          rw [decide_eq_true (show x.o < (P.rl.length : Int) by omega), decide_eq_true q3]; rfl
      · rw [decide_eq_false q1, rng_false (show ¬ ((0 : Int) ≤ x.r ∧ x.r ≤ (P.rl.length : Int) - 1) by omega)]; rfl
    have e3 : P.es.all (fun x => rng 0 x.r ((P.rl.length : Int) - 1)) = P.es.all (fun x => decide (x.r < (P.rl.length : Int))) := all_same fun x hx => by
      have := he x hx
      by_cases q : x.r < (P.rl.length : Int)
      · rw [decide_eq_true q]; exact rng_true (by omega)
      · rw [decide_eq_false q]; exact rng_false (by omega)
    rw [e1, e2, e3]
    exact fst0_in
  · rw [decide_eq_false (show ¬ (P.rl.length : Int) > 0 by omega), decide_eq_false hz, Bool.and_false]
    rfl
theorem ckp_net {P : Pool} (h0 : Net.chk (P.ps.map PlC.p) (P.es.map EdC.e) ≠ 0) : ckp P = Net.chk (P.ps.map PlC.p) (P.es.map EdC.e) := by
  unfold ckp; exact if_neg h0
theorem ckp_fleet {P : Pool} (h0 : Net.chk (P.ps.map PlC.p) (P.es.map EdC.e) = 0) (h1 : chk P.ts P.ws P.ss P.hs ≠ 0) : ckp P = chk P.ts P.ws P.ss P.hs := by
  unfold ckp; rw [h0]; exact if_neg h1
theorem ckp_big {P : Pool} (h0 : Net.chk (P.ps.map PlC.p) (P.es.map EdC.e) = 0) (h1 : chk P.ts P.ws P.ss P.hs = 0) (h : P.rs.length > 256 ∨ P.sh.length > 256 ∨ P.rl.length > 16) : ckp P = 2 := by
  unfold ckp
  rw [h0, h1]
  by_cases a : P.rs.length ≤ 256
  · rw [decide_eq_true (show (P.rs.length : Int) ≤ 256 by omega)]
    by_cases b : P.sh.length ≤ 256
    · rw [decide_eq_true (show (P.sh.length : Int) ≤ 256 by omega), decide_eq_false (show ¬ (P.rl.length : Int) ≤ 16 by omega)]; rfl
    · rw [decide_eq_false (show ¬ (P.sh.length : Int) ≤ 256 by omega)]; rfl
  · rw [decide_eq_false (show ¬ (P.rs.length : Int) ≤ 256 by omega)]; rfl

theorem rw_rng {w : World} {g off : Nat} {x : RwC} (h : w.rangeAt g off x.cs) : w.rangeAt g (off + 1) x.cal := by
  intro j v hv
  have h1 := h (j + 1) v (by show (x.cs.tail)[j]? = some v; exact hv)
  rw [show off + 1 + j = off + (j + 1) by omega]
  exact h1
set_option maxRecDepth 100000 in
set_option maxHeartbeats 8000000 in
theorem rckp_any {V : Value} {P : Pool} {w : World} (hf : Pol w V P) (R : Int) (hR : R = ckp P) : Calls Try.prog 24 #[V] w fun e w' => e = .returned (.int .i64 R) ∧ Below w.heap.size w w' := by
  obtain ⟨a0, a1, a2, a3, a4, a5, a6, a7, a8, c0, c1, c2, c3, c4, c5, c6, c7, c8, rfl, G⟩ := hf.shape
  have HI0 := Lib.hid (fun h0 h1 h2 h3 h4 => hR.trans (ckp_in (P := P) h0 h1 h2 h3 h4)); have HI1 := Lib.hid (fun h0 => hR.trans (ckp_net (P := P) h0)); have HI2 := Lib.hid (fun h0 h1 => hR.trans (ckp_fleet (P := P) h0 h1)); have HI3 := Lib.hid (fun h0 h1 h => hR.trans (ckp_big (P := P) h0 h1 h))
  obtain ⟨ps, es, ts, ws, ss, hs, rs, sh, rl⟩ := P
  have g0 := G.fp; have g1 := G.fe; have g2 := G.ft; have g3 := G.fw; have g4 := G.fs; have g5 := G.fh; have g6 := G.fr; have g7 := G.fsh; have g8 := G.frl; have g9 := G.fhl
  dsimp only at HI0 HI1 HI2 HI3 g0 g1 g2 g3 g4 g5 g6 g7 g8 g9 ⊢
  clear hf G hR
  have l0 := g0.1; have l8 := g8.1; have l6 := g6.1; have l7 := g7.1
  obtain ⟨n0, e0⟩ : ∃ n, n = ps.length := ⟨_, rfl⟩
  obtain ⟨n1, e1⟩ : ∃ n, n = es.length := ⟨_, rfl⟩
  obtain ⟨n2, e2⟩ : ∃ n, n = ts.length := ⟨_, rfl⟩
  obtain ⟨n3, e3⟩ : ∃ n, n = ws.length := ⟨_, rfl⟩
  obtain ⟨n4, e4⟩ : ∃ n, n = ss.length := ⟨_, rfl⟩
  obtain ⟨n5, e5⟩ : ∃ n, n = hs.length := ⟨_, rfl⟩
  obtain ⟨n6, e6⟩ : ∃ n, n = rs.length := ⟨_, rfl⟩
  obtain ⟨n7, e7⟩ : ∃ n, n = sh.length := ⟨_, rfl⟩
  obtain ⟨n8, e8⟩ : ∃ n, n = rl.length := ⟨_, rfl⟩
  obtain ⟨R0, hR0⟩ : ∃ z, z = Net.chk (ps.map PlC.p) (es.map EdC.e) := ⟨_, rfl⟩
  obtain ⟨R1, hR1⟩ : ∃ z, z = chk ts ws ss hs := ⟨_, rfl⟩
  obtain ⟨EB, hEB⟩ : ∃ z, z = endB n0 ps rs sh ws := ⟨_, rfl⟩
  obtain ⟨RB, hRB⟩ : ∃ z, z = roadB n8 ps es := ⟨_, rfl⟩
  rw [← e0, ← e6, ← e7, ← e8, ← hR0, ← hR1, ← hEB, ← hRB] at HI0
  rw [← hR0] at HI1
  rw [← hR0, ← hR1] at HI2
  rw [← e6, ← e7, ← e8, ← hR0, ← hR1] at HI3
  rw [← e0] at g0
  rw [← e1] at g1
  rw [← e2] at g2
  rw [← e3] at g3
  rw [← e4] at g4
  rw [← e5] at g5
  rw [← e6] at g6
  rw [← e7] at g7
  rw [← e8] at g8
  rw [← e0] at l0; rw [← e8] at l8; rw [← e6] at l6; rw [← e7] at l7
  rw [← e0, ← e1, ← e2, ← e3, ← e4, ← e5, ← e6, ← e7, ← e8]
  obtain ⟨W, hW⟩ : ∃ W, W = w.alloc (.cells #[.slice a0 n0 c0, .slice a1 n1 c1, .slice a2 n2 c2, .slice a3 n3 c3, .slice a4 n4 c4, .slice a5 n5 c5, .slice a6 n6 c6, .slice a7 n7 c7, .slice a8 n8 c8] 49) := ⟨_, rfl⟩
  have hB : Below w.heap.size w W := by rw [hW]; exact ball (Below.refl w.heap.size w) _
  have hr : W.heap[w.heap.size]? = some (.cells #[.slice a0 n0 c0, .slice a1 n1 c1, .slice a2 n2 c2, .slice a3 n3 c3, .slice a4 n4 c4, .slice a5 n5 c5, .slice a6 n6 c6, .slice a7 n7 c7, .slice a8 n8 c8] 49 (0, 0)) := by rw [hW]; exact bnew _ _
  have HW := Lib.hid hW; have HB := Lib.hid hB; have HX := Lib.hid hr; have HR0 := Lib.hid hR0; have HR1 := Lib.hid hR1; have HEB := Lib.hid hEB; have HRB := Lib.hid hRB
  have E0 := Lib.hid e0; have G0 := Lib.hid (g0.on hB)
  have E1 := Lib.hid e1; have G1 := Lib.hid (g1.on hB)
  have E2 := Lib.hid e2; have G2 := Lib.hid (g2.on hB)
  have E3 := Lib.hid e3; have G3 := Lib.hid (g3.on hB)
  have E4 := Lib.hid e4; have G4 := Lib.hid (g4.on hB)
  have E5 := Lib.hid e5; have G5 := Lib.hid (g5.on hB)
  have E6 := Lib.hid e6; have G6 := Lib.hid (g6.on hB)
  have E7 := Lib.hid e7; have G7 := Lib.hid (g7.on hB)
  have E8 := Lib.hid e8; have G8 := Lib.hid (g8.on hB)
  have G9 := Lib.hid (fun x hx => hl_on (g9 x hx) hB)
  obtain ⟨b0, b1, b2, b3, b4, b5, b6, b7, b8⟩ := box9 hr
  clear hW hB hr hR0 hR1 hEB hRB e0 g0 e1 g1 e2 g2 e3 g3 e4 g4 e5 g5 e6 g6 e7 g7 e8 g8 g9
  have HC0 := Lib.hid (Net.rcheck_any (w := W) ⟨_, _, rfl, pls_net G0.out, eds_net G1.out⟩ R0 HR0.out)
  by_cases q0 : R0 = 0
  rotate_left
  · have hx : (R0 != 0) = true := by simpa using q0
    obtain rfl : R = R0 := HI1.out q0
    clear q0
    go_enter Try.func24, Try.ntmps24
    go_upto_region 1 with (fail)
    rw [← HW.out]
    clear HW
    go_wp2_with fail
    refine HC0.out.mono ?_
    rintro e v0 ⟨rfl, hb⟩
    have HD0 := Lib.hid hb
    clear hb b0 b1 b2 b3 b4 b5 b6 b7 b8
    obtain ⟨b0, b1, b2, b3, b4, b5, b6, b7, b8⟩ := box9 (bon HX.out HD0.out)
    go_wp2
    go_ret
    exact ⟨rfl, btrans HB.out HD0.out⟩
  have HQ0 := Lib.hid q0
  have hx0 : ((0 : Int) != 0) = false := rfl
  obtain rfl : R0 = 0 := q0
  go_enter Try.func24, Try.ntmps24
  go_upto_region 1 with (fail)
  rw [← HW.out]
  clear HW
  go_wp2_with fail
  refine HC0.out.mono ?_
  rintro e v0 ⟨rfl, hb⟩
  have HD0 := Lib.hid hb
  clear hb b0 b1 b2 b3 b4 b5 b6 b7 b8
  obtain ⟨b0, b1, b2, b3, b4, b5, b6, b7, b8⟩ := box9 (bon HX.out HD0.out)
  have HC1 := Lib.hid (rcheck_any (w := v0) ⟨_, _, _, _, rfl, G2.out.on HD0.out, G3.out.on HD0.out, G4.out.on HD0.out, G5.out.on HD0.out⟩ R1 HR1.out)
  go_wp2_with fail
  refine HC1.out.mono ?_
  rintro e v1 ⟨rfl, hb⟩
  have HD1 := Lib.hid (btrans HD0.out hb)
  clear hb b0 b1 b2 b3 b4 b5 b6 b7 b8
  obtain ⟨b0, b1, b2, b3, b4, b5, b6, b7, b8⟩ := box9 (bon HX.out HD1.out)
  by_cases q1 : R1 = 0
  rotate_left
  · have hx : (R1 != 0) = true := by simpa using q1
    obtain rfl : R = R1 := HI2.out (by trivial) q1
    clear q1
    go_wp2
    go_ret
    exact ⟨rfl, btrans HB.out HD1.out⟩
  obtain rfl : R1 = 0 := q1
  by_cases qn6 : n6 > 256
  · have dn6 : decide ((n6 : Int) > 256) = true := decide_eq_true (by omega)
    have fn6 : decide (256 < n6) = true := decide_eq_true (by omega)
    obtain rfl : R = 2 := HI3.out (by trivial) (by trivial) (Or.inl (by omega))
    go_wp2
    go_ret
    exact ⟨rfl, btrans HB.out HD1.out⟩
  have dn6 : decide ((n6 : Int) > 256) = false := decide_eq_false (by omega)
  have fn6 : decide (256 < n6) = false := decide_eq_false (by omega)
  by_cases qn7 : n7 > 256
  · have dn7 : decide ((n7 : Int) > 256) = true := decide_eq_true (by omega)
    have fn7 : decide (256 < n7) = true := decide_eq_true (by omega)
    obtain rfl : R = 2 := HI3.out (by trivial) (by trivial) (Or.inr (Or.inl (by omega)))
    go_wp2
    go_ret
    exact ⟨rfl, btrans HB.out HD1.out⟩
  have dn7 : decide ((n7 : Int) > 256) = false := decide_eq_false (by omega)
  have fn7 : decide (256 < n7) = false := decide_eq_false (by omega)
  by_cases qn8 : n8 > 16
  · have dn8 : decide ((n8 : Int) > 16) = true := decide_eq_true (by omega)
    have fn8 : decide (16 < n8) = true := decide_eq_true (by omega)
    obtain rfl : R = 2 := HI3.out (by trivial) (by trivial) (Or.inr (Or.inr (by omega)))
    go_wp2
    go_ret
    exact ⟨rfl, btrans HB.out HD1.out⟩
  have dn8 : decide ((n8 : Int) > 16) = false := decide_eq_false (by omega)
  have fn8 : decide (16 < n8) = false := decide_eq_false (by omega)
  have HFIN := Lib.hid (HI0.out (by trivial) (by trivial) (by omega) (by omega) (by omega))
  clear HI0 HI1 HI2 HI3 qn6 qn7 qn8
  have HC2 := Lib.hid (fun w2 (hb : Below W.heap.size W w2) => ends_any (n1 := n1) (n2 := n2) (n4 := n4) (n5 := n5) (n8 := n8) (a1 := a1) (a2 := a2) (a4 := a4) (a5 := a5) (a8 := a8) (c1 := c1) (c2 := c2) (c4 := c4) (c5 := c5) (c8 := c8) E0.out E3.out E6.out E7.out w2 EB HEB.out (G0.out.on hb) (G3.out.on hb) (G6.out.on hb) (G7.out.on hb))
  have HC3 := Lib.hid (fun w2 (hb : Below W.heap.size W w2) => roads_any (n2 := n2) (n3 := n3) (n4 := n4) (n5 := n5) (n6 := n6) (n7 := n7) (a2 := a2) (a3 := a3) (a4 := a4) (a5 := a5) (a6 := a6) (a7 := a7) (c2 := c2) (c3 := c3) (c4 := c4) (c5 := c5) (c6 := c6) (c7 := c7) E0.out E1.out E8.out w2 RB HRB.out (G0.out.on hb) (G1.out.on hb) (G8.out.on hb))
  cases EB with
  | false =>
    obtain rfl : R = 1 := by rw [HFIN.out]; rfl
    go_wp2_with fail
    refine (HC2.out _ HD1.out).mono ?_
    rintro e v2 ⟨rfl, hb⟩
    have HD2 := Lib.hid (btrans HD1.out hb)
    clear hb b0 b1 b2 b3 b4 b5 b6 b7 b8
    obtain ⟨b0, b1, b2, b3, b4, b5, b6, b7, b8⟩ := box9 (bon HX.out HD2.out)
    go_wp2
    go_ret
    exact ⟨rfl, btrans HB.out HD2.out⟩
  | true =>
    go_wp2_with fail
    refine (HC2.out _ HD1.out).mono ?_
    rintro e v2 ⟨rfl, hb⟩
    have HD2 := Lib.hid (btrans HD1.out hb)
    clear hb b0 b1 b2 b3 b4 b5 b6 b7 b8
    obtain ⟨b0, b1, b2, b3, b4, b5, b6, b7, b8⟩ := box9 (bon HX.out HD2.out)
    cases RB with
    | false =>
      obtain rfl : R = 1 := by rw [HFIN.out]; rfl
      go_wp2_with fail
      refine (HC3.out _ HD2.out).mono ?_
      rintro e v3 ⟨rfl, hb⟩
      have HD3 := Lib.hid (btrans HD2.out hb)
      clear hb b0 b1 b2 b3 b4 b5 b6 b7 b8
      obtain ⟨b0, b1, b2, b3, b4, b5, b6, b7, b8⟩ := box9 (bon HX.out HD3.out)
      go_wp2
      go_ret
      exact ⟨rfl, btrans HB.out HD3.out⟩
    | true =>
      go_wp2_with fail
      refine (HC3.out _ HD2.out).mono ?_
      rintro e v3 ⟨rfl, hb⟩
      have HD3 := Lib.hid (btrans HD2.out hb)
      clear hb b0 b1 b2 b3 b4 b5 b6 b7 b8
      obtain ⟨b0, b1, b2, b3, b4, b5, b6, b7, b8⟩ := box9 (bon HX.out HD3.out)
      have HFN : Hid (R = if rl.all rwOk && decide (0 < n8) then 0 else 1) := Lib.hid (by rw [HFIN.out]; rfl)
      clear HFIN HC0 HC1 HC2 HC3 HEB HRB HR0 HR1
      go_wp2
      clear b0 b1 b2 b3 b4 b5 b6 b7 b8
      go_loopw [4] (fun s3 wr => ∃ i : Nat, i ≤ n8 ∧ s3 = .int .i64 (i : Int) ∧ Hid (Below W.heap.size W wr ∧ ∀ j x, j < i → rl[j]? = some x → rwOk x = true)) (fun s3 _ => n8 - (intOf s3).toNat)
      case atStart => exact ⟨0, by omega, rfl, Lib.hid ⟨HD3.out, fun j x hj => by omega⟩⟩
      case round =>
        obtain ⟨i, hi, rfl, HI⟩ := hrel
        obtain ⟨b0, b1, b2, b3, b4, b5, b6, b7, b8⟩ := box9 (bon HX.out HI.out.1)
        have HZ := Lib.hid (btrans HB.out HI.out.1)
        by_cases hlt : i < n8
        · have hlt2 : (i : Int) < (n8 : Int) := by omega
          obtain ⟨g, off, x, rfl, hg, hx, hok, hra, _⟩ := (G8.out.on HI.out.1).pick i (by rw [← E8.out]; exact hlt)
          have HRC := Lib.hid (rw_rng hra)
          obtain ⟨y, hy⟩ : ∃ y : Nat, x.key = (y : Int) := ⟨x.key.toNat, by have := hok.1; omega⟩
          have hy2 : x.key.toNat = y := by omega
          have f0 : wr.cell? ⟨g, off + i * 16, none⟩ = some (.int .u64 (y : Int)) := by rw [← hy]; exact hra 0 _ rfl
          obtain ⟨V1, hV1⟩ : ∃ V, Sgn.vld y = V := ⟨_, rfl⟩
          obtain ⟨R2, hR2⟩ : ∃ V, Kal.chkC x.op x.hol = V := ⟨_, rfl⟩
          have hT : rwOk x = (V1 && decide (R2 = 0)) := by unfold rwOk; rw [hy2, hV1, hR2]
          have HK := Lib.hid (Kal.rccheck_any x.cal.toArray x.op x.hol wr (rw_cal hok (hl_on (G9.out x (List.mem_of_getElem? hx)) HI.out.1)) R2 hR2.symm)
          have hv : ∀ w2, Calls Try.prog 74 #[.int .u64 (y : Int)] w2 fun e w3 => e = .returned (.bool (Sgn.vld y)) ∧ w2 = w3 := fun w2 => Sgn.rvalid_any y w2 (by have := hok.1; omega)
          rw [hV1] at hv
          have HV := Lib.hid hv; have HX2 := Lib.hid hx; have HT := Lib.hid hT
          have HG : Hid (g < wr.heap.size) := Lib.hid hg
          clear hv hx hT hV1 hR2 hy hy2 hra hg hok
          by_cases q2 : R2 = 0
          · subst q2
            cases V1 with
            | false =>
              obtain rfl : R = 1 := by rw [HFN.out, not_alls HX2.out (by rw [HT.out]; rfl)]; rfl
              go_wp2_with (refine wpList_load_mid rfl 55 (.tmp 52) rfl g (off + i * 16 + 1) rfl x.cal _ HRC.out Try.underlying55 rfl (Kal.size55 rfl) ?_)
              refine HK.out.mono ?_
              rintro e v4 ⟨rfl, hb⟩
              have HD4 := Lib.hid (btrans HI.out.1 hb)
              have f0' : v4.cell? ⟨g, off + i * 16, none⟩ = some (.int .u64 (y : Int)) := (hb.cell (p := ⟨g, off + i * 16, none⟩) HG.out).trans f0
              clear hb b0 b1 b2 b3 b4 b5 b6 b7 b8 f0
              obtain ⟨b0, b1, b2, b3, b4, b5, b6, b7, b8⟩ := box9 (bon HX.out HD4.out)
              go_wp2_with fail
              refine (HV.out _).mono ?_
              rintro e v5 ⟨rfl, rfl⟩
              go_wp2
              go_ret
              exact ⟨rfl, btrans HB.out HD4.out⟩
            | true =>
              have HNX : Hid (∀ j y, j < i + 1 → rl[j]? = some y → rwOk y = true) := Lib.hid (fun j y hj hy => by
                by_cases e : j < i
                · exact HI.out.2 j y e hy
                · obtain rfl : j = i := by omega
                  have := HX2.out
                  rw [this] at hy
                  cases hy
                  rw [HT.out]; rfl)
              go_wp2_with (refine wpList_load_mid rfl 55 (.tmp 52) rfl g (off + i * 16 + 1) rfl x.cal _ HRC.out Try.underlying55 rfl (Kal.size55 rfl) ?_)
              refine HK.out.mono ?_
              rintro e v4 ⟨rfl, hb⟩
              have HD4 := Lib.hid (btrans HI.out.1 hb)
              have f0' : v4.cell? ⟨g, off + i * 16, none⟩ = some (.int .u64 (y : Int)) := (hb.cell (p := ⟨g, off + i * 16, none⟩) HG.out).trans f0
              clear hb b0 b1 b2 b3 b4 b5 b6 b7 b8 f0 HI HZ HRC HK
              obtain ⟨b0, b1, b2, b3, b4, b5, b6, b7, b8⟩ := box9 (bon HX.out HD4.out)
              go_wp2_with fail
              refine (HV.out _).mono ?_
              rintro e v5 ⟨rfl, rfl⟩
              go_wp2
              go_roundw
              case rel => exact ⟨i + 1, by omega, by go_num, Lib.hid ⟨HD4.out, HNX.out⟩⟩
              case measure => simp [intOf]; omega
          · have hxx : (R2 != 0) = true := by simpa using q2
            obtain rfl : R = 1 := by rw [HFN.out, not_alls HX2.out (by rw [HT.out, decide_eq_false q2, Bool.and_false])]; rfl
            clear q2
            go_wp2_with (refine wpList_load_mid rfl 55 (.tmp 52) rfl g (off + i * 16 + 1) rfl x.cal _ HRC.out Try.underlying55 rfl (Kal.size55 rfl) ?_)
            refine HK.out.mono ?_
            rintro e v4 ⟨rfl, hb⟩
            have HD4 := Lib.hid (btrans HI.out.1 hb)
            clear hb b0 b1 b2 b3 b4 b5 b6 b7 b8 f0
            obtain ⟨b0, b1, b2, b3, b4, b5, b6, b7, b8⟩ := box9 (bon HX.out HD4.out)
            go_wp2
            go_ret
            exact ⟨rfl, btrans HB.out HD4.out⟩
        · obtain rfl : i = n8 := by omega
          have hlt2 : ¬ ((i : Int) < (i : Int)) := by omega
          have HA := all_got (l := rl) (p := rwOk) (fun j x hj hx => HI.out.2 j x (by have := E8.out; omega) hx)
          by_cases q : i = 0
          · obtain rfl : R = 1 := by rw [HFN.out, decide_eq_false (by omega : ¬ 0 < i), Bool.and_false]; rfl
            subst q
            clear hlt HI HA
            go_wp2
            go_ret
            exact ⟨rfl, HZ.out⟩
          · obtain rfl : R = 0 := by rw [HFN.out, HA, decide_eq_true (by omega : 0 < i)]; rfl
            have hq : ((i : Int) == 0) = false := by rw [beq_eq_false_iff_ne]; omega
            have hq2 : (i == 0) = false := by rw [beq_eq_false_iff_ne]; omega
            clear hlt HI HA
            go_wp2
            go_ret
            exact ⟨rfl, HZ.out⟩
end Go.Proofs.Ytijdjbkmkopmnaa
