/-
  Walks: the example; what the laws ask first.
-/
import Derived.Test.YtbeoldklpklbfaaSa
namespace Go.Proofs.Ytbeoldklpklbfaa
open Go.RowKit
set_option linter.unusedVariables false
set_option linter.unusedSimpArgs false

theorem size25 : (Try.prog.info? 25).map (·.size) = some 2 := by kernel_rfl
theorem pcs_len (p : Pc) : (Pc.cs p).length = 3 := rfl
theorem eds_len (x : Ed) : (Ed.cs x).length = 5 := rfl
theorem shs_len (x : Sh) : (Sh.cs x).length = 2 := rfl
theorem int_len (x : Int) : ([x] : List Int).length = 1 := rfl
theorem i64s (x : Int) (h : -1000 ≤ x ∧ x ≤ 1000) : I64 x := ⟨by omega, by omega⟩
def exPc : Array Value := #[.int .i64 1, .int .i64 0, .int .i64 (-1), .int .i64 1, .int .i64 0, .int .i64 (-1), .int .i64 1, .int .i64 0, .int .i64 (-1), .int .i64 1, .int .i64 0, .int .i64 (-1)]
def exEc : Array Value := #[.int .i64 0, .int .i64 1, .int .i64 2, .int .i64 10, .int .i64 5, .int .i64 1, .int .i64 2, .int .i64 1, .int .i64 10, .int .i64 7, .int .i64 0, .int .i64 2, .int .i64 2, .int .i64 20, .int .i64 9, .int .i64 1, .int .i64 0, .int .i64 0, .int .i64 10, .int .i64 4]
theorem ex_nw {w : World} {g1 g2 : Nat} (h1 : w.heap[g1]? = some (.cells exPc 55 (0, 0))) (h2 : w.heap[g2]? = some (.cells exEc 45 (0, 0))) : Nw w (.agg #[.slice (some ⟨g1, 0, none⟩) 4 4, .slice (some ⟨g2, 0, none⟩) 4 4]) exP (exE.map Ln.ed) :=
  ⟨_, _, rfl, sk_block pcs_len h1 rfl rfl (by decide) (by
    intro x hx y hy
    simp only [exP, List.mem_cons, List.not_mem_nil, or_false, or_self] at hx
    subst hx
    simp only [Pc.cs, List.mem_cons, List.not_mem_nil, or_false] at hy
    exact i64s y (by omega)), sk_block eds_len h2 rfl rfl (by decide) (by
    intro x hx y hy
    simp only [exE, List.map_cons, List.map_nil, List.mem_cons, List.not_mem_nil, or_false] at hx
    rcases hx with rfl | rfl | rfl | rfl <;> (simp only [Ed.cs, Ln.ed, List.mem_cons, List.not_mem_nil, or_false] at hy; exact i64s y (by omega)))⟩

set_option maxRecDepth 100000 in
set_option maxHeartbeats 4000000 in
theorem example_any (w : World) : Calls Try.prog 31 #[] w fun e w' => ∃ g1 g2, e = .returned (.agg #[.slice (some ⟨g1, 0, none⟩) 4 4, .slice (some ⟨g2, 0, none⟩) 4 4]) ∧ Below w.heap.size w w' ∧ Nw w' (.agg #[.slice (some ⟨g1, 0, none⟩) 4 4, .slice (some ⟨g2, 0, none⟩) 4 4]) exP (exE.map Ln.ed) := by
  go_enter Try.func31, Try.ntmps31
  go_wp2
  have h0 := bal (bal (bal (bnew w (.cells #[.slice (some ⟨w.heap.size + 1 + 1, 0, none⟩) 4 4, .slice (some ⟨w.heap.size + 1 + 1 + 1, 0, none⟩) 4 4] 25)) (.cells #[.int .i64 1, .int .i64 0, .int .i64 (-1)] 55)) (.cells exPc 55)) (.cells exEc 45)
  have h1 := bal (bnew ((w.alloc (.cells #[.slice (some ⟨w.heap.size + 1 + 1, 0, none⟩) 4 4, .slice (some ⟨w.heap.size + 1 + 1 + 1, 0, none⟩) 4 4] 25)).alloc (.cells #[.int .i64 1, .int .i64 0, .int .i64 (-1)] 55)) (.cells exPc 55)) (.cells exEc 45)
  have h2 := bnew (((w.alloc (.cells #[.slice (some ⟨w.heap.size + 1 + 1, 0, none⟩) 4 4, .slice (some ⟨w.heap.size + 1 + 1 + 1, 0, none⟩) 4 4] 25)).alloc (.cells #[.int .i64 1, .int .i64 0, .int .i64 (-1)] 55)).alloc (.cells exPc 55)) (.cells exEc 45)
  simp only [World.size_alloc] at h1 h2
  refine bodyPost_ret (results_cell_row (cs := #[.slice (some ⟨w.heap.size + 1 + 1, 0, none⟩) 4 4, .slice (some ⟨w.heap.size + 1 + 1 + 1, 0, none⟩) 4 4]) rfl _ _ w.heap.size 25 (0, 0) _ rfl h0 Try.underlying25 rfl size25) rfl ?_
  exact ⟨_, _, rfl, ball (ball (ball (ball (Below.refl _ _) _) _) _) _, ex_nw h1 h2⟩

theorem hl_block {w : World} {g len : Nat} {cs : Array Value} {l : List Int} (hg : w.heap[g]? = some (.cells cs 3 (0, 0))) (hcs : cs.toList = l.map (Value.int .i64)) (hl : len = l.length) (hlen : l.length ≤ 1000) (hI : ∀ x ∈ l, I64 x) : Hl (fun k => k < w.heap.size) w (.slice (some ⟨g, 0, none⟩) len len) l := by
  subst hl
  refine ⟨by omega, hI, _, _, rfl, Nat.le_refl _, fun _ => ⟨g, 0, rfl, blt hg, fun j x hj => ?_⟩⟩
  rw [Nat.zero_add, cell_of_row w g _ cs 3 (0, 0) hg, ← Array.getElem?_toList, hcs, List.getElem?_map, hj]
  rfl
section
variable {w : World} {V : Value}
theorem sT (h : Nw w V exP (exE.map Ln.ed)) : Calls Try.prog 15 #[V, .int .i64 0] w fun e w' => ∃ a c, e = .returned (.tuple #[.slice a 4 c, .int .i64 0]) ∧ Below w.heap.size w w' ∧ Hl (fun k => k < w'.heap.size) w' (.slice a 4 c) [0, 10, 20, -1] := by
  refine (timesP_any h 0 (i64s 0 (by omega))).mono ?_
  rintro e w' ⟨a, k, c, L, E, rfl, hb, hl, ht, _⟩
  obtain ⟨rfl, rfl⟩ := ht.one ex_T
  obtain ⟨_, _, e⟩ := hl.shape
  simp only [Value.slice.injEq] at e
  obtain ⟨rfl, rfl, rfl⟩ := e
  exact ⟨_, _, rfl, hb, hl⟩
theorem sB {a b T E : Int} (h : Nw w V exP (exE.map Ln.ed)) (ha : -1000 ≤ a ∧ a ≤ 1000) (hb : -1000 ≤ b ∧ b ≤ 1000) (hr : BR exP (exE.map Ln.ed) a b T E) : Calls Try.prog 16 #[V, .int .i64 a, .int .i64 b] w fun e w' => e = .returned (.tuple #[.int .i64 T, .int .i64 E]) ∧ Below w.heap.size w w' := by
  refine (betweenP_any h a b (i64s _ ha) (i64s _ hb)).mono ?_
  rintro e w' ⟨T', E', rfl, hb, ht, _⟩
  obtain ⟨rfl, rfl⟩ := ht.one hr
  exact ⟨rfl, hb⟩
theorem sE {a b T E : Int} (h : Nw w V exP (exE.map Ln.ed)) (ha : -1000 ≤ a ∧ a ≤ 1000) (hb : -1000 ≤ b ∧ b ≤ 1000) (hr : ER exP (exE.map Ln.ed) a b T E) : Calls Try.prog 18 #[V, .int .i64 a, .int .i64 b] w fun e w' => e = .returned (.tuple #[.int .i64 T, .int .i64 E]) ∧ Below w.heap.size w w' := by
  refine (edgeP_any h a b (i64s _ ha) (i64s _ hb)).mono ?_
  rintro e w' ⟨T', E', rfl, hb, ht⟩
  obtain ⟨rfl, rfl⟩ := ht.one hr
  exact ⟨rfl, hb⟩
theorem sR (h : Nw w V exP (exE.map Ln.ed)) : Calls Try.prog 17 #[V, .int .i64 0, .int .i64 2] w fun e w' => ∃ a c, e = .returned (.tuple #[.slice a 3 c, .int .i64 0]) ∧ Below w.heap.size w w' ∧ Hl (fun k => k < w'.heap.size) w' (.slice a 3 c) [0, 1, 2] := by
  refine (routeP_any h 0 2 (i64s 0 (by omega)) (i64s 2 (by omega))).mono ?_
  rintro e w' ⟨a, k, c, L, E, rfl, hb, hl, ht⟩
  obtain ⟨rfl, rfl⟩ := ht.one ex_R
  obtain ⟨_, _, e⟩ := hl.shape
  simp only [Value.slice.injEq] at e
  obtain ⟨rfl, rfl, rfl⟩ := e
  exact ⟨_, _, rfl, hb, hl⟩
theorem sS {u : Value} {route : List Int} {S : List Sh} {E : Int} (h : Nw w V exP (exE.map Ln.ed)) (hu : Hl (fun k => k < w.heap.size) w u route) (hr : HR exP (exE.map Ln.ed) route S E) (hl : route.length ≤ 1000) (n : Nat) (hn : n = S.length) : Calls Try.prog 19 #[V, u] w fun e w' => ∃ a c, e = .returned (.tuple #[.slice a n c, .int .i64 E]) ∧ Below w.heap.size w w' ∧ Ss (fun k => k < w'.heap.size) w' (.slice a n c) S := by
  refine (sharesP_any h hu (by omega)).mono ?_
  rintro e w' ⟨a, k, c, L, E', rfl, hb, hl, ht⟩
  obtain ⟨rfl, rfl⟩ := ht.one hr
  obtain ⟨_, _, e⟩ := hl.shape
  simp only [Value.slice.injEq] at e
  obtain ⟨rfl, rfl, rfl⟩ := e
  rw [← hn] at hl ⊢
  exact ⟨_, _, rfl, hb, hl⟩
end

set_option maxRecDepth 100000 in
set_option maxHeartbeats 8000000 in
theorem sane_true (w : World) : Calls Try.prog 12 #[] w fun e w' => e = .returned (.bool true) ∧ Below w.heap.size w w' := by
  have Hc := Lib.hid (example_any w)
  go_enter Try.func12, Try.ntmps12
  go_wp2_with fail
  refine Hc.out.mono ?_
  rintro e w1 ⟨g1, g2, rfl, hb, hv⟩
  have hb1 := ball (Below.refl w1.heap.size w1) (.cells #[.slice (some ⟨g1, 0, none⟩) 4 4, .slice (some ⟨g2, 0, none⟩) 4 4] 25)
  have HB := Lib.hid (btrans hb hb1); have HV := Lib.hid (hv.on hb1)
  have HX := Lib.hid (bnew w1 (.cells #[.slice (some ⟨g1, 0, none⟩) 4 4, .slice (some ⟨g2, 0, none⟩) 4 4] 25))
  obtain ⟨b0, b1⟩ := box2 HX.out
  obtain ⟨bx, hbx⟩ : ∃ bx, bx = w1.heap.size := ⟨_, rfl⟩
  have H0 := Lib.hid (sT HV.out)
  clear hb hv hb1 Hc hbx
  go_wp2_with fail
  refine H0.out.mono ?_
  rintro e w2 ⟨t1, t2, rfl, hb, hl⟩
  replace HB := Lib.hid (btrans HB.out hb); replace HV := Lib.hid (HV.out.on hb); replace HX := Lib.hid (bon HX.out hb)
  have LT := Lib.hid hl
  clear hb b0 b1 H0 hl
  obtain ⟨b0, b1⟩ := box2 HX.out
  have H1 := Lib.hid (sB HV.out (by omega) (by omega) ex_B1)
  go_wp2_with fail
  refine H1.out.mono ?_
  rintro e w3 ⟨rfl, hb⟩
  replace HB := Lib.hid (btrans HB.out hb); replace HV := Lib.hid (HV.out.on hb); replace HX := Lib.hid (bon HX.out hb)
  replace LT := Lib.hid (LT.out.on hb)
  clear hb b0 b1 H1
  obtain ⟨b0, b1⟩ := box2 HX.out
  have H2 := Lib.hid (sB HV.out (by omega) (by omega) ex_B2)
  go_wp2_with fail
  refine H2.out.mono ?_
  rintro e w4 ⟨rfl, hb⟩
  replace HB := Lib.hid (btrans HB.out hb); replace HV := Lib.hid (HV.out.on hb); replace HX := Lib.hid (bon HX.out hb)
  replace LT := Lib.hid (LT.out.on hb)
  clear hb b0 b1 H2
  obtain ⟨b0, b1⟩ := box2 HX.out
  have H3 := Lib.hid (sR HV.out)
  go_wp2_with fail
  refine H3.out.mono ?_
  rintro e w5 ⟨r1, r2, rfl, hb, hl⟩
  replace HB := Lib.hid (btrans HB.out hb); replace HV := Lib.hid (HV.out.on hb); replace HX := Lib.hid (bon HX.out hb)
  replace LT := Lib.hid (LT.out.on hb)
  have LR := Lib.hid hl
  clear hb b0 b1 H3 hl
  obtain ⟨b0, b1⟩ := box2 HX.out
  have H4 := Lib.hid (sE HV.out (by omega) (by omega) ex_E1)
  go_wp2_with fail
  refine H4.out.mono ?_
  rintro e w6 ⟨rfl, hb⟩
  replace HB := Lib.hid (btrans HB.out hb); replace HV := Lib.hid (HV.out.on hb); replace HX := Lib.hid (bon HX.out hb)
  replace LT := Lib.hid (LT.out.on hb)
  replace LR := Lib.hid (LR.out.on hb)
  clear hb b0 b1 H4
  obtain ⟨b0, b1⟩ := box2 HX.out
  have H5 := Lib.hid (sE HV.out (by omega) (by omega) ex_E2)
  go_wp2_with fail
  refine H5.out.mono ?_
  rintro e w7 ⟨rfl, hb⟩
  replace HB := Lib.hid (btrans HB.out hb); replace HV := Lib.hid (HV.out.on hb); replace HX := Lib.hid (bon HX.out hb)
  replace LT := Lib.hid (LT.out.on hb)
  replace LR := Lib.hid (LR.out.on hb)
  clear hb b0 b1 H5
  obtain ⟨b0, b1⟩ := box2 HX.out
  have H6 := Lib.hid (sE HV.out (by omega) (by omega) ex_E3)
  go_wp2_with fail
  refine H6.out.mono ?_
  rintro e w8 ⟨rfl, hb⟩
  replace HB := Lib.hid (btrans HB.out hb); replace HV := Lib.hid (HV.out.on hb); replace HX := Lib.hid (bon HX.out hb)
  replace LT := Lib.hid (LT.out.on hb)
  replace LR := Lib.hid (LR.out.on hb)
  clear hb b0 b1 H6
  obtain ⟨b0, b1⟩ := box2 HX.out
  have hl7 := ball (Below.refl w8.heap.size w8) (.cells #[.int .i64 0, .int .i64 1, .int .i64 2] 3)
  have HL7 := Lib.hid hl7
  have H7 := Lib.hid (sS (HV.out.on hl7) (hl_block (l := [0, 1, 2]) (bnew w8 (.cells #[.int .i64 0, .int .i64 1, .int .i64 2] 3)) rfl rfl (by decide) (by intro x hx; exact i64s x (by simp only [List.mem_cons, List.not_mem_nil, or_false] at hx; omega))) ex_S1 (by decide) 2 rfl)
  clear hl7
  go_wp2_with fail
  refine H7.out.mono ?_
  rintro e w9 ⟨s1, s2, rfl, hb, hl⟩
  replace hb := btrans HL7.out hb
  replace HB := Lib.hid (btrans HB.out hb); replace HV := Lib.hid (HV.out.on hb); replace HX := Lib.hid (bon HX.out hb)
  replace LT := Lib.hid (LT.out.on hb)
  replace LR := Lib.hid (LR.out.on hb)
  have LS := Lib.hid hl
  clear hb b0 b1 H7 hl HL7
  obtain ⟨b0, b1⟩ := box2 HX.out
  have hl8 := ball (Below.refl w9.heap.size w9) (.cells #[.int .i64 2, .int .i64 0, .int .i64 2] 3)
  have HL8 := Lib.hid hl8
  have H8 := Lib.hid (sS (HV.out.on hl8) (hl_block (l := [2, 0, 2]) (bnew w9 (.cells #[.int .i64 2, .int .i64 0, .int .i64 2] 3)) rfl rfl (by decide) (by intro x hx; exact i64s x (by simp only [List.mem_cons, List.not_mem_nil, or_false] at hx; omega))) ex_S2 (by decide) 1 rfl)
  clear hl8
  go_wp2_with fail
  refine H8.out.mono ?_
  rintro e w10 ⟨k1, k2, rfl, hb, hl⟩
  replace hb := btrans HL8.out hb
  replace HB := Lib.hid (btrans HB.out hb); replace HV := Lib.hid (HV.out.on hb); replace HX := Lib.hid (bon HX.out hb)
  replace LT := Lib.hid (LT.out.on hb)
  replace LR := Lib.hid (LR.out.on hb)
  replace LS := Lib.hid (LS.out.on hb)
  have LK := Lib.hid hl
  clear hb b0 b1 H8 hl HL8
  obtain ⟨b0, b1⟩ := box2 HX.out
  have hl9 := ball (Below.refl w10.heap.size w10) (.cells #[.int .i64 0, .int .i64 3] 3)
  have HL9 := Lib.hid hl9
  have H9 := Lib.hid (sS (HV.out.on hl9) (hl_block (l := [0, 3]) (bnew w10 (.cells #[.int .i64 0, .int .i64 3] 3)) rfl rfl (by decide) (by intro x hx; exact i64s x (by simp only [List.mem_cons, List.not_mem_nil, or_false] at hx; omega))) ex_S3 (by decide) 0 rfl)
  clear hl9
  go_wp2_with fail
  refine H9.out.mono ?_
  rintro e w11 ⟨n1, n2, rfl, hb, hl⟩
  replace hb := btrans HL9.out hb
  replace HB := Lib.hid (btrans HB.out hb); replace HV := Lib.hid (HV.out.on hb); replace HX := Lib.hid (bon HX.out hb)
  replace LT := Lib.hid (LT.out.on hb)
  replace LR := Lib.hid (LR.out.on hb)
  replace LS := Lib.hid (LS.out.on hb)
  replace LK := Lib.hid (LK.out.on hb)
  clear hb b0 b1 H9 hl HL9
  obtain ⟨b0, b1⟩ := box2 HX.out
  have hl10 := ball (Below.refl w11.heap.size w11) (.cells #[.int .i64 0, .int .i64 10, .int .i64 20, .int .i64 (-1)] 3)
  have HL10 := Lib.hid hl10
  have H10 := Lib.hid (sameI_any (LT.out.on hl10) (hl_block (l := [0, 10, 20, -1]) (bnew w11 (.cells #[.int .i64 0, .int .i64 10, .int .i64 20, .int .i64 (-1)] 3)) rfl rfl (by decide) (by intro x hx; exact i64s x (by simp only [List.mem_cons, List.not_mem_nil, or_false] at hx; omega))) true (by decide))
  clear hl10
  go_wp2_with fail
  refine H10.out.mono ?_
  rintro e w12 ⟨rfl, hb⟩
  replace hb := btrans HL10.out hb
  replace HB := Lib.hid (btrans HB.out hb); replace HV := Lib.hid (HV.out.on hb); replace HX := Lib.hid (bon HX.out hb)
  replace LT := Lib.hid (LT.out.on hb)
  replace LR := Lib.hid (LR.out.on hb)
  replace LS := Lib.hid (LS.out.on hb)
  replace LK := Lib.hid (LK.out.on hb)
  clear hb b0 b1 H10 HL10
  obtain ⟨b0, b1⟩ := box2 HX.out
  have hl11 := ball (Below.refl w12.heap.size w12) (.cells #[.int .i64 0, .int .i64 1, .int .i64 2] 3)
  have HL11 := Lib.hid hl11
  have H11 := Lib.hid (sameI_any (LR.out.on hl11) (hl_block (l := [0, 1, 2]) (bnew w12 (.cells #[.int .i64 0, .int .i64 1, .int .i64 2] 3)) rfl rfl (by decide) (by intro x hx; exact i64s x (by simp only [List.mem_cons, List.not_mem_nil, or_false] at hx; omega))) true (by decide))
  clear hl11
  go_wp2_with fail
  refine H11.out.mono ?_
  rintro e w13 ⟨rfl, hb⟩
  replace hb := btrans HL11.out hb
  replace HB := Lib.hid (btrans HB.out hb); replace HV := Lib.hid (HV.out.on hb); replace HX := Lib.hid (bon HX.out hb)
  replace LT := Lib.hid (LT.out.on hb)
  replace LR := Lib.hid (LR.out.on hb)
  replace LS := Lib.hid (LS.out.on hb)
  replace LK := Lib.hid (LK.out.on hb)
  clear hb b0 b1 H11 HL11
  obtain ⟨b0, b1⟩ := box2 HX.out
  have hl12 := ball (Below.refl w13.heap.size w13) (.cells #[.int .i64 1, .int .i64 7, .int .i64 2, .int .i64 5] 51)
  have HL12 := Lib.hid hl12
  have H12 := Lib.hid (sameS_any (LS.out.on hl12) (sk_block shs_len (l := ([⟨1, 7⟩, ⟨2, 5⟩] : List Sh)) (bnew w13 (.cells #[.int .i64 1, .int .i64 7, .int .i64 2, .int .i64 5] 51)) rfl rfl (by decide) (by intro x hx y hy; simp only [List.mem_cons, List.not_mem_nil, or_false] at hx; first | (rcases hx with rfl | rfl <;> (simp only [Sh.cs, List.mem_cons, List.not_mem_nil, or_false] at hy; exact i64s y (by omega))) | (subst hx; simp only [Sh.cs, List.mem_cons, List.not_mem_nil, or_false] at hy; exact i64s y (by omega)))) true (by decide))
  clear hl12
  go_wp2_with fail
  refine H12.out.mono ?_
  rintro e w14 ⟨rfl, hb⟩
  replace hb := btrans HL12.out hb
  replace HB := Lib.hid (btrans HB.out hb); replace HV := Lib.hid (HV.out.on hb); replace HX := Lib.hid (bon HX.out hb)
  replace LT := Lib.hid (LT.out.on hb)
  replace LR := Lib.hid (LR.out.on hb)
  replace LS := Lib.hid (LS.out.on hb)
  replace LK := Lib.hid (LK.out.on hb)
  clear hb b0 b1 H12 HL12
  obtain ⟨b0, b1⟩ := box2 HX.out
  have hl13 := ball (Below.refl w14.heap.size w14) (.cells #[.int .i64 2, .int .i64 18] 51)
  have HL13 := Lib.hid hl13
  have H13 := Lib.hid (sameS_any (LK.out.on hl13) (sk_block shs_len (l := ([⟨2, 18⟩] : List Sh)) (bnew w14 (.cells #[.int .i64 2, .int .i64 18] 51)) rfl rfl (by decide) (by intro x hx y hy; simp only [List.mem_cons, List.not_mem_nil, or_false] at hx; first | (rcases hx with rfl | rfl <;> (simp only [Sh.cs, List.mem_cons, List.not_mem_nil, or_false] at hy; exact i64s y (by omega))) | (subst hx; simp only [Sh.cs, List.mem_cons, List.not_mem_nil, or_false] at hy; exact i64s y (by omega)))) true (by decide))
  clear hl13
  go_wp2_with fail
  refine H13.out.mono ?_
  rintro e w15 ⟨rfl, hb⟩
  replace hb := btrans HL13.out hb
  replace HB := Lib.hid (btrans HB.out hb); replace HV := Lib.hid (HV.out.on hb); replace HX := Lib.hid (bon HX.out hb)
  replace LT := Lib.hid (LT.out.on hb)
  replace LR := Lib.hid (LR.out.on hb)
  replace LS := Lib.hid (LS.out.on hb)
  replace LK := Lib.hid (LK.out.on hb)
  clear hb b0 b1 H13 HL13
  obtain ⟨b0, b1⟩ := box2 HX.out
  have H14 := Lib.hid (check_any HV.out 0 ex_chk.symm)
  go_wp2_with fail
  refine H14.out.mono ?_
  rintro e w16 ⟨rfl, hb⟩
  replace HB := Lib.hid (btrans HB.out hb)
  clear hb b0 b1 H14 HV HX LT LR LS LK
  have hl99 := ball (Below.refl w16.heap.size w16) (.cells #[.int .i64 0, .int .i64 0, .int .i64 0] 55)
  have HL99 := Lib.hid hl99
  have H99 := Lib.hid (check_any (V := .agg #[.slice (some ⟨w16.heap.size, 0, none⟩) 1 1, .slice none 0 0]) (ps := [⟨0, 0, 0⟩]) (es := []) ⟨_, _, rfl, sk_block pcs_len (l := [(⟨0, 0, 0⟩ : Pc)]) (bnew w16 (.cells #[.int .i64 0, .int .i64 0, .int .i64 0] 55)) rfl rfl (by decide) (by intro x hx y hy; simp only [List.mem_cons, List.not_mem_nil, or_false] at hx; subst hx; simp only [Pc.cs, List.mem_cons, List.not_mem_nil, or_false, or_self] at hy; subst hy; exact i64s 0 (by omega)), sk_nil _ _ _ _⟩ 1 ex_bad.symm)
  clear hl99
  go_wp2_with fail
  refine H99.out.mono ?_
  rintro e w99 ⟨rfl, hb⟩
  replace HB := Lib.hid (btrans HB.out (btrans HL99.out hb))
  clear hb
  go_wp2
  go_ret
  exact ⟨rfl, HB.out⟩
end Go.Proofs.Ytbeoldklpklbfaa
