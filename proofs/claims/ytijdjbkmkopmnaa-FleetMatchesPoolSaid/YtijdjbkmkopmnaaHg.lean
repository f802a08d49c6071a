/-
  Walks: CheckPool of the program.
-/
import Derived.Test.YtijdjbkmkopmnaaHf
namespace Go.Proofs.Ytijdjbkmkopmnaa
open Go.RowKit
set_option linter.unusedVariables false
set_option linter.unusedSimpArgs false

set_option maxRecDepth 100000 in
set_option maxHeartbeats 16000000 in
theorem ckp_any {V : Value} {P : Pool} {w : World} (hf : Pol w V P) (R : Int) (hR : R = ckp P) :
    Calls Try.prog 23 #[V] w fun e w' => e = .returned (.int .i64 R) ∧ Below w.heap.size w w' := by
  obtain ⟨a0, a1, a2, a3, a4, a5, a6, a7, a8, c0, c1, c2, c3, c4, c5, c6, c7, c8, rfl, G⟩ := hf.shape
  unfold ckp at hR
  obtain ⟨ps, es, ts, ws, ss, hs, rs, sh, rl⟩ := P
  have g0 := G.fp; have g1 := G.fe; have g2 := G.ft; have g3 := G.fw; have g4 := G.fs; have g5 := G.fh; have g6 := G.fr; have g7 := G.fsh; have g8 := G.frl; have g9 := G.fhl
  dsimp only at hR g0 g1 g2 g3 g4 g5 g6 g7 g8 g9 ⊢
  clear hf G
  have l0 := g0.1; have l8 := g8.1
  obtain ⟨n0, e0⟩ : ∃ n, n = ps.length := ⟨_, rfl⟩
  obtain ⟨n1, e1⟩ : ∃ n, n = es.length := ⟨_, rfl⟩
  obtain ⟨n2, e2⟩ : ∃ n, n = ts.length := ⟨_, rfl⟩
  obtain ⟨n3, e3⟩ : ∃ n, n = ws.length := ⟨_, rfl⟩
  obtain ⟨n4, e4⟩ : ∃ n, n = ss.length := ⟨_, rfl⟩
  obtain ⟨n5, e5⟩ : ∃ n, n = hs.length := ⟨_, rfl⟩
  obtain ⟨n6, e6⟩ : ∃ n, n = rs.length := ⟨_, rfl⟩
  obtain ⟨n7, e7⟩ : ∃ n, n = sh.length := ⟨_, rfl⟩
  obtain ⟨n8, e8⟩ : ∃ n, n = rl.length := ⟨_, rfl⟩
  obtain ⟨R0, hR0⟩ : ∃ z, z = Net.chk (ps.map PlC.p) (es.map EdC.e) := ⟨_, rfl⟩
  obtain ⟨R1, hR1⟩ : ∃ z, z = chk ts ws ss hs := ⟨_, rfl⟩
  rw [← e0, ← e6, ← e7, ← e8, ← hR0, ← hR1] at hR
  rw [← e0] at g0
  rw [← e1] at g1
  rw [← e2] at g2
  rw [← e3] at g3
  rw [← e4] at g4
  rw [← e5] at g5
  rw [← e6] at g6
  rw [← e7] at g7
  rw [← e8] at g8
  rw [← e0] at l0; rw [← e8] at l8
  rw [← e0, ← e1, ← e2, ← e3, ← e4, ← e5, ← e6, ← e7, ← e8]
  obtain ⟨b1, d1⟩ : ∃ b, decide ((n6 : Int) ≤ 256) = b := ⟨_, rfl⟩
  obtain ⟨b2, d2⟩ : ∃ b, decide ((n7 : Int) ≤ 256) = b := ⟨_, rfl⟩
  obtain ⟨b3, d3⟩ : ∃ b, decide ((n8 : Int) ≤ 16) = b := ⟨_, rfl⟩
  obtain ⟨b4, d4⟩ : ∃ b, decide ((n8 : Int) > 0) = b := ⟨_, rfl⟩
  rw [d1, d2, d3, d4] at hR
  have d4n : decide (0 < n8) = b4 := by rw [← d4]; by_cases h : 0 < n8 <;> simp [h]
  obtain ⟨W, hW⟩ : ∃ W, W = w.alloc (.cells #[.slice a0 n0 c0, .slice a1 n1 c1, .slice a2 n2 c2, .slice a3 n3 c3, .slice a4 n4 c4, .slice a5 n5 c5, .slice a6 n6 c6, .slice a7 n7 c7, .slice a8 n8 c8] 49) := ⟨_, rfl⟩
  have hB : Below w.heap.size w W := by rw [hW]; exact ball (Below.refl w.heap.size w) _
  have hr : W.heap[w.heap.size]? = some (.cells #[.slice a0 n0 c0, .slice a1 n1 c1, .slice a2 n2 c2, .slice a3 n3 c3, .slice a4 n4 c4, .slice a5 n5 c5, .slice a6 n6 c6, .slice a7 n7 c7, .slice a8 n8 c8] 49 (0, 0)) := by rw [hW]; exact bnew _ _
  have HW := Lib.hid hW; have HB := Lib.hid hB; have HX := Lib.hid hr; have HR := Lib.hid hR; have HR0 := Lib.hid hR0; have HR1 := Lib.hid hR1; have HL0 := Lib.hid l0; have HL8 := Lib.hid l8
  have E0 := Lib.hid e0; have G0 := Lib.hid (g0.on hB)
  have E1 := Lib.hid e1; have G1 := Lib.hid (g1.on hB)
  have E2 := Lib.hid e2; have G2 := Lib.hid (g2.on hB)
  have E3 := Lib.hid e3; have G3 := Lib.hid (g3.on hB)
  have E4 := Lib.hid e4; have G4 := Lib.hid (g4.on hB)
  have E5 := Lib.hid e5; have G5 := Lib.hid (g5.on hB)
  have E6 := Lib.hid e6; have G6 := Lib.hid (g6.on hB)
  have E7 := Lib.hid e7; have G7 := Lib.hid (g7.on hB)
  have E8 := Lib.hid e8; have G8 := Lib.hid (g8.on hB)
  have G9 := Lib.hid (fun x hx => hl_on (g9 x hx) hB)
  clear hW hB hr hR hR0 hR1 l0 l8 e0 g0 e1 g1 e2 g2 e3 g3 e4 g4 e5 g5 e6 g6 e7 g7 e8 g8 g9
  go_enter Try.func23, Try.ntmps23
  go_upto_region 1 with (fail)
  rw [← HW.out]
  clear HW
  have h70 := box9 (bon HX.out (Below.refl W.heap.size W).drew)
  refine wp_region_held_drew (S := fun w' => w'.cell? ⟨w.heap.size, 0, none⟩ = some (.slice a0 n0 c0) ∧ w'.cell? ⟨w.heap.size, 1, none⟩ = some (.slice a1 n1 c1) ∧ w'.cell? ⟨w.heap.size, 2, none⟩ = some (.slice a2 n2 c2) ∧ w'.cell? ⟨w.heap.size, 3, none⟩ = some (.slice a3 n3 c3) ∧ w'.cell? ⟨w.heap.size, 4, none⟩ = some (.slice a4 n4 c4) ∧ w'.cell? ⟨w.heap.size, 5, none⟩ = some (.slice a5 n5 c5) ∧ w'.cell? ⟨w.heap.size, 6, none⟩ = some (.slice a6 n6 c6) ∧ w'.cell? ⟨w.heap.size, 7, none⟩ = some (.slice a7 n7 c7) ∧ w'.cell? ⟨w.heap.size, 8, none⟩ = some (.slice a8 n8 c8)) (by kernel_rfl) h70 (fun hHeld => ?_)
  change wpAnyH _ _ _ _ _ 51 #[false, false, false, false, false, false, false, false, false, false, false, false, false, false, false, false, false, false, false, false, false, false, false, false, false, false, false, false, false, false, false, false, false, false, false, false, false, false, false, false, false, false, false, false, false, false, false, false, false, false, false] _ _
  refine wpAnyH_take (i := 0) (oi := _) (v := .func (.func 52) #[] #[.pointer (some ⟨w.heap.size, 0, none⟩)]) rfl (by kernel_rfl) (by kernel_rfl) (by kernel_rfl) (fun _ _ _ h => h) (Or.inl ⟨by rfl, fun wx hSw => ?_⟩) (by assumption) ?_
  · go_simp
    try (first | omega | (rw [IntKind.wrap_i64]; omega))
  (try simp only [Act.put, List.setIfInBounds_toArray, List.set_cons_zero, List.set_cons_succ, List.getElem_toArray, List.getElem_cons_zero, List.getElem_cons_succ])
  refine wpAnyH_take (i := 1) (oi := _) (v := .func (.func 53) #[] #[.pointer (some ⟨w.heap.size, 0, none⟩)]) rfl (by kernel_rfl) (by kernel_rfl) (by kernel_rfl) (fun _ _ _ h => h) (Or.inl ⟨by rfl, fun wx hSw => ?_⟩) (by assumption) ?_
  · go_simp
    try (first | omega | (rw [IntKind.wrap_i64]; omega))
  (try simp only [Act.put, List.setIfInBounds_toArray, List.set_cons_zero, List.set_cons_succ, List.getElem_toArray, List.getElem_cons_zero, List.getElem_cons_succ])
  refine wpAnyH_take (i := 2) (oi := _) (v := .pointer (some ⟨w.heap.size, 6, none⟩)) rfl (by kernel_rfl) (by kernel_rfl) (by kernel_rfl) (fun _ _ _ h => h) (Or.inl ⟨by rfl, fun wx hSw => ?_⟩) (by assumption) ?_
  · go_simp
    try (first | omega | (rw [IntKind.wrap_i64]; omega))
  (try simp only [Act.put, List.setIfInBounds_toArray, List.set_cons_zero, List.set_cons_succ, List.getElem_toArray, List.getElem_cons_zero, List.getElem_cons_succ])
  refine wpAnyH_take (i := 3) (oi := _) (v := .slice a6 n6 c6) rfl (by kernel_rfl) (by kernel_rfl) (by kernel_rfl) (fun _ _ _ h => h) (Or.inl ⟨by rfl, fun wx hSw => ?_⟩) (by assumption) ?_
  · go_simp
    try (first | omega | (rw [IntKind.wrap_i64]; omega))
  (try simp only [Act.put, List.setIfInBounds_toArray, List.set_cons_zero, List.set_cons_succ, List.getElem_toArray, List.getElem_cons_zero, List.getElem_cons_succ])
  refine wpAnyH_take (i := 4) (oi := _) (v := .int .i64 (n6 : Int)) rfl (by kernel_rfl) (by kernel_rfl) (by kernel_rfl) (fun _ _ _ h => h) (Or.inl ⟨by rfl, fun wx hSw => ?_⟩) (by assumption) ?_
  · go_simp
    try (first | omega | (rw [IntKind.wrap_i64]; omega))
  (try simp only [Act.put, List.setIfInBounds_toArray, List.set_cons_zero, List.set_cons_succ, List.getElem_toArray, List.getElem_cons_zero, List.getElem_cons_succ])
  refine wpAnyH_take (i := 5) (oi := _) (v := .bool b1) rfl (by kernel_rfl) (by kernel_rfl) (by kernel_rfl) (fun _ _ _ h => h) (Or.inl ⟨by rfl, fun wx hSw => ?_⟩) (by assumption) ?_
  · go_simp
    try (first | omega | (rw [IntKind.wrap_i64]; omega))
  (try simp only [Act.put, List.setIfInBounds_toArray, List.set_cons_zero, List.set_cons_succ, List.getElem_toArray, List.getElem_cons_zero, List.getElem_cons_succ])
  refine wpAnyH_take (i := 7) (oi := _) (v := .pointer (some ⟨w.heap.size, 7, none⟩)) rfl (by kernel_rfl) (by kernel_rfl) (by kernel_rfl) (fun _ _ _ h => h) (Or.inl ⟨by rfl, fun wx hSw => ?_⟩) (by assumption) ?_
  · go_simp
    try (first | omega | (rw [IntKind.wrap_i64]; omega))
  (try simp only [Act.put, List.setIfInBounds_toArray, List.set_cons_zero, List.set_cons_succ, List.getElem_toArray, List.getElem_cons_zero, List.getElem_cons_succ])
  refine wpAnyH_take (i := 8) (oi := _) (v := .slice a7 n7 c7) rfl (by kernel_rfl) (by kernel_rfl) (by kernel_rfl) (fun _ _ _ h => h) (Or.inl ⟨by rfl, fun wx hSw => ?_⟩) (by assumption) ?_
  · go_simp
    try (first | omega | (rw [IntKind.wrap_i64]; omega))
  (try simp only [Act.put, List.setIfInBounds_toArray, List.set_cons_zero, List.set_cons_succ, List.getElem_toArray, List.getElem_cons_zero, List.getElem_cons_succ])
  refine wpAnyH_take (i := 9) (oi := _) (v := .int .i64 (n7 : Int)) rfl (by kernel_rfl) (by kernel_rfl) (by kernel_rfl) (fun _ _ _ h => h) (Or.inl ⟨by rfl, fun wx hSw => ?_⟩) (by assumption) ?_
  · go_simp
    try (first | omega | (rw [IntKind.wrap_i64]; omega))
  (try simp only [Act.put, List.setIfInBounds_toArray, List.set_cons_zero, List.set_cons_succ, List.getElem_toArray, List.getElem_cons_zero, List.getElem_cons_succ])
  refine wpAnyH_take (i := 10) (oi := _) (v := .bool b2) rfl (by kernel_rfl) (by kernel_rfl) (by kernel_rfl) (fun _ _ _ h => h) (Or.inl ⟨by rfl, fun wx hSw => ?_⟩) (by assumption) ?_
  · go_simp
    try (first | omega | (rw [IntKind.wrap_i64]; omega))
  (try simp only [Act.put, List.setIfInBounds_toArray, List.set_cons_zero, List.set_cons_succ, List.getElem_toArray, List.getElem_cons_zero, List.getElem_cons_succ])
  refine wpAnyH_take (i := 12) (oi := _) (v := .pointer (some ⟨w.heap.size, 8, none⟩)) rfl (by kernel_rfl) (by kernel_rfl) (by kernel_rfl) (fun _ _ _ h => h) (Or.inl ⟨by rfl, fun wx hSw => ?_⟩) (by assumption) ?_
  · go_simp
    try (first | omega | (rw [IntKind.wrap_i64]; omega))
  (try simp only [Act.put, List.setIfInBounds_toArray, List.set_cons_zero, List.set_cons_succ, List.getElem_toArray, List.getElem_cons_zero, List.getElem_cons_succ])
  refine wpAnyH_take (i := 13) (oi := _) (v := .slice a8 n8 c8) rfl (by kernel_rfl) (by kernel_rfl) (by kernel_rfl) (fun _ _ _ h => h) (Or.inl ⟨by rfl, fun wx hSw => ?_⟩) (by assumption) ?_
  · go_simp
    try (first | omega | (rw [IntKind.wrap_i64]; omega))
  (try simp only [Act.put, List.setIfInBounds_toArray, List.set_cons_zero, List.set_cons_succ, List.getElem_toArray, List.getElem_cons_zero, List.getElem_cons_succ])
  refine wpAnyH_take (i := 14) (oi := _) (v := .int .i64 (n8 : Int)) rfl (by kernel_rfl) (by kernel_rfl) (by kernel_rfl) (fun _ _ _ h => h) (Or.inl ⟨by rfl, fun wx hSw => ?_⟩) (by assumption) ?_
  · go_simp
    try (first | omega | (rw [IntKind.wrap_i64]; omega))
  (try simp only [Act.put, List.setIfInBounds_toArray, List.set_cons_zero, List.set_cons_succ, List.getElem_toArray, List.getElem_cons_zero, List.getElem_cons_succ])
  refine wpAnyH_take (i := 15) (oi := _) (v := .bool b3) rfl (by kernel_rfl) (by kernel_rfl) (by kernel_rfl) (fun _ _ _ h => h) (Or.inl ⟨by rfl, fun wx hSw => ?_⟩) (by assumption) ?_
  · go_simp
    try (first | omega | (rw [IntKind.wrap_i64]; omega))
  (try simp only [Act.put, List.setIfInBounds_toArray, List.set_cons_zero, List.set_cons_succ, List.getElem_toArray, List.getElem_cons_zero, List.getElem_cons_succ])
  refine wpAnyH_take (i := 17) (oi := _) (v := .pointer (some ⟨w.heap.size, 8, none⟩)) rfl (by kernel_rfl) (by kernel_rfl) (by kernel_rfl) (fun _ _ _ h => h) (Or.inl ⟨by rfl, fun wx hSw => ?_⟩) (by assumption) ?_
  · go_simp
    try (first | omega | (rw [IntKind.wrap_i64]; omega))
  (try simp only [Act.put, List.setIfInBounds_toArray, List.set_cons_zero, List.set_cons_succ, List.getElem_toArray, List.getElem_cons_zero, List.getElem_cons_succ])
  refine wpAnyH_take (i := 18) (oi := _) (v := .slice a8 n8 c8) rfl (by kernel_rfl) (by kernel_rfl) (by kernel_rfl) (fun _ _ _ h => h) (Or.inl ⟨by rfl, fun wx hSw => ?_⟩) (by assumption) ?_
  · go_simp
    try (first | omega | (rw [IntKind.wrap_i64]; omega))
  (try simp only [Act.put, List.setIfInBounds_toArray, List.set_cons_zero, List.set_cons_succ, List.getElem_toArray, List.getElem_cons_zero, List.getElem_cons_succ])
  refine wpAnyH_take (i := 19) (oi := _) (v := .int .i64 (n8 : Int)) rfl (by kernel_rfl) (by kernel_rfl) (by kernel_rfl) (fun _ _ _ h => h) (Or.inl ⟨by rfl, fun wx hSw => ?_⟩) (by assumption) ?_
  · go_simp
    try (first | omega | (rw [IntKind.wrap_i64]; omega))
  (try simp only [Act.put, List.setIfInBounds_toArray, List.set_cons_zero, List.set_cons_succ, List.getElem_toArray, List.getElem_cons_zero, List.getElem_cons_succ])
  refine wpAnyH_take (i := 20) (oi := _) (v := .bool b4) rfl (by kernel_rfl) (by kernel_rfl) (by kernel_rfl) (fun _ _ _ h => h) (Or.inl ⟨by rfl, fun wx hSw => ?_⟩) (by assumption) ?_
  · go_simp
    try (first | omega | (rw [IntKind.wrap_i64]; omega))
  (try simp only [Act.put, List.setIfInBounds_toArray, List.set_cons_zero, List.set_cons_succ, List.getElem_toArray, List.getElem_cons_zero, List.getElem_cons_succ])
  refine wpAnyH_take (i := 22) (oi := _) (v := .pointer (some ⟨w.heap.size, 8, none⟩)) rfl (by kernel_rfl) (by kernel_rfl) (by kernel_rfl) (fun _ _ _ h => h) (Or.inl ⟨by rfl, fun wx hSw => ?_⟩) (by assumption) ?_
  · go_simp
    try (first | omega | (rw [IntKind.wrap_i64]; omega))
  (try simp only [Act.put, List.setIfInBounds_toArray, List.set_cons_zero, List.set_cons_succ, List.getElem_toArray, List.getElem_cons_zero, List.getElem_cons_succ])
  refine wpAnyH_take (i := 23) (oi := _) (v := .slice a8 n8 c8) rfl (by kernel_rfl) (by kernel_rfl) (by kernel_rfl) (fun _ _ _ h => h) (Or.inl ⟨by rfl, fun wx hSw => ?_⟩) (by assumption) ?_
  · go_simp
    try (first | omega | (rw [IntKind.wrap_i64]; omega))
  (try simp only [Act.put, List.setIfInBounds_toArray, List.set_cons_zero, List.set_cons_succ, List.getElem_toArray, List.getElem_cons_zero, List.getElem_cons_succ])
  refine wpAnyH_take (i := 25) (oi := _) (v := .pointer (some ⟨w.heap.size, 6, none⟩)) rfl (by kernel_rfl) (by kernel_rfl) (by kernel_rfl) (fun _ _ _ h => h) (Or.inl ⟨by rfl, fun wx hSw => ?_⟩) (by assumption) ?_
  · go_simp
    try (first | omega | (rw [IntKind.wrap_i64]; omega))
  (try simp only [Act.put, List.setIfInBounds_toArray, List.set_cons_zero, List.set_cons_succ, List.getElem_toArray, List.getElem_cons_zero, List.getElem_cons_succ])
  refine wpAnyH_take (i := 26) (oi := _) (v := .slice a6 n6 c6) rfl (by kernel_rfl) (by kernel_rfl) (by kernel_rfl) (fun _ _ _ h => h) (Or.inl ⟨by rfl, fun wx hSw => ?_⟩) (by assumption) ?_
  · go_simp
    try (first | omega | (rw [IntKind.wrap_i64]; omega))
  (try simp only [Act.put, List.setIfInBounds_toArray, List.set_cons_zero, List.set_cons_succ, List.getElem_toArray, List.getElem_cons_zero, List.getElem_cons_succ])
  refine wpAnyH_take (i := 27) (oi := _) (v := .func (.func 57) #[] #[.pointer (some ⟨w.heap.size, 0, none⟩)]) rfl (by kernel_rfl) (by kernel_rfl) (by kernel_rfl) (fun _ _ _ h => h) (Or.inl ⟨by rfl, fun wx hSw => ?_⟩) (by assumption) ?_
  · go_simp
    try (first | omega | (rw [IntKind.wrap_i64]; omega))
  (try simp only [Act.put, List.setIfInBounds_toArray, List.set_cons_zero, List.set_cons_succ, List.getElem_toArray, List.getElem_cons_zero, List.getElem_cons_succ])
  refine wpAnyH_take (i := 29) (oi := _) (v := .pointer (some ⟨w.heap.size, 7, none⟩)) rfl (by kernel_rfl) (by kernel_rfl) (by kernel_rfl) (fun _ _ _ h => h) (Or.inl ⟨by rfl, fun wx hSw => ?_⟩) (by assumption) ?_
  · go_simp
    try (first | omega | (rw [IntKind.wrap_i64]; omega))
  (try simp only [Act.put, List.setIfInBounds_toArray, List.set_cons_zero, List.set_cons_succ, List.getElem_toArray, List.getElem_cons_zero, List.getElem_cons_succ])
  refine wpAnyH_take (i := 30) (oi := _) (v := .slice a7 n7 c7) rfl (by kernel_rfl) (by kernel_rfl) (by kernel_rfl) (fun _ _ _ h => h) (Or.inl ⟨by rfl, fun wx hSw => ?_⟩) (by assumption) ?_
  · go_simp
    try (first | omega | (rw [IntKind.wrap_i64]; omega))
  (try simp only [Act.put, List.setIfInBounds_toArray, List.set_cons_zero, List.set_cons_succ, List.getElem_toArray, List.getElem_cons_zero, List.getElem_cons_succ])
  refine wpAnyH_take (i := 31) (oi := _) (v := .func (.func 60) #[] #[.pointer (some ⟨w.heap.size, 0, none⟩)]) rfl (by kernel_rfl) (by kernel_rfl) (by kernel_rfl) (fun _ _ _ h => h) (Or.inl ⟨by rfl, fun wx hSw => ?_⟩) (by assumption) ?_
  · go_simp
    try (first | omega | (rw [IntKind.wrap_i64]; omega))
  (try simp only [Act.put, List.setIfInBounds_toArray, List.set_cons_zero, List.set_cons_succ, List.getElem_toArray, List.getElem_cons_zero, List.getElem_cons_succ])
  refine wpAnyH_take (i := 33) (oi := _) (v := .pointer (some ⟨w.heap.size, 2, none⟩)) rfl (by kernel_rfl) (by kernel_rfl) (by kernel_rfl) (fun _ _ _ h => h) (Or.inl ⟨by rfl, fun wx hSw => ?_⟩) (by assumption) ?_
  · go_simp
    try (first | omega | (rw [IntKind.wrap_i64]; omega))
  (try simp only [Act.put, List.setIfInBounds_toArray, List.set_cons_zero, List.set_cons_succ, List.getElem_toArray, List.getElem_cons_zero, List.getElem_cons_succ])
  refine wpAnyH_take (i := 34) (oi := _) (v := .pointer (some ⟨w.heap.size, 3, none⟩)) rfl (by kernel_rfl) (by kernel_rfl) (by kernel_rfl) (fun _ _ _ h => h) (Or.inl ⟨by rfl, fun wx hSw => ?_⟩) (by assumption) ?_
  · go_simp
    try (first | omega | (rw [IntKind.wrap_i64]; omega))
  (try simp only [Act.put, List.setIfInBounds_toArray, List.set_cons_zero, List.set_cons_succ, List.getElem_toArray, List.getElem_cons_zero, List.getElem_cons_succ])
  refine wpAnyH_take (i := 35) (oi := _) (v := .slice a3 n3 c3) rfl (by kernel_rfl) (by kernel_rfl) (by kernel_rfl) (fun _ _ _ h => h) (Or.inl ⟨by rfl, fun wx hSw => ?_⟩) (by assumption) ?_
  · go_simp
    try (first | omega | (rw [IntKind.wrap_i64]; omega))
  (try simp only [Act.put, List.setIfInBounds_toArray, List.set_cons_zero, List.set_cons_succ, List.getElem_toArray, List.getElem_cons_zero, List.getElem_cons_succ])
  refine wpAnyH_take (i := 36) (oi := _) (v := .func (.func 62) #[] #[.pointer (some ⟨w.heap.size, 0, none⟩)]) rfl (by kernel_rfl) (by kernel_rfl) (by kernel_rfl) (fun _ _ _ h => h) (Or.inl ⟨by rfl, fun wx hSw => ?_⟩) (by assumption) ?_
  · go_simp
    try (first | omega | (rw [IntKind.wrap_i64]; omega))
  (try simp only [Act.put, List.setIfInBounds_toArray, List.set_cons_zero, List.set_cons_succ, List.getElem_toArray, List.getElem_cons_zero, List.getElem_cons_succ])
  refine wpAnyH_take (i := 38) (oi := _) (v := .pointer (some ⟨w.heap.size, 0, none⟩)) rfl (by kernel_rfl) (by kernel_rfl) (by kernel_rfl) (fun _ _ _ h => h) (Or.inl ⟨by rfl, fun wx hSw => ?_⟩) (by assumption) ?_
  · go_simp
    try (first | omega | (rw [IntKind.wrap_i64]; omega))
  (try simp only [Act.put, List.setIfInBounds_toArray, List.set_cons_zero, List.set_cons_succ, List.getElem_toArray, List.getElem_cons_zero, List.getElem_cons_succ])
  refine wpAnyH_take (i := 39) (oi := _) (v := .pointer (some ⟨w.heap.size, 0, none⟩)) rfl (by kernel_rfl) (by kernel_rfl) (by kernel_rfl) (fun _ _ _ h => h) (Or.inl ⟨by rfl, fun wx hSw => ?_⟩) (by assumption) ?_
  · go_simp
    try (first | omega | (rw [IntKind.wrap_i64]; omega))
  (try simp only [Act.put, List.setIfInBounds_toArray, List.set_cons_zero, List.set_cons_succ, List.getElem_toArray, List.getElem_cons_zero, List.getElem_cons_succ])
  refine wpAnyH_take (i := 40) (oi := _) (v := .slice a0 n0 c0) rfl (by kernel_rfl) (by kernel_rfl) (by kernel_rfl) (fun _ _ _ h => h) (Or.inl ⟨by rfl, fun wx hSw => ?_⟩) (by assumption) ?_
  · go_simp
    try (first | omega | (rw [IntKind.wrap_i64]; omega))
  (try simp only [Act.put, List.setIfInBounds_toArray, List.set_cons_zero, List.set_cons_succ, List.getElem_toArray, List.getElem_cons_zero, List.getElem_cons_succ])
  refine wpAnyH_take (i := 41) (oi := _) (v := .func (.func 65) #[] #[.pointer (some ⟨w.heap.size, 0, none⟩)]) rfl (by kernel_rfl) (by kernel_rfl) (by kernel_rfl) (fun _ _ _ h => h) (Or.inl ⟨by rfl, fun wx hSw => ?_⟩) (by assumption) ?_
  · go_simp
    try (first | omega | (rw [IntKind.wrap_i64]; omega))
  (try simp only [Act.put, List.setIfInBounds_toArray, List.set_cons_zero, List.set_cons_succ, List.getElem_toArray, List.getElem_cons_zero, List.getElem_cons_succ])
  refine wpAnyH_take (i := 43) (oi := _) (v := .pointer (some ⟨w.heap.size, 0, none⟩)) rfl (by kernel_rfl) (by kernel_rfl) (by kernel_rfl) (fun _ _ _ h => h) (Or.inl ⟨by rfl, fun wx hSw => ?_⟩) (by assumption) ?_
  · go_simp
    try (first | omega | (rw [IntKind.wrap_i64]; omega))
  (try simp only [Act.put, List.setIfInBounds_toArray, List.set_cons_zero, List.set_cons_succ, List.getElem_toArray, List.getElem_cons_zero, List.getElem_cons_succ])
  refine wpAnyH_take (i := 44) (oi := _) (v := .pointer (some ⟨w.heap.size, 1, none⟩)) rfl (by kernel_rfl) (by kernel_rfl) (by kernel_rfl) (fun _ _ _ h => h) (Or.inl ⟨by rfl, fun wx hSw => ?_⟩) (by assumption) ?_
  · go_simp
    try (first | omega | (rw [IntKind.wrap_i64]; omega))
  (try simp only [Act.put, List.setIfInBounds_toArray, List.set_cons_zero, List.set_cons_succ, List.getElem_toArray, List.getElem_cons_zero, List.getElem_cons_succ])
  refine wpAnyH_take (i := 45) (oi := _) (v := .slice a1 n1 c1) rfl (by kernel_rfl) (by kernel_rfl) (by kernel_rfl) (fun _ _ _ h => h) (Or.inl ⟨by rfl, fun wx hSw => ?_⟩) (by assumption) ?_
  · go_simp
    try (first | omega | (rw [IntKind.wrap_i64]; omega))
  (try simp only [Act.put, List.setIfInBounds_toArray, List.set_cons_zero, List.set_cons_succ, List.getElem_toArray, List.getElem_cons_zero, List.getElem_cons_succ])
  refine wpAnyH_take (i := 46) (oi := _) (v := .func (.func 68) #[] #[.pointer (some ⟨w.heap.size, 0, none⟩)]) rfl (by kernel_rfl) (by kernel_rfl) (by kernel_rfl) (fun _ _ _ h => h) (Or.inl ⟨by rfl, fun wx hSw => ?_⟩) (by assumption) ?_
  · go_simp
    try (first | omega | (rw [IntKind.wrap_i64]; omega))
  (try simp only [Act.put, List.setIfInBounds_toArray, List.set_cons_zero, List.set_cons_succ, List.getElem_toArray, List.getElem_cons_zero, List.getElem_cons_succ])
  refine wpAnyH_ready (rs := [6]) (by kernel_rfl) (by simp) ?_
  refine AllReadyH.cons (o := _) rfl (fun K hK => ?_) AllReadyH.nil
  have Hc := Lib.hid (require_ck b1 2 W.heap.size (W.drew))
  go_simp
  refine Hc.out.mono ?_
  rintro e v9 ⟨q9, rfl, hb, hk⟩
  have HD9 : Hid (Below W.heap.size W v9) := Lib.hid (btrans (Below.refl W.heap.size W).drew hb)
  have HS9 := Lib.hid hb
  have HK9 := Lib.hid hk
  have h79 := box9 (bon HX.out HD9.out)
  clear hb hk Hc
  go_wp2_with fail
  refine hK.out _ _ (h79) (fun hHeld => ?_)
  clear hK K
  (try simp only [Act.put, List.setIfInBounds_toArray, List.set_cons_zero, List.set_cons_succ, List.getElem_toArray, List.getElem_cons_zero, List.getElem_cons_succ])
  refine wpAnyH_ready (rs := [11]) (by kernel_rfl) (by simp) ?_
  refine AllReadyH.cons (o := _) rfl (fun K hK => ?_) AllReadyH.nil
  have Hc := Lib.hid (require_ck b2 2 W.heap.size (v9))
  go_simp
  refine Hc.out.mono ?_
  rintro e v14 ⟨q14, rfl, hb, hk⟩
  have HD14 : Hid (Below W.heap.size W v14) := Lib.hid (btrans HD9.out hb)
  have HS14 := Lib.hid hb
  have HK14 := Lib.hid hk
  have h714 := box9 (bon HX.out HD14.out)
  clear hb hk Hc
  go_wp2_with fail
  refine hK.out _ _ (h714) (fun hHeld => ?_)
  clear hK K
  (try simp only [Act.put, List.setIfInBounds_toArray, List.set_cons_zero, List.set_cons_succ, List.getElem_toArray, List.getElem_cons_zero, List.getElem_cons_succ])
  refine wpAnyH_ready (rs := [16]) (by kernel_rfl) (by simp) ?_
  refine AllReadyH.cons (o := _) rfl (fun K hK => ?_) AllReadyH.nil
  have Hc := Lib.hid (require_ck b3 2 W.heap.size (v14))
  go_simp
  refine Hc.out.mono ?_
  rintro e v19 ⟨q19, rfl, hb, hk⟩
  have HD19 : Hid (Below W.heap.size W v19) := Lib.hid (btrans HD14.out hb)
  have HS19 := Lib.hid hb
  have HK19 := Lib.hid hk
  have h719 := box9 (bon HX.out HD19.out)
  clear hb hk Hc
  go_wp2_with fail
  refine hK.out _ _ (h719) (fun hHeld => ?_)
  clear hK K
  (try simp only [Act.put, List.setIfInBounds_toArray, List.set_cons_zero, List.set_cons_succ, List.getElem_toArray, List.getElem_cons_zero, List.getElem_cons_succ])
  refine wpAnyH_ready (rs := [21]) (by kernel_rfl) (by simp) ?_
  refine AllReadyH.cons (o := _) rfl (fun K hK => ?_) AllReadyH.nil
  have Hc := Lib.hid (require_ck b4 1 W.heap.size (v19))
  go_simp
  refine Hc.out.mono ?_
  rintro e v24 ⟨q24, rfl, hb, hk⟩
  have HD24 : Hid (Below W.heap.size W v24) := Lib.hid (btrans HD19.out hb)
  have HS24 := Lib.hid hb
  have HK24 := Lib.hid hk
  have h724 := box9 (bon HX.out HD24.out)
  clear hb hk Hc
  go_wp2_with fail
  refine hK.out _ _ (h724) (fun hHeld => ?_)
  clear hK K
  (try simp only [Act.put, List.setIfInBounds_toArray, List.set_cons_zero, List.set_cons_succ, List.getElem_toArray, List.getElem_cons_zero, List.getElem_cons_succ])
  refine wpAnyH_ready (rs := [24]) (by kernel_rfl) (by simp) ?_
  refine AllReadyH.cons (o := _) rfl (fun K hK => ?_) AllReadyH.nil
  have Hc := Lib.hid (ck54 W.heap.size E8.out (fun x hx => hl_on (G9.out x hx) (HD24.out)) (G8.out.on (HD24.out)))
  go_simp
  refine Hc.out.mono ?_
  rintro e v27 ⟨q27, rfl, hb, hk⟩
  have HD27 : Hid (Below W.heap.size W v27) := Lib.hid (btrans HD24.out hb)
  have HS27 := Lib.hid hb
  have HK27 := Lib.hid hk
  have h727 := box9 (bon HX.out HD27.out)
  clear hb hk Hc
  go_wp2_with fail
  refine hK.out _ _ (h727) (fun hHeld => ?_)
  clear hK K
  (try simp only [Act.put, List.setIfInBounds_toArray, List.set_cons_zero, List.set_cons_succ, List.getElem_toArray, List.getElem_cons_zero, List.getElem_cons_succ])
  refine wpAnyH_ready (rs := [28]) (by kernel_rfl) (by simp) ?_
  refine AllReadyH.cons (o := _) rfl (fun K hK => ?_) AllReadyH.nil
  have Hc := Lib.hid (ck56 (Bf := w.heap.size) W.heap.size E6.out (bon HX.out (HD27.out)) HL0.out (G6.out.on (HD27.out)))
  go_simp
  refine Hc.out.mono ?_
  rintro e v31 ⟨q31, rfl, hb, hk⟩
  have HD31 : Hid (Below W.heap.size W v31) := Lib.hid (btrans HD27.out hb)
  have HS31 := Lib.hid hb
  have HK31 := Lib.hid hk
  have h731 := box9 (bon HX.out HD31.out)
  clear hb hk Hc
  go_wp2_with fail
  refine hK.out _ _ (h731) (fun hHeld => ?_)
  clear hK K
  (try simp only [Act.put, List.setIfInBounds_toArray, List.set_cons_zero, List.set_cons_succ, List.getElem_toArray, List.getElem_cons_zero, List.getElem_cons_succ])
  refine wpAnyH_ready (rs := [32]) (by kernel_rfl) (by simp) ?_
  refine AllReadyH.cons (o := _) rfl (fun K hK => ?_) AllReadyH.nil
  have Hc := Lib.hid (ck59 (Bf := w.heap.size) W.heap.size E7.out (bon HX.out (HD31.out)) E0.out (G0.out.on (HD31.out)) (G7.out.on (HD31.out)))
  go_simp
  refine Hc.out.mono ?_
  rintro e v35 ⟨q35, rfl, hb, hk⟩
  have HD35 : Hid (Below W.heap.size W v35) := Lib.hid (btrans HD31.out hb)
  have HS35 := Lib.hid hb
  have HK35 := Lib.hid hk
  have h735 := box9 (bon HX.out HD35.out)
  clear hb hk Hc
  go_wp2_with fail
  refine hK.out _ _ (h735) (fun hHeld => ?_)
  clear hK K
  (try simp only [Act.put, List.setIfInBounds_toArray, List.set_cons_zero, List.set_cons_succ, List.getElem_toArray, List.getElem_cons_zero, List.getElem_cons_succ])
  refine wpAnyH_ready (rs := [37]) (by kernel_rfl) (by simp) ?_
  refine AllReadyH.cons (o := _) rfl (fun K hK => ?_) AllReadyH.nil
  have Hc := Lib.hid (ck40w (Bf := w.heap.size) W.heap.size E3.out (bon HX.out (HD35.out)) HL0.out (G3.out.on (HD35.out)))
  go_simp
  refine Hc.out.mono ?_
  rintro e v40 ⟨q40, rfl, hb, hk⟩
  have HD40 : Hid (Below W.heap.size W v40) := Lib.hid (btrans HD35.out hb)
  have HS40 := Lib.hid hb
  have HK40 := Lib.hid hk
  have h740 := box9 (bon HX.out HD40.out)
  clear hb hk Hc
  go_wp2_with fail
  refine hK.out _ _ (h740) (fun hHeld => ?_)
  clear hK K
  (try simp only [Act.put, List.setIfInBounds_toArray, List.set_cons_zero, List.set_cons_succ, List.getElem_toArray, List.getElem_cons_zero, List.getElem_cons_succ])
  refine wpAnyH_ready (rs := [42]) (by kernel_rfl) (by simp) ?_
  refine AllReadyH.cons (o := _) rfl (fun K hK => ?_) AllReadyH.nil
  have Hc := Lib.hid (ck64 (Bf := w.heap.size) W.heap.size E0.out (bon HX.out (HD40.out)) HL8.out (G0.out.on (HD40.out)))
  go_simp
  refine Hc.out.mono ?_
  rintro e v45 ⟨q45, rfl, hb, hk⟩
  have HD45 : Hid (Below W.heap.size W v45) := Lib.hid (btrans HD40.out hb)
  have HS45 := Lib.hid hb
  have HK45 := Lib.hid hk
  have h745 := box9 (bon HX.out HD45.out)
  clear hb hk Hc
  go_wp2_with fail
  refine hK.out _ _ (h745) (fun hHeld => ?_)
  clear hK K
  (try simp only [Act.put, List.setIfInBounds_toArray, List.set_cons_zero, List.set_cons_succ, List.getElem_toArray, List.getElem_cons_zero, List.getElem_cons_succ])
  refine wpAnyH_ready (rs := [47]) (by kernel_rfl) (by simp) ?_
  refine AllReadyH.cons (o := _) rfl (fun K hK => ?_) AllReadyH.nil
  have Hc := Lib.hid (ck67 (Bf := w.heap.size) W.heap.size E1.out (bon HX.out (HD45.out)) HL8.out (G1.out.on (HD45.out)))
  go_simp
  refine Hc.out.mono ?_
  rintro e v50 ⟨q50, rfl, hb, hk⟩
  have HD50 : Hid (Below W.heap.size W v50) := Lib.hid (btrans HD45.out hb)
  have HS50 := Lib.hid hb
  have HK50 := Lib.hid hk
  have h750 := box9 (bon HX.out HD50.out)
  clear hb hk Hc
  go_wp2_with fail
  refine hK.out _ _ (h750) (fun hHeld => ?_)
  clear hK K
  (try simp only [Act.put, List.setIfInBounds_toArray, List.set_cons_zero, List.set_cons_succ, List.getElem_toArray, List.getElem_cons_zero, List.getElem_cons_succ])
  refine wpAnyH_ready (rs := [48]) (by kernel_rfl) (by simp) ?_
  refine AllReadyH.cons (o := _) rfl (fun K hK => ?_) AllReadyH.nil
  go_simp
  refine hK.out _ _ (box9 (bold (bon HX.out HD50.out))) (fun hHeld => ?_)
  clear hK K
  (try simp only [Act.put, List.setIfInBounds_toArray, List.set_cons_zero, List.set_cons_succ, List.getElem_toArray, List.getElem_cons_zero, List.getElem_cons_succ])
  refine wpAnyH_ready (rs := [49]) (by kernel_rfl) (by simp) ?_
  refine AllReadyH.cons (o := _) rfl (fun K hK => ?_) AllReadyH.nil
  obtain ⟨W8, hW8⟩ : ∃ W8, W8 = v50.alloc (.cells #[.func (.func 52) #[] #[.pointer (some ⟨w.heap.size, 0, none⟩)], .func (.func 53) #[] #[.pointer (some ⟨w.heap.size, 0, none⟩)], .func (.func 84) #[] q9, .func (.func 84) #[] q14, .func (.func 84) #[] q19, .func (.func 84) #[] q24, .func (.func 90) #[] q27, .func (.func 91) #[] q31, .func (.func 92) #[] q35, .func (.func 86) #[] q40, .func (.func 93) #[] q45, .func (.func 94) #[] q50] 92) := ⟨_, rfl⟩
  have hB8 : Below W.heap.size W W8 := by rw [hW8]; exact ball HD50.out _
  have hS8 : Below v50.heap.size v50 W8 := by rw [hW8]; exact ball (Below.refl _ _) _
  have hg8 : W8.heap[v50.heap.size]? = some (.cells (([(52, #[.pointer (some ⟨w.heap.size, 0, none⟩)], R0), (53, #[.pointer (some ⟨w.heap.size, 0, none⟩)], R1), (84, q9, if b1 then 0 else 2), (84, q14, if b2 then 0 else 2), (84, q19, if b3 then 0 else 2), (84, q24, if b4 then 0 else 1), (90, q27, if rl.all rwOk then 0 else 1), (91, q31, if rs.all (rdOk n0) then 0 else 1), (92, q35, if sh.all (shOk ps) then 0 else 1), (86, q40, if ws.all (fun x => rng 0 x.ho ((n0 : Int) - 1)) then 0 else 1), (93, q45, if ps.all (plOk n8) then 0 else 1), (94, q50, if es.all (fun x => rng 0 x.r ((n8 : Int) - 1)) then 0 else 1)] : List (Nat × Array Value × Int)).map fun x => fv x.1 x.2.1).toArray 92 (0, 0)) := by rw [hW8]; exact bnew _ _
  have k50 := fun last => (HK50.out last).on (hS8)
  have k45 := fun last => (HK45.out last).on (btrans HS50.out (hS8))
  have k40 := fun last => (HK40.out last).on (btrans HS45.out (btrans HS50.out (hS8)))
  have k35 := fun last => (HK35.out last).on (btrans HS40.out (btrans HS45.out (btrans HS50.out (hS8))))
  have k31 := fun last => (HK31.out last).on (btrans HS35.out (btrans HS40.out (btrans HS45.out (btrans HS50.out (hS8)))))
  have k27 := fun last => (HK27.out last).on (btrans HS31.out (btrans HS35.out (btrans HS40.out (btrans HS45.out (btrans HS50.out (hS8))))))
  have k24 := fun last => (HK24.out last).on (btrans HS27.out (btrans HS31.out (btrans HS35.out (btrans HS40.out (btrans HS45.out (btrans HS50.out (hS8)))))))
  have k19 := fun last => (HK19.out last).on (btrans HS24.out (btrans HS27.out (btrans HS31.out (btrans HS35.out (btrans HS40.out (btrans HS45.out (btrans HS50.out (hS8))))))))
  have k14 := fun last => (HK14.out last).on (btrans HS19.out (btrans HS24.out (btrans HS27.out (btrans HS31.out (btrans HS35.out (btrans HS40.out (btrans HS45.out (btrans HS50.out (hS8)))))))))
  have k9 := fun last => (HK9.out last).on (btrans HS14.out (btrans HS19.out (btrans HS24.out (btrans HS27.out (btrans HS31.out (btrans HS35.out (btrans HS40.out (btrans HS45.out (btrans HS50.out (hS8))))))))))
  have k3 := fun last => ck52 (w := W8) W.heap.size E0.out E1.out (bon HX.out hB8) (G0.out.on hB8) (G1.out.on hB8) last R0 HR0.out
  have k4 := fun last => ck53 (w := W8) W.heap.size E2.out E3.out E4.out E5.out (bon HX.out hB8) (G2.out.on hB8) (G3.out.on hB8) (G4.out.on hB8) (G5.out.on hB8) last R1 HR1.out
  have Hc := Lib.hid (firstck (w := W8) (g := v50.heap.size) (n := 12) (b0 := W.heap.size) [(52, #[.pointer (some ⟨w.heap.size, 0, none⟩)], R0), (53, #[.pointer (some ⟨w.heap.size, 0, none⟩)], R1), (84, q9, if b1 then 0 else 2), (84, q14, if b2 then 0 else 2), (84, q19, if b3 then 0 else 2), (84, q24, if b4 then 0 else 1), (90, q27, if rl.all rwOk then 0 else 1), (91, q31, if rs.all (rdOk n0) then 0 else 1), (92, q35, if sh.all (shOk ps) then 0 else 1), (86, q40, if ws.all (fun x => rng 0 x.ho ((n0 : Int) - 1)) then 0 else 1), (93, q45, if ps.all (plOk n8) then 0 else 1), (94, q50, if es.all (fun x => rng 0 x.r ((n8 : Int) - 1)) then 0 else 1)] rfl (by omega) hB8.size 92 hg8 ⟨k3 false, k4 false, k9 false, k14 false, k19 false, k24 false, k27 false, k31 false, k35 false, k40 false, k45 false, k50 true⟩ R HR.out)
  have HZ := Lib.hid hB8
  rw [← hW8]
  clear hW8 hg8 hS8 hB8 k3 k4 k9 k14 k19 k24 k27 k31 k35 k40 k45 k50
  go_simp
  refine Hc.out.mono ?_
  rintro e v52 ⟨rfl, hb⟩
  have hz := HZ.out.trans hb
  have HZ2 := Lib.hid (HB.out.trans (hz.mono HB.out.size))
  have h752 := box9 ((hz.block _ (blt HX.out)).trans HX.out)
  clear hz
  clear hb Hc
  go_wp2_with fail
  refine hK.out _ _ (h752) (fun hHeld => ?_)
  clear hK K
  (try simp only [Act.put, List.setIfInBounds_toArray, List.set_cons_zero, List.set_cons_succ, List.getElem_toArray, List.getElem_cons_zero, List.getElem_cons_succ])
  refine wpAnyH_take (i := 50) (oi := _) (v := .int .i64 R) rfl (by kernel_rfl) (by kernel_rfl) (by kernel_rfl) (fun _ _ _ h => h) (Or.inl ⟨by rfl, fun wx hSw => ?_⟩) (by assumption) ?_
  · go_simp
    try (first | omega | (rw [IntKind.wrap_i64]; omega))
  (try simp only [Act.put, List.setIfInBounds_toArray, List.set_cons_zero, List.set_cons_succ, List.getElem_toArray, List.getElem_cons_zero, List.getElem_cons_succ])
  refine wpAnyH_done (by kernel_rfl) ?_ _
  clear hHeld
  go_wp2
  go_ret
  exact ⟨rfl, HZ2.out⟩
end Go.Proofs.Ytijdjbkmkopmnaa
