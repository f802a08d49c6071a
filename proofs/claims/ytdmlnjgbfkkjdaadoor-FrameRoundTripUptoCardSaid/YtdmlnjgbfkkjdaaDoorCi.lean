/-
  Walks of the reference: content.
-/
import Derived.Test.YtdmlnjgbfkkjdaaDoorCh
import Derived.Test.YtdmlnjgbfkkjdaaDoorCe
namespace Go.Proofs.YtdmlnjgbfkkjdaaDoor
open Go.RowKit
set_option linter.unusedVariables false
set_option linter.unusedSimpArgs false

set_option maxHeartbeats 1000000 in
theorem content_off (i x y : Bool) (a : Option Addr) (n c : Nat) (w : World) (hl : n ≤ 140737488355328) (h : x = true ∨ y = true ∨ n < 4 ∨ 8196 < n) :
    Calls Tryd.prog 29 #[.agg #[.slice a n c, .bool i, .bool x, .bool y]] w fun e w' => e = .returned (.tuple #[.slice none 0 0, .bool false]) ∧ Below w.heap.size w w' := by
  cases x
  rotate_left
  · go_enter Tryd.func29, Tryd.ntmps29
    go_wp2
    go_ret2
    exact ⟨rfl, ball (Below.refl _ _) _⟩
  cases y
  rotate_left
  · go_enter Tryd.func29, Tryd.ntmps29
    go_wp2
    go_ret2
    exact ⟨rfl, ball (Below.refl _ _) _⟩
  by_cases h4 : n < 4
  · have h4' : (n : Int) - 4 < 0 := by omega
    clear h
    go_enter Tryd.func29, Tryd.ntmps29
    go_wp2
    go_ret2
    exact ⟨rfl, ball (Below.refl _ _) _⟩
  · have h8 : 8196 < n := by
      rcases h with h | h | h | h
      · cases h
      · cases h
      · exact absurd h h4
      · exact h
    have h4' : ¬ ((n : Int) - 4 < 0) := by omega
    have h8' : (8192 : Int) < (n : Int) - 4 := by omega
    clear h
    go_enter Tryd.func29, Tryd.ntmps29
    go_wp2
    go_ret2
    exact ⟨rfl, ball (Below.refl _ _) _⟩

set_option maxRecDepth 100000 in
set_option maxHeartbeats 4000000 in
theorem content_on (i : Bool) (r : List Int) (g off m c : Nat) (w : World) (hv : Bs (fun k => k < w.heap.size) w (.slice (some ⟨g, off, none⟩) (m + 4) c) r) (hm : r.length = m + 4) (h8 : m ≤ 8192) :
    Calls Tryd.prog 29 #[.agg #[.slice (some ⟨g, off, none⟩) (m + 4) c, .bool i, .bool false, .bool false]] w (RecvOf w (some ⟨g, off, none⟩) m c (decide (sealF (r.take m) (crcI (r.take m)) = r))) := by
  obtain ⟨W, hW⟩ : ∃ W, W = w.alloc (.cells #[.slice (some ⟨g, off, none⟩) (m + 4) c, .bool i, .bool false, .bool false] 31) := ⟨_, rfl⟩
  have hB : Below w.heap.size w W := by rw [hW]; exact ball (Below.refl w.heap.size w) _
  have hr : W.heap[w.heap.size]? = some (.cells #[.slice (some ⟨g, off, none⟩) (m + 4) c, .bool i, .bool false, .bool false] 31 (0, 0)) := by rw [hW]; exact bnew _ _
  have hc : m + 4 ≤ c := by
    obtain ⟨_, _, _, _, e, h, _⟩ := hv
    simp only [Value.slice.injEq] at e
    omega
  have hrg : Rg8 r := hv.2.1
  have hvW := hv.on hB
  have hcl := crcI_lt (hrg.take m)
  have htk : ∀ wx, Below W.heap.size W wx → Bs (fun k => k < wx.heap.size) wx (.slice (some ⟨g, off, none⟩) m c) (r.take m) := fun wx hx => by
    have h1 : Bs (fun k => k < wx.heap.size) wx (.slice (some ⟨g, off, none⟩) r.length c) r := by rw [hm]; exact hvW.on hx
    exact h1.take m (by omega)
  have hml0 : (r.take m).length = m := by simp; omega
  have HR := Lib.hid (show ∀ wx, Below W.heap.size W wx → Calls Tryd.prog 14 #[.slice (some ⟨g, off, none⟩) m c] wx fun e w' => e = .returned (.int .u32 (crcI (r.take m) : Nat)) ∧ wx = w' from fun wx hx => rcrc_any _ _ wx (htk wx hx))
  have HS := Lib.hid (show ∀ wx, Below W.heap.size W wx → Calls Tryd.prog 22 #[.slice (some ⟨g, off, none⟩) m c, .int .u32 (crcI (r.take m) : Nat)] wx (OwnOf wx (sealF (r.take m) (crcI (r.take m)))) from fun wx hx => sealed_any _ _ _ wx hcl (htk wx hx) (by omega))
  obtain ⟨SA, hSA⟩ : ∃ SA, SA = strOfNums (sealF (r.take m) (crcI (r.take m))) := ⟨_, rfl⟩
  obtain ⟨SB, hSB⟩ : ∃ SB, SB = strOfNums r := ⟨_, rfl⟩
  obtain ⟨Q, hQ⟩ : ∃ Q, Q = decide (sealF (r.take m) (crcI (r.take m)) = r) := ⟨_, rfl⟩
  rw [← hQ]
  have hq : (SA.toList == SB.toList) = Q := by rw [hSA, hSB, hQ]; exact nums_inj (seal_rg (hrg.take m) _) hrg
  have HCV := Lib.hid (show ∀ wx, Below W.heap.size W wx → (convert 22 9 (.slice (some ⟨g, off, none⟩) (m + 4) c)).run Tryd.prog wx = .ok (.string SB) wx from fun wx hx => by
    rw [hSB]; exact conv_str (hvW.on hx))
  have HOW := Lib.hid (show ∀ wx w2 v, OW wx w2 v (sealF (r.take m) (crcI (r.take m))) → (convert 22 9 v).run Tryd.prog w2 = .ok (.string SA) w2 from fun wx w2 v h => by
    rw [hSA]; exact conv_str (Bs.own h.2 (by rw [seal_len, hml0]; omega) (seal_rg (hrg.take m) _)))
  generalize crcI (r.take m) = C at *
  have e1 : ((m + 4 : Nat) : Int) - 4 = (m : Int) := by omega
  have hml : (m : Int) ≤ 8192 := by omega
  have HR0 := Lib.hid hr
  have HB := Lib.hid hB
  obtain ⟨n, hn⟩ : ∃ n, n = m + 4 := ⟨_, rfl⟩
  rw [← hn] at hW HR0 e1 hc HCV ⊢
  have hnl : n ≤ 9000 := by omega
  have hmn : m ≤ n := by omega
  have HW := Lib.hid hW
  have HQ := Lib.hid hq
  clear hSA hSB hQ hm hv hvW hB hr hn hW hrg htk hml0 hcl hq
  generalize r.take m = rm at *
  go_enter Tryd.func29, Tryd.ntmps29
  go_upto_region 4 with (fail)
  have HLT := Lib.hid (blt HR0.out)
  rw [← HW.out]
  refine wp_region_held_drew (S := fun wx => wx.cell? ⟨w.heap.size, 0, none⟩ = some (.slice (some ⟨g, off, none⟩) n c) ∧ Hid (Below W.heap.size W wx)) (by kernel_rfl) (RS.mk HR0.out (Below.refl _ _).drew) (fun hHeld => ?_)
  change wpAnyH _ _ _ _ _ 15 #[false, false, false, false, false, false, false, false, false, false, false, false, false, false, false] _ _
  refine wpAnyH_take (i := 0) (oi := _) (v := .pointer (some ⟨w.heap.size, 0, none⟩)) rfl (by kernel_rfl) (by kernel_rfl) (by kernel_rfl) (fun _ _ _ h => h) (Or.inl ⟨by rfl, fun wx hSw => ?_⟩) (by assumption) ?_
  · go_simp
    try (first | omega | (rw [IntKind.wrap_i64]; omega))
  (try simp only [Act.put, List.setIfInBounds_toArray, List.set_cons_zero, List.set_cons_succ, List.getElem_toArray, List.getElem_cons_zero, List.getElem_cons_succ])
  refine wpAnyH_take (i := 1) (oi := _) (v := .slice (some ⟨g, off, none⟩) n c) rfl (by kernel_rfl) (by kernel_rfl) (by kernel_rfl) (fun _ _ _ h => h) (Or.inl ⟨by rfl, fun wx hSw => ?_⟩) (by assumption) ?_
  · go_simp
    try (first | omega | (rw [IntKind.wrap_i64]; omega))
  (try simp only [Act.put, List.setIfInBounds_toArray, List.set_cons_zero, List.set_cons_succ, List.getElem_toArray, List.getElem_cons_zero, List.getElem_cons_succ])
  refine wpAnyH_take (i := 2) (oi := _) (v := .int .i64 (m : Int)) rfl (by kernel_rfl) (by kernel_rfl) (by kernel_rfl) (fun _ _ _ h => h) (Or.inl ⟨by rfl, fun wx hSw => ?_⟩) (by assumption) ?_
  · go_simp
    try (first | omega | (rw [IntKind.wrap_i64]; omega))
  (try simp only [Act.put, List.setIfInBounds_toArray, List.set_cons_zero, List.set_cons_succ, List.getElem_toArray, List.getElem_cons_zero, List.getElem_cons_succ])
  refine wpAnyH_take (i := 3) (oi := _) (v := .slice (some ⟨g, off, none⟩) m c) rfl (by kernel_rfl) (by kernel_rfl) (by kernel_rfl) (fun _ _ _ h => h) (Or.inl ⟨by rfl, fun wx hSw => ?_⟩) (by assumption) ?_
  · go_simp
    try (first | omega | (rw [IntKind.wrap_i64]; omega))
  (try simp only [Act.put, List.setIfInBounds_toArray, List.set_cons_zero, List.set_cons_succ, List.getElem_toArray, List.getElem_cons_zero, List.getElem_cons_succ])
  refine wpAnyH_take (i := 4) (oi := _) (v := .pointer (some ⟨w.heap.size, 0, none⟩)) rfl (by kernel_rfl) (by kernel_rfl) (by kernel_rfl) (fun _ _ _ h => h) (Or.inl ⟨by rfl, fun wx hSw => ?_⟩) (by assumption) ?_
  · go_simp
    try (first | omega | (rw [IntKind.wrap_i64]; omega))
  (try simp only [Act.put, List.setIfInBounds_toArray, List.set_cons_zero, List.set_cons_succ, List.getElem_toArray, List.getElem_cons_zero, List.getElem_cons_succ])
  refine wpAnyH_take (i := 5) (oi := _) (v := .slice (some ⟨g, off, none⟩) n c) rfl (by kernel_rfl) (by kernel_rfl) (by kernel_rfl) (fun _ _ _ h => h) (Or.inl ⟨by rfl, fun wx hSw => ?_⟩) (by assumption) ?_
  · go_simp
    try (first | omega | (rw [IntKind.wrap_i64]; omega))
  (try simp only [Act.put, List.setIfInBounds_toArray, List.set_cons_zero, List.set_cons_succ, List.getElem_toArray, List.getElem_cons_zero, List.getElem_cons_succ])
  refine wpAnyH_take (i := 6) (oi := _) (v := .int .i64 (m : Int)) rfl (by kernel_rfl) (by kernel_rfl) (by kernel_rfl) (fun _ _ _ h => h) (Or.inl ⟨by rfl, fun wx hSw => ?_⟩) (by assumption) ?_
  · go_simp
    try (first | omega | (rw [IntKind.wrap_i64]; omega))
  (try simp only [Act.put, List.setIfInBounds_toArray, List.set_cons_zero, List.set_cons_succ, List.getElem_toArray, List.getElem_cons_zero, List.getElem_cons_succ])
  refine wpAnyH_take (i := 7) (oi := _) (v := .slice (some ⟨g, off, none⟩) m c) rfl (by kernel_rfl) (by kernel_rfl) (by kernel_rfl) (fun _ _ _ h => h) (Or.inl ⟨by rfl, fun wx hSw => ?_⟩) (by assumption) ?_
  · go_simp
    try (first | omega | (rw [IntKind.wrap_i64]; omega))
  (try simp only [Act.put, List.setIfInBounds_toArray, List.set_cons_zero, List.set_cons_succ, List.getElem_toArray, List.getElem_cons_zero, List.getElem_cons_succ])
  refine wpAnyH_take (i := 11) (oi := _) (v := .pointer (some ⟨w.heap.size, 0, none⟩)) rfl (by kernel_rfl) (by kernel_rfl) (by kernel_rfl) (fun _ _ _ h => h) (Or.inl ⟨by rfl, fun wx hSw => ?_⟩) (by assumption) ?_
  · go_simp
    try (first | omega | (rw [IntKind.wrap_i64]; omega))
  (try simp only [Act.put, List.setIfInBounds_toArray, List.set_cons_zero, List.set_cons_succ, List.getElem_toArray, List.getElem_cons_zero, List.getElem_cons_succ])
  refine wpAnyH_take (i := 12) (oi := _) (v := .slice (some ⟨g, off, none⟩) n c) rfl (by kernel_rfl) (by kernel_rfl) (by kernel_rfl) (fun _ _ _ h => h) (Or.inl ⟨by rfl, fun wx hSw => ?_⟩) (by assumption) ?_
  · go_simp
    try (first | omega | (rw [IntKind.wrap_i64]; omega))
  (try simp only [Act.put, List.setIfInBounds_toArray, List.set_cons_zero, List.set_cons_succ, List.getElem_toArray, List.getElem_cons_zero, List.getElem_cons_succ])
  refine wpAnyH_take (i := 13) (oi := _) (v := .string SB) rfl (by kernel_rfl) (by kernel_rfl) (by kernel_rfl) (fun _ _ _ h => h) (Or.inl ⟨by rfl, fun wx hSw => ?_⟩) (by assumption) ?_
  · have hcv := HCV.out wx hSw.2.out
    go_simp
    try (first | omega | (rw [IntKind.wrap_i64]; omega))
  (try simp only [Act.put, List.setIfInBounds_toArray, List.set_cons_zero, List.set_cons_succ, List.getElem_toArray, List.getElem_cons_zero, List.getElem_cons_succ])
  refine wpAnyH_ready (rs := [8]) (by kernel_rfl) (by simp) ?_
  refine AllReadyH.cons (o := _) rfl (fun K hK => ?_) AllReadyH.nil
  go_simp
  refine (HR.out _ hHeld.2.out).mono ?_
  rintro e w' ⟨rfl, rfl⟩
  go_wp2_with fail
  refine hK.out _ _ (hHeld) (fun hHeld => ?_)
  clear hK K
  (try simp only [Act.put, List.setIfInBounds_toArray, List.set_cons_zero, List.set_cons_succ, List.getElem_toArray, List.getElem_cons_zero, List.getElem_cons_succ])
  refine wpAnyH_ready (rs := [9]) (by kernel_rfl) (by simp) ?_
  refine AllReadyH.cons (o := _) rfl (fun K hK => ?_) AllReadyH.nil
  go_simp
  refine (HS.out _ hHeld.2.out).mono ?_
  rintro e w2 ⟨v2, rfl, hb2, ho2⟩
  have HS2 := Lib.hid (RS.call hHeld HLT.out hb2)
  have hcv2 := HOW.out _ _ _ ⟨hb2, ho2⟩
  clear hb2 ho2
  go_wp2_with fail
  refine hK.out _ _ (HS2.out) (fun hHeld => ?_)
  clear hK K
  (try simp only [Act.put, List.setIfInBounds_toArray, List.set_cons_zero, List.set_cons_succ, List.getElem_toArray, List.getElem_cons_zero, List.getElem_cons_succ])
  refine wpAnyH_ready (rs := [10]) (by kernel_rfl) (by simp) ?_
  refine AllReadyH.cons (o := _) rfl (fun K hK => ?_) AllReadyH.nil
  go_simp
  refine hK.out _ _ (hHeld) (fun hHeld => ?_)
  clear hK K
  (try simp only [Act.put, List.setIfInBounds_toArray, List.set_cons_zero, List.set_cons_succ, List.getElem_toArray, List.getElem_cons_zero, List.getElem_cons_succ])
  refine wpAnyH_take (i := 14) (oi := _) (v := .bool (!Q)) rfl (by kernel_rfl) (by kernel_rfl) (by kernel_rfl) (fun _ _ _ h => h) (Or.inl ⟨by rfl, fun wx hSw => ?_⟩) (by assumption) ?_
  · have hqq := HQ.out
    go_simp
    try (first | omega | (rw [IntKind.wrap_i64]; omega))
  (try simp only [Act.put, List.setIfInBounds_toArray, List.set_cons_zero, List.set_cons_succ, List.getElem_toArray, List.getElem_cons_zero, List.getElem_cons_succ])
  refine wpAnyH_done (by kernel_rfl) ?_ _
  skip
  obtain ⟨hcl, hbl⟩ := hHeld
  have HBL := Lib.hid (btrans HB.out hbl.out)
  clear hbl hcv2
  cases Q
  · go_wp2
    go_ret2
    exact ⟨HBL.out, Or.inr ⟨rfl, rfl⟩⟩
  · go_wp2
    go_ret2
    exact ⟨HBL.out, Or.inl ⟨rfl, rfl⟩⟩

theorem content_any (s : St) (a : Option Addr) (n c : Nat) (w : World) (hn : n = s.rest.length) (hv : Bs (fun k => k < w.heap.size) w (.slice a n c) s.rest) :
    Calls Tryd.prog 29 #[.agg #[.slice a n c, .bool s.inn, .bool s.esc, .bool s.bad]] w (RecvIs w a n c (good s)) := by
  have hl := hv.1
  obtain ⟨r, i, x, y⟩ := s
  simp only at hv hn hl ⊢
  by_cases h : x = true ∨ y = true ∨ n < 4 ∨ 8196 < n
  · have hr : good ⟨r, i, x, y⟩ = false := by
      unfold good
      simp only
      rw [← hn]
      rcases h with rfl | rfl | h | h
      · simp
      · simp
      · rw [decide_eq_false (show ¬ 4 ≤ n by omega)]; simp
      · rw [decide_eq_false (show ¬ n ≤ 8196 by omega)]; simp
    rw [hr]
    refine (content_off i x y a n c w (by omega) h).mono ?_
    rintro e w' ⟨rfl, hb⟩
    exact ⟨hb, Or.inr ⟨rfl, rfl⟩⟩
  · simp only [not_or, Bool.not_eq_true, Bool.not_eq_false] at h
    obtain ⟨rfl, rfl, h4, h8⟩ := h
    obtain ⟨m, rfl⟩ : ∃ m, n = m + 4 := ⟨n - 4, by omega⟩
    obtain ⟨g, off, rfl⟩ : ∃ g off, a = some ⟨g, off, none⟩ := by
      obtain ⟨_, _, a', c', e, _, hp⟩ := hv
      simp only [Value.slice.injEq] at e
      obtain ⟨rfl, _, _⟩ := e
      obtain ⟨g, off, e, _⟩ := hp (by omega)
      exact ⟨g, off, e⟩
    have hr : good ⟨r, i, false, false⟩ = decide (sealF (r.take m) (crcI (r.take m)) = r) := by
      have e1 : cont ⟨r, i, false, false⟩ = r.take m := by unfold cont; simp only; rw [← hn]; simp
      have e2 : tl ⟨r, i, false, false⟩ = r.drop m := by unfold tl; simp only; rw [← hn]; simp
      unfold good
      rw [e1, e2]
      simp only
      rw [← hn, decide_eq_true (show 4 ≤ m + 4 by omega), decide_eq_true (show m + 4 ≤ 8196 by omega)]
      have e3 : (sealF (r.take m) (crcI (r.take m)) = r) ↔ (sumB (crcI (r.take m)) = r.drop m) := by
        unfold sealF
        constructor
        · intro h
          have h2 := congrArg (List.drop m) h
          rw [List.drop_append_of_le_length (by simp; omega)] at h2
          have h3 : List.drop m (r.take m) = [] := List.drop_eq_nil_of_le (by simp; omega)
          rw [h3, List.nil_append] at h2
          exact h2
        · intro h; rw [h, List.take_append_drop]
      simp only [e3]
      simp
    rw [hr]
    refine (content_on i r g off m c w hv hn.symm (by omega)).mono ?_
    rintro e w' ⟨hb, h⟩
    refine ⟨hb, ?_⟩
    rcases h with ⟨h1, h2⟩ | h
    · exact Or.inl ⟨h1, by omega, by rw [h2]; simp⟩
    · exact Or.inr h

set_option maxHeartbeats 1000000 in
theorem sameState_any (s t : St) (v u : Value) (w : World) (hs : SV (fun k => k < w.heap.size) w v s) (ht : SV (fun k => k < w.heap.size) w u t) :
    Calls Tryd.prog 17 #[v, u] w fun e w' => e = .returned (.bool (decide (s = t))) ∧ Below w.heap.size w w' := by
  obtain ⟨a, c, rfl, hb⟩ := hs
  obtain ⟨a', c', rfl, hb'⟩ := ht
  have hca : ∀ wx, Below w.heap.size w wx → (convert 22 9 (.slice a s.rest.length c)).run Tryd.prog wx = .ok (.string (strOfNums s.rest)) wx := fun wx hx => conv_str (hb.on hx)
  have hcb : ∀ wx, Below w.heap.size w wx → (convert 22 9 (.slice a' t.rest.length c')).run Tryd.prog wx = .ok (.string (strOfNums t.rest)) wx := fun wx hx => conv_str (hb'.on hx)
  have hq := nums_inj hb.2.1 hb'.2.1
  obtain ⟨R, hR⟩ : ∃ R, R = decide (s = t) := ⟨_, rfl⟩
  rw [← hR]
  obtain ⟨r, i, x, y⟩ := s
  obtain ⟨r', i', x', y'⟩ := t
  simp only [St.mk.injEq] at hq hca hcb hR ⊢
  generalize strOfNums r = SA at *
  generalize strOfNums r' = SB at *
  have HW := Lib.hid (ball (ball (Below.refl w.heap.size w) (.cells #[.slice a r.length c, .bool i, .bool x, .bool y] 31)) (.cells #[.slice a' r'.length c', .bool i', .bool x', .bool y'] 31))
  have hca2 := hca _ HW.out
  have hcb2 := hcb _ HW.out
  clear hca hcb hb hb'
  have HRR : Hid (R = ((i == i') && ((x == x') && ((y == y') && decide (r = r'))))) := Lib.hid (by
    rw [hR]
    cases i <;> cases i' <;> cases x <;> cases x' <;> cases y <;> cases y' <;> simp)
  clear hR
  generalize r.length = n at *
  generalize r'.length = n' at *
  obtain ⟨B4, hB4⟩ : ∃ B4, B4 = decide (r = r') := ⟨_, rfl⟩
  rw [← hB4] at hq HRR
  clear hB4
  cases h1 : (i == i')
  · rw [h1] at HRR
    simp only [Bool.false_and] at HRR
    go_enter Tryd.func17, Tryd.ntmps17
    go_wp2
    go_ret
    exact ⟨by rw [HRR.out]; rfl, HW.out⟩
  rw [h1] at HRR
  cases h2 : (x == x')
  · rw [h2] at HRR
    simp only [Bool.false_and, Bool.true_and] at HRR
    go_enter Tryd.func17, Tryd.ntmps17
    go_wp2
    go_ret
    exact ⟨by rw [HRR.out]; rfl, HW.out⟩
  rw [h2] at HRR
  cases h3 : (y == y')
  · rw [h3] at HRR
    simp only [Bool.false_and, Bool.true_and] at HRR
    go_enter Tryd.func17, Tryd.ntmps17
    go_wp2
    go_ret
    exact ⟨by rw [HRR.out]; rfl, HW.out⟩
  rw [h3] at HRR
  simp only [Bool.true_and] at HRR
  go_enter Tryd.func17, Tryd.ntmps17
  go_wp2
  go_ret
  exact ⟨by rw [HRR.out]; rfl, HW.out⟩
end Go.Proofs.YtdmlnjgbfkkjdaaDoor
