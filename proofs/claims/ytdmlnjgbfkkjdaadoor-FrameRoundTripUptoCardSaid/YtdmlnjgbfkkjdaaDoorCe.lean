/-
  Walks: received.
-/
import Derived.Test.YtdmlnjgbfkkjdaaDoorCd
namespace Go.Proofs.YtdmlnjgbfkkjdaaDoor
open Go.RowKit
set_option linter.unusedVariables false
set_option linter.unusedSimpArgs false

set_option maxHeartbeats 1000000 in
/-- Not a frame of the right size that is ended now. -/
theorem received_off (i x y : Bool) (a : Option Addr) (n c : Nat) (w : World) (hl : n ≤ 140737488355328) (h : i = false ∨ x = true ∨ y = true ∨ n < 4 ∨ 8196 < n) :
    Calls Tryd.prog 26 #[.agg #[.slice a n c, .bool i, .bool x, .bool y]] w fun e w' => e = .returned (.tuple #[.slice none 0 0, .bool false]) ∧ Below w.heap.size w w' := by
  cases i
  · go_enter Tryd.func26, Tryd.ntmps26
    go_wp2
    go_ret2
    exact ⟨rfl, ball (Below.refl _ _) _⟩
  cases x
  rotate_left
  · go_enter Tryd.func26, Tryd.ntmps26
    go_wp2
    go_ret2
    exact ⟨rfl, ball (Below.refl _ _) _⟩
  cases y
  rotate_left
  · go_enter Tryd.func26, Tryd.ntmps26
    go_wp2
    go_ret2
    exact ⟨rfl, ball (Below.refl _ _) _⟩
  by_cases h4 : n < 4
  · have h4' : (n : Int) - 4 < 0 := by omega
    clear h
    go_enter Tryd.func26, Tryd.ntmps26
    go_wp2
    go_ret2
    exact ⟨rfl, ball (Below.refl _ _) _⟩
  · have h8 : 8196 < n := by
      rcases h with h | h | h | h | h
      · cases h
      · cases h
      · cases h
      · exact absurd h h4
      · exact h
    have h4' : ¬ ((n : Int) - 4 < 0) := by omega
    have h8' : (8192 : Int) < (n : Int) - 4 := by omega
    clear h
    go_enter Tryd.func26, Tryd.ntmps26
    go_wp2
    go_ret2
    exact ⟨rfl, ball (Below.refl _ _) _⟩

theorem arr42 (g o c : Nat) : ∀ w, (Instr.arrayAt 42 (.slice (some ⟨g, o, none⟩) 4 c)).run Tryd.prog w = .ok (.pointer (some ⟨g, o, none⟩)) w := by
  intro w
  unfold Instr.arrayAt
  simp [run_underlying Tryd.underlying42]
/-- The worlds in which a box's first cell and the old memory are as they were. -/
def RS (W : World) (B : Nat) (v : Value) (wx : World) : Prop := wx.cell? ⟨B, 0, none⟩ = some v ∧ Hid (Below W.heap.size W wx)
theorem RS.mk {W wx : World} {B : Nat} {v : Value} {cs : List Value} {t : TypeId} (h : W.heap[B]? = some (.cells (v :: cs).toArray t (0, 0))) (hb : Below W.heap.size W wx) : RS W B v wx :=
  ⟨(hb.cell (p := ⟨B, 0, none⟩) (blt h)).trans (by rw [cell_of_row W B 0 _ t (0, 0) h]; rfl), hb⟩
theorem RS.call {W wx w' : World} {B : Nat} {v : Value} (h : RS W B v wx) (hB : B < W.heap.size) (hb : Below wx.heap.size wx w') : RS W B v w' :=
  ⟨(hb.cell (p := ⟨B, 0, none⟩) (Nat.lt_of_lt_of_le hB h.2.out.size)).trans h.1, h.2.out.trans (hb.mono h.2.out.size)⟩
def RecvOf (w : World) (a : Option Addr) (m c : Nat) (ok : Bool) (e : Ending) (w' : World) : Prop :=
  Below w.heap.size w w' ∧ ((ok = true ∧ e = .returned (.tuple #[.slice a m c, .bool true])) ∨ (ok = false ∧ e = .returned (.tuple #[.slice none 0 0, .bool false])))

set_option maxRecDepth 100000 in
set_option maxHeartbeats 4000000 in
theorem received_on (r : List Int) (g off m c : Nat) (w : World) (hk : KOk w) (hv : Bs (fun k => k < w.heap.size) w (.slice (some ⟨g, off, none⟩) (m + 4) c) r) (hm : r.length = m + 4) (h8 : m ≤ 8192) :
    Calls Tryd.prog 26 #[.agg #[.slice (some ⟨g, off, none⟩) (m + 4) c, .bool true, .bool false, .bool false]] w (RecvOf w (some ⟨g, off, none⟩) m c (decide (sumB (crcI (r.take m)) = r.drop m))) := by
  obtain ⟨W, hW⟩ : ∃ W, W = w.alloc (.cells #[.slice (some ⟨g, off, none⟩) (m + 4) c, .bool true, .bool false, .bool false] 31) := ⟨_, rfl⟩
  have hB : Below w.heap.size w W := by rw [hW]; exact ball (Below.refl w.heap.size w) _
  have hr : W.heap[w.heap.size]? = some (.cells #[.slice (some ⟨g, off, none⟩) (m + 4) c, .bool true, .bool false, .bool false] 31 (0, 0)) := by rw [hW]; exact bnew _ _
  have hc : m + 4 ≤ c := by
    obtain ⟨_, _, _, _, e, h, _⟩ := hv
    simp only [Value.slice.injEq] at e
    omega
  have hvW := hv.on hB
  obtain ⟨C, hC⟩ : ∃ C, C = sumB (crcI (r.take m)) := ⟨_, rfl⟩
  obtain ⟨T, hT⟩ : ∃ T, T = r.drop m := ⟨_, rfl⟩
  have hCl : C.length = 4 := by rw [hC]; rfl
  have hTl : T.length = 4 := by rw [hT]; simp; omega
  have HC := Lib.hid (show ∀ wx, Below W.heap.size W wx → Calls Tryd.prog 23 #[.slice (some ⟨g, off, none⟩) m c] wx fun e w' => e = .returned (.agg (byteVals C).toArray) ∧ Below wx.heap.size wx w' from fun wx hx => by
    rw [hC]
    have h1 : Bs (fun k => k < wx.heap.size) wx (.slice (some ⟨g, off, none⟩) r.length c) r := by rw [hm]; exact hvW.on hx
    exact sum_any (r.take m) _ wx ((hk.below hB).below hx) (h1.take m (by omega)))
  have HM := Lib.hid (show ∀ wx, Below W.heap.size W wx → wx.rangeAt g (off + m) (byteVals T) from fun wx hx => by
    obtain ⟨_, _, _, _, e, _, hp⟩ := hvW.on hx
    simp only [Value.slice.injEq] at e
    obtain ⟨rfl, _, _⟩ := e
    obtain ⟨g', off', e', _, hcell⟩ := hp (by omega)
    simp only [Option.some.injEq, Addr.mk.injEq, and_true] at e'
    obtain ⟨rfl, rfl⟩ := e'
    intro j v hj
    unfold byteVals at hj
    rw [List.getElem?_map, hT, List.getElem?_drop] at hj
    obtain ⟨u, hu, rfl⟩ := Option.map_eq_some_iff.1 hj
    rw [Nat.add_assoc]
    exact hcell (m + j) u hu)
  rw [← hC, ← hT]
  obtain ⟨Q, hQ⟩ : ∃ Q, Q = decide (C = T) := ⟨_, rfl⟩
  rw [← hQ]
  have E4 := (show ∀ w, (Op.equalIn 10000 42 (.agg (byteVals C).toArray) (.agg (byteVals T).toArray)).run Tryd.prog w = .ok Q w from fun w => by rw [hQ]; exact eq4 C T hCl hTl w)
  have HA4 := arr42 g (off + m) (c - m)
  have HTl := Lib.hid (show (byteVals T).length = 4 by rw [byteVals_length]; exact hTl)
  have e1 : ((m + 4 : Nat) : Int) - 4 = (m : Int) := by omega
  have hml : (m : Int) ≤ 8192 := by omega
  have HR := Lib.hid hr
  have HB := Lib.hid hB
  obtain ⟨n, hn⟩ : ∃ n, n = m + 4 := ⟨_, rfl⟩
  rw [← hn] at hW HR e1 hc ⊢
  have hnl : n ≤ 9000 := by omega
  have hmn : m ≤ n := by omega
  have e2 : n - m = 4 := by omega
  have HW := Lib.hid hW
  clear hC hT hQ hCl hTl hm hv hvW hk hB hr hn hW
  have HC1 := HC.out
  clear HC
  go_enter Tryd.func26, Tryd.ntmps26
  go_upto_region 4 with (fail)
  have HLT := Lib.hid (blt HR.out)
  have SZ := Lib.hid (size42 T (by have := HTl.out; rwa [byteVals_length] at this))
  rw [← HW.out]
  refine wp_region_held_drew (S := fun wx => wx.cell? ⟨w.heap.size, 0, none⟩ = some (.slice (some ⟨g, off, none⟩) n c) ∧ Hid (Below W.heap.size W wx)) (by kernel_rfl) (RS.mk HR.out (Below.refl _ _).drew) (fun hHeld => ?_)
  change wpAnyH _ _ _ _ _ 12 #[false, false, false, false, false, false, false, false, false, false, false, false] _ _
  refine wpAnyH_take (i := 0) (oi := _) (v := .pointer (some ⟨w.heap.size, 0, none⟩)) rfl (by kernel_rfl) (by kernel_rfl) (by kernel_rfl) (fun _ _ _ h => h) (Or.inl ⟨by rfl, fun wx hSw => ?_⟩) (by assumption) ?_
  · go_simp
    try (first | omega | (rw [IntKind.wrap_i64]; omega))
  (try simp only [Act.put, List.setIfInBounds_toArray, List.set_cons_zero, List.set_cons_succ, List.getElem_toArray, List.getElem_cons_zero, List.getElem_cons_succ])
  refine wpAnyH_take (i := 1) (oi := _) (v := .slice (some ⟨g, off, none⟩) n c) rfl (by kernel_rfl) (by kernel_rfl) (by kernel_rfl) (fun _ _ _ h => h) (Or.inl ⟨by rfl, fun wx hSw => ?_⟩) (by assumption) ?_
  · go_simp
    try (first | omega | (rw [IntKind.wrap_i64]; omega))
  (try simp only [Act.put, List.setIfInBounds_toArray, List.set_cons_zero, List.set_cons_succ, List.getElem_toArray, List.getElem_cons_zero, List.getElem_cons_succ])
  refine wpAnyH_take (i := 2) (oi := _) (v := .int .i64 (m : Int)) rfl (by kernel_rfl) (by kernel_rfl) (by kernel_rfl) (fun _ _ _ h => h) (Or.inl ⟨by rfl, fun wx hSw => ?_⟩) (by assumption) ?_
  · go_simp
    try (first | omega | (rw [IntKind.wrap_i64]; omega))
  (try simp only [Act.put, List.setIfInBounds_toArray, List.set_cons_zero, List.set_cons_succ, List.getElem_toArray, List.getElem_cons_zero, List.getElem_cons_succ])
  refine wpAnyH_take (i := 3) (oi := _) (v := .slice (some ⟨g, off, none⟩) m c) rfl (by kernel_rfl) (by kernel_rfl) (by kernel_rfl) (fun _ _ _ h => h) (Or.inl ⟨by rfl, fun wx hSw => ?_⟩) (by assumption) ?_
  · go_simp
    try (first | omega | (rw [IntKind.wrap_i64]; omega))
  (try simp only [Act.put, List.setIfInBounds_toArray, List.set_cons_zero, List.set_cons_succ, List.getElem_toArray, List.getElem_cons_zero, List.getElem_cons_succ])
  refine wpAnyH_take (i := 5) (oi := _) (v := .pointer (some ⟨w.heap.size, 0, none⟩)) rfl (by kernel_rfl) (by kernel_rfl) (by kernel_rfl) (fun _ _ _ h => h) (Or.inl ⟨by rfl, fun wx hSw => ?_⟩) (by assumption) ?_
  · go_simp
    try (first | omega | (rw [IntKind.wrap_i64]; omega))
  (try simp only [Act.put, List.setIfInBounds_toArray, List.set_cons_zero, List.set_cons_succ, List.getElem_toArray, List.getElem_cons_zero, List.getElem_cons_succ])
  refine wpAnyH_take (i := 6) (oi := _) (v := .slice (some ⟨g, off, none⟩) n c) rfl (by kernel_rfl) (by kernel_rfl) (by kernel_rfl) (fun _ _ _ h => h) (Or.inl ⟨by rfl, fun wx hSw => ?_⟩) (by assumption) ?_
  · go_simp
    try (first | omega | (rw [IntKind.wrap_i64]; omega))
  (try simp only [Act.put, List.setIfInBounds_toArray, List.set_cons_zero, List.set_cons_succ, List.getElem_toArray, List.getElem_cons_zero, List.getElem_cons_succ])
  refine wpAnyH_take (i := 7) (oi := _) (v := .int .i64 (m : Int)) rfl (by kernel_rfl) (by kernel_rfl) (by kernel_rfl) (fun _ _ _ h => h) (Or.inl ⟨by rfl, fun wx hSw => ?_⟩) (by assumption) ?_
  · go_simp
    try (first | omega | (rw [IntKind.wrap_i64]; omega))
  (try simp only [Act.put, List.setIfInBounds_toArray, List.set_cons_zero, List.set_cons_succ, List.getElem_toArray, List.getElem_cons_zero, List.getElem_cons_succ])
  refine wpAnyH_take (i := 8) (oi := _) (v := .slice (some ⟨g, off + m, none⟩) 4 (c - m)) rfl (by kernel_rfl) (by kernel_rfl) (by kernel_rfl) (fun _ _ _ h => h) (Or.inl ⟨by rfl, fun wx hSw => ?_⟩) (by assumption) ?_
  · go_simp
    try (first | omega | (rw [IntKind.wrap_i64]; omega))
  (try simp only [Act.put, List.setIfInBounds_toArray, List.set_cons_zero, List.set_cons_succ, List.getElem_toArray, List.getElem_cons_zero, List.getElem_cons_succ])
  refine wpAnyH_take (i := 9) (oi := _) (v := .pointer (some ⟨g, off + m, none⟩)) rfl (by kernel_rfl) (by kernel_rfl) (by kernel_rfl) (fun _ _ _ h => h) (Or.inl ⟨by rfl, fun wx hSw => ?_⟩) (by assumption) ?_
  · go_simp
    try (first | omega | (rw [IntKind.wrap_i64]; omega))
  (try simp only [Act.put, List.setIfInBounds_toArray, List.set_cons_zero, List.set_cons_succ, List.getElem_toArray, List.getElem_cons_zero, List.getElem_cons_succ])
  refine wpAnyH_take (i := 10) (oi := _) (v := .agg (byteVals T).toArray) rfl (by kernel_rfl) (by kernel_rfl) (by kernel_rfl) (fun _ _ _ h => h) (yieldsIf_load_mid (by rfl) 42 _ rfl g (off + m) rfl (byteVals T) _ (fun wx hSw => HM.out wx hSw.2.out) Tryd.underlying42 rfl SZ.out) (by assumption) ?_
  (try simp only [Act.put, List.setIfInBounds_toArray, List.set_cons_zero, List.set_cons_succ, List.getElem_toArray, List.getElem_cons_zero, List.getElem_cons_succ])
  refine wpAnyH_ready (rs := [4]) (by kernel_rfl) (by simp) ?_
  refine AllReadyH.cons (o := _) rfl (fun K hK => ?_) AllReadyH.nil
  go_simp
  refine (HC1 _ hHeld.2.out).mono ?_
  rintro e w' ⟨rfl, hbc⟩
  have HS2 := Lib.hid (RS.call hHeld HLT.out hbc)
  clear hbc
  go_wp2_with fail
  refine hK.out _ _ (HS2.out) (fun hHeld => ?_)
  clear hK K
  (try simp only [Act.put, List.setIfInBounds_toArray, List.set_cons_zero, List.set_cons_succ, List.getElem_toArray, List.getElem_cons_zero, List.getElem_cons_succ])
  refine wpAnyH_take (i := 11) (oi := _) (v := .bool (!Q)) rfl (by kernel_rfl) (by kernel_rfl) (by kernel_rfl) (fun _ _ _ h => h) (Or.inl ⟨by rfl, fun wx hSw => ?_⟩) (by assumption) ?_
  · go_simp
    try (first | omega | (rw [IntKind.wrap_i64]; omega))
  (try simp only [Act.put, List.setIfInBounds_toArray, List.set_cons_zero, List.set_cons_succ, List.getElem_toArray, List.getElem_cons_zero, List.getElem_cons_succ])
  refine wpAnyH_done (by kernel_rfl) ?_ _
  obtain ⟨hcl, hbl⟩ := hHeld
  have HBL := Lib.hid (btrans HB.out hbl.out)
  clear hbl HM E4 HA4 HC1
  cases Q
  · go_wp2
    go_ret2
    exact ⟨HBL.out, Or.inr ⟨rfl, rfl⟩⟩
  · go_wp2
    go_ret2
    exact ⟨HBL.out, Or.inl ⟨rfl, rfl⟩⟩

/-- Received: the content, or nothing. -/
def RecvIs (w : World) (a : Option Addr) (n c : Nat) (ok : Bool) (e : Ending) (w' : World) : Prop :=
  Below w.heap.size w w' ∧ ((ok = true ∧ 4 ≤ n ∧ e = .returned (.tuple #[.slice a (n - 4) c, .bool true])) ∨ (ok = false ∧ e = .returned (.tuple #[.slice none 0 0, .bool false])))
theorem received_any (s : St) (a : Option Addr) (n c : Nat) (w : World) (hk : KOk w) (hn : n = s.rest.length) (hv : Bs (fun k => k < w.heap.size) w (.slice a n c) s.rest) :
    Calls Tryd.prog 26 #[.agg #[.slice a n c, .bool s.inn, .bool s.esc, .bool s.bad]] w (RecvIs w a n c (recv s)) := by
  have hl := hv.1
  obtain ⟨r, i, x, y⟩ := s
  simp only at hv hn hl ⊢
  by_cases h : i = false ∨ x = true ∨ y = true ∨ n < 4 ∨ 8196 < n
  · have hr : recv ⟨r, i, x, y⟩ = false := by
      unfold recv good
      simp only
      rw [← hn]
      rcases h with rfl | rfl | rfl | h | h
      · simp
      · simp
      · simp
      · rw [decide_eq_false (show ¬ 4 ≤ n by omega)]; simp
      · rw [decide_eq_false (show ¬ n ≤ 8196 by omega)]; simp
    rw [hr]
    refine (received_off i x y a n c w (by omega) h).mono ?_
    rintro e w' ⟨rfl, hb⟩
    exact ⟨hb, Or.inr ⟨rfl, rfl⟩⟩
  · simp only [not_or, Bool.not_eq_true, Bool.not_eq_false] at h
    obtain ⟨rfl, rfl, rfl, h4, h8⟩ := h
    obtain ⟨m, rfl⟩ : ∃ m, n = m + 4 := ⟨n - 4, by omega⟩
    obtain ⟨g, off, rfl⟩ : ∃ g off, a = some ⟨g, off, none⟩ := by
      obtain ⟨_, _, a', c', e, _, hp⟩ := hv
      simp only [Value.slice.injEq] at e
      obtain ⟨rfl, _, _⟩ := e
      obtain ⟨g, off, e, _⟩ := hp (by omega)
      exact ⟨g, off, e⟩
    have hr : recv ⟨r, true, false, false⟩ = decide (sumB (crcI (r.take m)) = r.drop m) := by
      have e1 : cont ⟨r, true, false, false⟩ = r.take m := by unfold cont; simp only; rw [← hn]; simp
      have e2 : tl ⟨r, true, false, false⟩ = r.drop m := by unfold tl; simp only; rw [← hn]; simp
      unfold recv good
      rw [e1, e2]
      simp only
      rw [← hn, decide_eq_true (show 4 ≤ m + 4 by omega), decide_eq_true (show m + 4 ≤ 8196 by omega)]
      simp
    rw [hr]
    refine (received_on r g off m c w hk hv hn.symm (by omega)).mono ?_
    rintro e w' ⟨hb, h⟩
    refine ⟨hb, ?_⟩
    rcases h with ⟨h1, h2⟩ | h
    · exact Or.inl ⟨h1, by omega, by rw [h2]; simp⟩
    · exact Or.inr h
end Go.Proofs.YtdmlnjgbfkkjdaaDoor
