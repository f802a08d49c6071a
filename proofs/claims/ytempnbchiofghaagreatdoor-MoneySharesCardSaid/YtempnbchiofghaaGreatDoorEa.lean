/-
  Walks: cmp.Compare, cmp.Or of two, the comparison of the apportionment.
-/
import Derived.Test.YtempnbchiofghaaGreatDoorDc
namespace Go.Proofs.YtempnbchiofghaaGreatDoor
open Go.RowKit
set_option linter.unusedVariables false
set_option linter.unusedSimpArgs false

def cmpI (x y : Int) : Int := if x < y then -1 else if y < x then 1 else 0

theorem compare_any (x y : Int) (w : World) : Calls Tryz.prog 57 #[.int .i64 x, .int .i64 y] w fun e w' => e = .returned (.int .i64 (cmpI x y)) ∧ w = w' := by
  have hn : ∀ z w, Calls Tryz.prog 68 #[.int .i64 z] w fun e w' => e = .returned (.bool false) ∧ w = w' := by
    intro z w
    have e : (z != z) = false := by simp
    go_enter Tryz.func68, Tryz.ntmps68
    go_wp2
    go_ret
    exact ⟨rfl, rfl⟩
  have H1 := Lib.hid (hn x); have H2 := Lib.hid (hn y)
  clear hn
  unfold cmpI
  by_cases h1 : x < y
  · rw [if_pos h1]
    go_enter Tryz.func57, Tryz.ntmps57
    go_wp2_with fail
    refine (H1.out _).mono ?_
    rintro e w' ⟨rfl, rfl⟩
    go_wp2_with fail
    refine (H2.out _).mono ?_
    rintro e w' ⟨rfl, rfl⟩
    go_wp2
    go_ret
    exact ⟨rfl, rfl⟩
  · rw [if_neg h1]
    by_cases h2 : y < x
    · rw [if_pos h2]
      go_enter Tryz.func57, Tryz.ntmps57
      go_wp2_with fail
      refine (H1.out _).mono ?_
      rintro e w' ⟨rfl, rfl⟩
      go_wp2_with fail
      refine (H2.out _).mono ?_
      rintro e w' ⟨rfl, rfl⟩
      go_wp2
      go_ret
      exact ⟨rfl, rfl⟩
    · rw [if_neg h2]
      go_enter Tryz.func57, Tryz.ntmps57
      go_wp2_with fail
      refine (H1.out _).mono ?_
      rintro e w' ⟨rfl, rfl⟩
      go_wp2_with fail
      refine (H2.out _).mono ?_
      rintro e w' ⟨rfl, rfl⟩
      go_wp2
      go_ret
      exact ⟨rfl, rfl⟩

theorem or_any (a b : Int) (g : Nat) (w : World) (h0 : w.cell? ⟨g, 0, none⟩ = some (.int .i64 a)) (h1 : w.cell? ⟨g, 1, none⟩ = some (.int .i64 b)) :
    Calls Tryz.prog 56 #[.slice (some ⟨g, 0, none⟩) 2 2] w fun e w' => e = .returned (.int .i64 (if a ≠ 0 then a else b)) ∧ w = w' := by
  obtain ⟨R, hR⟩ : ∃ R, (if a ≠ 0 then a else b) = R := ⟨_, rfl⟩
  rw [hR]
  have HR := Lib.hid hR
  clear hR
  go_enter Tryz.func56, Tryz.ntmps56
  go_wp2
  go_loopw [8] (fun i wr => ∃ k : Nat, k ≤ 2 ∧ i = .int .i64 (k : Int) ∧ (0 < k → a = 0) ∧ (1 < k → b = 0) ∧ w = wr) (fun i _ => 2 - (intOf i).toNat)
  case atStart => exact ⟨0, by omega, rfl, by omega, by omega, rfl⟩
  case round =>
    obtain ⟨k, hk, rfl, ka, kb, rfl⟩ := hrel
    rcases (show k = 0 ∨ k = 1 ∨ k = 2 by omega) with rfl | rfl | rfl
    · by_cases ha : a = 0
      · have HA := Lib.hid ha
        have e : (a != 0) = false := by simpa using ha
        clear ha ka kb
        go_wp2
        go_roundw
        case rel => exact ⟨1, by omega, rfl, fun _ => HA.out, by omega, trivial⟩
        case measure => simp [intOf]
      · have e : (a != 0) = true := by simpa using ha
        have HE : Hid (a = R) := Lib.hid (by rw [← HR.out, if_pos ha])
        clear ha ka kb
        go_wp2
        go_ret
        exact ⟨retI HE.out, rfl⟩
    · have HA := Lib.hid (ka (by omega))
      clear ka kb
      by_cases hb : b = 0
      · have HB := Lib.hid hb
        have e : (b != 0) = false := by simpa using hb
        clear hb
        go_wp2
        go_roundw
        case rel => exact ⟨2, by omega, rfl, fun _ => HA.out, fun _ => HB.out, trivial⟩
        case measure => simp [intOf]
      · have e : (b != 0) = true := by simpa using hb
        have HE : Hid (b = R) := Lib.hid (by rw [← HR.out, if_neg (fun h => h HA.out)])
        clear hb
        go_wp2
        go_ret
        exact ⟨retI HE.out, rfl⟩
    · have HE : Hid (0 = R) := Lib.hid (by rw [← HR.out, if_neg (fun h => h (ka (by omega))), kb (by omega)])
      clear ka kb
      go_wp2
      go_ret
      exact ⟨retI HE.out, rfl⟩

/-- The comparison: the greater remainder first, then the smaller index. -/
def ordI (ri rj : Int) (i j : Int) : Int := if cmpI rj ri ≠ 0 then cmpI rj ri else cmpI i j

theorem cells_new1 (w : World) (cs : List Value) (t : TypeId) : ∀ j u, cs[j]? = some u → (w.alloc (.cells cs.toArray t)).cell? ⟨w.heap.size, j, none⟩ = some u := by
  intro j u hj
  rw [World.cell?, heap_alloc_new w]
  simpa using hj

/-- What holds of each world while two indices are compared. -/
structure OrdS (w : World) (R g off n c i j : Nat) (ri rj : Int) (w' : World) : Prop where
  hR : w'.cell? ⟨R, 0, none⟩ = some (.slice (some ⟨g, off, none⟩) n c)
  ci : w'.cell? ⟨g, off + i, none⟩ = some (.int .i64 ri)
  cj : w'.cell? ⟨g, off + j, none⟩ = some (.int .i64 rj)
  gr : ∃ q os, w' = Sort.grow (w.drewN q) os
theorem OrdS.alloc {w : World} {R g off n c i j : Nat} {ri rj : Int} {w' : World} (h : OrdS w R g off n c i j ri rj w') (o : Obj) : OrdS w R g off n c i j ri rj (w'.alloc o) := by
  have key : ∀ {a : Addr} {v : Value}, w'.cell? a = some v → (w'.alloc o).cell? a = some v := fun {a v} hc => by
    rw [World.cell?_alloc_old _ _ _ (by
      unfold World.cell? at hc
      rcases Nat.lt_or_ge a.block w'.heap.size with h' | h'
      · omega
      · rw [Array.getElem?_eq_none h'] at hc; simp at hc)]
    exact hc
  obtain ⟨q, os, e⟩ := h.gr
  exact ⟨key h.hR, key h.ci, key h.cj, q, os.push o, by rw [e, Sort.alloc_eq_grow, Sort.grow_grow]; rfl⟩

set_option maxRecDepth 100000 in
set_option maxHeartbeats 4000000 in
theorem order_any (i j : Nat) (ri rj : Int) (R g off n c : Nat) (w : World) (hi : i < n) (hj : j < n) (hn : n ≤ 256) (hR : w.cell? ⟨R, 0, none⟩ = some (.slice (some ⟨g, off, none⟩) n c)) (ci : w.cell? ⟨g, off + i, none⟩ = some (.int .i64 ri)) (cj : w.cell? ⟨g, off + j, none⟩ = some (.int .i64 rj)) :
    Calls Tryz.prog 55 #[.int .i64 (i : Int), .int .i64 (j : Int), .pointer (some ⟨R, 0, none⟩)] w fun e w' => e = .returned (.int .i64 (ordI ri rj (i : Int) (j : Int))) ∧ ∃ q os, w' = Sort.grow (w.drewN q) os := by
  have H1 := Lib.hid (compare_any rj ri)
  have H2 := Lib.hid (compare_any (i : Int) (j : Int))
  obtain ⟨A, hA⟩ : ∃ A, cmpI rj ri = A := ⟨_, rfl⟩
  obtain ⟨B, hB⟩ : ∃ B, cmpI (i : Int) (j : Int) = B := ⟨_, rfl⟩
  unfold ordI
  rw [hA] at H1
  rw [hB] at H2
  rw [hA, hB]
  have H3 := fun g w h0 h1 => or_any A B g w h0 h1
  obtain ⟨V, hV⟩ : ∃ V, (if A ≠ 0 then A else B) = V := ⟨_, rfl⟩
  simp only [hV] at H3 ⊢
  replace H3 := Lib.hid H3
  have HS : Hid (OrdS w R g off n c i j ri rj w.drew) := Lib.hid ⟨by rw [World.cell?_drew]; exact hR, by rw [World.cell?_drew]; exact ci, by rw [World.cell?_drew]; exact cj, 1, #[], by rw [Sort.grow_empty]; rfl⟩
  clear hA hB hR ci cj hV
  have hi2 : (i : Int) < (n : Int) := by omega
  have hj2 : (j : Int) < (n : Int) := by omega
  go_enter Tryz.func55, Tryz.ntmps55
  go_wp2_with fail
  refine wp_region_held_drew (S := OrdS w R g off n c i j ri rj) (by kernel_rfl) HS.out (fun hHeld => ?_)
  change wpAnyH _ _ _ _ _ 15 #[false, false, false, false, false, false, false, false, false, false, false, false, false, false, false] _ _
  generalize w.drew = W1 at *
  clear HS
  refine wpAnyH_take (i := 0) (oi := _) (v := .slice (some ⟨g, off, none⟩) n c) rfl (by kernel_rfl) (by kernel_rfl) (by kernel_rfl) (fun _ _ _ h => h) (Or.inl ⟨by rfl, fun wx hSw => ?_⟩) (by assumption) ?_
  · have hc := hSw.hR; clear hSw hHeld; go_simp
  (try simp only [Act.put, List.setIfInBounds_toArray, List.set_cons_zero, List.set_cons_succ, List.getElem_toArray, List.getElem_cons_zero, List.getElem_cons_succ])
  refine wpAnyH_take (i := 1) (oi := _) (v := .int .i64 (j : Int)) rfl (by kernel_rfl) (by kernel_rfl) (by kernel_rfl) (fun _ _ _ h => h) (Or.inl ⟨by rfl, fun wx hSw => ?_⟩) (by assumption) ?_
  · go_simp
  (try simp only [Act.put, List.setIfInBounds_toArray, List.set_cons_zero, List.set_cons_succ, List.getElem_toArray, List.getElem_cons_zero, List.getElem_cons_succ])
  refine wpAnyH_take (i := 2) (oi := _) (v := .pointer (some ⟨g, off + j, none⟩)) rfl (by kernel_rfl) (by kernel_rfl) (by kernel_rfl) (fun _ _ _ h => h) (Or.inl ⟨by rfl, fun wx hSw => ?_⟩) (by assumption) ?_
  · go_simp
  (try simp only [Act.put, List.setIfInBounds_toArray, List.set_cons_zero, List.set_cons_succ, List.getElem_toArray, List.getElem_cons_zero, List.getElem_cons_succ])
  refine wpAnyH_take (i := 3) (oi := _) (v := .int .i64 rj) rfl (by kernel_rfl) (by kernel_rfl) (by kernel_rfl) (fun _ _ _ h => h) (Or.inl ⟨by rfl, fun wx hSw => ?_⟩) (by assumption) ?_
  · have hc := hSw.cj; clear hSw hHeld; go_simp
  (try simp only [Act.put, List.setIfInBounds_toArray, List.set_cons_zero, List.set_cons_succ, List.getElem_toArray, List.getElem_cons_zero, List.getElem_cons_succ])
  refine wpAnyH_take (i := 4) (oi := _) (v := .slice (some ⟨g, off, none⟩) n c) rfl (by kernel_rfl) (by kernel_rfl) (by kernel_rfl) (fun _ _ _ h => h) (Or.inl ⟨by rfl, fun wx hSw => ?_⟩) (by assumption) ?_
  · have hc := hSw.hR; clear hSw hHeld; go_simp
  (try simp only [Act.put, List.setIfInBounds_toArray, List.set_cons_zero, List.set_cons_succ, List.getElem_toArray, List.getElem_cons_zero, List.getElem_cons_succ])
  refine wpAnyH_take (i := 5) (oi := _) (v := .int .i64 (i : Int)) rfl (by kernel_rfl) (by kernel_rfl) (by kernel_rfl) (fun _ _ _ h => h) (Or.inl ⟨by rfl, fun wx hSw => ?_⟩) (by assumption) ?_
  · go_simp
  (try simp only [Act.put, List.setIfInBounds_toArray, List.set_cons_zero, List.set_cons_succ, List.getElem_toArray, List.getElem_cons_zero, List.getElem_cons_succ])
  refine wpAnyH_take (i := 6) (oi := _) (v := .pointer (some ⟨g, off + i, none⟩)) rfl (by kernel_rfl) (by kernel_rfl) (by kernel_rfl) (fun _ _ _ h => h) (Or.inl ⟨by rfl, fun wx hSw => ?_⟩) (by assumption) ?_
  · go_simp
  (try simp only [Act.put, List.setIfInBounds_toArray, List.set_cons_zero, List.set_cons_succ, List.getElem_toArray, List.getElem_cons_zero, List.getElem_cons_succ])
  refine wpAnyH_take (i := 7) (oi := _) (v := .int .i64 ri) rfl (by kernel_rfl) (by kernel_rfl) (by kernel_rfl) (fun _ _ _ h => h) (Or.inl ⟨by rfl, fun wx hSw => ?_⟩) (by assumption) ?_
  · have hc := hSw.ci; clear hSw hHeld; go_simp
  (try simp only [Act.put, List.setIfInBounds_toArray, List.set_cons_zero, List.set_cons_succ, List.getElem_toArray, List.getElem_cons_zero, List.getElem_cons_succ])
  refine wpAnyH_take (i := 9) (oi := _) (v := .int .i64 (i : Int)) rfl (by kernel_rfl) (by kernel_rfl) (by kernel_rfl) (fun _ _ _ h => h) (Or.inl ⟨by rfl, fun wx hSw => ?_⟩) (by assumption) ?_
  · go_simp
  (try simp only [Act.put, List.setIfInBounds_toArray, List.set_cons_zero, List.set_cons_succ, List.getElem_toArray, List.getElem_cons_zero, List.getElem_cons_succ])
  refine wpAnyH_take (i := 10) (oi := _) (v := .int .i64 (j : Int)) rfl (by kernel_rfl) (by kernel_rfl) (by kernel_rfl) (fun _ _ _ h => h) (Or.inl ⟨by rfl, fun wx hSw => ?_⟩) (by assumption) ?_
  · go_simp
  (try simp only [Act.put, List.setIfInBounds_toArray, List.set_cons_zero, List.set_cons_succ, List.getElem_toArray, List.getElem_cons_zero, List.getElem_cons_succ])
  refine wpAnyH_ready (rs := [8]) (by kernel_rfl) (by simp) ?_
  refine AllReadyH.cons (o := _) rfl (fun K hK => ?_) AllReadyH.nil
  go_simp
  refine (H1.out _).mono ?_
  rintro e wy ⟨rfl, rfl⟩
  go_wp2_with fail
  refine hK.out _ _ hHeld (fun hHeld => ?_)
  clear hK K
  (try simp only [Act.put, List.setIfInBounds_toArray, List.set_cons_zero, List.set_cons_succ, List.getElem_toArray, List.getElem_cons_zero, List.getElem_cons_succ])
  refine wpAnyH_ready (rs := [11]) (by kernel_rfl) (by simp) ?_
  refine AllReadyH.cons (o := _) rfl (fun K hK => ?_) AllReadyH.nil
  go_simp
  refine (H2.out _).mono ?_
  rintro e wy ⟨rfl, rfl⟩
  go_wp2_with fail
  refine hK.out _ _ hHeld (fun hHeld => ?_)
  clear hK K
  (try simp only [Act.put, List.setIfInBounds_toArray, List.set_cons_zero, List.set_cons_succ, List.getElem_toArray, List.getElem_cons_zero, List.getElem_cons_succ])
  refine wpAnyH_ready (rs := [12]) (by kernel_rfl) (by simp) ?_
  refine AllReadyH.cons (o := _) rfl (fun K hK => ?_) AllReadyH.nil
  go_simp
  have hnew : OrdS w R g off n c i j ri rj (W1.alloc (.cells #[.int .i64 A, .int .i64 B] 3)) := hHeld.alloc _
  refine hK.out _ _ hnew (fun hHeld => ?_)
  clear hK K
  (try simp only [Act.put, List.setIfInBounds_toArray, List.set_cons_zero, List.set_cons_succ, List.getElem_toArray, List.getElem_cons_zero, List.getElem_cons_succ])
  have c0 : (W1.alloc (.cells #[.int .i64 A, .int .i64 B] 3)).cell? ⟨W1.heap.size, 0, none⟩ = some (.int .i64 A) := cells_new1 W1 [.int .i64 A, .int .i64 B] 3 0 _ rfl
  have c1 : (W1.alloc (.cells #[.int .i64 A, .int .i64 B] 3)).cell? ⟨W1.heap.size, 1, none⟩ = some (.int .i64 B) := cells_new1 W1 [.int .i64 A, .int .i64 B] 3 1 _ rfl
  refine wpAnyH_ready (rs := [13]) (by kernel_rfl) (by simp) ?_
  refine AllReadyH.cons (o := _) rfl (fun K hK => ?_) AllReadyH.nil
  go_simp
  refine (H3.out W1.heap.size _ c0 c1).mono ?_
  rintro e wy ⟨rfl, rfl⟩
  clear c0 c1
  generalize W1.alloc (.cells #[.int .i64 A, .int .i64 B] 3) = W2 at *
  go_wp2_with fail
  refine hK.out _ _ hHeld (fun hHeld => ?_)
  clear hK K hnew
  (try simp only [Act.put, List.setIfInBounds_toArray, List.set_cons_zero, List.set_cons_succ, List.getElem_toArray, List.getElem_cons_zero, List.getElem_cons_succ])
  refine wpAnyH_take (i := 14) (oi := _) (v := .int .i64 V) rfl (by kernel_rfl) (by kernel_rfl) (by kernel_rfl) (fun _ _ _ h => h) (Or.inl ⟨by rfl, fun wx hSw => ?_⟩) (by assumption) ?_
  · go_simp
  (try simp only [Act.put, List.setIfInBounds_toArray, List.set_cons_zero, List.set_cons_succ, List.getElem_toArray, List.getElem_cons_zero, List.getElem_cons_succ])
  refine wpAnyH_done (by kernel_rfl) ?_ _
  have HG := Lib.hid hHeld.gr
  go_wp2
  go_ret
  exact ⟨rfl, HG.out⟩
end Go.Proofs.YtempnbchiofghaaGreatDoor
