/-
  Walks: slices.Delete at a slice of the call's own; the nearest place.
-/
import Derived.Test.YtbeoldklpklbfaaGe
import Derived.Test.YtbeoldklpklbfaaSi
namespace Go.Proofs.Ytbeoldklpklbfaa
open Go.RowKit
set_option linter.unusedVariables false
set_option linter.unusedSimpArgs false

/-- A block's cells behind stores from o on. -/
def updC (cr : Array Value) : Nat → List Value → Array Value
  | _, [] => cr
  | o, v :: r => updC (cr.setIfInBounds o v) (o + 1) r
theorem heap_setCells (w : World) (g : Nat) (t : TypeId) : ∀ (vs : List Value) (o : Nat) (cr : Array Value) (w : World), w.heap[g]? = some (.cells cr t (0, 0)) → (w.setCells g o vs).heap[g]? = some (.cells (updC cr o vs) t (0, 0))
  | [], _, _, _, h => h
  | v :: r, o, cr, w, h => heap_setCells w g t r (o + 1) _ _ (heap_setCell_same w g o cr t v h)
theorem updC_list : ∀ (vs : List Value) (o : Nat) (cr : Array Value), o + vs.length ≤ cr.size → (updC cr o vs).toList = cr.toList.take o ++ vs ++ cr.toList.drop (o + vs.length) ∧ (updC cr o vs).size = cr.size
  | [], o, cr, h => by simp [updC]
  | v :: r, o, cr, h => by
    simp only [List.length_cons] at h
    obtain ⟨h1, h2⟩ := updC_list r (o + 1) (cr.setIfInBounds o v) (by rw [Array.size_setIfInBounds]; omega)
    refine ⟨?_, by rw [updC, h2, Array.size_setIfInBounds]⟩
    rw [updC, h1, Array.toList_setIfInBounds]
    have ho : o < cr.toList.length := by rw [Array.length_toList]; omega
    have e1 : (cr.toList.set o v).take (o + 1) = cr.toList.take o ++ [v] := by
      rw [List.take_add_one, List.take_set_of_le (Nat.le_refl o), List.getElem?_set_self ho]
      rfl
    have e2 : (cr.toList.set o v).drop (o + 1 + r.length) = cr.toList.drop (o + (r.length + 1)) := by
      rw [List.drop_set_of_lt (by omega), show o + 1 + r.length = o + (r.length + 1) by omega]
    rw [e1, e2]
    simp
theorem setCells_grown (w : World) (g : Nat) (vs : List Value) (o : Nat) : w.grownBy (w.setCells g o vs) (some g) := by
  induction vs generalizing o w with
  | nil => exact ⟨rfl, rfl, rfl, Nat.le_refl _, fun _ _ _ => rfl⟩
  | cons v r ih =>
    have h := ih (w.setCell ⟨g, o, none⟩ v) (o + 1)
    refine ⟨h.os, h.tape, h.output, by have := h.size; rw [World.size_setCell] at this; exact this, fun i hi hne => ?_⟩
    exact (h.block i (by rw [World.size_setCell]; exact hi) hne).trans (heap_setCell_other w ⟨g, o, none⟩ i v (fun e => hne (by rw [e])))
theorem delete_any {base : Nat} {w : World} {v : Value} {l : List Int} (h : Own base w v l) (hlen : l.length ≤ 100000) (i : Nat) (hi : i < l.length) :
    Calls Try.prog 49 #[v, .int .i64 (i : Int), .int .i64 ((i : Int) + 1)] w fun e w' => ∃ a c, e = .returned (.slice a (l.length - 1) c) ∧ Own base w' (.slice a (l.length - 1) c) (l.eraseIdx i) ∧ w.grownBy w' v.ownBlock ∧ (Value.slice a (l.length - 1) c).ownBlock = v.ownBlock := by
  rcases h.2 with ⟨h00, h0⟩ | ⟨g, cap, cr, rfl, hb, hh, hn2, hm, hs, ht⟩
  · omega
  rw [Nat.mul_one] at ht hs
  have hcs : l.length ≤ cr.size := by rw [hs]; exact hn2
  have hD := Try.slices_Delete_int_cells g 0 l.length cap i (i + 1) l w (Nat.le_refl _) hn2 hm (by omega) (by omega)
    (fun j hj => by
      have e1 : (cI l)[j]? = some (.int .i64 (l.getD j 0)) := by rw [cI_get, List.getD_eq_getElem?_getD, List.getElem?_eq_getElem hj]; rfl
      rw [← ht, List.getElem?_take, if_pos hj] at e1
      rw [Nat.zero_add, cell_of_row w g _ cr 3 (0, 0) hh]
      simpa using e1)
    (fun j _ => frozen_of_row w g _ _ 3 hh)
  have hval : ((i + 1 : Nat) : Int) = (i : Int) + 1 := by omega
  rw [hval] at hD
  refine hD.mono ?_
  rintro e w' ⟨rfl, q, rfl⟩
  have hsub : i + 1 - i = 1 := by omega
  rw [hsub, List.take_length]
  have hvl : (l.take i ++ l.drop (i + 1) ++ List.replicate 1 (0 : Int)).length = l.length := by
    simp only [List.length_append, List.length_take, List.length_drop, List.length_replicate]; omega
  obtain ⟨vals, hvals⟩ : ∃ vals, vals = (l.take i ++ l.drop (i + 1) ++ List.replicate 1 (0 : Int)).map (Value.int .i64) := ⟨_, rfl⟩
  have hvl2 : vals.length = l.length := by rw [hvals, List.length_map, hvl]
  rw [← hvals]
  have hh' : (w.drewN q).heap[g]? = some (.cells cr 3 (0, 0)) := hh
  have hset := heap_setCells w g 3 vals 0 cr (w.drewN q) hh'
  obtain ⟨u1, u2⟩ := updC_list vals 0 cr (by omega)
  have hel : (l.eraseIdx i).length = l.length - 1 := by rw [List.length_eraseIdx, if_pos hi]
  refine ⟨_, _, rfl, ⟨?_, Or.inr ⟨g, cap, updC cr 0 vals, ?_, hb, hset, ?_, hm, ?_, ?_⟩⟩, ?_, rfl⟩
  · rw [cI_length]; omega
  · rw [hel]
  · rw [hel]; omega
  · rw [u2, hs, Nat.mul_one]
  · rw [u1, Nat.mul_one, hel, List.take_zero, List.nil_append, Nat.zero_add, List.take_append_of_le_length (by omega), hvals, List.map_append, List.take_append_of_le_length (by rw [List.length_map, List.length_append, List.length_take, List.length_drop]; omega),
      List.take_of_length_le (by rw [List.length_map, List.length_append, List.length_take, List.length_drop]; omega), List.eraseIdx_eq_take_drop_succ]
    rfl
  · have hg := setCells_grown (w.drewN q) g vals 0
    exact ⟨hg.os, hg.tape, hg.output, hg.size, fun k hk hne => hg.block k hk hne⟩

set_option maxRecDepth 100000 in
set_option maxHeartbeats 4000000 in
theorem nearest_any {w : World} {u v : Value} {P : List Nat} {L : List Int} (hu : Hl (fun k => k < w.heap.size) w u (ints P)) (hv : Hl (fun k => k < w.heap.size) w v L) (hP : ∀ p ∈ P, p < L.length) (h0 : 0 < P.length) :
    Calls Try.prog 48 #[u, v] w fun e w' => ∃ i : Nat, e = .returned (.int .i64 (i : Int)) ∧ i < P.length ∧ (∀ (j q : Nat), P[j]? = some q → dv L (P.getD i 0) ≤ dv L q) ∧ Below w.heap.size w w' := by
  obtain ⟨ua, uc, rfl⟩ := hu.shape
  obtain ⟨va, vc, rfl⟩ := hv.shape
  have hul := hu.1
  have hvl := hv.1
  rw [ints_length] at hu hul ⊢
  obtain ⟨n, hn⟩ : ∃ n, n = P.length := ⟨_, rfl⟩
  obtain ⟨m, hm⟩ : ∃ m, m = L.length := ⟨_, rfl⟩
  rw [← hn] at hu hul h0 ⊢
  rw [← hm] at hv hvl hP ⊢
  have HN := Lib.hid hn; have HM := Lib.hid hm; have HU := Lib.hid hu; have HV := Lib.hid hv; have HP := Lib.hid hP
  clear hn hm hu hv hP
  go_enter Try.func48, Try.ntmps48
  go_wp2
  go_loopw [4, 9] (fun s t wr => ∃ (b k : Nat), b < n ∧ k ≤ n ∧ s = .int .i64 (b : Int) ∧ t = .int .i64 (k : Int) ∧ Hid (∀ (j q : Nat), j < k → P[j]? = some q → dv L (P.getD b 0) ≤ dv L q) ∧ Hid (Below w.heap.size w wr)) (fun _ t _ => n - (intOf t).toNat)
  case atStart => exact ⟨0, 0, h0, by omega, rfl, rfl, Lib.hid (fun j q hj => by omega), Lib.hid (Below.refl _ _)⟩
  case round =>
    obtain ⟨b, k, hb, hk, rfl, rfl, HK, HW⟩ := hrel
    by_cases hlt : k < n
    · have hlt2 : (k : Int) < (n : Int) := by omega
      have hbn2 : (b : Int) < (n : Int) := by omega
      obtain ⟨g, off, x, rfl, hg, hx, hxi, c0, hcap⟩ := HU.out.pick k (by rw [ints_length, ← HN.out]; exact hlt)
      obtain ⟨p, hp⟩ : ∃ p, P[k]? = some p := ⟨_, List.getElem?_eq_getElem (by rw [← HN.out]; exact hlt)⟩
      obtain ⟨pb, hpb⟩ : ∃ p, P[b]? = some p := ⟨_, List.getElem?_eq_getElem (by rw [← HN.out]; exact hb)⟩
      have hxp : x = (p : Int) := by rw [ints_get, hp] at hx; exact (Option.some.inj hx).symm
      subst hxp
      have c1 := (HU.out.at (k := b) (x := (pb : Int)) (by rw [ints_get, hpb]; rfl)).2.1
      have hpm := HP.out p (List.mem_of_getElem? hp)
      have hpbm := HP.out pb (List.mem_of_getElem? hpb)
      obtain ⟨g2, off2, y, rfl, hg2, hy, hyi, c2, hcap2⟩ := HV.out.pick p (by rw [← HM.out]; exact hpm)
      obtain ⟨z, hz⟩ : ∃ z, L[pb]? = some z := ⟨_, List.getElem?_eq_getElem (by rw [← HM.out]; exact hpbm)⟩
      have c3 := (HV.out.at hz).2.1
      have f0 : wr.cell? ⟨g, off + k, none⟩ = some (.int .i64 (p : Int)) := (HW.out.cell (p := ⟨g, off + k, none⟩) hg).trans c0
      have f1 : wr.cell? ⟨g, off + b, none⟩ = some (.int .i64 (pb : Int)) := (HW.out.cell (p := ⟨g, off + b, none⟩) hg).trans c1
      have f2 : wr.cell? ⟨g2, off2 + p, none⟩ = some (.int .i64 y) := (HW.out.cell (p := ⟨g2, off2 + p, none⟩) hg2).trans c2
      have f3 : wr.cell? ⟨g2, off2 + pb, none⟩ = some (.int .i64 z) := (HW.out.cell (p := ⟨g2, off2 + pb, none⟩) hg2).trans c3
      have hdy : dv L p = y := dv_get hy
      have hdz : dv L pb = z := dv_get hz
      have hgb : P.getD b 0 = pb := by rw [List.getD_eq_getElem?_getD, hpb]; rfl
      have hgk : P.getD k 0 = p := by rw [List.getD_eq_getElem?_getD, hp]; rfl
      have hpm2 : (p : Int) < (m : Int) := by omega
      have hpb2 : (pb : Int) < (m : Int) := by omega
      by_cases hc : y < z
      · have d0 : decide (y < z) = true := decide_eq_true hc
        have HN1 : Hid (∀ (j q : Nat), j < k + 1 → P[j]? = some q → dv L (P.getD k 0) ≤ dv L q) := Lib.hid (by
          intro j q hj hq
          rw [hgk, hdy]
          by_cases e : j = k
          · subst e; rw [hp] at hq; cases hq; rw [hdy]; exact Int.le_refl _
          · have := HK.out j q (by omega) hq
            rw [hgb, hdz] at this
            omega)
        clear hp hpb hx hxi hy hyi hz c0 c1 c2 c3 hdy hdz hgb hgk hc HK hcap hcap2
        go_wp2_with fail
        go_quiet (fail)
        have HW2 := Lib.hid (bdrewN HW.out nq)
        clear f0 f1 f2 f3
        generalize wr.drewN nq = w7 at *
        go_wp2
        go_roundw
        case rel => exact ⟨k, k + 1, hlt, by omega, rfl, by go_num, HN1, HW2⟩
        case measure => simp [intOf]; omega
      · have d0 : decide (y < z) = false := decide_eq_false hc
        have HN1 : Hid (∀ (j q : Nat), j < k + 1 → P[j]? = some q → dv L (P.getD b 0) ≤ dv L q) := Lib.hid (by
          intro j q hj hq
          by_cases e : j = k
          · subst e; rw [hp] at hq; cases hq; rw [hdy, hgb, hdz]; omega
          · exact HK.out j q (by omega) hq)
        clear hp hpb hx hxi hy hyi hz c0 c1 c2 c3 hdy hdz hgb hgk hc HK hcap hcap2
        go_wp2_with fail
        go_quiet (fail)
        have HW2 := Lib.hid (bdrewN HW.out nq)
        clear f0 f1 f2 f3
        generalize wr.drewN nq = w7 at *
        go_wp2
        go_roundw
        case rel => exact ⟨b, k + 1, hb, by omega, rfl, by go_num, HN1, HW2⟩
        case measure => simp [intOf]; omega
    · obtain rfl : k = n := by omega
      have hlt2 : ¬ ((k : Int) < (k : Int)) := by omega
      go_wp2
      go_ret
      refine ⟨b, rfl, hb, fun j q hq => HK.out j q ?_ hq, HW.out⟩
      have := (List.getElem?_eq_some_iff.1 hq).1
      rw [HN.out]; exact this
end Go.Proofs.Ytbeoldklpklbfaa
