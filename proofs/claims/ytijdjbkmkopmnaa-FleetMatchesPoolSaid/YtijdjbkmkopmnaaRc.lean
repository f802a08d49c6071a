/-
  Walks: Check of the reference.
-/
import Derived.Test.YtijdjbkmkopmnaaRa
import Derived.Test.YtijdjbkmkopmnaaFd
namespace Go.Proofs.Ytijdjbkmkopmnaa
open Go.RowKit
set_option linter.unusedVariables false
set_option linter.unusedSimpArgs false

theorem all_get {α : Type} {l : List α} {p : α → Bool} (h : ∀ (j : Nat) x, j < l.length → l[j]? = some x → p x = true) : l.all p = true :=
  List.all_eq_true.2 fun x hx => by
    obtain ⟨j, hj⟩ := List.getElem?_of_mem hx
    exact h j x (List.getElem?_eq_some_iff.1 hj).1 hj
theorem not_all {α : Type} {l : List α} {p : α → Bool} {j : Nat} {x : α} (hx : l[j]? = some x) (h : p x = false) : l.all p = false := by
  cases e : l.all p
  · rfl
  · have := List.all_eq_true.1 e x (List.mem_of_getElem? hx)
    rw [h] at this
    cases this
theorem chk_in {ts : List Ty} {ws : List Wn} {ss : List Sw} {hs : List Wh} (h1 : ts.length ≤ 32) (h2 : ws.length ≤ 4096) (h3 : ss.length ≤ 1024) (h4 : hs.length ≤ 4096) :
    chk ts ws ss hs = if ts.all tOk && (ws.all (wOk ts.length) && (ss.all (sOk ts.length) && hgo (fun _ _ => false) hs)) then 0 else 1 := by
  unfold chk
  rw [decide_eq_true (show (ts.length : Int) ≤ 32 by omega), decide_eq_true (show (ws.length : Int) ≤ 4096 by omega), decide_eq_true (show (ss.length : Int) ≤ 1024 by omega), decide_eq_true (show (hs.length : Int) ≤ 4096 by omega)]
  cases ts.all tOk <;> cases ws.all (wOk ts.length) <;> cases ss.all (sOk ts.length) <;> cases hgo (fun _ _ => false) hs <;> rfl
theorem chk_out {ts : List Ty} {ws : List Wn} {ss : List Sw} {hs : List Wh} (h : ts.length > 32 ∨ ws.length > 4096 ∨ ss.length > 1024 ∨ hs.length > 4096) : chk ts ws ss hs = 2 := by
  unfold chk
  by_cases a : ts.length ≤ 32
  · rw [decide_eq_true (show (ts.length : Int) ≤ 32 by omega)]
    by_cases b : ws.length ≤ 4096
    · rw [decide_eq_true (show (ws.length : Int) ≤ 4096 by omega)]
      by_cases c : ss.length ≤ 1024
      · rw [decide_eq_true (show (ss.length : Int) ≤ 1024 by omega), decide_eq_false (show ¬ (hs.length : Int) ≤ 4096 by omega)]; rfl
      · rw [decide_eq_false (show ¬ (ss.length : Int) ≤ 1024 by omega)]; rfl
    · rw [decide_eq_false (show ¬ (ws.length : Int) ≤ 4096 by omega)]; rfl
  · rw [decide_eq_false (show ¬ (ts.length : Int) ≤ 32 by omega)]; rfl

set_option maxRecDepth 100000 in
set_option maxHeartbeats 8000000 in
theorem rcheck_any {V : Value} {ts : List Ty} {ws : List Wn} {ss : List Sw} {hs : List Wh} {w : World} (hf : Fl w V ts ws ss hs) (E : Int) (hE : E = chk ts ws ss hs) :
    Calls Try.prog 19 #[V] w fun e w' => e = .returned (.int .i64 E) ∧ Below w.heap.size w w' := by
  obtain ⟨a1, c1, a2, c2, a3, c3, a4, c4, rfl, g1, g2, g3, g4⟩ := hf.shape
  have l1 := g1.1; have l2 := g2.1; have l3 := g3.1; have l4 := g4.1
  obtain ⟨n, hn⟩ : ∃ n, n = ts.length := ⟨_, rfl⟩
  obtain ⟨m, hm⟩ : ∃ m, m = ws.length := ⟨_, rfl⟩
  obtain ⟨k, hk⟩ : ∃ k, k = ss.length := ⟨_, rfl⟩
  obtain ⟨h, hh⟩ : ∃ h, h = hs.length := ⟨_, rfl⟩
  rw [← hn] at g1 l1; rw [← hm] at g2 l2; rw [← hk] at g3 l3; rw [← hh] at g4 l4
  rw [← hn, ← hm, ← hk, ← hh]
  obtain ⟨W, hW⟩ : ∃ W, W = w.alloc (.cells #[.slice a1 n c1, .slice a2 m c2, .slice a3 k c3, .slice a4 h c4] 27) := ⟨_, rfl⟩
  have hB : Below w.heap.size w W := by rw [hW]; exact ball (Below.refl w.heap.size w) _
  have hr : W.heap[w.heap.size]? = some (.cells #[.slice a1 n c1, .slice a2 m c2, .slice a3 k c3, .slice a4 h c4] 27 (0, 0)) := by rw [hW]; exact bnew _ _
  have HT := Lib.hid (g1.on hB); have HWN := Lib.hid (g2.on hB); have HSW := Lib.hid (g3.on hB); have HHS := Lib.hid (g4.on hB)
  have HW := Lib.hid hW; have HB := Lib.hid hB; have HX := Lib.hid hr; have HN := Lib.hid hn; have HM := Lib.hid hm; have HK := Lib.hid hk; have HH := Lib.hid hh; have HE := Lib.hid hE
  obtain ⟨b0, b1, b2, b3⟩ := box4 hr
  clear hf hW hB hr hn hm hk hh g1 g2 g3 g4 hE
  by_cases qn : n > 32
  · have hE2 : E = 2 := by rw [HE.out]; exact chk_out (by have := HN.out; have := HM.out; have := HK.out; have := HH.out; exact Or.inl (by omega))
    subst hE2
    have dn : decide ((n : Int) > 32) = true := decide_eq_true (by omega)
    have en : decide (32 < n) = true := decide_eq_true (by omega)
    clear qn
    go_enter Try.func19, Try.ntmps19
    go_upto_region 1 with (fail)
    rw [← HW.out]
    clear HW
    go_wp2
    go_ret
    exact ⟨rfl, HB.out⟩
  by_cases qm : m > 4096
  · have hE2 : E = 2 := by rw [HE.out]; exact chk_out (by have := HN.out; have := HM.out; have := HK.out; have := HH.out; exact Or.inr (Or.inl (by omega)))
    subst hE2
    have dn : decide ((n : Int) > 32) = false := decide_eq_false (by omega)
    have en : decide (32 < n) = false := decide_eq_false (by omega)
    have dm : decide ((m : Int) > 4096) = true := decide_eq_true (by omega)
    have em : decide (4096 < m) = true := decide_eq_true (by omega)
    clear qn qm
    go_enter Try.func19, Try.ntmps19
    go_upto_region 1 with (fail)
    rw [← HW.out]
    clear HW
    go_wp2
    go_ret
    exact ⟨rfl, HB.out⟩
  by_cases qk : k > 1024
  · have hE2 : E = 2 := by rw [HE.out]; exact chk_out (by have := HN.out; have := HM.out; have := HK.out; have := HH.out; exact Or.inr (Or.inr (Or.inl (by omega))))
    subst hE2
    have dn : decide ((n : Int) > 32) = false := decide_eq_false (by omega)
    have en : decide (32 < n) = false := decide_eq_false (by omega)
    have dm : decide ((m : Int) > 4096) = false := decide_eq_false (by omega)
    have em : decide (4096 < m) = false := decide_eq_false (by omega)
    have dk : decide ((k : Int) > 1024) = true := decide_eq_true (by omega)
    have ek : decide (1024 < k) = true := decide_eq_true (by omega)
    clear qn qm qk
    go_enter Try.func19, Try.ntmps19
    go_upto_region 1 with (fail)
    rw [← HW.out]
    clear HW
    go_wp2
    go_ret
    exact ⟨rfl, HB.out⟩
  by_cases qh : h > 4096
  · have hE2 : E = 2 := by rw [HE.out]; exact chk_out (by have := HN.out; have := HM.out; have := HK.out; have := HH.out; exact Or.inr (Or.inr (Or.inr (by omega))))
    subst hE2
    have dn : decide ((n : Int) > 32) = false := decide_eq_false (by omega)
    have en : decide (32 < n) = false := decide_eq_false (by omega)
    have dm : decide ((m : Int) > 4096) = false := decide_eq_false (by omega)
    have em : decide (4096 < m) = false := decide_eq_false (by omega)
    have dk : decide ((k : Int) > 1024) = false := decide_eq_false (by omega)
    have ek : decide (1024 < k) = false := decide_eq_false (by omega)
    have dh : decide ((h : Int) > 4096) = true := decide_eq_true (by omega)
    have eh : decide (4096 < h) = true := decide_eq_true (by omega)
    clear qn qm qk qh
    go_enter Try.func19, Try.ntmps19
    go_upto_region 1 with (fail)
    rw [← HW.out]
    clear HW
    go_wp2
    go_ret
    exact ⟨rfl, HB.out⟩
  have hIN : E = if ts.all tOk && (ws.all (wOk ts.length) && (ss.all (sOk ts.length) && hgo (fun _ _ => false) hs)) then 0 else 1 := by
    rw [HE.out]
    have := HN.out; have := HM.out; have := HK.out; have := HH.out
    exact chk_in (by omega) (by omega) (by omega) (by omega)
  have HIN := Lib.hid hIN
  have n32 : n ≤ 32 := by omega
  have m4 : m ≤ 4096 := by omega
  have k4 : k ≤ 1024 := by omega
  clear hIN
  have dn : decide ((n : Int) > 32) = false := decide_eq_false (by omega)
  have en : decide (32 < n) = false := decide_eq_false (by omega)
  have dm : decide ((m : Int) > 4096) = false := decide_eq_false (by omega)
  have em : decide (4096 < m) = false := decide_eq_false (by omega)
  have dk : decide ((k : Int) > 1024) = false := decide_eq_false (by omega)
  have ek : decide (1024 < k) = false := decide_eq_false (by omega)
  have dh : decide ((h : Int) > 4096) = false := decide_eq_false (by omega)
  have eh : decide (4096 < h) = false := decide_eq_false (by omega)
  clear qn qm qk qh
  go_enter Try.func19, Try.ntmps19
  go_upto_region 1 with (fail)
  rw [← HW.out]
  clear HW
  go_wp2
  clear dn dm dk dh en em ek eh b0 b1 b2 b3
  go_loopw [3] (fun s3 wr => ∃ i : Nat, i ≤ n ∧ s3 = .int .i64 (i : Int) ∧ Hid (Below W.heap.size W wr ∧ ∀ j x, j < i → ts[j]? = some x → tOk x = true)) (fun s3 _ => n - (intOf s3).toNat)
  case atStart => exact ⟨0, by omega, rfl, Lib.hid ⟨Below.refl _ _, fun j x hj => by omega⟩⟩
  case round =>
    obtain ⟨i, hi, rfl, HI⟩ := hrel
    obtain ⟨b0, b1, b2, b3⟩ := box4 (bon HX.out HI.out.1)
    by_cases hlt : i < n
    · have hlt2 : (i : Int) < (n : Int) := by omega
      obtain ⟨g, off, x, rfl, hg, hx, _, hra, _⟩ := (HT.out.on HI.out.1).pick i (by rw [← HN.out]; exact hlt)
      have HRR := Lib.hid hra
      cases hR : tOk x with
      | false =>
        have Hc := Lib.hid (rtype_any x wr false hR.symm)
        have hE1 : E = 1 := by rw [HIN.out, not_all hx hR]; rfl
        subst hE1
        have HZ := Lib.hid (btrans HB.out HI.out.1)
        clear HI hg hx hra hR hlt
        go_wp2_with (refine wpList_load_mid rfl 68 (.tmp 39) rfl g (off + i * 8) rfl x.cs _ HRR.out Try.underlying68 rfl (sz68 x) ?_)
        refine Hc.out.mono ?_
        rintro e w' ⟨rfl, hb⟩
        have HZ2 := Lib.hid (btrans HZ.out hb)
        clear hb b0 b1 b2 b3
        go_wp2
        go_ret
        exact ⟨rfl, HZ2.out⟩
      | true =>
        have Hc := Lib.hid (rtype_any x wr true hR.symm)
        have HNX : Hid (∀ j y, j < i + 1 → ts[j]? = some y → tOk y = true) := Lib.hid (fun j y hj hy => by
          by_cases e : j < i
          · exact HI.out.2 j y e hy
          · obtain rfl : j = i := by omega
            rw [hx] at hy
            cases hy
            exact hR)
        have HZ := Lib.hid HI.out.1
        clear HI hg hx hra hR hlt
        go_wp2_with (refine wpList_load_mid rfl 68 (.tmp 39) rfl g (off + i * 8) rfl x.cs _ HRR.out Try.underlying68 rfl (sz68 x) ?_)
        refine Hc.out.mono ?_
        rintro e w' ⟨rfl, hb⟩
        have HZ2 := Lib.hid (btrans HZ.out hb)
        clear hb b0 b1 b2 b3
        go_wp2
        go_roundw
        case rel => exact ⟨i + 1, by omega, by go_num, Lib.hid ⟨HZ2.out, HNX.out⟩⟩
        case measure => simp [intOf]; omega
    obtain rfl : i = n := by omega
    have hlt2 : ¬ ((i : Int) < (i : Int)) := by omega
    have HALLT : Hid (ts.all tOk = true) := Lib.hid (all_get fun j x hj hx => HI.out.2 j x (by rw [HN.out]; exact hj) hx)
    obtain ⟨wA, hwA⟩ : ∃ wA, wA = wr := ⟨_, rfl⟩
    subst hwA
    have HBA := Lib.hid HI.out.1
    clear HI hlt
    go_wp2
    clear b0 b1 b2 b3
    go_loopw [4] (fun s4 wr => ∃ j : Nat, j ≤ m ∧ s4 = .int .i64 (j : Int) ∧ Hid (Below W.heap.size W wr ∧ ∀ q x, q < j → ws[q]? = some x → wOk ts.length x = true)) (fun s4 _ => m - (intOf s4).toNat)
    case atStart => exact ⟨0, by omega, rfl, Lib.hid ⟨HBA.out, fun j x hj => by omega⟩⟩
    case round =>
      clear HBA
      obtain ⟨j, hj, rfl, HI⟩ := hrel
      obtain ⟨b0, b1, b2, b3⟩ := box4 (bon HX.out HI.out.1)
      by_cases hlt : j < m
      · have hlt2 : (j : Int) < (m : Int) := by omega
        obtain ⟨g, off, x, rfl, hg, hx, _, hra, _⟩ := (HWN.out.on HI.out.1).pick j (by rw [← HM.out]; exact hlt)
        have h7s : (wr.drew.cell? ⟨w.heap.size, 1, none⟩ = some (.slice (some ⟨g, off, none⟩) m c2) ∧ wr.drew.cell? ⟨w.heap.size, 0, none⟩ = some (.slice a1 i c1)) ∧ wr.drew.rangeAt g (off + j * 5) x.cs := ⟨⟨b1, b0⟩, hra⟩
        have HBOX : Hid (∀ w', Below W.heap.size W w' → w'.cell? ⟨w.heap.size, 1, none⟩ = some (.slice (some ⟨g, off, none⟩) m c2) ∧ w'.cell? ⟨w.heap.size, 0, none⟩ = some (.slice a1 i c1)) := Lib.hid (fun w' hb => by
          obtain ⟨z0, z1, _, _⟩ := box4 (bon HX.out hb)
          exact ⟨z1, z0⟩)
        have HRA := Lib.hid hra; have HGG := Lib.hid hg
        cases hR : wOk ts.length x with
        | false =>
          have hE1 : E = 1 := by rw [HIN.out, not_all hx hR, HALLT.out]; rfl
          subst hE1
          have HC9 := Lib.hid (fun w' => rwagon_any x i (by omega) w' false (by rw [HN.out]; exact hR.symm))
          have HZ := Lib.hid HI.out.1
          clear HI hg hx hra hR hlt
          go_wp2_with fail
          refine wp_region_held_drew (S := fun w' => (w'.cell? ⟨w.heap.size, 1, none⟩ = some (.slice (some ⟨g, off, none⟩) m c2) ∧ w'.cell? ⟨w.heap.size, 0, none⟩ = some (.slice a1 i c1)) ∧ w'.rangeAt g (off + j * 5) x.cs) (by kernel_rfl) h7s (fun hHeld => ?_)
          change wpAnyH _ _ _ _ _ 10 #[false, false, false, false, false, false, false, false, false, false] _ _
          refine wpAnyH_take (i := 0) (oi := _) (v := .pointer (some ⟨w.heap.size, 1, none⟩)) rfl (by kernel_rfl) (by kernel_rfl) (by kernel_rfl) (fun _ _ _ h => h) (Or.inl ⟨by rfl, fun wx hSw => ?_⟩) (by assumption) ?_
          · go_simp
            try (first | omega | (rw [IntKind.wrap_i64]; omega))
          (try simp only [Act.put, List.setIfInBounds_toArray, List.set_cons_zero, List.set_cons_succ, List.getElem_toArray, List.getElem_cons_zero, List.getElem_cons_succ])
          refine wpAnyH_take (i := 1) (oi := _) (v := .slice (some ⟨g, off, none⟩) m c2) rfl (by kernel_rfl) (by kernel_rfl) (by kernel_rfl) (fun _ _ _ h => h) (Or.inl ⟨by rfl, fun wx hSw => ?_⟩) (by assumption) ?_
          · go_simp
            try (first | omega | (rw [IntKind.wrap_i64]; omega))
          (try simp only [Act.put, List.setIfInBounds_toArray, List.set_cons_zero, List.set_cons_succ, List.getElem_toArray, List.getElem_cons_zero, List.getElem_cons_succ])
          refine wpAnyH_take (i := 2) (oi := _) (v := .int .i64 (j : Int)) rfl (by kernel_rfl) (by kernel_rfl) (by kernel_rfl) (fun _ _ _ h => h) (Or.inl ⟨by rfl, fun wx hSw => ?_⟩) (by assumption) ?_
          · go_simp
            try (first | omega | (rw [IntKind.wrap_i64]; omega))
          (try simp only [Act.put, List.setIfInBounds_toArray, List.set_cons_zero, List.set_cons_succ, List.getElem_toArray, List.getElem_cons_zero, List.getElem_cons_succ])
          refine wpAnyH_take (i := 3) (oi := _) (v := .pointer (some ⟨g, off + j * 5, none⟩)) rfl (by kernel_rfl) (by kernel_rfl) (by kernel_rfl) (fun _ _ _ h => h) (Or.inl ⟨by rfl, fun wx hSw => ?_⟩) (by assumption) ?_
          · go_simp
            try (first | omega | (rw [IntKind.wrap_i64]; omega))
          (try simp only [Act.put, List.setIfInBounds_toArray, List.set_cons_zero, List.set_cons_succ, List.getElem_toArray, List.getElem_cons_zero, List.getElem_cons_succ])
          refine wpAnyH_take (i := 4) (oi := _) (v := .agg x.cs.toArray) rfl (by kernel_rfl) (by kernel_rfl) (by kernel_rfl) (fun _ _ _ h => h) (Or.inl ⟨by rfl, fun wx hSw => ?_⟩) (by assumption) ?_
          · exact exec_load_mid 66 (.tmp 53) rfl g (off + j * 5) rfl x.cs _ hSw.2 Try.underlying66 rfl (sz66 x)
          (try simp only [Act.put, List.setIfInBounds_toArray, List.set_cons_zero, List.set_cons_succ, List.getElem_toArray, List.getElem_cons_zero, List.getElem_cons_succ])
          refine wpAnyH_take (i := 5) (oi := _) (v := .pointer (some ⟨w.heap.size, 0, none⟩)) rfl (by kernel_rfl) (by kernel_rfl) (by kernel_rfl) (fun _ _ _ h => h) (Or.inl ⟨by rfl, fun wx hSw => ?_⟩) (by assumption) ?_
          · go_simp
            try (first | omega | (rw [IntKind.wrap_i64]; omega))
          (try simp only [Act.put, List.setIfInBounds_toArray, List.set_cons_zero, List.set_cons_succ, List.getElem_toArray, List.getElem_cons_zero, List.getElem_cons_succ])
          refine wpAnyH_take (i := 6) (oi := _) (v := .slice a1 i c1) rfl (by kernel_rfl) (by kernel_rfl) (by kernel_rfl) (fun _ _ _ h => h) (Or.inl ⟨by rfl, fun wx hSw => ?_⟩) (by assumption) ?_
          · go_simp
            try (first | omega | (rw [IntKind.wrap_i64]; omega))
          (try simp only [Act.put, List.setIfInBounds_toArray, List.set_cons_zero, List.set_cons_succ, List.getElem_toArray, List.getElem_cons_zero, List.getElem_cons_succ])
          refine wpAnyH_take (i := 7) (oi := _) (v := .int .i64 (i : Int)) rfl (by kernel_rfl) (by kernel_rfl) (by kernel_rfl) (fun _ _ _ h => h) (Or.inl ⟨by rfl, fun wx hSw => ?_⟩) (by assumption) ?_
          · go_simp
            try (first | omega | (rw [IntKind.wrap_i64]; omega))
          (try simp only [Act.put, List.setIfInBounds_toArray, List.set_cons_zero, List.set_cons_succ, List.getElem_toArray, List.getElem_cons_zero, List.getElem_cons_succ])
          refine wpAnyH_ready (rs := [8]) (by kernel_rfl) (by simp) ?_
          refine AllReadyH.cons (o := _) rfl (fun K hK => ?_) AllReadyH.nil
          have Hc := Lib.hid (HC9.out wr.drew)
          go_simp
          refine Hc.out.mono ?_
          rintro e v0 ⟨rfl, hb⟩
          have HD0 : Hid (Below W.heap.size W v0) := Lib.hid (btrans HZ.out (btrans (Below.refl wr.heap.size wr).drew hb))
          have h70 : (v0.cell? ⟨w.heap.size, 1, none⟩ = some (.slice (some ⟨g, off, none⟩) m c2) ∧ v0.cell? ⟨w.heap.size, 0, none⟩ = some (.slice a1 i c1)) ∧ v0.rangeAt g (off + j * 5) x.cs := ⟨HBOX.out v0 HD0.out, rangeAt_kept HRA.out ((btrans (Below.refl wr.heap.size wr).drew hb).block g HGG.out)⟩
          clear hb Hc
          go_wp2_with fail
          refine hK.out _ _ (h70) (fun hHeld => ?_)
          clear hK K
          (try simp only [Act.put, List.setIfInBounds_toArray, List.set_cons_zero, List.set_cons_succ, List.getElem_toArray, List.getElem_cons_zero, List.getElem_cons_succ])
          refine wpAnyH_take (i := 9) (oi := _) (v := .bool true) rfl (by kernel_rfl) (by kernel_rfl) (by kernel_rfl) (fun _ _ _ h => h) (Or.inl ⟨by rfl, fun wx hSw => ?_⟩) (by assumption) ?_
          · go_simp
            try (first | omega | (rw [IntKind.wrap_i64]; omega))
          (try simp only [Act.put, List.setIfInBounds_toArray, List.set_cons_zero, List.set_cons_succ, List.getElem_toArray, List.getElem_cons_zero, List.getElem_cons_succ])
          refine wpAnyH_done (by kernel_rfl) ?_ _
          clear hHeld
          clear h7s h70
          have HZ2 := Lib.hid (btrans HB.out HD0.out)
          clear b0 b1 b2 b3
          go_wp2
          go_ret
          exact ⟨rfl, HZ2.out⟩
        | true =>
          have HNX : Hid (∀ q y, q < j + 1 → ws[q]? = some y → wOk ts.length y = true) := Lib.hid (fun q y hq hy => by
            by_cases e : q < j
            · exact HI.out.2 q y e hy
            · obtain rfl : q = j := by omega
              rw [hx] at hy
              cases hy
              exact hR)
          have HC9 := Lib.hid (fun w' => rwagon_any x i (by omega) w' true (by rw [HN.out]; exact hR.symm))
          have HZ := Lib.hid HI.out.1
          clear HI hg hx hra hR hlt
          go_wp2_with fail
          refine wp_region_held_drew (S := fun w' => (w'.cell? ⟨w.heap.size, 1, none⟩ = some (.slice (some ⟨g, off, none⟩) m c2) ∧ w'.cell? ⟨w.heap.size, 0, none⟩ = some (.slice a1 i c1)) ∧ w'.rangeAt g (off + j * 5) x.cs) (by kernel_rfl) h7s (fun hHeld => ?_)
          change wpAnyH _ _ _ _ _ 10 #[false, false, false, false, false, false, false, false, false, false] _ _
          refine wpAnyH_take (i := 0) (oi := _) (v := .pointer (some ⟨w.heap.size, 1, none⟩)) rfl (by kernel_rfl) (by kernel_rfl) (by kernel_rfl) (fun _ _ _ h => h) (Or.inl ⟨by rfl, fun wx hSw => ?_⟩) (by assumption) ?_
          · go_simp
            try (first | omega | (rw [IntKind.wrap_i64]; omega))
          (try simp only [Act.put, List.setIfInBounds_toArray, List.set_cons_zero, List.set_cons_succ, List.getElem_toArray, List.getElem_cons_zero, List.getElem_cons_succ])
          refine wpAnyH_take (i := 1) (oi := _) (v := .slice (some ⟨g, off, none⟩) m c2) rfl (by kernel_rfl) (by kernel_rfl) (by kernel_rfl) (fun _ _ _ h => h) (Or.inl ⟨by rfl, fun wx hSw => ?_⟩) (by assumption) ?_
          · go_simp
            try (first | omega | (rw [IntKind.wrap_i64]; omega))
          (try simp only [Act.put, List.setIfInBounds_toArray, List.set_cons_zero, List.set_cons_succ, List.getElem_toArray, List.getElem_cons_zero, List.getElem_cons_succ])
          refine wpAnyH_take (i := 2) (oi := _) (v := .int .i64 (j : Int)) rfl (by kernel_rfl) (by kernel_rfl) (by kernel_rfl) (fun _ _ _ h => h) (Or.inl ⟨by rfl, fun wx hSw => ?_⟩) (by assumption) ?_
          · go_simp
            try (first | omega | (rw [IntKind.wrap_i64]; omega))
          (try simp only [Act.put, List.setIfInBounds_toArray, List.set_cons_zero, List.set_cons_succ, List.getElem_toArray, List.getElem_cons_zero, List.getElem_cons_succ])
          refine wpAnyH_take (i := 3) (oi := _) (v := .pointer (some ⟨g, off + j * 5, none⟩)) rfl (by kernel_rfl) (by kernel_rfl) (by kernel_rfl) (fun _ _ _ h => h) (Or.inl ⟨by rfl, fun wx hSw => ?_⟩) (by assumption) ?_
          · go_simp
            try (first | omega | (rw [IntKind.wrap_i64]; omega))
          (try simp only [Act.put, List.setIfInBounds_toArray, List.set_cons_zero, List.set_cons_succ, List.getElem_toArray, List.getElem_cons_zero, List.getElem_cons_succ])
          refine wpAnyH_take (i := 4) (oi := _) (v := .agg x.cs.toArray) rfl (by kernel_rfl) (by kernel_rfl) (by kernel_rfl) (fun _ _ _ h => h) (Or.inl ⟨by rfl, fun wx hSw => ?_⟩) (by assumption) ?_
          · exact exec_load_mid 66 (.tmp 53) rfl g (off + j * 5) rfl x.cs _ hSw.2 Try.underlying66 rfl (sz66 x)
          (try simp only [Act.put, List.setIfInBounds_toArray, List.set_cons_zero, List.set_cons_succ, List.getElem_toArray, List.getElem_cons_zero, List.getElem_cons_succ])
          refine wpAnyH_take (i := 5) (oi := _) (v := .pointer (some ⟨w.heap.size, 0, none⟩)) rfl (by kernel_rfl) (by kernel_rfl) (by kernel_rfl) (fun _ _ _ h => h) (Or.inl ⟨by rfl, fun wx hSw => ?_⟩) (by assumption) ?_
          · go_simp
            try (first | omega | (rw [IntKind.wrap_i64]; omega))
          (try simp only [Act.put, List.setIfInBounds_toArray, List.set_cons_zero, List.set_cons_succ, List.getElem_toArray, List.getElem_cons_zero, List.getElem_cons_succ])
          refine wpAnyH_take (i := 6) (oi := _) (v := .slice a1 i c1) rfl (by kernel_rfl) (by kernel_rfl) (by kernel_rfl) (fun _ _ _ h => h) (Or.inl ⟨by rfl, fun wx hSw => ?_⟩) (by assumption) ?_
          · go_simp
            try (first | omega | (rw [IntKind.wrap_i64]; omega))
          (try simp only [Act.put, List.setIfInBounds_toArray, List.set_cons_zero, List.set_cons_succ, List.getElem_toArray, List.getElem_cons_zero, List.getElem_cons_succ])
          refine wpAnyH_take (i := 7) (oi := _) (v := .int .i64 (i : Int)) rfl (by kernel_rfl) (by kernel_rfl) (by kernel_rfl) (fun _ _ _ h => h) (Or.inl ⟨by rfl, fun wx hSw => ?_⟩) (by assumption) ?_
          · go_simp
            try (first | omega | (rw [IntKind.wrap_i64]; omega))
          (try simp only [Act.put, List.setIfInBounds_toArray, List.set_cons_zero, List.set_cons_succ, List.getElem_toArray, List.getElem_cons_zero, List.getElem_cons_succ])
          refine wpAnyH_ready (rs := [8]) (by kernel_rfl) (by simp) ?_
          refine AllReadyH.cons (o := _) rfl (fun K hK => ?_) AllReadyH.nil
          have Hc := Lib.hid (HC9.out wr.drew)
          go_simp
          refine Hc.out.mono ?_
          rintro e v0 ⟨rfl, hb⟩
          have HD0 : Hid (Below W.heap.size W v0) := Lib.hid (btrans HZ.out (btrans (Below.refl wr.heap.size wr).drew hb))
          have h70 : (v0.cell? ⟨w.heap.size, 1, none⟩ = some (.slice (some ⟨g, off, none⟩) m c2) ∧ v0.cell? ⟨w.heap.size, 0, none⟩ = some (.slice a1 i c1)) ∧ v0.rangeAt g (off + j * 5) x.cs := ⟨HBOX.out v0 HD0.out, rangeAt_kept HRA.out ((btrans (Below.refl wr.heap.size wr).drew hb).block g HGG.out)⟩
          clear hb Hc
          go_wp2_with fail
          refine hK.out _ _ (h70) (fun hHeld => ?_)
          clear hK K
          (try simp only [Act.put, List.setIfInBounds_toArray, List.set_cons_zero, List.set_cons_succ, List.getElem_toArray, List.getElem_cons_zero, List.getElem_cons_succ])
          refine wpAnyH_take (i := 9) (oi := _) (v := .bool false) rfl (by kernel_rfl) (by kernel_rfl) (by kernel_rfl) (fun _ _ _ h => h) (Or.inl ⟨by rfl, fun wx hSw => ?_⟩) (by assumption) ?_
          · go_simp
            try (first | omega | (rw [IntKind.wrap_i64]; omega))
          (try simp only [Act.put, List.setIfInBounds_toArray, List.set_cons_zero, List.set_cons_succ, List.getElem_toArray, List.getElem_cons_zero, List.getElem_cons_succ])
          refine wpAnyH_done (by kernel_rfl) ?_ _
          clear hHeld
          clear h7s h70
          clear b0 b1 b2 b3
          go_wp2
          go_roundw
          case rel => exact ⟨j + 1, by omega, by go_num, Lib.hid ⟨HD0.out, HNX.out⟩⟩
          case measure => simp [intOf]; omega
      obtain rfl : j = m := by omega
      have hlt2 : ¬ ((j : Int) < (j : Int)) := by omega
      have HALLW : Hid (ws.all (wOk ts.length) = true) := Lib.hid (all_get fun q x hq hx => HI.out.2 q x (by rw [HM.out]; exact hq) hx)
      have HBA := Lib.hid HI.out.1
      clear HI hlt
      go_wp2
      clear b0 b1 b2 b3
      go_loopw [5] (fun s5 wr => ∃ q : Nat, q ≤ k ∧ s5 = .int .i64 (q : Int) ∧ Hid (Below W.heap.size W wr ∧ ∀ p x, p < q → ss[p]? = some x → sOk ts.length x = true)) (fun s5 _ => k - (intOf s5).toNat)
      case atStart => exact ⟨0, by omega, rfl, Lib.hid ⟨HBA.out, fun j x hj => by omega⟩⟩
      case round =>
        clear HBA
        obtain ⟨q, hq, rfl, HI⟩ := hrel
        obtain ⟨b0, b1, b2, b3⟩ := box4 (bon HX.out HI.out.1)
        by_cases hlt : q < k
        rotate_left
        · obtain rfl : q = k := by omega
          have hlt2 : ¬ ((q : Int) < (q : Int)) := by omega
          have HALLS : Hid (ss.all (sOk ts.length) = true) := Lib.hid (all_get fun p x hp hx => HI.out.2 p x (by rw [HK.out]; exact hp) hx)
          have hEF : E = if hgo (fun _ _ => false) hs then 0 else 1 := by rw [HIN.out, HALLT.out, HALLW.out, HALLS.out]; simp
          have Hc := Lib.hid (rwashes_any HH.out (HHS.out.on HI.out.1) E hEF)
          have HZ := Lib.hid (btrans HB.out HI.out.1)
          clear HI hlt hEF
          go_wp2_with fail
          refine Hc.out.mono ?_
          rintro e w' ⟨rfl, hb⟩
          have HZ2 := Lib.hid (btrans HZ.out hb)
          clear hb b0 b1 b2 b3
          go_wp2
          go_ret
          exact ⟨rfl, HZ2.out⟩
        have hlt2 : (q : Int) < (k : Int) := by omega
        obtain ⟨g, off, ⟨xa, xb, xc⟩, rfl, hg, hx, _, hra, _⟩ := (HSW.out.on HI.out.1).pick q (by rw [← HK.out]; exact hlt)
        have HRR : Hid (wr.rangeAt g (off + q * 3) [.int .i64 xa, .int .i64 xb, .int .i64 xc]) := Lib.hid hra
        obtain ⟨ZB, hZB⟩ : ∃ ZB, ZB = wr.heap.size := ⟨_, rfl⟩
        obtain ⟨wx, hwx⟩ : ∃ wx, wx = wr.alloc (.cells #[.int .i64 xa, .int .i64 xb, .int .i64 xc] 62) := ⟨_, rfl⟩
        have hbx : Below wr.heap.size wr wx := by rw [hwx]; exact ball (Below.refl _ _) _
        have hwb : wx.heap[ZB]? = some (.cells #[.int .i64 xa, .int .i64 xb, .int .i64 xc] 62 (0, 0)) := by rw [hwx, hZB]; exact bnew _ _
        have HXB := Lib.hid (bon (bon HX.out HI.out.1) hbx)
        have e0 : wx.cell? ⟨ZB, 0, none⟩ = some (.int .i64 xa) := by rw [cell_of_row wx _ 0 _ 62 (0, 0) hwb]; rfl
        have e1 : wx.cell? ⟨ZB, 1, none⟩ = some (.int .i64 xb) := by rw [cell_of_row wx _ 1 _ 62 (0, 0) hwb]; rfl
        have e2 : wx.cell? ⟨ZB, 2, none⟩ = some (.int .i64 xc) := by rw [cell_of_row wx _ 2 _ 62 (0, 0) hwb]; rfl
        have HBAD : Hid (sOk ts.length ⟨xa, xb, xc⟩ = false → E = 1) := Lib.hid (fun e => by rw [HIN.out, HALLT.out, HALLW.out, not_all hx e]; rfl)
        have HGOOD : Hid (sOk ts.length ⟨xa, xb, xc⟩ = true → ∀ p x, p < q + 1 → ss[p]? = some x → sOk ts.length x = true) := Lib.hid (fun hR p y hp hy => by
          by_cases e : p < q
          · exact HI.out.2 p y e hy
          · obtain rfl : p = q := by omega
            rw [hx] at hy
            cases hy
            exact hR)
        have HZ := Lib.hid (btrans HI.out.1 hbx); have HWX := Lib.hid hwx; have HZB := Lib.hid hZB
        have hwr : IntKind.i64.wrap ((i : Int) - 1) = (i : Int) - 1 := wrap_in (by omega) (by omega)
        have hsok : sOk ts.length ⟨xa, xb, xc⟩ = (rng 0 xa ((i : Int) - 1) && (rng 0 xb ((i : Int) - 1) && ((xa != xb) && rng 0 xc 1000000000))) := by rw [← HN.out]; rfl
        rw [hsok] at HBAD HGOOD
        clear HI hg hx hra hbx hwb hlt hwx hsok
        cases h0 : rng 0 xa ((i : Int) - 1) with
        | false =>
          have H0 := Lib.hid (within_any 0 xa ((i : Int) - 1))
          rw [h0] at H0
          obtain rfl : E = 1 := HBAD.out (by simp [h0])
          have HZ2 := Lib.hid (btrans HB.out HZ.out)
          clear h0
          go_upto_region 17 with (refine wpList_load_mid rfl 62 (.tmp 70) rfl g (off + q * 3) rfl [.int .i64 xa, .int .i64 xb, .int .i64 xc] _ HRR.out Try.underlying62 rfl (by kernel_rfl) ?_)
          rw [← HWX.out]
          rw [← HZB.out]
          clear b0 b1 b2 b3 hZB
          obtain ⟨b0, b1, b2, b3⟩ := box4 HXB.out
          go_wp2_with fail
          refine (H0.out _).mono ?_
          rintro e w' ⟨rfl, rfl⟩
          go_wp2
          go_ret
          exact ⟨rfl, HZ2.out⟩
        | true =>
          have H0 := Lib.hid (within_any 0 xa ((i : Int) - 1))
          rw [h0] at H0
          cases h1 : rng 0 xb ((i : Int) - 1) with
          | false =>
            have H1 := Lib.hid (within_any 0 xb ((i : Int) - 1))
            rw [h1] at H1
            obtain rfl : E = 1 := HBAD.out (by simp [h0, h1])
            have HZ2 := Lib.hid (btrans HB.out HZ.out)
            clear h0 h1
            go_upto_region 17 with (refine wpList_load_mid rfl 62 (.tmp 70) rfl g (off + q * 3) rfl [.int .i64 xa, .int .i64 xb, .int .i64 xc] _ HRR.out Try.underlying62 rfl (by kernel_rfl) ?_)
            rw [← HWX.out]
            rw [← HZB.out]
            clear b0 b1 b2 b3 hZB
            obtain ⟨b0, b1, b2, b3⟩ := box4 HXB.out
            go_wp2_with fail
            refine (H0.out _).mono ?_
            rintro e w' ⟨rfl, rfl⟩
            go_wp2_with fail
            refine (H1.out _).mono ?_
            rintro e w' ⟨rfl, rfl⟩
            go_wp2
            go_ret
            exact ⟨rfl, HZ2.out⟩
          | true =>
            have H1 := Lib.hid (within_any 0 xb ((i : Int) - 1))
            rw [h1] at H1
            by_cases h2 : xa = xb
            · have d2 : (xa == xb) = true := by simpa using h2
              have h2b : (xa != xb) = false := by simpa using h2
              obtain rfl : E = 1 := HBAD.out (by simp [h0, h1, h2b])
              have HZ2 := Lib.hid (btrans HB.out HZ.out)
              clear h0 h1 h2 h2b
              go_upto_region 17 with (refine wpList_load_mid rfl 62 (.tmp 70) rfl g (off + q * 3) rfl [.int .i64 xa, .int .i64 xb, .int .i64 xc] _ HRR.out Try.underlying62 rfl (by kernel_rfl) ?_)
              rw [← HWX.out]
              rw [← HZB.out]
              clear b0 b1 b2 b3 hZB
              obtain ⟨b0, b1, b2, b3⟩ := box4 HXB.out
              go_wp2_with fail
              refine (H0.out _).mono ?_
              rintro e w' ⟨rfl, rfl⟩
              go_wp2_with fail
              refine (H1.out _).mono ?_
              rintro e w' ⟨rfl, rfl⟩
              go_wp2
              go_ret
              exact ⟨rfl, HZ2.out⟩
            have d2 : (xa == xb) = false := by simpa using h2
            have h2b : (xa != xb) = true := by simpa using h2
            cases h3 : rng 0 xc 1000000000 with
            | false =>
              have H3 := Lib.hid (within_any 0 xc 1000000000)
              rw [h3] at H3
              obtain rfl : E = 1 := HBAD.out (by simp [h0, h1, h2b, h3])
              have HZ2 := Lib.hid (btrans HB.out HZ.out)
              clear h0 h1 h2 h2b h3
              go_upto_region 17 with (refine wpList_load_mid rfl 62 (.tmp 70) rfl g (off + q * 3) rfl [.int .i64 xa, .int .i64 xb, .int .i64 xc] _ HRR.out Try.underlying62 rfl (by kernel_rfl) ?_)
              rw [← HWX.out]
              rw [← HZB.out]
              clear b0 b1 b2 b3 hZB
              obtain ⟨b0, b1, b2, b3⟩ := box4 HXB.out
              go_wp2_with fail
              refine (H0.out _).mono ?_
              rintro e w' ⟨rfl, rfl⟩
              go_wp2_with fail
              refine (H1.out _).mono ?_
              rintro e w' ⟨rfl, rfl⟩
              go_wp2_with fail
              refine (H3.out _).mono ?_
              rintro e w' ⟨rfl, rfl⟩
              go_wp2
              go_ret
              exact ⟨rfl, HZ2.out⟩
            | true =>
              have H3 := Lib.hid (within_any 0 xc 1000000000)
              rw [h3] at H3
              have HNX := Lib.hid (HGOOD.out (by simp [h0, h1, h2b, h3]))
              clear h0 h1 h2 h2b h3
              go_upto_region 17 with (refine wpList_load_mid rfl 62 (.tmp 70) rfl g (off + q * 3) rfl [.int .i64 xa, .int .i64 xb, .int .i64 xc] _ HRR.out Try.underlying62 rfl (by kernel_rfl) ?_)
              rw [← HWX.out]
              rw [← HZB.out]
              clear b0 b1 b2 b3 hZB
              obtain ⟨b0, b1, b2, b3⟩ := box4 HXB.out
              go_wp2_with fail
              refine (H0.out _).mono ?_
              rintro e w' ⟨rfl, rfl⟩
              go_wp2_with fail
              refine (H1.out _).mono ?_
              rintro e w' ⟨rfl, rfl⟩
              go_wp2_with fail
              refine (H3.out _).mono ?_
              rintro e w' ⟨rfl, rfl⟩
              go_wp2
              go_roundw
              case rel => exact ⟨q + 1, by omega, by go_num, Lib.hid ⟨HZ.out, HNX.out⟩⟩
              case measure => simp [intOf]; omega
end Go.Proofs.Ytijdjbkmkopmnaa
