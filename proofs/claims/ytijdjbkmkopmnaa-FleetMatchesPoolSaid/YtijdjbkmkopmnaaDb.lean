/-
  Walks: Check of the program.
-/
import Derived.Test.YtijdjbkmkopmnaaDa
namespace Go.Proofs.Ytijdjbkmkopmnaa
open Go.RowKit
set_option linter.unusedVariables false
set_option linter.unusedSimpArgs false

theorem cf39 (x : Value) (bs : Array Value) (w : World) : Sem.run Try.prog (callFunc 39 (#[x] ++ bs)) w = .ok (.enter 39 (#[x] ++ bs)) w := by kernel_rfl
theorem cf41 (x : Value) (bs : Array Value) (w : World) : Sem.run Try.prog (callFunc 41 (#[x] ++ bs)) w = .ok (.enter 41 (#[x] ++ bs)) w := by kernel_rfl
theorem cf44 (x : Value) (bs : Array Value) (w : World) : Sem.run Try.prog (callFunc 44 (#[x] ++ bs)) w = .ok (.enter 44 (#[x] ++ bs)) w := by kernel_rfl
/-- What Check returns. -/
def chk (ts : List Ty) (ws : List Wn) (ss : List Sw) (hs : List Wh) : Int :=
  fst0 [if decide ((ts.length : Int) ≤ 32) then 0 else 2, if decide ((ws.length : Int) ≤ 4096) then 0 else 2, if decide ((ss.length : Int) ≤ 1024) then 0 else 2, if decide ((hs.length : Int) ≤ 4096) then 0 else 2,
    if ts.all tOk then 0 else 1, if ws.all (wOk ts.length) then 0 else 1, if ss.all (sOk ts.length) then 0 else 1, if hgo (fun _ _ => false) hs then 0 else 1]
section
variable {w : World} {a1 a2 a3 a4 : Option Addr} {n c1 m c2 k c3 h c4 : Nat} {ts : List Ty} {ws : List Wn} {ss : List Sw} {hs : List Wh}
theorem ck38 (b0 : Nat) (hn : n = ts.length) (hl : Ts (fun k => k < w.heap.size) w (.slice a1 n c1) ts) : Calls Try.prog 38 #[.slice a1 n c1, .func (.func 39) #[] #[]] w fun e w' => ∃ bs', e = .returned (.func (.func 85) #[] bs') ∧ Below w.heap.size w w' ∧ ∀ last, Ck w' b0 last 85 bs' (if ts.all tOk then 0 else 1) := by
  subst hn
  exact each38_ck tOk b0 hl (fun x w' => cf39 x _ w') (fun x w' _ _ => type_any x w' _ rfl)
theorem ck40 (b0 Bf : Nat) (hn : n ≤ 70368744177664) (hm : m = ws.length) (hbox : w.heap[Bf]? = some (.cells #[.slice a1 n c1, .slice a2 m c2, .slice a3 k c3, .slice a4 h c4] 27 (0, 0))) (hl : Ws (fun k => k < w.heap.size) w (.slice a2 m c2) ws) :
    Calls Try.prog 40 #[.slice a2 m c2, .func (.func 41) #[] #[.pointer (some ⟨Bf, 0, none⟩)]] w fun e w' => ∃ bs', e = .returned (.func (.func 86) #[] bs') ∧ Below w.heap.size w w' ∧ ∀ last, Ck w' b0 last 86 bs' (if ws.all (wOk n) then 0 else 1) := by
  subst hm
  exact each40_ck (wOk n) b0 hl (fun x w' => cf41 x _ w') (fun x w' hb _ => cwagon_any x hn Bf w' (bon hbox hb) _ rfl)
theorem ck43 (b0 Bf : Nat) (hn : n ≤ 70368744177664) (hk : k = ss.length) (hbox : w.heap[Bf]? = some (.cells #[.slice a1 n c1, .slice a2 m c2, .slice a3 k c3, .slice a4 h c4] 27 (0, 0))) (hl : Ss (fun k => k < w.heap.size) w (.slice a3 k c3) ss) :
    Calls Try.prog 43 #[.slice a3 k c3, .func (.func 44) #[] #[.pointer (some ⟨Bf, 0, none⟩)]] w fun e w' => ∃ bs', e = .returned (.func (.func 87) #[] bs') ∧ Below w.heap.size w w' ∧ ∀ last, Ck w' b0 last 87 bs' (if ss.all (sOk n) then 0 else 1) := by
  subst hk
  exact each43_ck (sOk n) b0 hl (fun x w' => cf44 x _ w') (fun x w' hb _ => cswap_any x hn Bf w' (bon hbox hb) _ rfl)
theorem ck47 (w : World) : Calls Try.prog 47 #[] w fun e w' => ∃ KB, e = .returned (.func (.func 89) #[] #[.pointer (some ⟨KB, 0, none⟩)]) ∧ Below w.heap.size w w' ∧ w.heap.size ≤ KB ∧ Kn w' KB (fun _ _ => false) := by
  refine (newWash_any w).mono ?_
  rintro e w' ⟨rfl, rfl⟩
  exact ⟨_, rfl, ball (Below.refl _ _) _, Nat.le_refl _, kn_new w⟩
theorem ck46 {KB : Nat} (b0 : Nat) (hh : h = hs.length) (hl : Hs (fun k => k < b0) w (.slice a4 h c4) hs) (hb0 : b0 ≤ KB) (hK : Kn w KB (fun _ _ => false)) :
    Calls Try.prog 46 #[.slice a4 h c4, .func (.func 89) #[] #[.pointer (some ⟨KB, 0, none⟩)]] w fun e w' => ∃ bs', e = .returned (.func (.func 88) #[] bs') ∧ Below w.heap.size w w' ∧ Ck w' b0 true 88 bs' (if hgo (fun _ _ => false) hs then 0 else 1) := by
  subst hh
  exact each46_ck hl hb0 hK
end
set_option maxRecDepth 100000 in
set_option maxHeartbeats 8000000 in
theorem check_any {V : Value} {ts : List Ty} {ws : List Wn} {ss : List Sw} {hs : List Wh} {w : World} (hf : Fl w V ts ws ss hs) (R : Int) (hR : R = chk ts ws ss hs) :
    Calls Try.prog 18 #[V] w fun e w' => e = .returned (.int .i64 R) ∧ Below w.heap.size w w' := by
  obtain ⟨a1, c1, a2, c2, a3, c3, a4, c4, rfl, g1, g2, g3, g4⟩ := hf.shape
  have hlt := g1.1; have hlw := g2.1; have hls := g3.1; have hlh := g4.1
  obtain ⟨n, hn⟩ : ∃ n, n = ts.length := ⟨_, rfl⟩
  obtain ⟨m, hm⟩ : ∃ m, m = ws.length := ⟨_, rfl⟩
  obtain ⟨k, hk⟩ : ∃ k, k = ss.length := ⟨_, rfl⟩
  obtain ⟨h, hh⟩ : ∃ h, h = hs.length := ⟨_, rfl⟩
  unfold chk at hR
  rw [← hn, ← hm, ← hk, ← hh] at hR
  rw [← hn] at g1 hlt ⊢
  rw [← hm] at g2 ⊢
  rw [← hk] at g3 ⊢
  rw [← hh] at g4 ⊢
  obtain ⟨b1, d1⟩ : ∃ b, decide ((n : Int) ≤ 32) = b := ⟨_, rfl⟩
  obtain ⟨b2, d2⟩ : ∃ b, decide ((m : Int) ≤ 4096) = b := ⟨_, rfl⟩
  obtain ⟨b3, d3⟩ : ∃ b, decide ((k : Int) ≤ 1024) = b := ⟨_, rfl⟩
  obtain ⟨b4, d4⟩ : ∃ b, decide ((h : Int) ≤ 4096) = b := ⟨_, rfl⟩
  rw [d1, d2, d3, d4] at hR
  obtain ⟨W, hW⟩ : ∃ W, W = w.alloc (.cells #[.slice a1 n c1, .slice a2 m c2, .slice a3 k c3, .slice a4 h c4] 27) := ⟨_, rfl⟩
  have hB : Below w.heap.size w W := by rw [hW]; exact ball (Below.refl w.heap.size w) _
  have hr : W.heap[w.heap.size]? = some (.cells #[.slice a1 n c1, .slice a2 m c2, .slice a3 k c3, .slice a4 h c4] 27 (0, 0)) := by rw [hW]; exact bnew _ _
  have HW := Lib.hid hW; have HB := Lib.hid hB; have HX := Lib.hid hr; have HR := Lib.hid hR
  have HN := Lib.hid hn; have HM := Lib.hid hm; have HK := Lib.hid hk; have HH := Lib.hid hh; have HLT := Lib.hid hlt
  have HT := Lib.hid (g1.on hB); have HWS := Lib.hid (g2.on hB); have HSS := Lib.hid (g3.on hB); have HHS := Lib.hid (g4.on hB)
  clear hf hW hB hr hR hn hm hk hh hlt hlw hls hlh g1 g2 g3 g4
  go_enter Try.func18, Try.ntmps18
  go_upto_region 1 with (fail)
  rw [← HW.out]
  clear HW
  have h70 := box4 (bon HX.out (Below.refl W.heap.size W).drew)
  refine wp_region_held_drew (S := fun w' => w'.cell? ⟨w.heap.size, 0, none⟩ = some (.slice a1 n c1) ∧ w'.cell? ⟨w.heap.size, 1, none⟩ = some (.slice a2 m c2) ∧ w'.cell? ⟨w.heap.size, 2, none⟩ = some (.slice a3 k c3) ∧ w'.cell? ⟨w.heap.size, 3, none⟩ = some (.slice a4 h c4)) (by kernel_rfl) h70 (fun hHeld => ?_)
  change wpAnyH _ _ _ _ _ 38 #[false, false, false, false, false, false, false, false, false, false, false, false, false, false, false, false, false, false, false, false, false, false, false, false, false, false, false, false, false, false, false, false, false, false, false, false, false, false] _ _
  refine wpAnyH_take (i := 0) (oi := _) (v := .pointer (some ⟨w.heap.size, 0, none⟩)) rfl (by kernel_rfl) (by kernel_rfl) (by kernel_rfl) (fun _ _ _ h => h) (Or.inl ⟨by rfl, fun wx hSw => ?_⟩) (by assumption) ?_
  · go_simp
    try (first | omega | (rw [IntKind.wrap_i64]; omega))
  (try simp only [Act.put, List.setIfInBounds_toArray, List.set_cons_zero, List.set_cons_succ, List.getElem_toArray, List.getElem_cons_zero, List.getElem_cons_succ])
  refine wpAnyH_take (i := 1) (oi := _) (v := .slice a1 n c1) rfl (by kernel_rfl) (by kernel_rfl) (by kernel_rfl) (fun _ _ _ h => h) (Or.inl ⟨by rfl, fun wx hSw => ?_⟩) (by assumption) ?_
  · go_simp
    try (first | omega | (rw [IntKind.wrap_i64]; omega))
  (try simp only [Act.put, List.setIfInBounds_toArray, List.set_cons_zero, List.set_cons_succ, List.getElem_toArray, List.getElem_cons_zero, List.getElem_cons_succ])
  refine wpAnyH_take (i := 2) (oi := _) (v := .int .i64 (n : Int)) rfl (by kernel_rfl) (by kernel_rfl) (by kernel_rfl) (fun _ _ _ h => h) (Or.inl ⟨by rfl, fun wx hSw => ?_⟩) (by assumption) ?_
  · go_simp
    try (first | omega | (rw [IntKind.wrap_i64]; omega))
  (try simp only [Act.put, List.setIfInBounds_toArray, List.set_cons_zero, List.set_cons_succ, List.getElem_toArray, List.getElem_cons_zero, List.getElem_cons_succ])
  refine wpAnyH_take (i := 3) (oi := _) (v := .bool b1) rfl (by kernel_rfl) (by kernel_rfl) (by kernel_rfl) (fun _ _ _ h => h) (Or.inl ⟨by rfl, fun wx hSw => ?_⟩) (by assumption) ?_
  · go_simp
    try (first | omega | (rw [IntKind.wrap_i64]; omega))
  (try simp only [Act.put, List.setIfInBounds_toArray, List.set_cons_zero, List.set_cons_succ, List.getElem_toArray, List.getElem_cons_zero, List.getElem_cons_succ])
  refine wpAnyH_take (i := 5) (oi := _) (v := .pointer (some ⟨w.heap.size, 1, none⟩)) rfl (by kernel_rfl) (by kernel_rfl) (by kernel_rfl) (fun _ _ _ h => h) (Or.inl ⟨by rfl, fun wx hSw => ?_⟩) (by assumption) ?_
  · go_simp
    try (first | omega | (rw [IntKind.wrap_i64]; omega))
  (try simp only [Act.put, List.setIfInBounds_toArray, List.set_cons_zero, List.set_cons_succ, List.getElem_toArray, List.getElem_cons_zero, List.getElem_cons_succ])
  refine wpAnyH_take (i := 6) (oi := _) (v := .slice a2 m c2) rfl (by kernel_rfl) (by kernel_rfl) (by kernel_rfl) (fun _ _ _ h => h) (Or.inl ⟨by rfl, fun wx hSw => ?_⟩) (by assumption) ?_
  · go_simp
    try (first | omega | (rw [IntKind.wrap_i64]; omega))
  (try simp only [Act.put, List.setIfInBounds_toArray, List.set_cons_zero, List.set_cons_succ, List.getElem_toArray, List.getElem_cons_zero, List.getElem_cons_succ])
  refine wpAnyH_take (i := 7) (oi := _) (v := .int .i64 (m : Int)) rfl (by kernel_rfl) (by kernel_rfl) (by kernel_rfl) (fun _ _ _ h => h) (Or.inl ⟨by rfl, fun wx hSw => ?_⟩) (by assumption) ?_
  · go_simp
    try (first | omega | (rw [IntKind.wrap_i64]; omega))
  (try simp only [Act.put, List.setIfInBounds_toArray, List.set_cons_zero, List.set_cons_succ, List.getElem_toArray, List.getElem_cons_zero, List.getElem_cons_succ])
  refine wpAnyH_take (i := 8) (oi := _) (v := .bool b2) rfl (by kernel_rfl) (by kernel_rfl) (by kernel_rfl) (fun _ _ _ h => h) (Or.inl ⟨by rfl, fun wx hSw => ?_⟩) (by assumption) ?_
  · go_simp
    try (first | omega | (rw [IntKind.wrap_i64]; omega))
  (try simp only [Act.put, List.setIfInBounds_toArray, List.set_cons_zero, List.set_cons_succ, List.getElem_toArray, List.getElem_cons_zero, List.getElem_cons_succ])
  refine wpAnyH_take (i := 10) (oi := _) (v := .pointer (some ⟨w.heap.size, 2, none⟩)) rfl (by kernel_rfl) (by kernel_rfl) (by kernel_rfl) (fun _ _ _ h => h) (Or.inl ⟨by rfl, fun wx hSw => ?_⟩) (by assumption) ?_
  · go_simp
    try (first | omega | (rw [IntKind.wrap_i64]; omega))
  (try simp only [Act.put, List.setIfInBounds_toArray, List.set_cons_zero, List.set_cons_succ, List.getElem_toArray, List.getElem_cons_zero, List.getElem_cons_succ])
  refine wpAnyH_take (i := 11) (oi := _) (v := .slice a3 k c3) rfl (by kernel_rfl) (by kernel_rfl) (by kernel_rfl) (fun _ _ _ h => h) (Or.inl ⟨by rfl, fun wx hSw => ?_⟩) (by assumption) ?_
  · go_simp
    try (first | omega | (rw [IntKind.wrap_i64]; omega))
  (try simp only [Act.put, List.setIfInBounds_toArray, List.set_cons_zero, List.set_cons_succ, List.getElem_toArray, List.getElem_cons_zero, List.getElem_cons_succ])
  refine wpAnyH_take (i := 12) (oi := _) (v := .int .i64 (k : Int)) rfl (by kernel_rfl) (by kernel_rfl) (by kernel_rfl) (fun _ _ _ h => h) (Or.inl ⟨by rfl, fun wx hSw => ?_⟩) (by assumption) ?_
  · go_simp
    try (first | omega | (rw [IntKind.wrap_i64]; omega))
  (try simp only [Act.put, List.setIfInBounds_toArray, List.set_cons_zero, List.set_cons_succ, List.getElem_toArray, List.getElem_cons_zero, List.getElem_cons_succ])
  refine wpAnyH_take (i := 13) (oi := _) (v := .bool b3) rfl (by kernel_rfl) (by kernel_rfl) (by kernel_rfl) (fun _ _ _ h => h) (Or.inl ⟨by rfl, fun wx hSw => ?_⟩) (by assumption) ?_
  · go_simp
    try (first | omega | (rw [IntKind.wrap_i64]; omega))
  (try simp only [Act.put, List.setIfInBounds_toArray, List.set_cons_zero, List.set_cons_succ, List.getElem_toArray, List.getElem_cons_zero, List.getElem_cons_succ])
  refine wpAnyH_take (i := 15) (oi := _) (v := .pointer (some ⟨w.heap.size, 3, none⟩)) rfl (by kernel_rfl) (by kernel_rfl) (by kernel_rfl) (fun _ _ _ h => h) (Or.inl ⟨by rfl, fun wx hSw => ?_⟩) (by assumption) ?_
  · go_simp
    try (first | omega | (rw [IntKind.wrap_i64]; omega))
  (try simp only [Act.put, List.setIfInBounds_toArray, List.set_cons_zero, List.set_cons_succ, List.getElem_toArray, List.getElem_cons_zero, List.getElem_cons_succ])
  refine wpAnyH_take (i := 16) (oi := _) (v := .slice a4 h c4) rfl (by kernel_rfl) (by kernel_rfl) (by kernel_rfl) (fun _ _ _ h => h) (Or.inl ⟨by rfl, fun wx hSw => ?_⟩) (by assumption) ?_
  · go_simp
    try (first | omega | (rw [IntKind.wrap_i64]; omega))
  (try simp only [Act.put, List.setIfInBounds_toArray, List.set_cons_zero, List.set_cons_succ, List.getElem_toArray, List.getElem_cons_zero, List.getElem_cons_succ])
  refine wpAnyH_take (i := 17) (oi := _) (v := .int .i64 (h : Int)) rfl (by kernel_rfl) (by kernel_rfl) (by kernel_rfl) (fun _ _ _ h => h) (Or.inl ⟨by rfl, fun wx hSw => ?_⟩) (by assumption) ?_
  · go_simp
    try (first | omega | (rw [IntKind.wrap_i64]; omega))
  (try simp only [Act.put, List.setIfInBounds_toArray, List.set_cons_zero, List.set_cons_succ, List.getElem_toArray, List.getElem_cons_zero, List.getElem_cons_succ])
  refine wpAnyH_take (i := 18) (oi := _) (v := .bool b4) rfl (by kernel_rfl) (by kernel_rfl) (by kernel_rfl) (fun _ _ _ h => h) (Or.inl ⟨by rfl, fun wx hSw => ?_⟩) (by assumption) ?_
  · go_simp
    try (first | omega | (rw [IntKind.wrap_i64]; omega))
  (try simp only [Act.put, List.setIfInBounds_toArray, List.set_cons_zero, List.set_cons_succ, List.getElem_toArray, List.getElem_cons_zero, List.getElem_cons_succ])
  refine wpAnyH_take (i := 20) (oi := _) (v := .pointer (some ⟨w.heap.size, 0, none⟩)) rfl (by kernel_rfl) (by kernel_rfl) (by kernel_rfl) (fun _ _ _ h => h) (Or.inl ⟨by rfl, fun wx hSw => ?_⟩) (by assumption) ?_
  · go_simp
    try (first | omega | (rw [IntKind.wrap_i64]; omega))
  (try simp only [Act.put, List.setIfInBounds_toArray, List.set_cons_zero, List.set_cons_succ, List.getElem_toArray, List.getElem_cons_zero, List.getElem_cons_succ])
  refine wpAnyH_take (i := 21) (oi := _) (v := .slice a1 n c1) rfl (by kernel_rfl) (by kernel_rfl) (by kernel_rfl) (fun _ _ _ h => h) (Or.inl ⟨by rfl, fun wx hSw => ?_⟩) (by assumption) ?_
  · go_simp
    try (first | omega | (rw [IntKind.wrap_i64]; omega))
  (try simp only [Act.put, List.setIfInBounds_toArray, List.set_cons_zero, List.set_cons_succ, List.getElem_toArray, List.getElem_cons_zero, List.getElem_cons_succ])
  refine wpAnyH_take (i := 23) (oi := _) (v := .pointer (some ⟨w.heap.size, 1, none⟩)) rfl (by kernel_rfl) (by kernel_rfl) (by kernel_rfl) (fun _ _ _ h => h) (Or.inl ⟨by rfl, fun wx hSw => ?_⟩) (by assumption) ?_
  · go_simp
    try (first | omega | (rw [IntKind.wrap_i64]; omega))
  (try simp only [Act.put, List.setIfInBounds_toArray, List.set_cons_zero, List.set_cons_succ, List.getElem_toArray, List.getElem_cons_zero, List.getElem_cons_succ])
  refine wpAnyH_take (i := 24) (oi := _) (v := .slice a2 m c2) rfl (by kernel_rfl) (by kernel_rfl) (by kernel_rfl) (fun _ _ _ h => h) (Or.inl ⟨by rfl, fun wx hSw => ?_⟩) (by assumption) ?_
  · go_simp
    try (first | omega | (rw [IntKind.wrap_i64]; omega))
  (try simp only [Act.put, List.setIfInBounds_toArray, List.set_cons_zero, List.set_cons_succ, List.getElem_toArray, List.getElem_cons_zero, List.getElem_cons_succ])
  refine wpAnyH_take (i := 25) (oi := _) (v := .func (.func 41) #[] #[.pointer (some ⟨w.heap.size, 0, none⟩)]) rfl (by kernel_rfl) (by kernel_rfl) (by kernel_rfl) (fun _ _ _ h => h) (Or.inl ⟨by rfl, fun wx hSw => ?_⟩) (by assumption) ?_
  · go_simp
    try (first | omega | (rw [IntKind.wrap_i64]; omega))
  (try simp only [Act.put, List.setIfInBounds_toArray, List.set_cons_zero, List.set_cons_succ, List.getElem_toArray, List.getElem_cons_zero, List.getElem_cons_succ])
  refine wpAnyH_take (i := 27) (oi := _) (v := .pointer (some ⟨w.heap.size, 2, none⟩)) rfl (by kernel_rfl) (by kernel_rfl) (by kernel_rfl) (fun _ _ _ h => h) (Or.inl ⟨by rfl, fun wx hSw => ?_⟩) (by assumption) ?_
  · go_simp
    try (first | omega | (rw [IntKind.wrap_i64]; omega))
  (try simp only [Act.put, List.setIfInBounds_toArray, List.set_cons_zero, List.set_cons_succ, List.getElem_toArray, List.getElem_cons_zero, List.getElem_cons_succ])
  refine wpAnyH_take (i := 28) (oi := _) (v := .slice a3 k c3) rfl (by kernel_rfl) (by kernel_rfl) (by kernel_rfl) (fun _ _ _ h => h) (Or.inl ⟨by rfl, fun wx hSw => ?_⟩) (by assumption) ?_
  · go_simp
    try (first | omega | (rw [IntKind.wrap_i64]; omega))
  (try simp only [Act.put, List.setIfInBounds_toArray, List.set_cons_zero, List.set_cons_succ, List.getElem_toArray, List.getElem_cons_zero, List.getElem_cons_succ])
  refine wpAnyH_take (i := 29) (oi := _) (v := .func (.func 44) #[] #[.pointer (some ⟨w.heap.size, 0, none⟩)]) rfl (by kernel_rfl) (by kernel_rfl) (by kernel_rfl) (fun _ _ _ h => h) (Or.inl ⟨by rfl, fun wx hSw => ?_⟩) (by assumption) ?_
  · go_simp
    try (first | omega | (rw [IntKind.wrap_i64]; omega))
  (try simp only [Act.put, List.setIfInBounds_toArray, List.set_cons_zero, List.set_cons_succ, List.getElem_toArray, List.getElem_cons_zero, List.getElem_cons_succ])
  refine wpAnyH_take (i := 31) (oi := _) (v := .pointer (some ⟨w.heap.size, 3, none⟩)) rfl (by kernel_rfl) (by kernel_rfl) (by kernel_rfl) (fun _ _ _ h => h) (Or.inl ⟨by rfl, fun wx hSw => ?_⟩) (by assumption) ?_
  · go_simp
    try (first | omega | (rw [IntKind.wrap_i64]; omega))
  (try simp only [Act.put, List.setIfInBounds_toArray, List.set_cons_zero, List.set_cons_succ, List.getElem_toArray, List.getElem_cons_zero, List.getElem_cons_succ])
  refine wpAnyH_take (i := 32) (oi := _) (v := .slice a4 h c4) rfl (by kernel_rfl) (by kernel_rfl) (by kernel_rfl) (fun _ _ _ h => h) (Or.inl ⟨by rfl, fun wx hSw => ?_⟩) (by assumption) ?_
  · go_simp
    try (first | omega | (rw [IntKind.wrap_i64]; omega))
  (try simp only [Act.put, List.setIfInBounds_toArray, List.set_cons_zero, List.set_cons_succ, List.getElem_toArray, List.getElem_cons_zero, List.getElem_cons_succ])
  refine wpAnyH_ready (rs := [4]) (by kernel_rfl) (by simp) ?_
  refine AllReadyH.cons (o := _) rfl (fun K hK => ?_) AllReadyH.nil
  have Hc := Lib.hid (require_ck b1 2 W.heap.size (W.drew))
  go_simp
  refine Hc.out.mono ?_
  rintro e v7 ⟨q7, rfl, hb, hk⟩
  have HD7 : Hid (Below W.heap.size W v7) := Lib.hid (btrans (Below.refl W.heap.size W).drew hb)
  have HS7 := Lib.hid hb
  have HK7 := Lib.hid hk
  have h77 := box4 (bon HX.out HD7.out)
  clear hb hk Hc
  go_wp2_with fail
  refine hK.out _ _ (h77) (fun hHeld => ?_)
  clear hK K
  (try simp only [Act.put, List.setIfInBounds_toArray, List.set_cons_zero, List.set_cons_succ, List.getElem_toArray, List.getElem_cons_zero, List.getElem_cons_succ])
  refine wpAnyH_ready (rs := [9]) (by kernel_rfl) (by simp) ?_
  refine AllReadyH.cons (o := _) rfl (fun K hK => ?_) AllReadyH.nil
  have Hc := Lib.hid (require_ck b2 2 W.heap.size (v7))
  go_simp
  refine Hc.out.mono ?_
  rintro e v12 ⟨q12, rfl, hb, hk⟩
  have HD12 : Hid (Below W.heap.size W v12) := Lib.hid (btrans HD7.out hb)
  have HS12 := Lib.hid hb
  have HK12 := Lib.hid hk
  have h712 := box4 (bon HX.out HD12.out)
  clear hb hk Hc
  go_wp2_with fail
  refine hK.out _ _ (h712) (fun hHeld => ?_)
  clear hK K
  (try simp only [Act.put, List.setIfInBounds_toArray, List.set_cons_zero, List.set_cons_succ, List.getElem_toArray, List.getElem_cons_zero, List.getElem_cons_succ])
  refine wpAnyH_ready (rs := [14]) (by kernel_rfl) (by simp) ?_
  refine AllReadyH.cons (o := _) rfl (fun K hK => ?_) AllReadyH.nil
  have Hc := Lib.hid (require_ck b3 2 W.heap.size (v12))
  go_simp
  refine Hc.out.mono ?_
  rintro e v17 ⟨q17, rfl, hb, hk⟩
  have HD17 : Hid (Below W.heap.size W v17) := Lib.hid (btrans HD12.out hb)
  have HS17 := Lib.hid hb
  have HK17 := Lib.hid hk
  have h717 := box4 (bon HX.out HD17.out)
  clear hb hk Hc
  go_wp2_with fail
  refine hK.out _ _ (h717) (fun hHeld => ?_)
  clear hK K
  (try simp only [Act.put, List.setIfInBounds_toArray, List.set_cons_zero, List.set_cons_succ, List.getElem_toArray, List.getElem_cons_zero, List.getElem_cons_succ])
  refine wpAnyH_ready (rs := [19]) (by kernel_rfl) (by simp) ?_
  refine AllReadyH.cons (o := _) rfl (fun K hK => ?_) AllReadyH.nil
  have Hc := Lib.hid (require_ck b4 2 W.heap.size (v17))
  go_simp
  refine Hc.out.mono ?_
  rintro e v22 ⟨q22, rfl, hb, hk⟩
  have HD22 : Hid (Below W.heap.size W v22) := Lib.hid (btrans HD17.out hb)
  have HS22 := Lib.hid hb
  have HK22 := Lib.hid hk
  have h722 := box4 (bon HX.out HD22.out)
  clear hb hk Hc
  go_wp2_with fail
  refine hK.out _ _ (h722) (fun hHeld => ?_)
  clear hK K
  (try simp only [Act.put, List.setIfInBounds_toArray, List.set_cons_zero, List.set_cons_succ, List.getElem_toArray, List.getElem_cons_zero, List.getElem_cons_succ])
  refine wpAnyH_ready (rs := [22]) (by kernel_rfl) (by simp) ?_
  refine AllReadyH.cons (o := _) rfl (fun K hK => ?_) AllReadyH.nil
  have Hc := Lib.hid (ck38 W.heap.size HN.out (HT.out.on (HD22.out)))
  go_simp
  refine Hc.out.mono ?_
  rintro e v25 ⟨q25, rfl, hb, hk⟩
  have HD25 : Hid (Below W.heap.size W v25) := Lib.hid (btrans HD22.out hb)
  have HS25 := Lib.hid hb
  have HK25 := Lib.hid hk
  have h725 := box4 (bon HX.out HD25.out)
  clear hb hk Hc
  go_wp2_with fail
  refine hK.out _ _ (h725) (fun hHeld => ?_)
  clear hK K
  (try simp only [Act.put, List.setIfInBounds_toArray, List.set_cons_zero, List.set_cons_succ, List.getElem_toArray, List.getElem_cons_zero, List.getElem_cons_succ])
  refine wpAnyH_ready (rs := [26]) (by kernel_rfl) (by simp) ?_
  refine AllReadyH.cons (o := _) rfl (fun K hK => ?_) AllReadyH.nil
  have Hc := Lib.hid (ck40 W.heap.size w.heap.size (by have := HLT.out; omega) HM.out (bon HX.out (HD25.out)) (HWS.out.on (HD25.out)))
  go_simp
  refine Hc.out.mono ?_
  rintro e v29 ⟨q29, rfl, hb, hk⟩
  have HD29 : Hid (Below W.heap.size W v29) := Lib.hid (btrans HD25.out hb)
  have HS29 := Lib.hid hb
  have HK29 := Lib.hid hk
  have h729 := box4 (bon HX.out HD29.out)
  clear hb hk Hc
  go_wp2_with fail
  refine hK.out _ _ (h729) (fun hHeld => ?_)
  clear hK K
  (try simp only [Act.put, List.setIfInBounds_toArray, List.set_cons_zero, List.set_cons_succ, List.getElem_toArray, List.getElem_cons_zero, List.getElem_cons_succ])
  refine wpAnyH_ready (rs := [30]) (by kernel_rfl) (by simp) ?_
  refine AllReadyH.cons (o := _) rfl (fun K hK => ?_) AllReadyH.nil
  have Hc := Lib.hid (ck43 W.heap.size w.heap.size (by have := HLT.out; omega) HK.out (bon HX.out (HD29.out)) (HSS.out.on (HD29.out)))
  go_simp
  refine Hc.out.mono ?_
  rintro e v33 ⟨q33, rfl, hb, hk⟩
  have HD33 : Hid (Below W.heap.size W v33) := Lib.hid (btrans HD29.out hb)
  have HS33 := Lib.hid hb
  have HK33 := Lib.hid hk
  have h733 := box4 (bon HX.out HD33.out)
  clear hb hk Hc
  go_wp2_with fail
  refine hK.out _ _ (h733) (fun hHeld => ?_)
  clear hK K
  (try simp only [Act.put, List.setIfInBounds_toArray, List.set_cons_zero, List.set_cons_succ, List.getElem_toArray, List.getElem_cons_zero, List.getElem_cons_succ])
  refine wpAnyH_ready (rs := [33]) (by kernel_rfl) (by simp) ?_
  refine AllReadyH.cons (o := _) rfl (fun K hK => ?_) AllReadyH.nil
  have Hc := Lib.hid (ck47 (v33))
  go_simp
  refine Hc.out.mono ?_
  rintro e v36 ⟨KB, rfl, hb, hkb, hk⟩
  have HD36 : Hid (Below W.heap.size W v36) := Lib.hid (btrans HD33.out hb)
  have HS36 := Lib.hid hb
  have HK36 := Lib.hid hk
  have HKB := Lib.hid hkb
  clear hkb
  have h736 := box4 (bon HX.out HD36.out)
  clear hb hk Hc
  go_wp2_with fail
  refine hK.out _ _ (h736) (fun hHeld => ?_)
  clear hK K
  (try simp only [Act.put, List.setIfInBounds_toArray, List.set_cons_zero, List.set_cons_succ, List.getElem_toArray, List.getElem_cons_zero, List.getElem_cons_succ])
  refine wpAnyH_ready (rs := [34]) (by kernel_rfl) (by simp) ?_
  refine AllReadyH.cons (o := _) rfl (fun K hK => ?_) AllReadyH.nil
  have Hc := Lib.hid (ck46 W.heap.size HH.out (HHS.out.kept (fun j hj => (HD36.out).block j hj) (fun _ h => h)) (Nat.le_trans HD33.out.size HKB.out) HK36.out)
  go_simp
  refine Hc.out.mono ?_
  rintro e v37 ⟨q37, rfl, hb, hk⟩
  have HD37 : Hid (Below W.heap.size W v37) := Lib.hid (btrans HD36.out hb)
  have HS37 := Lib.hid hb
  have HK37 := Lib.hid hk
  have h737 := box4 (bon HX.out HD37.out)
  clear hb hk Hc
  go_wp2_with fail
  refine hK.out _ _ (h737) (fun hHeld => ?_)
  clear hK K
  (try simp only [Act.put, List.setIfInBounds_toArray, List.set_cons_zero, List.set_cons_succ, List.getElem_toArray, List.getElem_cons_zero, List.getElem_cons_succ])
  refine wpAnyH_ready (rs := [35]) (by kernel_rfl) (by simp) ?_
  refine AllReadyH.cons (o := _) rfl (fun K hK => ?_) AllReadyH.nil
  go_simp
  refine hK.out _ _ (box4 (bold (bon HX.out HD37.out))) (fun hHeld => ?_)
  clear hK K
  (try simp only [Act.put, List.setIfInBounds_toArray, List.set_cons_zero, List.set_cons_succ, List.getElem_toArray, List.getElem_cons_zero, List.getElem_cons_succ])
  refine wpAnyH_ready (rs := [36]) (by kernel_rfl) (by simp) ?_
  refine AllReadyH.cons (o := _) rfl (fun K hK => ?_) AllReadyH.nil
  obtain ⟨W8, hW8⟩ : ∃ W8, W8 = v37.alloc (.cells #[.func (.func 84) #[] q7, .func (.func 84) #[] q12, .func (.func 84) #[] q17, .func (.func 84) #[] q22, .func (.func 85) #[] q25, .func (.func 86) #[] q29, .func (.func 87) #[] q33, .func (.func 88) #[] q37] 92) := ⟨_, rfl⟩
  have hB8 : Below W.heap.size W W8 := by rw [hW8]; exact ball HD37.out _
  have hS8 : Below v37.heap.size v37 W8 := by rw [hW8]; exact ball (Below.refl _ _) _
  have hg8 : W8.heap[v37.heap.size]? = some (.cells (([(84, q7, if b1 then 0 else 2), (84, q12, if b2 then 0 else 2), (84, q17, if b3 then 0 else 2), (84, q22, if b4 then 0 else 2), (85, q25, if ts.all tOk then 0 else 1), (86, q29, if ws.all (wOk n) then 0 else 1), (87, q33, if ss.all (sOk n) then 0 else 1), (88, q37, if hgo (fun _ _ => false) hs then 0 else 1)] : List (Nat × Array Value × Int)).map fun x => fv x.1 x.2.1).toArray 92 (0, 0)) := by rw [hW8]; exact bnew _ _
  have k37 := HK37.out.on (hS8)
  have k33 := fun last => (HK33.out last).on (btrans HS36.out (btrans HS37.out (hS8)))
  have k29 := fun last => (HK29.out last).on (btrans HS33.out (btrans HS36.out (btrans HS37.out (hS8))))
  have k25 := fun last => (HK25.out last).on (btrans HS29.out (btrans HS33.out (btrans HS36.out (btrans HS37.out (hS8)))))
  have k22 := fun last => (HK22.out last).on (btrans HS25.out (btrans HS29.out (btrans HS33.out (btrans HS36.out (btrans HS37.out (hS8))))))
  have k17 := fun last => (HK17.out last).on (btrans HS22.out (btrans HS25.out (btrans HS29.out (btrans HS33.out (btrans HS36.out (btrans HS37.out (hS8)))))))
  have k12 := fun last => (HK12.out last).on (btrans HS17.out (btrans HS22.out (btrans HS25.out (btrans HS29.out (btrans HS33.out (btrans HS36.out (btrans HS37.out (hS8))))))))
  have k7 := fun last => (HK7.out last).on (btrans HS12.out (btrans HS17.out (btrans HS22.out (btrans HS25.out (btrans HS29.out (btrans HS33.out (btrans HS36.out (btrans HS37.out (hS8)))))))))
  have Hc := Lib.hid (firstck (w := W8) (g := v37.heap.size) (n := 8) (b0 := W.heap.size) [(84, q7, if b1 then 0 else 2), (84, q12, if b2 then 0 else 2), (84, q17, if b3 then 0 else 2), (84, q22, if b4 then 0 else 2), (85, q25, if ts.all tOk then 0 else 1), (86, q29, if ws.all (wOk n) then 0 else 1), (87, q33, if ss.all (sOk n) then 0 else 1), (88, q37, if hgo (fun _ _ => false) hs then 0 else 1)] rfl (by omega) hB8.size 92 hg8 ⟨k7 false, k12 false, k17 false, k22 false, k25 false, k29 false, k33 false, k37⟩ R HR.out)
  have HZ := Lib.hid hB8
  rw [← hW8]
  clear hW8 hg8 hS8 hB8 k7 k12 k17 k22 k25 k29 k33 k37
  go_simp
  refine Hc.out.mono ?_
  rintro e v39 ⟨rfl, hb⟩
  have hz := HZ.out.trans hb
  have HZ2 := Lib.hid (HB.out.trans (hz.mono HB.out.size))
  have h739 := box4 ((hz.block _ (blt HX.out)).trans HX.out)
  clear hz
  clear hb Hc
  go_wp2_with fail
  refine hK.out _ _ (h739) (fun hHeld => ?_)
  clear hK K
  (try simp only [Act.put, List.setIfInBounds_toArray, List.set_cons_zero, List.set_cons_succ, List.getElem_toArray, List.getElem_cons_zero, List.getElem_cons_succ])
  refine wpAnyH_take (i := 37) (oi := _) (v := .int .i64 R) rfl (by kernel_rfl) (by kernel_rfl) (by kernel_rfl) (fun _ _ _ h => h) (Or.inl ⟨by rfl, fun wx hSw => ?_⟩) (by assumption) ?_
  · go_simp
    try (first | omega | (rw [IntKind.wrap_i64]; omega))
  (try simp only [Act.put, List.setIfInBounds_toArray, List.set_cons_zero, List.set_cons_succ, List.getElem_toArray, List.getElem_cons_zero, List.getElem_cons_succ])
  refine wpAnyH_done (by kernel_rfl) ?_ _
  clear hHeld
  go_wp2
  go_ret
  exact ⟨rfl, HZ2.out⟩
end Go.Proofs.Ytijdjbkmkopmnaa
