/-
  Walks: the closure that enters a line.
-/
import Derived.Test.YtbeoldklpklbfaaGb
namespace Go.Proofs.Ytbeoldklpklbfaa
open Go.RowKit
set_option linter.unusedVariables false
set_option linter.unusedSimpArgs false

def Ln.ed (x : Ln) : Ed := ⟨x.a, x.b, x.r, x.m, x.k⟩
/-- What a line enters. -/
def ent (es : List Ln) (f : Nat → Nat → Option Nat) (a b i m : Nat) : Nat → Nat → Option Nat :=
  match f a b with
  | none => upd f a b i
  | some j => if m < mi es j then upd f a b i else f
/-- The state in which a line is entered. -/
structure En (w0 : World) (B G n N M : Nat) (Fo : Nat → Prop) (f : Nat → Nat → Option Nat) (ea : Option Addr) (en ec : Nat) (es : List Ln) (gB lB iB : Nat) (x : Ln) (i : Nat) (w : World) : Prop where
  gs : GS w0 B G n N M Fo f (fun p q => (f p q).isSome = true) w
  hg : w.heap[gB]? = some (.cells #[.slice ea en ec, .map (some B), .slice (some ⟨G, 0, none⟩) n n] 63 (0, 0))
  hl : w.heap[lB]? = some (.cells #[.int .i64 (x.a : Int), .int .i64 (x.b : Int), .int .i64 (x.r : Int), .int .i64 (x.m : Int), .int .i64 (x.k : Int)] 45 (0, 0))
  hi : w.heap[iB]? = some (.cells #[.int .i64 (i : Int)] 3 (0, 0))
  fg : Fo gB
  fl : Fo lB
  fi : Fo iB
section
variable {w0 w : World} {B G n N M : Nat} {Fo : Nat → Prop} {f : Nat → Nat → Option Nat} {ea : Option Addr} {en ec : Nat} {es : List Ln} {gB lB iB i : Nat} {x : Ln}
theorem En.next {N' M' : Nat} {f' : Nat → Nat → Option Nat} {w' : World} (h : En w0 B G n N M Fo f ea en ec es gB lB iB x i w) (hs : GS w0 B G n N' M' Fo f' (fun p q => (f' p q).isSome = true) w') (hX : ∀ X, Fo X → w'.heap[X]? = w.heap[X]?) : En w0 B G n N' M' Fo f' ea en ec es gB lB iB x i w' :=
  ⟨hs, (hX _ h.fg).trans h.hg, (hX _ h.fl).trans h.hl, (hX _ h.fi).trans h.hi, h.fg, h.fl, h.fi⟩
theorem upd_some (f : Nat → Nat → Option Nat) (a b i p q : Nat) : ((upd f a b i) p q).isSome = true ↔ (f p q).isSome = true ∨ p = a ∧ q = b := by
  unfold upd
  by_cases e : p = a ∧ q = b
  · rw [if_pos e]; simp [e]
  · rw [if_neg e]; simp [e]

set_option maxRecDepth 100000 in
set_option maxHeartbeats 4000000 in
theorem enter_any (h : En w0 B G n N M Fo f ea en ec es gB lB iB x i w) (hE : Es (fun k => k < w0.heap.size) w0 (.slice ea en ec) (es.map Ln.ed)) (hf : ∀ p q j, f p q = some j → j < es.length)
    {a b : Nat} (ha : a < n) (hb : b < n) (hn : n ≤ 1000) (hM : M ≤ 10000) (hN : N < 100000) (hi : i < 100000) :
    Calls Try.prog 46 #[.int .i64 (a : Int), .int .i64 (b : Int), .pointer (some ⟨gB, 0, none⟩), .pointer (some ⟨lB, 0, none⟩), .pointer (some ⟨iB, 0, none⟩)] w fun e w' =>
      e = .returned (.tuple #[]) ∧ En w0 B G n (N + 1) (M + 1) Fo (ent es f a b i x.m) ea en ec es gB lB iB x i w' ∧ ∀ X, Fo X → w'.heap[X]? = w.heap[X]? := by
  obtain ⟨c, hlk, hc⟩ := h.gs.mp.ok (p := a) (q := b) (by omega) (by omega)
  obtain ⟨g0, g1, g2⟩ := box3 h.hg
  cases hfab : f a b with
  | none =>
    rw [hfab] at hlk
    have hent : ent es f a b i x.m = upd f a b i := by unfold ent; rw [hfab]
    rw [hent]
    have hlk2 : (Instr.lookup 60 (.map (some B)) (.agg #[.int .i64 (a : Int), .int .i64 (b : Int)]) true).run Try.prog w = .ok (.tuple #[.int .i64 c, .bool false]) w := hlk
    have H := Lib.hid h; have HB := Lib.hid hb; have HF := Lib.hid hfab
    have han : (a : Int) < (n : Int) := by omega
    clear hlk hent hc hf hE h hfab
    go_enter Try.func46, Try.ntmps46
    go_upto_region 2 with (fail)
    clear hlk2
    go_cut [] from 20 to 31 (fun wx => GS w0 B G n N (M + 1) Fo f (fun p q => (f p q).isSome = true ∨ p = a ∧ q = b) wx ∧ ∀ X, Fo X → wx.heap[X]? = w.heap[X]?)
    case first =>
      have hgs := H.out.gs.on ((Below.refl w.heap.size w).drew)
      obtain ⟨v, L, k0, v', w2, hr, k2, kf, hX2, hX3, hgs3⟩ := hgs.push ha hb hM
      have g2' : w.drew.cell? ⟨gB, 2, none⟩ = some (.slice (some ⟨G, 0, none⟩) n n) := g2
      have bg : w.drew.heap[gB]? = some (.cells #[.slice ea en ec, .map (some B), .slice (some ⟨G, 0, none⟩) n n] 63 (0, 0)) := H.out.hg
      have k1 : (w.drew.alloc (.cells #[.int .i64 (b : Int)] 3)).cell? ⟨G, a, none⟩ = some (.slice v.1 L v.2) := (World.cell?_of_block (heap_alloc_old _ _ hgs.lt)).trans k0
      have k1' : (w.alloc (.cells #[.int .i64 (b : Int)] 3)).cell? ⟨G, a, none⟩ = some (.slice v.1 L v.2) := k1
      have k0' : w.cell? ⟨G, a, none⟩ = some (.slice v.1 L v.2) := k0
      have HS1 := Lib.hid (box3 (bal bg (.cells #[.int .i64 (b : Int)] 3))).2.2
      have HS2 := Lib.hid (box3 ((hX2 gB H.out.fg).trans bg)).2.2
      have HS3 := Lib.hid (box3 ((hX3 gB H.out.fg).trans bg)).2.2
      have HR := Lib.hid hr
      have HQ := Lib.hid (And.intro hgs3 hX3)
      clear hgs hr hX2 hX3 hgs3 bg
      refine wp_region_held_drew (S := fun w' => w'.cell? ⟨gB, 2, none⟩ = some (.slice (some ⟨G, 0, none⟩) n n)) (by kernel_rfl) g2' (fun hHeld => ?_)
      change wpAnyH _ _ _ _ _ 13 #[false, false, false, false, false, false, false, false, false, false, false, false, false] _ _
      refine wpAnyH_take (i := 0) (oi := _) (v := .pointer (some ⟨gB, 2, none⟩)) rfl (by kernel_rfl) (by kernel_rfl) (by kernel_rfl) (fun _ _ _ h => h) (Or.inl ⟨by rfl, fun wx hSw => ?_⟩) (by assumption) ?_
      · go_simp
        try (first | omega | (rw [IntKind.wrap_i64]; omega))
      (try simp only [Act.put, List.setIfInBounds_toArray, List.set_cons_zero, List.set_cons_succ, List.getElem_toArray, List.getElem_cons_zero, List.getElem_cons_succ])
      refine wpAnyH_take (i := 1) (oi := _) (v := .slice (some ⟨G, 0, none⟩) n n) rfl (by kernel_rfl) (by kernel_rfl) (by kernel_rfl) (fun _ _ _ h => h) (Or.inl ⟨by rfl, fun wx hSw => ?_⟩) (by assumption) ?_
      · go_simp
        try (first | omega | (rw [IntKind.wrap_i64]; omega))
      (try simp only [Act.put, List.setIfInBounds_toArray, List.set_cons_zero, List.set_cons_succ, List.getElem_toArray, List.getElem_cons_zero, List.getElem_cons_succ])
      refine wpAnyH_take (i := 2) (oi := _) (v := .int .i64 (a : Int)) rfl (by kernel_rfl) (by kernel_rfl) (by kernel_rfl) (fun _ _ _ h => h) (Or.inl ⟨by rfl, fun wx hSw => ?_⟩) (by assumption) ?_
      · go_simp
        try (first | omega | (rw [IntKind.wrap_i64]; omega))
      (try simp only [Act.put, List.setIfInBounds_toArray, List.set_cons_zero, List.set_cons_succ, List.getElem_toArray, List.getElem_cons_zero, List.getElem_cons_succ])
      refine wpAnyH_take (i := 3) (oi := _) (v := .pointer (some ⟨gB, 2, none⟩)) rfl (by kernel_rfl) (by kernel_rfl) (by kernel_rfl) (fun _ _ _ h => h) (Or.inl ⟨by rfl, fun wx hSw => ?_⟩) (by assumption) ?_
      · go_simp
        try (first | omega | (rw [IntKind.wrap_i64]; omega))
      (try simp only [Act.put, List.setIfInBounds_toArray, List.set_cons_zero, List.set_cons_succ, List.getElem_toArray, List.getElem_cons_zero, List.getElem_cons_succ])
      refine wpAnyH_take (i := 4) (oi := _) (v := .slice (some ⟨G, 0, none⟩) n n) rfl (by kernel_rfl) (by kernel_rfl) (by kernel_rfl) (fun _ _ _ h => h) (Or.inl ⟨by rfl, fun wx hSw => ?_⟩) (by assumption) ?_
      · go_simp
        try (first | omega | (rw [IntKind.wrap_i64]; omega))
      (try simp only [Act.put, List.setIfInBounds_toArray, List.set_cons_zero, List.set_cons_succ, List.getElem_toArray, List.getElem_cons_zero, List.getElem_cons_succ])
      refine wpAnyH_take (i := 5) (oi := _) (v := .int .i64 (a : Int)) rfl (by kernel_rfl) (by kernel_rfl) (by kernel_rfl) (fun _ _ _ h => h) (Or.inl ⟨by rfl, fun wx hSw => ?_⟩) (by assumption) ?_
      · go_simp
        try (first | omega | (rw [IntKind.wrap_i64]; omega))
      (try simp only [Act.put, List.setIfInBounds_toArray, List.set_cons_zero, List.set_cons_succ, List.getElem_toArray, List.getElem_cons_zero, List.getElem_cons_succ])
      refine wpAnyH_take (i := 6) (oi := _) (v := .pointer (some ⟨G, a, none⟩)) rfl (by kernel_rfl) (by kernel_rfl) (by kernel_rfl) (fun _ _ _ h => h) (Or.inl ⟨by rfl, fun wx hSw => ?_⟩) (by assumption) ?_
      · go_simp
        try (first | omega | (rw [IntKind.wrap_i64]; omega))
      (try simp only [Act.put, List.setIfInBounds_toArray, List.set_cons_zero, List.set_cons_succ, List.getElem_toArray, List.getElem_cons_zero, List.getElem_cons_succ])
      refine wpAnyH_take (i := 8) (oi := _) (v := .int .i64 (b : Int)) rfl (by kernel_rfl) (by kernel_rfl) (by kernel_rfl) (fun _ _ _ h => h) (Or.inl ⟨by rfl, fun wx hSw => ?_⟩) (by assumption) ?_
      · go_simp
        try (first | omega | (rw [IntKind.wrap_i64]; omega))
      (try simp only [Act.put, List.setIfInBounds_toArray, List.set_cons_zero, List.set_cons_succ, List.getElem_toArray, List.getElem_cons_zero, List.getElem_cons_succ])
      refine wpAnyH_ready (rs := [7, 9]) (by kernel_rfl) (by simp) ?_
      refine AllReadyH.cons (o := _) rfl (fun K hK => ?_) (AllReadyH.cons (o := _) rfl (fun K hK => ?_) AllReadyH.nil)
      · skip
        go_simp
        refine hK.out _ _ (hHeld) (fun hHeld => ?_)
        clear hK K
        (try simp only [Act.put, List.setIfInBounds_toArray, List.set_cons_zero, List.set_cons_succ, List.getElem_toArray, List.getElem_cons_zero, List.getElem_cons_succ])
        refine wpAnyH_ready (rs := [9]) (by kernel_rfl) (by simp) ?_
        refine AllReadyH.cons (o := _) rfl (fun K hK => ?_) AllReadyH.nil
        go_simp
        refine hK.out _ _ (HS1.out) (fun hHeld => ?_)
        clear hK K
        (try simp only [Act.put, List.setIfInBounds_toArray, List.set_cons_zero, List.set_cons_succ, List.getElem_toArray, List.getElem_cons_zero, List.getElem_cons_succ])
        refine wpAnyH_ready (rs := [10]) (by kernel_rfl) (by simp) ?_
        refine AllReadyH.cons (o := _) rfl (fun K hK => ?_) AllReadyH.nil
        rw [if_pos (show Region.wanted _ _ = true by rfl)]
        refine wp_appO rfl (.tmp 27) (.tmp 29) rfl rfl rfl HR.out ?_
        refine hK.out _ _ (HS2.out) (fun hHeld => ?_)
        clear hK K
        (try simp only [Act.put, List.setIfInBounds_toArray, List.set_cons_zero, List.set_cons_succ, List.getElem_toArray, List.getElem_cons_zero, List.getElem_cons_succ])
        refine wpAnyH_take (i := 11) (oi := _) (v := .pointer (some ⟨G, a, none⟩)) rfl (by kernel_rfl) (by kernel_rfl) (by kernel_rfl) (fun _ _ _ h => h) (Or.inl ⟨by rfl, fun wx hSw => ?_⟩) (by assumption) ?_
        · go_simp
          try (first | omega | (rw [IntKind.wrap_i64]; omega))
        (try simp only [Act.put, List.setIfInBounds_toArray, List.set_cons_zero, List.set_cons_succ, List.getElem_toArray, List.getElem_cons_zero, List.getElem_cons_succ])
        refine wpAnyH_ready (rs := [12]) (by kernel_rfl) (by simp) ?_
        refine AllReadyH.cons (o := _) rfl (fun K hK => ?_) AllReadyH.nil
        go_simp
        refine hK.out _ _ (HS3.out) (fun hHeld => ?_)
        clear hK K
        (try simp only [Act.put, List.setIfInBounds_toArray, List.set_cons_zero, List.set_cons_succ, List.getElem_toArray, List.getElem_cons_zero, List.getElem_cons_succ])
        refine wpAnyH_done (by kernel_rfl) ?_ _
        go_wp2_with fail
        go_meet
        exact HQ.out
      · skip
        go_simp
        refine hK.out _ _ (HS1.out) (fun hHeld => ?_)
        clear hK K
        (try simp only [Act.put, List.setIfInBounds_toArray, List.set_cons_zero, List.set_cons_succ, List.getElem_toArray, List.getElem_cons_zero, List.getElem_cons_succ])
        refine wpAnyH_ready (rs := [7]) (by kernel_rfl) (by simp) ?_
        refine AllReadyH.cons (o := _) rfl (fun K hK => ?_) AllReadyH.nil
        go_simp
        refine hK.out _ _ (hHeld) (fun hHeld => ?_)
        clear hK K
        (try simp only [Act.put, List.setIfInBounds_toArray, List.set_cons_zero, List.set_cons_succ, List.getElem_toArray, List.getElem_cons_zero, List.getElem_cons_succ])
        refine wpAnyH_ready (rs := [10]) (by kernel_rfl) (by simp) ?_
        refine AllReadyH.cons (o := _) rfl (fun K hK => ?_) AllReadyH.nil
        rw [if_pos (show Region.wanted _ _ = true by rfl)]
        refine wp_appO rfl (.tmp 27) (.tmp 29) rfl rfl rfl HR.out ?_
        refine hK.out _ _ (HS2.out) (fun hHeld => ?_)
        clear hK K
        (try simp only [Act.put, List.setIfInBounds_toArray, List.set_cons_zero, List.set_cons_succ, List.getElem_toArray, List.getElem_cons_zero, List.getElem_cons_succ])
        refine wpAnyH_take (i := 11) (oi := _) (v := .pointer (some ⟨G, a, none⟩)) rfl (by kernel_rfl) (by kernel_rfl) (by kernel_rfl) (fun _ _ _ h => h) (Or.inl ⟨by rfl, fun wx hSw => ?_⟩) (by assumption) ?_
        · go_simp
          try (first | omega | (rw [IntKind.wrap_i64]; omega))
        (try simp only [Act.put, List.setIfInBounds_toArray, List.set_cons_zero, List.set_cons_succ, List.getElem_toArray, List.getElem_cons_zero, List.getElem_cons_succ])
        refine wpAnyH_ready (rs := [12]) (by kernel_rfl) (by simp) ?_
        refine AllReadyH.cons (o := _) rfl (fun K hK => ?_) AllReadyH.nil
        go_simp
        refine hK.out _ _ (HS3.out) (fun hHeld => ?_)
        clear hK K
        (try simp only [Act.put, List.setIfInBounds_toArray, List.set_cons_zero, List.set_cons_succ, List.getElem_toArray, List.getElem_cons_zero, List.getElem_cons_succ])
        refine wpAnyH_done (by kernel_rfl) ?_ _
        go_wp2_with fail
        go_meet
        exact HQ.out
    case rest =>
      obtain ⟨hgs, hX⟩ := hcut
      have bg := (hX gB H.out.fg).trans H.out.hg
      have bi := (hX iB H.out.fi).trans H.out.hi
      clear g0 g1 g2
      go_wp2_with fail
      go_quiet (fail)
      have hgs2 := hgs.on (bdrewN (Below.refl wc.heap.size wc) nq)
      obtain ⟨w3, hr3, hX3, hgs3⟩ := hgs2.put (a := a) (b := b) (i := i) (by omega) (by have := HB.out; omega) hi hN
      have bg2 : (wc.drewN nq).heap[gB]? = some (.cells #[.slice ea en ec, .map (some B), .slice (some ⟨G, 0, none⟩) n n] 63 (0, 0)) := bg
      have bi2 : (wc.drewN nq).heap[iB]? = some (.cells #[.int .i64 (i : Int)] 3 (0, 0)) := bi
      have hXX : ∀ X, Fo X → w3.heap[X]? = w.heap[X]? := fun X hF => (hX3 X hF).trans (hX X hF)
      have HQ := Lib.hid (And.intro (H.out.next (hgs3.same (fun p q => (upd_some f a b i p q).symm)) hXX) hXX)
      clear hgs hX hgs2 hX3 hgs3 bg bi hXX
      generalize wc.drewN nq = w4 at *
      obtain ⟨g0, g1, g2⟩ := box3 bg2
      have i0 := box1 bi2
      clear bg2 bi2
      go_wp2
      refine bodyPost_end (results_none rfl _ _ _) rfl ?_
      exact ⟨rfl, HQ.out⟩
  | some j =>
    rw [hfab] at hlk
    have hlk2 : (Instr.lookup 60 (.map (some B)) (.agg #[.int .i64 (a : Int), .int .i64 (b : Int)]) true).run Try.prog w = .ok (.tuple #[.int .i64 c, .bool true]) w := hlk
    have hjl := hf a b j hfab
    obtain ⟨y, hy⟩ : ∃ y, es[j]? = some y := ⟨_, List.getElem?_eq_getElem hjl⟩
    have hyd : (es.map Ln.ed)[j]? = some y.ed := by rw [List.getElem?_map, hy]; rfl
    have hmi := mi_get hy
    have HMin := Lib.hid (fun (w' : World) (hb' : Below w.heap.size w w') => minutes_any (na := some ⟨G, 0, none⟩) (nn := n) (nc := n) (hE.on (btrans h.gs.below hb')) (h.gs.mp.on hb') (p := a) (q := b) (by omega) (by omega) hfab hyd)
    obtain ⟨l0, l1, l2, l3, l4⟩ := box5 h.hl
    have hX0 : ∀ X, Fo X → w.heap[X]? = w.heap[X]? := fun X _ => rfl
    have H := Lib.hid h; have HB := Lib.hid hb; have HF := Lib.hid hfab; have HMI := Lib.hid hmi
    have hst : (w.drew.cell? ⟨gB, 0, none⟩ = some (.slice ea en ec) ∧ w.drew.cell? ⟨gB, 1, none⟩ = some (.map (some B)) ∧ w.drew.cell? ⟨gB, 2, none⟩ = some (.slice (some ⟨G, 0, none⟩) n n)) ∧ w.drew.cell? ⟨lB, 3, none⟩ = some (.int .i64 (x.m : Int)) := ⟨⟨g0, g1, g2⟩, l3⟩
    have HST := Lib.hid hst
    clear hlk hc hf hE h hfab hy hyd hmi hst hjl hX0 l0 l1 l2 l4
    obtain ⟨mj, hmj⟩ : ∃ mj : Int, mj = y.ed.m := ⟨_, rfl⟩
    have hmj2 : mj = (mi es j : Int) := by rw [hmj, HMI.out]; rfl
    rw [← hmj] at HMin
    have HMJ := Lib.hid hmj2
    clear hmj hmj2 HMI
    by_cases hlt : x.m < mi es j
    · have hlt2 : decide ((x.m : Int) < mj) = true := decide_eq_true (by have := HMJ.out; omega)
      have hent : ent es f a b i x.m = upd f a b i := by unfold ent; rw [HF.out]; exact if_pos hlt
      rw [hent]
      have HENT := Lib.hid hent
      clear hlt hent
      go_enter Try.func46, Try.ntmps46
      go_upto_region 3 with (fail)
      clear hlk2
      refine wp_region_held_drew (S := fun w' => (w'.cell? ⟨gB, 0, none⟩ = some (.slice ea en ec) ∧ w'.cell? ⟨gB, 1, none⟩ = some (.map (some B)) ∧ w'.cell? ⟨gB, 2, none⟩ = some (.slice (some ⟨G, 0, none⟩) n n)) ∧ w'.cell? ⟨lB, 3, none⟩ = some (.int .i64 (x.m : Int))) (by kernel_rfl) HST.out (fun hHeld => ?_)
      change wpAnyH _ _ _ _ _ 11 #[false, false, false, false, false, false, false, false, false, false, false] _ _
      refine wpAnyH_take (i := 0) (oi := _) (v := .bool true) rfl (by kernel_rfl) (by kernel_rfl) (by kernel_rfl) (fun _ _ _ h => h) (Or.inl ⟨by rfl, fun wx hSw => ?_⟩) (by assumption) ?_
      · go_simp
        try (first | omega | (rw [IntKind.wrap_i64]; omega))
      (try simp only [Act.put, List.setIfInBounds_toArray, List.set_cons_zero, List.set_cons_succ, List.getElem_toArray, List.getElem_cons_zero, List.getElem_cons_succ])
      refine wpAnyH_take (i := 1) (oi := _) (v := .bool false) rfl (by kernel_rfl) (by kernel_rfl) (by kernel_rfl) (fun _ _ _ h => h) (Or.inl ⟨by rfl, fun wx hSw => ?_⟩) (by assumption) ?_
      · go_simp
        try (first | omega | (rw [IntKind.wrap_i64]; omega))
      (try simp only [Act.put, List.setIfInBounds_toArray, List.set_cons_zero, List.set_cons_succ, List.getElem_toArray, List.getElem_cons_zero, List.getElem_cons_succ])
      refine wpAnyH_take (i := 2) (oi := _) (v := .bool false) rfl (by kernel_rfl) (by kernel_rfl) (by kernel_rfl) (fun _ _ _ h => h) (Or.inl ⟨by rfl, fun wx hSw => ?_⟩) (by assumption) ?_
      · go_simp
        try (first | omega | (rw [IntKind.wrap_i64]; omega))
      (try simp only [Act.put, List.setIfInBounds_toArray, List.set_cons_zero, List.set_cons_succ, List.getElem_toArray, List.getElem_cons_zero, List.getElem_cons_succ])
      refine wpAnyH_take (i := 3) (oi := _) (v := .pointer (some ⟨lB, 3, none⟩)) rfl (by kernel_rfl) (by kernel_rfl) (by kernel_rfl) (fun _ _ _ h => h) (Or.inl ⟨by rfl, fun wx hSw => ?_⟩) (by assumption) ?_
      · go_simp
        try (first | omega | (rw [IntKind.wrap_i64]; omega))
      (try simp only [Act.put, List.setIfInBounds_toArray, List.set_cons_zero, List.set_cons_succ, List.getElem_toArray, List.getElem_cons_zero, List.getElem_cons_succ])
      refine wpAnyH_take (i := 4) (oi := _) (v := .int .i64 (x.m : Int)) rfl (by kernel_rfl) (by kernel_rfl) (by kernel_rfl) (fun _ _ _ h => h) (Or.inl ⟨by rfl, fun wx hSw => ?_⟩) (by assumption) ?_
      · go_simp
        try (first | omega | (rw [IntKind.wrap_i64]; omega))
      (try simp only [Act.put, List.setIfInBounds_toArray, List.set_cons_zero, List.set_cons_succ, List.getElem_toArray, List.getElem_cons_zero, List.getElem_cons_succ])
      refine wpAnyH_take (i := 5) (oi := _) (v := .agg #[.slice ea en ec, .map (some B), .slice (some ⟨G, 0, none⟩) n n]) rfl (by kernel_rfl) (by kernel_rfl) (by kernel_rfl) (fun _ _ _ h => h) (Or.inl ⟨by rfl, fun wx hSw => ?_⟩) (by assumption) ?_
      · go_simp
        try (first | omega | (rw [IntKind.wrap_i64]; omega))
      (try simp only [Act.put, List.setIfInBounds_toArray, List.set_cons_zero, List.set_cons_succ, List.getElem_toArray, List.getElem_cons_zero, List.getElem_cons_succ])
      refine wpAnyH_take (i := 6) (oi := _) (v := .int .i64 (a : Int)) rfl (by kernel_rfl) (by kernel_rfl) (by kernel_rfl) (fun _ _ _ h => h) (Or.inl ⟨by rfl, fun wx hSw => ?_⟩) (by assumption) ?_
      · go_simp
        try (first | omega | (rw [IntKind.wrap_i64]; omega))
      (try simp only [Act.put, List.setIfInBounds_toArray, List.set_cons_zero, List.set_cons_succ, List.getElem_toArray, List.getElem_cons_zero, List.getElem_cons_succ])
      refine wpAnyH_take (i := 7) (oi := _) (v := .int .i64 (b : Int)) rfl (by kernel_rfl) (by kernel_rfl) (by kernel_rfl) (fun _ _ _ h => h) (Or.inl ⟨by rfl, fun wx hSw => ?_⟩) (by assumption) ?_
      · go_simp
        try (first | omega | (rw [IntKind.wrap_i64]; omega))
      (try simp only [Act.put, List.setIfInBounds_toArray, List.set_cons_zero, List.set_cons_succ, List.getElem_toArray, List.getElem_cons_zero, List.getElem_cons_succ])
      refine wpAnyH_ready (rs := [8]) (by kernel_rfl) (by simp) ?_
      refine AllReadyH.cons (o := _) rfl (fun K hK => ?_) AllReadyH.nil
      go_simp
      refine (HMin.out _ (Below.refl w.heap.size w).drew).mono ?_
      rintro e w7 ⟨rfl, hb7⟩
      have HB7 : Hid (Below w.heap.size w w7) := Lib.hid (btrans (Below.refl w.heap.size w).drew hb7)
      have h7 : (w7.cell? ⟨gB, 0, none⟩ = some (.slice ea en ec) ∧ w7.cell? ⟨gB, 1, none⟩ = some (.map (some B)) ∧ w7.cell? ⟨gB, 2, none⟩ = some (.slice (some ⟨G, 0, none⟩) n n)) ∧ w7.cell? ⟨lB, 3, none⟩ = some (.int .i64 (x.m : Int)) := by
        obtain ⟨q0, q1, q2⟩ := box3 (bon H.out.hg HB7.out)
        obtain ⟨r0, r1, r2, r3, r4⟩ := box5 (bon H.out.hl HB7.out)
        exact ⟨⟨q0, q1, q2⟩, r3⟩
      clear hb7
      go_wp2_with fail
      refine hK.out _ _ (h7) (fun hHeld => ?_)
      clear hK K
      (try simp only [Act.put, List.setIfInBounds_toArray, List.set_cons_zero, List.set_cons_succ, List.getElem_toArray, List.getElem_cons_zero, List.getElem_cons_succ])
      refine wpAnyH_take (i := 9) (oi := _) (v := .bool true) rfl (by kernel_rfl) (by kernel_rfl) (by kernel_rfl) (fun _ _ _ h => h) (Or.inl ⟨by rfl, fun wx hSw => ?_⟩) (by assumption) ?_
      · go_simp
        try (first | omega | (rw [IntKind.wrap_i64]; omega))
      (try simp only [Act.put, List.setIfInBounds_toArray, List.set_cons_zero, List.set_cons_succ, List.getElem_toArray, List.getElem_cons_zero, List.getElem_cons_succ])
      refine wpAnyH_take (i := 10) (oi := _) (v := .bool true) rfl (by kernel_rfl) (by kernel_rfl) (by kernel_rfl) (fun _ _ _ h => h) (Or.inl ⟨by rfl, fun wx hSw => ?_⟩) (by assumption) ?_
      · go_simp
        try (first | omega | (rw [IntKind.wrap_i64]; omega))
      (try simp only [Act.put, List.setIfInBounds_toArray, List.set_cons_zero, List.set_cons_succ, List.getElem_toArray, List.getElem_cons_zero, List.getElem_cons_succ])
      refine wpAnyH_done (by kernel_rfl) ?_ _
      clear hHeld h7
      have hB7 := HB7.out
      have bg2 := bon H.out.hg hB7
      have bi2 := bon H.out.hi hB7
      have hgs2 := (H.out.gs.on hB7).mono (Nat.le_refl N) (Nat.le_succ M)
      obtain ⟨w3, hr3, hX3, hgs3⟩ := hgs2.put (a := a) (b := b) (i := i) (by omega) (by have := HB.out; omega) hi hN
      have hXX : ∀ X, Fo X → w3.heap[X]? = w.heap[X]? := fun X hF => (hX3 X hF).trans (hB7.block X (H.out.gs.fo X hF).1)
      have HQ := Lib.hid (And.intro (H.out.next (hgs3.same (fun p q => by
        rw [upd_some]
        refine ⟨Or.inl, fun h => h.elim id fun e => ?_⟩
        rw [e.1, e.2, HF.out]; rfl)) hXX) hXX)
      clear hgs2 hX3 hgs3 hXX g0 g1 g2 l3 hB7
      obtain ⟨g0, g1, g2⟩ := box3 bg2
      have i0 := box1 bi2
      clear bg2 bi2
      go_wp2
      refine bodyPost_end (results_none rfl _ _ _) rfl ?_
      exact ⟨rfl, HQ.out⟩
    · have hlt2 : decide ((x.m : Int) < mj) = false := decide_eq_false (by have := HMJ.out; omega)
      have hent : ent es f a b i x.m = f := by unfold ent; rw [HF.out]; exact if_neg hlt
      rw [hent]
      have HENT := Lib.hid hent
      clear hlt hent
      go_enter Try.func46, Try.ntmps46
      go_upto_region 3 with (fail)
      clear hlk2
      refine wp_region_held_drew (S := fun w' => (w'.cell? ⟨gB, 0, none⟩ = some (.slice ea en ec) ∧ w'.cell? ⟨gB, 1, none⟩ = some (.map (some B)) ∧ w'.cell? ⟨gB, 2, none⟩ = some (.slice (some ⟨G, 0, none⟩) n n)) ∧ w'.cell? ⟨lB, 3, none⟩ = some (.int .i64 (x.m : Int))) (by kernel_rfl) HST.out (fun hHeld => ?_)
      change wpAnyH _ _ _ _ _ 11 #[false, false, false, false, false, false, false, false, false, false, false] _ _
      refine wpAnyH_take (i := 0) (oi := _) (v := .bool true) rfl (by kernel_rfl) (by kernel_rfl) (by kernel_rfl) (fun _ _ _ h => h) (Or.inl ⟨by rfl, fun wx hSw => ?_⟩) (by assumption) ?_
      · go_simp
        try (first | omega | (rw [IntKind.wrap_i64]; omega))
      (try simp only [Act.put, List.setIfInBounds_toArray, List.set_cons_zero, List.set_cons_succ, List.getElem_toArray, List.getElem_cons_zero, List.getElem_cons_succ])
      refine wpAnyH_take (i := 1) (oi := _) (v := .bool false) rfl (by kernel_rfl) (by kernel_rfl) (by kernel_rfl) (fun _ _ _ h => h) (Or.inl ⟨by rfl, fun wx hSw => ?_⟩) (by assumption) ?_
      · go_simp
        try (first | omega | (rw [IntKind.wrap_i64]; omega))
      (try simp only [Act.put, List.setIfInBounds_toArray, List.set_cons_zero, List.set_cons_succ, List.getElem_toArray, List.getElem_cons_zero, List.getElem_cons_succ])
      refine wpAnyH_take (i := 2) (oi := _) (v := .bool false) rfl (by kernel_rfl) (by kernel_rfl) (by kernel_rfl) (fun _ _ _ h => h) (Or.inl ⟨by rfl, fun wx hSw => ?_⟩) (by assumption) ?_
      · go_simp
        try (first | omega | (rw [IntKind.wrap_i64]; omega))
      (try simp only [Act.put, List.setIfInBounds_toArray, List.set_cons_zero, List.set_cons_succ, List.getElem_toArray, List.getElem_cons_zero, List.getElem_cons_succ])
      refine wpAnyH_take (i := 3) (oi := _) (v := .pointer (some ⟨lB, 3, none⟩)) rfl (by kernel_rfl) (by kernel_rfl) (by kernel_rfl) (fun _ _ _ h => h) (Or.inl ⟨by rfl, fun wx hSw => ?_⟩) (by assumption) ?_
      · go_simp
        try (first | omega | (rw [IntKind.wrap_i64]; omega))
      (try simp only [Act.put, List.setIfInBounds_toArray, List.set_cons_zero, List.set_cons_succ, List.getElem_toArray, List.getElem_cons_zero, List.getElem_cons_succ])
      refine wpAnyH_take (i := 4) (oi := _) (v := .int .i64 (x.m : Int)) rfl (by kernel_rfl) (by kernel_rfl) (by kernel_rfl) (fun _ _ _ h => h) (Or.inl ⟨by rfl, fun wx hSw => ?_⟩) (by assumption) ?_
      · go_simp
        try (first | omega | (rw [IntKind.wrap_i64]; omega))
      (try simp only [Act.put, List.setIfInBounds_toArray, List.set_cons_zero, List.set_cons_succ, List.getElem_toArray, List.getElem_cons_zero, List.getElem_cons_succ])
      refine wpAnyH_take (i := 5) (oi := _) (v := .agg #[.slice ea en ec, .map (some B), .slice (some ⟨G, 0, none⟩) n n]) rfl (by kernel_rfl) (by kernel_rfl) (by kernel_rfl) (fun _ _ _ h => h) (Or.inl ⟨by rfl, fun wx hSw => ?_⟩) (by assumption) ?_
      · go_simp
        try (first | omega | (rw [IntKind.wrap_i64]; omega))
      (try simp only [Act.put, List.setIfInBounds_toArray, List.set_cons_zero, List.set_cons_succ, List.getElem_toArray, List.getElem_cons_zero, List.getElem_cons_succ])
      refine wpAnyH_take (i := 6) (oi := _) (v := .int .i64 (a : Int)) rfl (by kernel_rfl) (by kernel_rfl) (by kernel_rfl) (fun _ _ _ h => h) (Or.inl ⟨by rfl, fun wx hSw => ?_⟩) (by assumption) ?_
      · go_simp
        try (first | omega | (rw [IntKind.wrap_i64]; omega))
      (try simp only [Act.put, List.setIfInBounds_toArray, List.set_cons_zero, List.set_cons_succ, List.getElem_toArray, List.getElem_cons_zero, List.getElem_cons_succ])
      refine wpAnyH_take (i := 7) (oi := _) (v := .int .i64 (b : Int)) rfl (by kernel_rfl) (by kernel_rfl) (by kernel_rfl) (fun _ _ _ h => h) (Or.inl ⟨by rfl, fun wx hSw => ?_⟩) (by assumption) ?_
      · go_simp
        try (first | omega | (rw [IntKind.wrap_i64]; omega))
      (try simp only [Act.put, List.setIfInBounds_toArray, List.set_cons_zero, List.set_cons_succ, List.getElem_toArray, List.getElem_cons_zero, List.getElem_cons_succ])
      refine wpAnyH_ready (rs := [8]) (by kernel_rfl) (by simp) ?_
      refine AllReadyH.cons (o := _) rfl (fun K hK => ?_) AllReadyH.nil
      go_simp
      refine (HMin.out _ (Below.refl w.heap.size w).drew).mono ?_
      rintro e w7 ⟨rfl, hb7⟩
      have HB7 : Hid (Below w.heap.size w w7) := Lib.hid (btrans (Below.refl w.heap.size w).drew hb7)
      have h7 : (w7.cell? ⟨gB, 0, none⟩ = some (.slice ea en ec) ∧ w7.cell? ⟨gB, 1, none⟩ = some (.map (some B)) ∧ w7.cell? ⟨gB, 2, none⟩ = some (.slice (some ⟨G, 0, none⟩) n n)) ∧ w7.cell? ⟨lB, 3, none⟩ = some (.int .i64 (x.m : Int)) := by
        obtain ⟨q0, q1, q2⟩ := box3 (bon H.out.hg HB7.out)
        obtain ⟨r0, r1, r2, r3, r4⟩ := box5 (bon H.out.hl HB7.out)
        exact ⟨⟨q0, q1, q2⟩, r3⟩
      clear hb7
      go_wp2_with fail
      refine hK.out _ _ (h7) (fun hHeld => ?_)
      clear hK K
      (try simp only [Act.put, List.setIfInBounds_toArray, List.set_cons_zero, List.set_cons_succ, List.getElem_toArray, List.getElem_cons_zero, List.getElem_cons_succ])
      refine wpAnyH_take (i := 9) (oi := _) (v := .bool false) rfl (by kernel_rfl) (by kernel_rfl) (by kernel_rfl) (fun _ _ _ h => h) (Or.inl ⟨by rfl, fun wx hSw => ?_⟩) (by assumption) ?_
      · go_simp
        try (first | omega | (rw [IntKind.wrap_i64]; omega))
      (try simp only [Act.put, List.setIfInBounds_toArray, List.set_cons_zero, List.set_cons_succ, List.getElem_toArray, List.getElem_cons_zero, List.getElem_cons_succ])
      refine wpAnyH_take (i := 10) (oi := _) (v := .bool false) rfl (by kernel_rfl) (by kernel_rfl) (by kernel_rfl) (fun _ _ _ h => h) (Or.inl ⟨by rfl, fun wx hSw => ?_⟩) (by assumption) ?_
      · go_simp
        try (first | omega | (rw [IntKind.wrap_i64]; omega))
      (try simp only [Act.put, List.setIfInBounds_toArray, List.set_cons_zero, List.set_cons_succ, List.getElem_toArray, List.getElem_cons_zero, List.getElem_cons_succ])
      refine wpAnyH_done (by kernel_rfl) ?_ _
      clear hHeld h7
      have hB7 := HB7.out
      have hgs2 := (H.out.gs.on hB7).mono (Nat.le_succ N) (Nat.le_succ M)
      have hXX : ∀ X, Fo X → w7.heap[X]? = w.heap[X]? := fun X hF => hB7.block X (H.out.gs.fo X hF).1
      have HQ := Lib.hid (And.intro (H.out.next hgs2 hXX) hXX)
      clear hgs2 hXX g0 g1 g2 l3 hB7
      go_wp2
      refine bodyPost_end (results_none rfl _ _ _) rfl ?_
      exact ⟨rfl, HQ.out⟩
end
end Go.Proofs.Ytbeoldklpklbfaa
