/-
  Walks: the closure of Includes, climb over digests.
-/
import Derived.Test.YthmpeeipbclhkaaDoorEv
namespace Go.Proofs.YthmpeeipbclhkaaDoor
open Go.RowKit

theorem and1 (n : Nat) (h : n < 9223372036854775807) : bits .and .i64 (n : Int) 1 = ((n % 2 : Nat) : Int) := by
  show IntKind.i64.wrap ((BitVec.ofInt 64 (n : Int) &&& BitVec.ofInt 64 1).toNat : Int) = _
  have e1 : (BitVec.ofInt 64 (n : Int)).toNat = n := by rw [BitVec.toNat_ofInt]; omega
  have e2 : (BitVec.ofInt 64 1).toNat = 1 := by decide
  rw [BitVec.toNat_and, e1, e2, Nat.and_one_is_mod, IntKind.wrap_i64]
  omega

structure IcS (w : World) (x : List Int) (w' : World) : Prop where
  below : Below w.heap.size w w'
  size : w.heap.size + 1 < w'.heap.size
  ra : RowB w' w.heap.size 26 x
  rr : ∃ l0, l0.length = 32 ∧ RowB w' (w.heap.size + 1) 26 l0
theorem IcS.call {w w' w2 : World} {x : List Int} (h : IcS w x w') (hb : Below w'.heap.size w' w2) : IcS w x w2 := by
  have hs := h.size
  obtain ⟨l0, h1, h2⟩ := h.rr
  exact ⟨h.below.trans (hb.mono h.below.size), Nat.lt_of_lt_of_le h.size hb.size, h.ra.kept (hb.block _ (by omega)), l0, h1, h2.kept (hb.block _ (by omega))⟩
theorem IcS.drew {w w' : World} {x : List Int} (h : IcS w x w') : IcS w x w'.drew := h.call (Below.drew (Below.refl _ _))
theorem IcS.put {w w' : World} {x l : List Int} (h : IcS w x w') (hl : l.length = 32) : IcS w x (w'.setRow (w.heap.size + 1) (byteVals l).toArray) := by
  obtain ⟨l0, h1, h2⟩ := h.rr
  exact ⟨bsetRow h.below (by omega) _, by have := h.size; simpa using this, h.ra.kept (setRow_other _ _ _ _ (by omega)), l, hl, RowB.put h2⟩

/-- One step up. -/
def stp (I : Nat) (x s : List Int) : List Int := if I % 2 = 0 then prt x s else prt s x
theorem stp_dg (I : Nat) (x s : List Int) : Dg (stp I x s) := by unfold stp; split <;> exact prt_dg _ _

set_option maxRecDepth 100000 in
set_option maxHeartbeats 2000000 in
theorem closure_any (I : Nat) (p : List (List Int)) (op : Option Addr) (cp Bi Bp t : Nat) (x : List Int) (w : World) (hk : KOk w) (hp : Dl (fun k => k < w.heap.size) w (.slice op p.length cp) p) (hx : Dg x) (ht : t < p.length) (ht64 : t < 64) (hI : I < 65536)
    (hBi : Bi < w.heap.size) (hi0 : w.cell? ⟨Bi, 0, none⟩ = some (.int .i64 (I : Int))) (hBp : Bp < w.heap.size) (hp0 : w.cell? ⟨Bp, 0, none⟩ = some (.slice op p.length cp)) :
    Calls Tryd.prog 46 #[.int .i64 (t : Int), .agg (byteVals x).toArray, .pointer (some ⟨Bi, 0, none⟩), .pointer (some ⟨Bp, 0, none⟩)] w fun e w' => e = .returned (.agg (byteVals (stp (I / 2 ^ t) x (p.getD t []))).toArray) ∧ Below w.heap.size w w' := by
  obtain ⟨hl0, hin, op', cp', he, hcap, hcell⟩ := hp
  simp only [Value.slice.injEq] at he
  obtain ⟨rfl, _, rfl⟩ := he
  obtain ⟨g, off, rfl, hg, hcs⟩ := hcell (by omega)
  obtain ⟨s, hs⟩ : ∃ s, p[t]? = some s := ⟨_, List.getElem?_eq_getElem ht⟩
  have hr := hcs t s hs
  have hgd : p.getD t [] = s := by rw [List.getD_eq_getElem?_getD, hs]; rfl
  have hsd := hin s (List.mem_of_getElem? hs)
  have hsl := hsd.1
  have hxl := hx.1
  have hX : IcS w x ((w.alloc (.cells (byteVals x).toArray 26)).alloc (.cells #[.int .u8 0, .int .u8 0, .int .u8 0, .int .u8 0, .int .u8 0, .int .u8 0, .int .u8 0, .int .u8 0, .int .u8 0, .int .u8 0, .int .u8 0, .int .u8 0, .int .u8 0, .int .u8 0, .int .u8 0, .int .u8 0, .int .u8 0, .int .u8 0, .int .u8 0, .int .u8 0, .int .u8 0, .int .u8 0, .int .u8 0, .int .u8 0, .int .u8 0, .int .u8 0, .int .u8 0, .int .u8 0, .int .u8 0, .int .u8 0, .int .u8 0, .int .u8 0] 26)) := by
    refine ⟨(ball (Below.refl _ _) _).alloc (by simp) _, by simp, (RowB.new w 26 x).kept (heap_alloc_old _ _ (by simp)), List.replicate 32 0, by simp, RowB.new' _ (by simp) rfl⟩
  rw [hgd]
  obtain ⟨b, hb⟩ : ∃ b, b = I / 2 ^ t := ⟨_, rfl⟩
  have hb2 : (I : Int) / 2 ^ t = (b : Int) := by rw [hb]; simp
  have hmin : min t 64 = t := by omega
  have hb3 : b < 65536 := by rw [hb]; exact Nat.lt_of_le_of_lt (Nat.div_le_self _ _) hI
  have hb4 := and1 b (by omega)
  rw [← hb]
  have HK := Lib.hid hk; have Hr := Lib.hid hr; have HX := Lib.hid hX; have HS := Lib.hid hsd; have HXD := Lib.hid hx
  have c1 := (hX.below.cell (p := ⟨Bi, 0, none⟩) hBi).trans hi0
  clear hk hr hcell hcs hin hgd hs hb hsd hx hX hl0 hi0
  have hlen : (t : Int) < (p.length : Int) := by omega
  by_cases hbit : b % 2 = 0
  · have hst : stp b x s = prt x s := by unfold stp; rw [if_pos hbit]
    rw [hst]
    clear hst
    have hb5 : ((b % 2 : Nat) : Int) = 0 := by omega
    rw [hb5] at hb4
    clear hb5 hbit
    have hpa : ∀ w', IcS w x w' → Calls Tryd.prog 22 #[.agg (byteVals x).toArray, .agg (byteVals s).toArray] w' fun e w'' => e = .returned (.agg (byteVals (prt x s)).toArray) ∧ Below w'.heap.size w' w'' :=
      fun w' h => parent_any x s w' (HK.out.below h.below) HXD.out HS.out
    have HP := Lib.hid hpa
    clear hpa
    have hDl : (prt x s).length = 32 := (prt_dg _ _).1
    obtain ⟨D, hD⟩ : ∃ D, D = prt x s := ⟨_, rfl⟩
    rw [← hD] at HP hDl ⊢
    clear hD
    go_enter Tryd.func46, Tryd.ntmps46
    go_wp2_with fail
    refine wp_region_held_drew (S := fun w' => IcS w x w') (by kernel_rfl) HX.out.drew (fun hHeld => ?_)
    refine wpAnyH_take (i := 0) (oi := _) (v := .agg (byteVals x).toArray) rfl (by kernel_rfl) (by kernel_rfl) (by kernel_rfl) (fun _ _ _ h => h) (yieldsIf_load_mid (by rfl) 26 _ rfl w.heap.size 0 rfl (byteVals x) _ (fun wx hSw => hSw.ra.range) Tryd.underlying26 rfl (size26 _ hxl)) (by assumption) ?_
    (try simp only [Act.put, List.setIfInBounds_toArray, List.set_cons_zero, List.set_cons_succ])
    refine wpAnyH_take (i := 1) (oi := _) (v := .slice (some ⟨g, off, none⟩) p.length cp) rfl (by kernel_rfl) (by kernel_rfl) (by kernel_rfl) (fun _ _ _ h => h) (Or.inl ⟨by rfl, fun wx hSw => ?_⟩) (by assumption) ?_
    · have hcp := (hSw.below.cell (p := ⟨Bp, 0, none⟩) hBp).trans hp0; go_simp
      try (rw [IntKind.wrap_i64]; omega)
    (try simp only [Act.put, List.setIfInBounds_toArray, List.set_cons_zero, List.set_cons_succ])
    refine wpAnyH_take (i := 2) (oi := _) (v := .int .i64 (t : Int)) rfl (by kernel_rfl) (by kernel_rfl) (by kernel_rfl) (fun _ _ _ h => h) (Or.inl ⟨by rfl, fun wx hSw => ?_⟩) (by assumption) ?_
    · go_simp
      try (rw [IntKind.wrap_i64]; omega)
    (try simp only [Act.put, List.setIfInBounds_toArray, List.set_cons_zero, List.set_cons_succ])
    refine wpAnyH_take (i := 3) (oi := _) (v := .pointer (some ⟨g, off + t * 32, none⟩)) rfl (by kernel_rfl) (by kernel_rfl) (by kernel_rfl) (fun _ _ _ h => h) (Or.inl ⟨by rfl, fun wx hSw => ?_⟩) (by assumption) ?_
    · go_simp
      try (rw [IntKind.wrap_i64]; omega)
    (try simp only [Act.put, List.setIfInBounds_toArray, List.set_cons_zero, List.set_cons_succ])
    refine wpAnyH_take (i := 4) (oi := _) (v := .agg (byteVals s).toArray) rfl (by kernel_rfl) (by kernel_rfl) (by kernel_rfl) (fun _ _ _ h => h) (yieldsIf_load_mid (by rfl) 26 _ rfl g (off + t * 32) rfl (byteVals s) _ (fun wx hSw => rangeAt_kept Hr.out (hSw.below.block _ hg)) Tryd.underlying26 rfl (size26 _ hsl)) (by assumption) ?_
    (try simp only [Act.put, List.setIfInBounds_toArray, List.set_cons_zero, List.set_cons_succ])
    refine wpAnyH_ready (rs := [5]) (by kernel_rfl) (by simp) ?_
    refine AllReadyH.cons (o := _) rfl (fun K hK => ?_) AllReadyH.nil
    go_simp
    refine (HP.out _ hHeld).mono ?_; rintro e w7 ⟨rfl, hb7⟩; have h7 := hHeld.call hb7; clear hb7 hHeld
    go_wp2_with fail
    refine hK.out _ _ (h7) (fun hHeld => ?_)
    clear hK K
    (try simp only [Act.put, List.setIfInBounds_toArray, List.set_cons_zero, List.set_cons_succ])
    obtain ⟨l0, hl0, hrl⟩ := h7.rr
    refine wpAnyH_ready (rs := [6]) (by kernel_rfl) (by simp) ?_
    refine AllReadyH.cons (o := _) rfl (fun K hK => ?_) AllReadyH.nil
    rw [if_pos (show Region.wanted _ _ = true by rfl)]
    refine wp_store_row 26 (.tmp 6) (.tmp 23) rfl (w.heap.size + 1) (byteVals D).toArray rfl rfl 26 _ hrl (size25 _ hDl) (by rw [bvsz _ hDl, bvsz _ hl0]) (all_byteVals _) ?_
    refine hK.out _ _ (h7.put (l := D) hDl) (fun _ => ?_)
    clear hK K
    (try simp only [Act.put, List.setIfInBounds_toArray, List.set_cons_zero, List.set_cons_succ])
    refine wpAnyH_done (by kernel_rfl) ?_ _
    go_wp2
    refine bodyPost_ret (results_cell_row rfl _ _ (w.heap.size + 1) 26 _ (0, 0) _ rfl (RowB.put hrl) Tryd.underlying26 rfl (size25 _ hDl)) rfl ?_
    exact ⟨rfl, (h7.put hDl).below⟩
  · have hst : stp b x s = prt s x := by unfold stp; rw [if_neg hbit]
    rw [hst]
    clear hst
    have hb5 : ((b % 2 : Nat) : Int) = 1 := by omega
    rw [hb5] at hb4
    clear hb5 hbit
    have hpa : ∀ w', IcS w x w' → Calls Tryd.prog 22 #[.agg (byteVals s).toArray, .agg (byteVals x).toArray] w' fun e w'' => e = .returned (.agg (byteVals (prt s x)).toArray) ∧ Below w'.heap.size w' w'' :=
      fun w' h => parent_any s x w' (HK.out.below h.below) HS.out HXD.out
    have HP := Lib.hid hpa
    clear hpa
    have hDl : (prt s x).length = 32 := (prt_dg _ _).1
    obtain ⟨D, hD⟩ : ∃ D, D = prt s x := ⟨_, rfl⟩
    rw [← hD] at HP hDl ⊢
    clear hD
    go_enter Tryd.func46, Tryd.ntmps46
    go_wp2_with fail
    refine wp_region_held_drew (S := fun w' => IcS w x w') (by kernel_rfl) HX.out.drew (fun hHeld => ?_)
    refine wpAnyH_take (i := 0) (oi := _) (v := .slice (some ⟨g, off, none⟩) p.length cp) rfl (by kernel_rfl) (by kernel_rfl) (by kernel_rfl) (fun _ _ _ h => h) (Or.inl ⟨by rfl, fun wx hSw => ?_⟩) (by assumption) ?_
    · have hcp := (hSw.below.cell (p := ⟨Bp, 0, none⟩) hBp).trans hp0; go_simp
      try (rw [IntKind.wrap_i64]; omega)
    (try simp only [Act.put, List.setIfInBounds_toArray, List.set_cons_zero, List.set_cons_succ])
    refine wpAnyH_take (i := 1) (oi := _) (v := .int .i64 (t : Int)) rfl (by kernel_rfl) (by kernel_rfl) (by kernel_rfl) (fun _ _ _ h => h) (Or.inl ⟨by rfl, fun wx hSw => ?_⟩) (by assumption) ?_
    · go_simp
      try (rw [IntKind.wrap_i64]; omega)
    (try simp only [Act.put, List.setIfInBounds_toArray, List.set_cons_zero, List.set_cons_succ])
    refine wpAnyH_take (i := 2) (oi := _) (v := .pointer (some ⟨g, off + t * 32, none⟩)) rfl (by kernel_rfl) (by kernel_rfl) (by kernel_rfl) (fun _ _ _ h => h) (Or.inl ⟨by rfl, fun wx hSw => ?_⟩) (by assumption) ?_
    · go_simp
      try (rw [IntKind.wrap_i64]; omega)
    (try simp only [Act.put, List.setIfInBounds_toArray, List.set_cons_zero, List.set_cons_succ])
    refine wpAnyH_take (i := 3) (oi := _) (v := .agg (byteVals s).toArray) rfl (by kernel_rfl) (by kernel_rfl) (by kernel_rfl) (fun _ _ _ h => h) (yieldsIf_load_mid (by rfl) 26 _ rfl g (off + t * 32) rfl (byteVals s) _ (fun wx hSw => rangeAt_kept Hr.out (hSw.below.block _ hg)) Tryd.underlying26 rfl (size26 _ hsl)) (by assumption) ?_
    (try simp only [Act.put, List.setIfInBounds_toArray, List.set_cons_zero, List.set_cons_succ])
    refine wpAnyH_take (i := 4) (oi := _) (v := .agg (byteVals x).toArray) rfl (by kernel_rfl) (by kernel_rfl) (by kernel_rfl) (fun _ _ _ h => h) (yieldsIf_load_mid (by rfl) 26 _ rfl w.heap.size 0 rfl (byteVals x) _ (fun wx hSw => hSw.ra.range) Tryd.underlying26 rfl (size26 _ hxl)) (by assumption) ?_
    (try simp only [Act.put, List.setIfInBounds_toArray, List.set_cons_zero, List.set_cons_succ])
    refine wpAnyH_ready (rs := [5]) (by kernel_rfl) (by simp) ?_
    refine AllReadyH.cons (o := _) rfl (fun K hK => ?_) AllReadyH.nil
    go_simp
    refine (HP.out _ hHeld).mono ?_; rintro e w7 ⟨rfl, hb7⟩; have h7 := hHeld.call hb7; clear hb7 hHeld
    go_wp2_with fail
    refine hK.out _ _ (h7) (fun hHeld => ?_)
    clear hK K
    (try simp only [Act.put, List.setIfInBounds_toArray, List.set_cons_zero, List.set_cons_succ])
    obtain ⟨l0, hl0, hrl⟩ := h7.rr
    refine wpAnyH_ready (rs := [6]) (by kernel_rfl) (by simp) ?_
    refine AllReadyH.cons (o := _) rfl (fun K hK => ?_) AllReadyH.nil
    rw [if_pos (show Region.wanted _ _ = true by rfl)]
    refine wp_store_row 26 (.tmp 6) (.tmp 17) rfl (w.heap.size + 1) (byteVals D).toArray rfl rfl 26 _ hrl (size25 _ hDl) (by rw [bvsz _ hDl, bvsz _ hl0]) (all_byteVals _) ?_
    refine hK.out _ _ (h7.put (l := D) hDl) (fun _ => ?_)
    clear hK K
    (try simp only [Act.put, List.setIfInBounds_toArray, List.set_cons_zero, List.set_cons_succ])
    refine wpAnyH_done (by kernel_rfl) ?_ _
    go_wp2
    refine bodyPost_ret (results_cell_row rfl _ _ (w.heap.size + 1) 26 _ (0, 0) _ rfl (RowB.put hrl) Tryd.underlying26 rfl (size25 _ hDl)) rfl ?_
    exact ⟨rfl, (h7.put hDl).below⟩
/-- Under way: the digest at level k. -/
structure CdS (w : World) (I : Nat) (p : List (List Int)) (R : List Int) (k : Nat) (w' : World) : Prop where
  below : Below w.heap.size w w'
  size : w.heap.size + 1 < w'.heap.size
  row : ∃ x, Dg x ∧ climb prt (I / 2 ^ k) x (p.drop k) = R ∧ RowB w' w.heap.size 26 x
  res : ∃ l0, l0.length = 32 ∧ RowB w' (w.heap.size + 1) 26 l0

theorem climb_step (I k : Nat) (x s : List Int) (p : List (List Int)) (hs : p[k]? = some s) : climb prt (I / 2 ^ k) x (p.drop k) = climb prt (I / 2 ^ (k + 1)) (stp (I / 2 ^ k) x s) (p.drop (k + 1)) := by
  have hk := (List.getElem?_eq_some_iff.1 hs).1
  rw [List.drop_eq_getElem_cons hk]
  have : p[k] = s := by rw [List.getElem?_eq_getElem hk] at hs; exact Option.some.inj hs
  rw [this, Nat.pow_succ, ← Nat.div_div_eq_div_mul]
  rfl

set_option maxRecDepth 100000 in
set_option maxHeartbeats 1000000 in
theorem climbD_any (I : Nat) (p : List (List Int)) (op : Option Addr) (cp Bi Bp n : Nat) (x : List Int) (w : World) (hk : KOk w) (hp : Dl (fun k => k < w.heap.size) w (.slice op p.length cp) p) (hx : Dg x) (hn : p.length = n) (hn16 : n ≤ 16) (hI : I < 65536)
    (hBi : Bi < w.heap.size) (hi0 : w.cell? ⟨Bi, 0, none⟩ = some (.int .i64 (I : Int))) (hBp : Bp < w.heap.size) (hp0 : w.cell? ⟨Bp, 0, none⟩ = some (.slice op p.length cp)) :
    Calls Tryd.prog 45 #[.agg (byteVals x).toArray, .int .i64 (n : Int), .func (.func 46) #[] #[.pointer (some ⟨Bi, 0, none⟩), .pointer (some ⟨Bp, 0, none⟩)]] w fun e w' => e = .returned (.agg (byteVals (climb prt I x p)).toArray) ∧ Below w.heap.size w w' := by
  obtain ⟨R, hR⟩ : ∃ R, R = climb prt I x p := ⟨_, rfl⟩
  rw [← hR]
  have h0 : CdS w I p R 0 ((w.alloc (.cells (byteVals x).toArray 26)).alloc (.cells #[.int .u8 0, .int .u8 0, .int .u8 0, .int .u8 0, .int .u8 0, .int .u8 0, .int .u8 0, .int .u8 0, .int .u8 0, .int .u8 0, .int .u8 0, .int .u8 0, .int .u8 0, .int .u8 0, .int .u8 0, .int .u8 0, .int .u8 0, .int .u8 0, .int .u8 0, .int .u8 0, .int .u8 0, .int .u8 0, .int .u8 0, .int .u8 0, .int .u8 0, .int .u8 0, .int .u8 0, .int .u8 0, .int .u8 0, .int .u8 0, .int .u8 0, .int .u8 0] 26)) :=
    ⟨(ball (Below.refl _ _) _).alloc (by simp) _, by simp, ⟨x, hx, by rw [hR]; simp, (RowB.new w 26 x).kept (heap_alloc_old _ _ (by simp))⟩, ⟨List.replicate 32 0, by simp, RowB.new' _ (by simp) rfl⟩⟩
  have HK := Lib.hid hk; have H0 := Lib.hid h0; have HP := Lib.hid hp; have HI0 := Lib.hid hi0; have HP0 := Lib.hid hp0
  clear hk hp h0 hi0 hp0 hR
  go_enter Tryd.func45, Tryd.ntmps45
  go_wp2
  go_loopw [7, 9] (fun _ i wr => ∃ k : Nat, k ≤ n ∧ i = .int .i64 k ∧ Hid (CdS w I p R k wr)) (fun _ i _ => n - (intOf i).toNat)
  case atStart => exact ⟨0, by omega, rfl, H0⟩
  case round =>
    clear H0
    obtain ⟨k, hk, rfl, H⟩ := hrel
    by_cases hlt : k < n
    · obtain ⟨xk, hxd, hcl, hrow⟩ := H.out.row
      obtain ⟨s, hs⟩ : ∃ s, p[k]? = some s := ⟨_, List.getElem?_eq_getElem (by omega)⟩
      have hgd : p.getD k [] = s := by rw [List.getD_eq_getElem?_getD, hs]; rfl
      have hup := closure_any I p op cp Bi Bp k xk wr (HK.out.below H.out.below) (HP.out.on H.out.below) hxd (by omega) (by omega) hI (Nat.lt_of_lt_of_le hBi H.out.below.size) ((H.out.below.cell (p := ⟨Bi, 0, none⟩) hBi).trans HI0.out) (Nat.lt_of_lt_of_le hBp H.out.below.size) ((H.out.below.cell (p := ⟨Bp, 0, none⟩) hBp).trans HP0.out)
      rw [climb_step I k xk s p hs] at hcl
      rw [hgd] at hup
      have hxl := hxd.1
      have hDd : Dg (stp (I / 2 ^ k) xk s) := stp_dg _ _ _
      obtain ⟨D, hD⟩ : ∃ D, D = stp (I / 2 ^ k) xk s := ⟨_, rfl⟩
      rw [← hD] at hcl hup hDd
      have HUP := Lib.hid hup; have HR := Lib.hid hrow; have HCL := Lib.hid hcl
      clear hup hrow hcl hD hs hgd hxd
      go_wp2_with (first | (refine wpList_load_row rfl 26 (.tmp 3) rfl w.heap.size rfl 26 _ (0, 0) _ HR.out Tryd.underlying26 rfl (size25 _ hxl) ?_))
      refine HUP.out.mono ?_
      rintro e w5 ⟨rfl, hb5⟩
      have hs5 := H.out.size
      have hr5 : RowB w5 w.heap.size 26 xk := HR.out.kept (hb5.block _ (by omega))
      obtain ⟨l0, hl0, hres⟩ := H.out.res
      have hput : CdS w I p R (k + 1) (w5.setRow w.heap.size (byteVals D).toArray) := by
        refine ⟨bsetRow (H.out.below.trans (hb5.mono H.out.below.size)) (Nat.le_refl _) _, ?_, ⟨D, hDd, HCL.out, RowB.put hr5⟩, ⟨l0, hl0, ?_⟩⟩
        · have := hb5.size
          simp
          omega
        · exact (hres.kept (hb5.block _ (by omega))).kept (setRow_other _ _ _ _ (by omega))
      have HPT := Lib.hid hput
      have hDl := hDd.1
      clear hput hb5 hres HUP HR HCL
      go_wp2_with (first | (refine wpList_store_row rfl 26 (.tmp 3) (.tmp 15) rfl w.heap.size _ rfl rfl 26 _ hr5 (size25 _ hDl) (by rw [bvsz _ hDl, bvsz _ hxl]) (all_byteVals _) ?_))
      go_roundw
      case rel => exact ⟨k + 1, by omega, by go_num, HPT⟩
      case measure => simp [intOf]; omega
    · have hk2 : k = n := by omega
      subst hk2
      obtain ⟨xk, hxd, hcl, hrow⟩ := H.out.row
      obtain ⟨l0, hl0, hres⟩ := H.out.res
      have hxl := hxd.1
      rw [List.drop_eq_nil_of_le (by omega)] at hcl
      have hcl2 : xk = R := hcl
      subst hcl2
      clear hcl hlt
      go_wp2_with (first | (refine wpList_load_row rfl 26 (.tmp 3) rfl w.heap.size rfl 26 _ (0, 0) _ hrow Tryd.underlying26 rfl (size25 _ hxl) ?_) | (refine wpList_store_row rfl 26 (.tmp 6) (.tmp 17) rfl (w.heap.size + 1) _ rfl rfl 26 _ hres (size25 _ hxl) (by rw [bvsz _ hxl, bvsz _ hl0]) (all_byteVals _) ?_))
      refine bodyPost_ret (results_cell_row rfl _ _ (w.heap.size + 1) 26 _ (0, 0) _ rfl (RowB.put hres) Tryd.underlying26 rfl (size25 _ hxl)) rfl ?_
      exact ⟨rfl, bsetRow H.out.below (by omega) _⟩
end Go.Proofs.YthmpeeipbclhkaaDoor
