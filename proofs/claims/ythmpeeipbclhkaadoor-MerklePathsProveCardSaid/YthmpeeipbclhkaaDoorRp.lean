/-
  The statement of MerklePathsProve: walk and row.
-/
import Derived.Test.YthmpeeipbclhkaaDoorSn
import Derived.Test.YthmpeeipbclhkaaDoorSe
import Derived.Test.YthmpeeipbclhkaaDoorSm
import Derived.Test.YthmpeeipbclhkaaDoorIn
import Derived.Test.YthmpeeipbclhkaaDoorLw
import Derived.Test.YthmpeeipbclhkaaDoorOs
import Derived.ChangeMaps5
namespace Go.Proofs.YthmpeeipbclhkaaDoor.merklePathsProve
set_option linter.unusedSimpArgs false
open Go.ChangeShapes Go.WideShapes Go.ChangeAt Go.RowKit
set_option linter.unusedVariables false

theorem inc_path (l : List (List Int)) (i : Nat) (hl : l.length ≤ 65536) (hi : i < 2 ^ dpt l.length) : inc (l.length : Int) (rootD l) (i : Int) (l.getD i pdd) (pathD l i) = true := by
  unfold inc
  have e1 : decide ((0 : Int) ≤ (l.length : Int) ∧ (l.length : Int) ≤ 65536) = true := decide_eq_true (by omega)
  have e2 : decide ((0 : Int) ≤ (i : Int) ∧ (i : Int) < ((2 ^ dpt (l.length : Int).toNat : Nat) : Int)) = true := decide_eq_true (by rw [Int.toNat_natCast]; omega)
  have e3 : decide ((pathD l i).length = dpt (l.length : Int).toNat) = true := decide_eq_true (by rw [Int.toNat_natCast, pathD_length])
  have e4 : decide (climb prt (i : Int).toNat (l.getD i pdd) (pathD l i) = rootD l) = true := by
    refine decide_eq_true ?_
    rw [Int.toNat_natCast]
    have h := climb_sibs prt pdd l (dpt l.length) 0 i
    rw [Nat.zero_add, Nat.div_eq_of_lt hi] at h
    exact h
  rw [e1, e2, e3, e4]; rfl

set_option maxRecDepth 100000 in
set_option maxHeartbeats 4000000 in
theorem walk (l : List (List Int)) (oa : Option Addr) (oc : Nat) (i : Int) (w : World) (hk : KOk w) (hv : Dl (fun k => k < w.heap.size) w (.slice oa l.length oc) l) (hi : -9223372036854775808 ≤ i ∧ i ≤ 9223372036854775807) :
    Calls Tryd.prog 5 #[.slice oa l.length oc, .int .i64 i] w fun e w' => e = .returned (.bool true) ∧ Below w.heap.size w w' := by
  have HK := Lib.hid hk
  have HV := Lib.hid hv
  have HS := Lib.hid (St4.nil w)
  have hf : ∀ w', Calls Tryd.prog 12 #[.slice oa l.length oc] w' fun e w'' => e = .returned (.bool (decide (l.length ≤ 64))) ∧ w' = w'' := fun w' => (few_any l oa oc w').mono (fun e w2 h => ⟨h.1, h.2.symm⟩)
  have hll := hv.1
  clear hk hv
  by_cases h64 : l.length ≤ 64
  · rw [decide_eq_true h64] at hf
    have HF := Lib.hid hf
    have hl65 : l.length ≤ 65536 := by omega
    have hle : ∀ w', Calls Tryd.prog 30 #[.slice oa l.length oc] w' fun e w'' => e = .returned (.int .i64 ((2 ^ dpt l.length : Nat) : Int)) ∧ w' = w'' := fun w' => (lawLeaves_any l oa oc w' h64).mono (fun e w2 h => ⟨h.1, h.2.symm⟩)
    have hrl := (rootD_dg l HV.out.2.1).1
    obtain ⟨Q, hQ⟩ : ∃ Q, Q = 2 ^ dpt l.length := ⟨_, rfl⟩
    rw [← hQ] at hle
    have HL := Lib.hid hle
    have HQ := Lib.hid hQ
    clear hf hle hQ
    by_cases h0 : i < 0
    · have hb : ∀ w', Calls Tryd.prog 17 #[.slice oa l.length oc, .int .i64 i] w' fun e w'' => e = .returned (.tuple #[.slice none 0 0, .int .i64 1]) ∧ Below w'.heap.size w' w'' := fun w' => pathBad_any l oa oc i w' hl65 (Or.inl h0)
      have HB := Lib.hid hb
      clear hb
      go_enter Tryd.func5, Tryd.ntmps5
      go_wp2_with fail
      refine (sane_true _ HK.out).mono ?_
      rintro e w1 ⟨rfl, hb⟩
      replace HS := Lib.hid (HS.out.call hb)
      clear hb
      go_wp2_with fail
      refine (HF.out _).mono ?_
      rintro e w2 ⟨rfl, rfl⟩
      go_wp2_with fail
      refine (root_any l oa oc w1 (HK.out.below HS.out.below) (HV.out.on HS.out.below) hl65).mono ?_
      rintro e w3 ⟨rfl, hb⟩
      replace HS := Lib.hid (HS.out.call hb)
      clear hb
      go_wp2_with (refine wpList_newC HS.out rfl (.tmp 5) (.tmp 17) rfl rfl (l.length : Int) (rootD l) rfl hrl rfl ?_; intro wS hS; replace HS := Lib.hid hS; clear hS)
      refine (HB.out _).mono ?_
      rintro e w4 ⟨rfl, hb⟩
      replace HS := Lib.hid (HS.out.call hb)
      clear hb
      have hc : w4.cell? ⟨w3.heap.size, 0, none⟩ = some (.int .i64 (l.length : Int)) := HS.out.range (by (with_reducible (repeat (first | exact List.mem_cons_self | refine List.mem_cons_of_mem _ ?_)))) 0 _ rfl
      go_wp2
      go_ret
      exact ⟨rfl, HS.out.below⟩
    · by_cases h1 : (Q : Int) ≤ i
      · have hb : ∀ w', Calls Tryd.prog 17 #[.slice oa l.length oc, .int .i64 i] w' fun e w'' => e = .returned (.tuple #[.slice none 0 0, .int .i64 1]) ∧ Below w'.heap.size w' w'' := fun w' => pathBad_any l oa oc i w' hl65 (Or.inr (by rw [← HQ.out]; exact h1))
        have HB := Lib.hid hb
        clear hb
        go_enter Tryd.func5, Tryd.ntmps5
        go_wp2_with fail
        refine (sane_true _ HK.out).mono ?_
        rintro e w1 ⟨rfl, hb⟩
        replace HS := Lib.hid (HS.out.call hb)
        clear hb
        go_wp2_with fail
        refine (HF.out _).mono ?_
        rintro e w2 ⟨rfl, rfl⟩
        go_wp2_with fail
        refine (root_any l oa oc w1 (HK.out.below HS.out.below) (HV.out.on HS.out.below) hl65).mono ?_
        rintro e w3 ⟨rfl, hb⟩
        replace HS := Lib.hid (HS.out.call hb)
        clear hb
        go_wp2_with (refine wpList_newC HS.out rfl (.tmp 5) (.tmp 17) rfl rfl (l.length : Int) (rootD l) rfl hrl rfl ?_; intro wS hS; replace HS := Lib.hid hS; clear hS)
        refine (HB.out _).mono ?_
        rintro e w4 ⟨rfl, hb⟩
        replace HS := Lib.hid (HS.out.call hb)
        clear hb
        have hc : w4.cell? ⟨w3.heap.size, 0, none⟩ = some (.int .i64 (l.length : Int)) := HS.out.range (by (with_reducible (repeat (first | exact List.mem_cons_self | refine List.mem_cons_of_mem _ ?_)))) 0 _ rfl
        go_wp2_with fail
        refine (HL.out _).mono ?_
        rintro e w5 ⟨rfl, rfl⟩
        go_wp2
        go_ret
        exact ⟨rfl, HS.out.below⟩
      · obtain ⟨I, rfl⟩ : ∃ I : Nat, i = (I : Int) := ⟨i.toNat, by omega⟩
        have hIQ : I < 2 ^ dpt l.length := by rw [← HQ.out]; omega
        have hIb : I < 4611686018427387904 := Nat.lt_of_lt_of_le hIQ (Nat.le_trans (Nat.pow_le_pow_right (by decide) (dpt_le6 h64)) (by decide))
        have HI := Lib.hid hIQ
        have hpl := pathD_length l I
        have hpd := pathD_dg l I HV.out.2.1
        have hin := inc_path l I hl65 hIQ
        have hdp : ∀ w', Calls Tryd.prog 24 #[.int .i64 (l.length : Int)] w' fun e w'' => e = .returned (.int .i64 ((pathD l I).length : Int)) ∧ w' = w'' := by
          intro w'
          have h := depth_any (l.length : Int) w'
          rw [dep_nat _ hl65, ← hpl] at h
          exact h.mono (fun e w2 h => ⟨h.1, h.2.symm⟩)
        have hpa : ∀ w', KOk w' → Dl (fun k => k < w'.heap.size) w' (.slice oa l.length oc) l → Calls Tryd.prog 17 #[.slice oa l.length oc, .int .i64 (I : Int)] w' fun e w'' => ∃ a c, e = .returned (.tuple #[.slice a (pathD l I).length c, .int .i64 0]) ∧ Below w'.heap.size w' w'' ∧ Dl (fun k => w'.heap.size ≤ k ∧ k < w''.heap.size) w'' (.slice a (pathD l I).length c) (pathD l I) := by
          intro w' h1 h2
          refine (pathOk_any l oa oc I w' h1 h2 hl65 hIQ).mono ?_
          rintro e w'' ⟨v, he, hb, hd⟩
          obtain ⟨a, c, rfl⟩ := hd.shape
          exact ⟨a, c, he, hb, hd⟩
        obtain ⟨p, hp⟩ : ∃ p, p = pathD l I := ⟨_, rfl⟩
        obtain ⟨R, hR⟩ : ∃ R, R = rootD l := ⟨_, rfl⟩
        obtain ⟨E, hE⟩ : ∃ E, E = l.getD I pdd := ⟨_, rfl⟩
        have hRD : Dg R := by rw [hR]; exact rootD_dg l HV.out.2.1
        have hED : Dg E := by rw [hE]; exact getD_dg HV.out.2.1 pdd_dg I
        have hel : ∀ w', KOk w' → Dl (fun k => k < w'.heap.size) w' (.slice oa l.length oc) l → Calls Tryd.prog 31 #[.slice oa l.length oc, .int .i64 (I : Int)] w' fun e w'' => e = .returned (.agg (byteVals E).toArray) ∧ Below w'.heap.size w' w'' := by
          intro w' h1 h2
          rw [hE]
          exact element_any l _ I w' h1 h2 hIb
        rw [← hp] at hdp hpa hin
        rw [← hR] at hin hrl
        rw [← hE] at hin
        have hinc : ∀ w' a c, KOk w' → Dl (fun k => k < w'.heap.size) w' (.slice a p.length c) p → Calls Tryd.prog 28 #[.agg (.int .i64 (l.length : Int) :: byteVals R).toArray, .int .i64 (I : Int), .agg (byteVals E).toArray, .slice a p.length c] w' fun e w'' => e = .returned (.bool true) ∧ Below w'.heap.size w' w'' := by
          intro w' a c h1 h2
          have h := inc_any (l.length : Int) R (I : Int) E p a c w' h1 hRD hED h2
          rw [hin] at h
          exact h
        have hro : ∀ w', KOk w' → Dl (fun k => k < w'.heap.size) w' (.slice oa l.length oc) l → Calls Tryd.prog 15 #[.slice oa l.length oc] w' fun e w'' => e = .returned (.tuple #[.agg (.int .i64 (l.length : Int) :: byteVals R).toArray, .int .i64 0]) ∧ Below w'.heap.size w' w'' := by
          intro w' h1 h2
          rw [hR]
          exact root_any l oa oc w' h1 h2 hl65
        have HDP := Lib.hid hdp; have HPA := Lib.hid hpa; have HEL := Lib.hid hel; have HINC := Lib.hid hinc; have HRO := Lib.hid hro
        have q1 : decide ((I : Int) < 0) = false := decide_eq_false (by omega)
        have q2 : decide ((Q : Int) ≤ (I : Int)) = false := decide_eq_false h1
        clear hdp hpa hel hinc hro hpl hpd hin hp hR hE hRD hED hIQ
        go_enter Tryd.func5, Tryd.ntmps5
        go_wp2_with fail
        refine (sane_true _ HK.out).mono ?_
        rintro e w1 ⟨rfl, hb⟩
        replace HS := Lib.hid (HS.out.call hb)
        clear hb
        go_wp2_with fail
        refine (HF.out _).mono ?_
        rintro e w2 ⟨rfl, rfl⟩
        go_wp2_with fail
        refine (HRO.out w1 (HK.out.below HS.out.below) (HV.out.on HS.out.below)).mono ?_
        rintro e w3 ⟨rfl, hb⟩
        replace HS := Lib.hid (HS.out.call hb)
        clear hb
        go_wp2_with (refine wpList_newC HS.out rfl (.tmp 5) (.tmp 17) rfl rfl (l.length : Int) R rfl hrl rfl ?_; intro wS hS; replace HS := Lib.hid hS; clear hS)
        refine (HPA.out _ (HK.out.below HS.out.below) (HV.out.on HS.out.below)).mono ?_
        rintro e w4 ⟨pa, pc, rfl, hb, hd⟩
        replace HS := Lib.hid (HS.out.callAlso hb hd)
        clear hb hd
        have hc : w4.cell? ⟨w3.heap.size, 0, none⟩ = some (.int .i64 (l.length : Int)) := HS.out.range (by (with_reducible (repeat (first | exact List.mem_cons_self | refine List.mem_cons_of_mem _ ?_)))) 0 _ rfl
        go_wp2_with fail
        refine (HL.out _).mono ?_
        rintro e w5 ⟨rfl, rfl⟩
        go_upto_region 11 with fail
        clear hc
        generalize w3.heap.size = B at *
        refine wp_region_held_drew (S := fun w' => St4 w [(B, 30, Value.int .i64 (l.length : Int) :: byteVals R)] [(.slice pa p.length pc, p)] w') (by kernel_rfl) HS.out.drew (fun hHeld => ?_)
        change wpAnyH _ _ _ _ _ 20 #[false, false, false, false, false, false, false, false, false, false, false, false, false, false, false, false, false, false, false, false] _ _
        refine wpAnyH_take (i := 0) (oi := _) (v := .int .i64 0) rfl (by kernel_rfl) (by kernel_rfl) (by kernel_rfl) (fun _ _ _ h => h) (Or.inl ⟨by rfl, fun wx hSw => ?_⟩) (by assumption) ?_
        · go_simp
          try (rw [IntKind.wrap_i64]; omega)
        (try simp only [Act.put, List.setIfInBounds_toArray, List.set_cons_zero, List.set_cons_succ, List.getElem_toArray, List.getElem_cons_zero, List.getElem_cons_succ])
        refine wpAnyH_take (i := 1) (oi := _) (v := .bool true) rfl (by kernel_rfl) (by kernel_rfl) (by kernel_rfl) (fun _ _ _ h => h) (Or.inl ⟨by rfl, fun wx hSw => ?_⟩) (by assumption) ?_
        · go_simp
          try (rw [IntKind.wrap_i64]; omega)
        (try simp only [Act.put, List.setIfInBounds_toArray, List.set_cons_zero, List.set_cons_succ, List.getElem_toArray, List.getElem_cons_zero, List.getElem_cons_succ])
        refine wpAnyH_take (i := 2) (oi := _) (v := .bool true) rfl (by kernel_rfl) (by kernel_rfl) (by kernel_rfl) (fun _ _ _ h => h) (Or.inl ⟨by rfl, fun wx hSw => ?_⟩) (by assumption) ?_
        · go_simp
          try (rw [IntKind.wrap_i64]; omega)
        (try simp only [Act.put, List.setIfInBounds_toArray, List.set_cons_zero, List.set_cons_succ, List.getElem_toArray, List.getElem_cons_zero, List.getElem_cons_succ])
        refine wpAnyH_take (i := 3) (oi := _) (v := .slice pa p.length pc) rfl (by kernel_rfl) (by kernel_rfl) (by kernel_rfl) (fun _ _ _ h => h) (Or.inl ⟨by rfl, fun wx hSw => ?_⟩) (by assumption) ?_
        · go_simp
          try (rw [IntKind.wrap_i64]; omega)
        (try simp only [Act.put, List.setIfInBounds_toArray, List.set_cons_zero, List.set_cons_succ, List.getElem_toArray, List.getElem_cons_zero, List.getElem_cons_succ])
        refine wpAnyH_take (i := 4) (oi := _) (v := .int .i64 (p.length : Int)) rfl (by kernel_rfl) (by kernel_rfl) (by kernel_rfl) (fun _ _ _ h => h) (Or.inl ⟨by rfl, fun wx hSw => ?_⟩) (by assumption) ?_
        · go_simp
          try (rw [IntKind.wrap_i64]; omega)
        (try simp only [Act.put, List.setIfInBounds_toArray, List.set_cons_zero, List.set_cons_succ, List.getElem_toArray, List.getElem_cons_zero, List.getElem_cons_succ])
        refine wpAnyH_take (i := 5) (oi := _) (v := .slice oa l.length oc) rfl (by kernel_rfl) (by kernel_rfl) (by kernel_rfl) (fun _ _ _ h => h) (Or.inl ⟨by rfl, fun wx hSw => ?_⟩) (by assumption) ?_
        · go_simp
          try (rw [IntKind.wrap_i64]; omega)
        (try simp only [Act.put, List.setIfInBounds_toArray, List.set_cons_zero, List.set_cons_succ, List.getElem_toArray, List.getElem_cons_zero, List.getElem_cons_succ])
        refine wpAnyH_take (i := 6) (oi := _) (v := .int .i64 (l.length : Int)) rfl (by kernel_rfl) (by kernel_rfl) (by kernel_rfl) (fun _ _ _ h => h) (Or.inl ⟨by rfl, fun wx hSw => ?_⟩) (by assumption) ?_
        · go_simp
          try (rw [IntKind.wrap_i64]; omega)
        (try simp only [Act.put, List.setIfInBounds_toArray, List.set_cons_zero, List.set_cons_succ, List.getElem_toArray, List.getElem_cons_zero, List.getElem_cons_succ])
        refine wpAnyH_ready (rs := [7]) (by kernel_rfl) (by simp) ?_
        refine AllReadyH.cons (o := _) rfl (fun K hK => ?_) AllReadyH.nil
        go_simp
        refine (HDP.out _).mono ?_
        rintro e V1 ⟨rfl, rfl⟩
        go_wp2_with fail
        refine hK.out _ _ (hHeld) (fun hHeld => ?_)
        clear hK K
        (try simp only [Act.put, List.setIfInBounds_toArray, List.set_cons_zero, List.set_cons_succ, List.getElem_toArray, List.getElem_cons_zero, List.getElem_cons_succ])
        refine wpAnyH_take (i := 8) (oi := _) (v := .bool true) rfl (by kernel_rfl) (by kernel_rfl) (by kernel_rfl) (fun _ _ _ h => h) (Or.inl ⟨by rfl, fun wx hSw => ?_⟩) (by assumption) ?_
        · go_simp
          try (rw [IntKind.wrap_i64]; omega)
        (try simp only [Act.put, List.setIfInBounds_toArray, List.set_cons_zero, List.set_cons_succ, List.getElem_toArray, List.getElem_cons_zero, List.getElem_cons_succ])
        refine wpAnyH_take (i := 9) (oi := _) (v := .bool true) rfl (by kernel_rfl) (by kernel_rfl) (by kernel_rfl) (fun _ _ _ h => h) (Or.inl ⟨by rfl, fun wx hSw => ?_⟩) (by assumption) ?_
        · go_simp
          try (rw [IntKind.wrap_i64]; omega)
        (try simp only [Act.put, List.setIfInBounds_toArray, List.set_cons_zero, List.set_cons_succ, List.getElem_toArray, List.getElem_cons_zero, List.getElem_cons_succ])
        refine wpAnyH_take (i := 10) (oi := _) (v := .bool true) rfl (by kernel_rfl) (by kernel_rfl) (by kernel_rfl) (fun _ _ _ h => h) (Or.inl ⟨by rfl, fun wx hSw => ?_⟩) (by assumption) ?_
        · go_simp
          try (rw [IntKind.wrap_i64]; omega)
        (try simp only [Act.put, List.setIfInBounds_toArray, List.set_cons_zero, List.set_cons_succ, List.getElem_toArray, List.getElem_cons_zero, List.getElem_cons_succ])
        refine wpAnyH_take (i := 11) (oi := _) (v := .agg (Value.int .i64 (l.length : Int) :: byteVals R).toArray) rfl (by kernel_rfl) (by kernel_rfl) (by kernel_rfl) (fun _ _ _ h => h) (yieldsIf_load_mid (by rfl) 30 _ rfl B 0 rfl (Value.int .i64 (l.length : Int) :: byteVals R) _ (fun wx hSw => hSw.range (by (with_reducible (repeat (first | exact List.mem_cons_self | refine List.mem_cons_of_mem _ ?_))))) Tryd.underlying30 rfl (s30 _ _ hrl)) (by assumption) ?_
        (try simp only [Act.put, List.setIfInBounds_toArray, List.set_cons_zero, List.set_cons_succ, List.getElem_toArray, List.getElem_cons_zero, List.getElem_cons_succ])
        refine wpAnyH_take (i := 12) (oi := _) (v := .int .i64 (I : Int)) rfl (by kernel_rfl) (by kernel_rfl) (by kernel_rfl) (fun _ _ _ h => h) (Or.inl ⟨by rfl, fun wx hSw => ?_⟩) (by assumption) ?_
        · go_simp
          try (rw [IntKind.wrap_i64]; omega)
        (try simp only [Act.put, List.setIfInBounds_toArray, List.set_cons_zero, List.set_cons_succ, List.getElem_toArray, List.getElem_cons_zero, List.getElem_cons_succ])
        refine wpAnyH_take (i := 13) (oi := _) (v := .slice oa l.length oc) rfl (by kernel_rfl) (by kernel_rfl) (by kernel_rfl) (fun _ _ _ h => h) (Or.inl ⟨by rfl, fun wx hSw => ?_⟩) (by assumption) ?_
        · go_simp
          try (rw [IntKind.wrap_i64]; omega)
        (try simp only [Act.put, List.setIfInBounds_toArray, List.set_cons_zero, List.set_cons_succ, List.getElem_toArray, List.getElem_cons_zero, List.getElem_cons_succ])
        refine wpAnyH_take (i := 14) (oi := _) (v := .int .i64 (I : Int)) rfl (by kernel_rfl) (by kernel_rfl) (by kernel_rfl) (fun _ _ _ h => h) (Or.inl ⟨by rfl, fun wx hSw => ?_⟩) (by assumption) ?_
        · go_simp
          try (rw [IntKind.wrap_i64]; omega)
        (try simp only [Act.put, List.setIfInBounds_toArray, List.set_cons_zero, List.set_cons_succ, List.getElem_toArray, List.getElem_cons_zero, List.getElem_cons_succ])
        refine wpAnyH_take (i := 16) (oi := _) (v := .slice pa p.length pc) rfl (by kernel_rfl) (by kernel_rfl) (by kernel_rfl) (fun _ _ _ h => h) (Or.inl ⟨by rfl, fun wx hSw => ?_⟩) (by assumption) ?_
        · go_simp
          try (rw [IntKind.wrap_i64]; omega)
        (try simp only [Act.put, List.setIfInBounds_toArray, List.set_cons_zero, List.set_cons_succ, List.getElem_toArray, List.getElem_cons_zero, List.getElem_cons_succ])
        refine wpAnyH_ready (rs := [15]) (by kernel_rfl) (by simp) ?_
        refine AllReadyH.cons (o := _) rfl (fun K hK => ?_) AllReadyH.nil
        go_simp
        refine (HEL.out _ (HK.out.below hHeld.below) (HV.out.on hHeld.below)).mono ?_
        rintro e V2 ⟨rfl, hb⟩
        have h5 := hHeld.call hb
        clear hb hHeld
        go_wp2_with fail
        refine hK.out _ _ (h5) (fun hHeld => ?_)
        clear hK K
        (try simp only [Act.put, List.setIfInBounds_toArray, List.set_cons_zero, List.set_cons_succ, List.getElem_toArray, List.getElem_cons_zero, List.getElem_cons_succ])
        refine wpAnyH_ready (rs := [17]) (by kernel_rfl) (by simp) ?_
        refine AllReadyH.cons (o := _) rfl (fun K hK => ?_) AllReadyH.nil
        go_simp
        refine (HINC.out _ _ _ (HK.out.below hHeld.below) (hHeld.dl (by (with_reducible (repeat (first | exact List.mem_cons_self | refine List.mem_cons_of_mem _ ?_)))))).mono ?_
        rintro e V3 ⟨rfl, hb⟩
        replace h5 := hHeld.call hb
        clear hb hHeld
        go_wp2_with fail
        refine hK.out _ _ (h5) (fun hHeld => ?_)
        clear hK K
        (try simp only [Act.put, List.setIfInBounds_toArray, List.set_cons_zero, List.set_cons_succ, List.getElem_toArray, List.getElem_cons_zero, List.getElem_cons_succ])
        refine wpAnyH_take (i := 18) (oi := _) (v := .bool true) rfl (by kernel_rfl) (by kernel_rfl) (by kernel_rfl) (fun _ _ _ h => h) (Or.inl ⟨by rfl, fun wx hSw => ?_⟩) (by assumption) ?_
        · go_simp
          try (rw [IntKind.wrap_i64]; omega)
        (try simp only [Act.put, List.setIfInBounds_toArray, List.set_cons_zero, List.set_cons_succ, List.getElem_toArray, List.getElem_cons_zero, List.getElem_cons_succ])
        refine wpAnyH_take (i := 19) (oi := _) (v := .bool true) rfl (by kernel_rfl) (by kernel_rfl) (by kernel_rfl) (fun _ _ _ h => h) (Or.inl ⟨by rfl, fun wx hSw => ?_⟩) (by assumption) ?_
        · go_simp
          try (rw [IntKind.wrap_i64]; omega)
        (try simp only [Act.put, List.setIfInBounds_toArray, List.set_cons_zero, List.set_cons_succ, List.getElem_toArray, List.getElem_cons_zero, List.getElem_cons_succ])
        refine wpAnyH_done (by kernel_rfl) ?_ _
        go_wp2_with fail
        go_ret
        exact ⟨rfl, h5.below⟩
  · rw [decide_eq_false h64] at hf
    have HF := Lib.hid hf
    clear hf
    go_enter Tryd.func5, Tryd.ntmps5
    go_wp2_with fail
    refine (sane_true _ HK.out).mono ?_
    rintro e w1 ⟨rfl, hb⟩
    replace HS := Lib.hid (HS.out.call hb)
    clear hb
    go_wp2_with fail
    refine (HF.out _).mono ?_
    rintro e w2 ⟨rfl, rfl⟩
    go_wp2
    go_ret
    exact ⟨rfl, HS.out.below⟩

/-- The door's own heap meets the condition. -/
theorem door_met (os : Os) (args : Array Value) : laidMetH Tryd.prog Rows.merklePathsProveRow.laid ((World.doorLaid Tryd.prog 400 os).forCall (fun _ _ => 0) ⟨#[], args, []⟩).memory :=
  laidMetH_of_parts3 (fuel := 8) (laidMet_of_run' 8 (by kernel_rfl) (by kernel_rfl)) (by kernel_rfl) (by kernel_rfl)

set_option maxRecDepth 100000 in
theorem lifted (os : Os) (started : os.Started) (H : Type) (enc : TypeId × Value → H) :
    ReturnsInHanded {} Tryd.checked os 5 .any (fun w args => (Rows.merklePathsProveSpec.pre enc Tryd.prog Tryd.f5 [] false w args ∧ laidMetH Tryd.prog Rows.merklePathsProveRow.laid w) ∧ sizedMet enc Tryd.prog Tryd.f5 (OpenSpec.ofChange Rows.merklePathsProveSpec) false w args)
      (Rows.merklePathsProveSpec.post enc Tryd.prog Tryd.f5 false true false false) := by
  refine returnsInHanded_of_change_and (C := Tryd.checked) (X := fun w _ => laidMetH Tryd.prog Rows.merklePathsProveRow.laid w) (fun _ _ _ hh h => h.of_heap hh) own started (by kernel_rfl) Tryd.func5
    (ChangeSpec.witness_shaped (enc := enc) (C := Tryd.checked) (os := os) (X := fun w _ => laidMetH Tryd.prog Rows.merklePathsProveRow.laid w) false (World.doorLaid Tryd.prog 400 os) #[.slice none 0 0, .int .i64 0] 8 rfl (World.shaped_of_RefB (by kernel_rfl) (by kernel_rfl)) (by kernel_rfl) (by kernel_rfl) (by kernel_rfl) (door_met os _)) ?_
  intro W base args ds gs before hval0 hW _ hsz0 hL _
  have hsz : (DataW.weightsEach Tryd.prog (Tryd.f5.params.toList ++ Rows.merklePathsProveSpec.plain.varTypes Tryd.prog) (ds ++ gs)).all (· ≤ reachBytes) = true := hsz0
  have hval : ∀ (j : Nat) t v, Tryd.f5.params[j]? = some t → args[j]? = some v → Value.okWide Tryd.prog W .any base t v := hval0
  clear hsz0 hval0
  have hW' := hW
  obtain ⟨p, q, hA0, hV, rfl, hfz, hnd⟩ := hW
  have hA : DataW.TrodAll enc Tryd.prog W 0 (fun _ => true) true Tryd.f5.params.toList args.toList ds p := hA0
  rw [Tryd.params5] at hA hval hsz
  obtain ⟨v0, vs0, d0, ds0, p0, q0, hargs, rfl, rfl, h0, r0⟩ := trodAll_cons hA
  obtain ⟨v1, vs1, d1, ds1, p1, q1, rfl, rfl, rfl, h1, r1⟩ := trodAll_cons r0
  obtain ⟨rfl, rfl, rfl⟩ := trodAll_nil r1
  obtain rfl : args = #[v0, v1] := by cases args; simp_all
  obtain ⟨rfl, rfl⟩ := trodVars_none hV
  have hw0 : ∀ n ∈ d0.weights Tryd.prog 22, n ≤ reachBytes := by
    intro n hn
    have := List.all_eq_true.1 hsz n (DataW.weights_mem_each (t := 22) (d := d0) (j := 0) rfl rfl n hn)
    simpa using this
  obtain ⟨oa0, ol0, oc0, rfl⟩ := okWide_slice Tryd.underlying22 (hval 0 22 v0 rfl rfl)
  obtain ⟨fu0, hf0⟩ := h0
  obtain ⟨b0, hb0⟩ := openDs (v := .slice oa0 ol0 oc0) hf0 hw0
  obtain rfl : ol0 = b0.length := by
    obtain ⟨_, _, _, _, e, _⟩ := hb0
    simp only [Value.slice.injEq] at e
    exact e.2.1
  obtain ⟨a1, rfl, rfl, rfl, wf1⟩ := open_int Tryd.underlying3 (hval 1 3 v1 rfl rfl) h1
  have ru1 := i64_wf wf1
  clear hA0
  refine (walk b0 oa0 oc0 a1 W (kok_of_laid hL) hb0 ru1).mono fun e W' ⟨he, hbw⟩ => ?_
  subst he
  refine ⟨_, rfl, post_law laidOut ?_ rfl rfl hW' rfl rfl rfl hbw⟩
  intro t ht
  rw [Tryd.params5] at ht
  have hm : t ∈ [3, 22] := by
    simp at ht
    rcases ht with rfl|rfl <;> simp
  have hall : ([3, 22].all fun u => Tryd.prog.readableRec u && decide (u < Tryd.prog.types.size)) = true := by kernel_rfl
  have := List.all_eq_true.1 hall t hm
  simpa using this

theorem over : Rows.merklePathsProveRow.holds Tryd.pinned (OpenSpec.ofChange Rows.merklePathsProveSpec) :=
  OpenClaim.holds_of_wide 5 Tryd.f5 rfl rfl rfl rfl rfl rfl rfl ⟨rfl, rfl, rfl, rfl, rfl⟩ rfl rfl rfl rfl rfl (by kernel_rfl) Tryd.func5 (by kernel_rfl)
    (of_decide_eq_true (by kernel_rfl)) (by unfold Func.isWrapper; first | (rw [if_pos (by decide +kernel)]; kernel_rfl) | (rw [if_neg (by decide +kernel)]; exact ⟨rfl, rfl⟩))
    (fun os started H enc _ => lifted os started H enc)

/-- THE STATEMENT. -/
theorem proved : Rows.MerklePathsProveCardSaid :=
  Claim7.holds_tied_plain_at .later [] [.data] true (true, "ea83294f5b67d008c3aa80d7c08f5dc94fc0d0607cdbc7283e27c890a7edc858") false
    over (fun _ h => by cases h) (by kernel_rfl) (fun _ h => by cases h) merklePathsProve_row_tie rfl ⟨rfl, rfl⟩ (by kernel_rfl) rfl
    (fun f fn hf hfn => by
      obtain rfl : f = 5 := Option.some.inj ((show Tryd.prog.funcNamed "wagonpool/wagonpoollaw04.MerklePathsProve" = some 5 by kernel_rfl).symm.trans hf) |>.symm
      obtain rfl : fn = Tryd.f5 := (Option.some.inj (Tryd.func5.symm.trans hfn)).symm
      exact ⟨by kernel_rfl, fun j t ht => by
        rw [Tryd.params5] at ht
        have hm : t ∈ [3, 22] := by
          have := Array.mem_of_getElem? ht
          simp at this
          rcases this with rfl|rfl <;> simp
        have hall : ([3, 22].all fun u => !Tryd.prog.wantsStandIn u) = true := by kernel_rfl
        exact (show Tryd.prog.wantsStandIn t = false by simpa using List.all_eq_true.1 hall t hm)⟩)
    (by kernel_rfl)
#print axioms proved
end Go.Proofs.YthmpeeipbclhkaaDoor.merklePathsProve
