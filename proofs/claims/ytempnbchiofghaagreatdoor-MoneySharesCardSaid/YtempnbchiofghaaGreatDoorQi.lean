/-
  The statement 'Rows.MoneySharesCardSaid': for all arguments the law returns true; the arguments read as they did. Condition: the listed variables lie as the program's text lays them.
-/
import Derived.Test.YtempnbchiofghaaGreatDoorFr
import Derived.Test.YtempnbchiofghaaGreatDoorPf
import Derived.ChangeMaps5
namespace Go.Proofs.YtempnbchiofghaaGreatDoor.moneyShares
open Go.ChangeShapes Go.WideShapes Go.ChangeAt Go.RowKit Go.Lib
set_option linter.unusedVariables false
set_option linter.unusedSimpArgs false

theorem pair_as {f : FuncId} {args : Array Value} {p : Int × Int} {s e : Int} {w : World} (h : p = (s, e)) (k : Calls Tryz.prog f args w fun x w' => x = .returned (.tuple #[.int .i64 p.1, .int .i64 p.2]) ∧ w = w') : Calls Tryz.prog f args w fun x w' => x = .returned (.tuple #[.int .i64 s, .int .i64 e]) ∧ w = w' := by
  rw [h] at k
  exact k
theorem rin_as {a : Int} {x : Bool} (h : decide (inR a) = x) (w : World) : Calls Tryz.prog 32 #[.int .i64 a] w fun e w' => e = .returned (.bool x) ∧ w = w' := by
  have := rin_any a w
  rw [h] at this
  exact this
theorem abs_as {a T : Int} (h : inR a) (hT : absI a = T) (w : World) : Calls Tryz.prog 36 #[.int .i64 a] w fun e w' => e = .returned (.int .i64 T) ∧ w = w' := by
  have := abs_any a h w
  rw [hT] at this
  exact this
theorem sherr_no {t : Int} {ws : List Int} {E : Int} (h : ShErr t ws E) (hn : ¬ (inR t ∧ ws.length ≤ 256 ∧ wOk ws)) : E ≠ 0 := by
  rintro rfl
  obtain ⟨h1, h2, h3⟩ := sherr_ok h
  exact hn ⟨h3, h1, h2⟩
theorem prop_as {T S : Int} {ws : List Int} (k : Nat) (hW : WOk S ws) (h0 : 0 ≤ T) (h1 : T ≤ 9007199254740992) {y q r : Int} (hy : ws.getD k 0 = y) (hq : qf T S ws k = q) (hr : rf T S ws k = r) (w : World) :
    Calls Tryz.prog 35 #[.int .i64 T, .int .i64 y, .int .i64 S] w fun e w' => e = .returned (.tuple #[.int .i64 q, .int .i64 r]) ∧ w = w' := by
  have a0 := (hW.at k).1
  have a1 := hW.le k
  rw [hy] at a0 a1
  have := muldivI_any T y S h0 h1 a0 a1 hW.pos hW.most w
  rw [← hq, ← hr]
  unfold qf rf
  rw [hy]
  exact this

set_option maxRecDepth 100000 in
set_option maxHeartbeats 40000000 in
theorem walk (t : Int) (v : Value) (ws : List Int) (w : World) (hk : LK w) (hv : Hl (fun k => k < w.heap.size) w v ws) : Calls Tryz.prog 9 #[.int .i64 t, v] w fun e w' => e = .returned (.bool true) ∧ Below w.heap.size w w' := by
  have HSN := Lib.hid (sane_true w hk)
  obtain ⟨oa, c, rfl⟩ := hv.shape
  obtain ⟨n, hn⟩ : ∃ n, ws.length = n := ⟨_, rfl⟩
  rw [hn] at hv ⊢
  have HN := Lib.hid hn; have HV := Lib.hid hv
  obtain ⟨E, hE⟩ := sherr_exists t ws
  obtain ⟨E0, hE0⟩ := werr_exists ws
  have HE := Lib.hid hE; have HE0 := Lib.hid hE0
  have hnn := hv.1
  rw [hn] at hnn
  clear hk hv hn hE hE0
  go_enter Tryz.func9, Tryz.ntmps9
  go_wp2_with fail
  refine (HSN.out).mono ?_
  rintro e w1 ⟨rfl, hb⟩
  have HB1 := Lib.hid hb
  clear hb HSN
  have HC := Lib.hid (share_any t ws _ w1 E HE.out (HV.out.on HB1.out))
  go_wp2_with fail
  refine HC.out.mono ?_
  rintro e w2 ⟨sv, rfl, hb, hs⟩
  have HB := Lib.hid (btrans HB1.out hb)
  have HSV := Lib.hid hs
  clear hb hs HC HB1
  have HV2 := Lib.hid (HV.out.on HB.out)
  by_cases hr : inR t
  rotate_left
  · have hne := sherr_no HE.out (fun h => hr h.1)
    have R0 := Lib.hid (fun w => rin_as (decide_eq_false hr) w)
    obtain rfl := HSV.out.1 hne
    have b0 : (E != 0) = true := by simp [hne]
    clear hne hr HSV HE HE0
    go_wp2_with fail
    refine (R0.out _).mono ?_
    rintro e w' ⟨rfl, rfl⟩
    go_wp2
    go_ret
    exact ⟨rfl, HB.out⟩
  have R0 := Lib.hid (fun w => rin_as (decide_eq_true hr) w)
  have HWT := Lib.hid (weights_any ws _ w2 E0 HE0.out HV2.out)
  by_cases h0 : E0 = 0
  rotate_left
  · have hne := sherr_no HE.out (fun h => h0 (((HE0.out.2 h.2.1).1 h.2.2)))
    obtain rfl := HSV.out.1 hne
    have b0 : (E != 0) = true := by simp [hne]
    have b1 : (E0 != 0) = true := by simp [h0]
    clear hne hr HSV HE HE0 h0
    go_wp2_with fail
    refine (R0.out _).mono ?_
    rintro e w' ⟨rfl, rfl⟩
    go_wp2_with fail
    refine HWT.out.mono ?_
    rintro e w' ⟨rfl, rfl⟩
    go_wp2
    go_ret
    exact ⟨rfl, HB.out⟩
  subst h0
  obtain ⟨hl256, hok⟩ := werr_ok HE0.out
  obtain rfl := (sherr_out HE.out hl256 hok).1 hr
  obtain ⟨ord, ho, hl⟩ := HSV.out.2 rfl
  have hwo := wok_WOk hok hl256
  have HO := Lib.hid ho; have HWO := Lib.hid hwo; have HRR := Lib.hid hr; have HAB := Lib.hid (absT_bnd hr)
  have HSUM := Lib.hid (shl_sum hr hwo ho)
  have hlen := shl_length t ws ord
  rw [HN.out] at hlen
  have HLN := Lib.hid hlen
  have HTO := Lib.hid (total_any ws (.slice oa n c) w2 HV2.out hl256 hok.1)
  obtain ⟨oa2, c2, rfl⟩ := hl.shape
  rw [hlen] at hl
  have A1 := Lib.hid (pair_as HSUM.out (sum_any _ _ w2 hl (by rw [hlen, ← HN.out]; omega)))
  rw [hlen]
  have HL := Lib.hid hl
  obtain ⟨S, hS⟩ : ∃ S, ws.sum = S := ⟨_, rfl⟩
  obtain ⟨T, hT⟩ : ∃ T, absT t = T := ⟨_, rfl⟩
  have HS := Lib.hid hS; have HT := Lib.hid hT
  have HABS := Lib.hid (fun w => abs_as hr hT w)
  have b2 : ((n : Int) != (n : Int)) = false := by simp
  have b3 : (t != t) = false := by simp
  have HJ0 : Hid (Jl t ws ord 0 S 0) := Lib.hid (by rw [← hS]; exact Jl.start t ws ord)
  rw [hS] at HTO
  have hn256 : n ≤ 256 := by rw [← HN.out]; exact hl256
  clear hr hl256 hok ho hwo hlen hl hS hT HE HE0 HSV HSUM
  go_wp2_with fail
  refine (R0.out _).mono ?_
  rintro e w' ⟨rfl, rfl⟩
  go_wp2_with fail
  refine HWT.out.mono ?_
  rintro e w' ⟨rfl, rfl⟩
  go_wp2_with fail
  refine A1.out.mono ?_
  rintro e w' ⟨rfl, rfl⟩
  go_wp2_with fail
  refine HTO.out.mono ?_
  rintro e w' ⟨rfl, rfl⟩
  clear R0 HWT A1 HTO
  go_wp2
  go_loopw [10, 11, 12] (fun a b i wr => ∃ (k : Nat) (L A : Int), k ≤ n ∧ a = .int .i64 L ∧ b = .int .i64 A ∧ i = .int .i64 (k : Int) ∧ Hid (Jl t ws ord k L A) ∧ Hid (Below w2.heap.size w2 wr)) (fun _ _ i _ => n - (intOf i).toNat)
  case atStart => exact ⟨0, S, 0, by omega, rfl, rfl, rfl, HJ0, Lib.hid (Below.refl _ _)⟩
  case round =>
    obtain ⟨k, L, A, hk, rfl, rfl, rfl, HJ, HBW⟩ := hrel
    by_cases hlt : k < n
    · have hlt2 : (k : Int) < (n : Int) := by omega
      obtain ⟨g, off, y, rfl, hg, hy, hyi, c0, hcap⟩ := HV2.out.pick k (by have := HN.out; omega)
      obtain ⟨g2, off2, s, rfl, hg2, hs2, hsi, c00, hcap2⟩ := HL.out.pick k (by have := HLN.out; omega)
      have c1 : wr.cell? ⟨g, off + k, none⟩ = some (.int .i64 y) := (HBW.out.cell (p := ⟨g, off + k, none⟩) hg).trans c0
      have c2 : wr.cell? ⟨g2, off2 + k, none⟩ = some (.int .i64 s) := (HBW.out.cell (p := ⟨g2, off2 + k, none⟩) hg2).trans c00
      obtain ⟨p, hp, p0, p1, pu, pd⟩ := shl_get HRR.out HWO.out HO.out k (by rw [HN.out]; exact hlt)
      have hs : (if t < 0 then -p else p) = s := Option.some.inj (hp.symm.trans hs2)
      have hyd : ws.getD k 0 = y := by rw [List.getD_eq_getElem?_getD, hy]; rfl
      obtain ⟨q, hq⟩ : ∃ q, qf (absT t) ws.sum ws k = q := ⟨_, rfl⟩
      obtain ⟨r, hr⟩ : ∃ r, rf (absT t) ws.sum ws k = r := ⟨_, rfl⟩
      have HPR := Lib.hid (fun w => by
        have := prop_as (T := absT t) (S := ws.sum) k HWO.out HAB.out.1 HAB.out.2 hyd hq hr w
        rw [HT.out, HS.out] at this
        exact this)
      rw [hq] at pu pd
      obtain ⟨Q, hQ⟩ : ∃ Q, q + 1 = Q := ⟨_, rfl⟩
      have wq : IntKind.i64.wrap (q + 1) = Q := by
        rw [hQ]
        by_cases hu : upS t ws ord k
        · have := pu hu; exact wrap_in (by omega) (by omega)
        · have := pd hu; exact wrap_in (by omega) (by omega)
      have HFS := Lib.hid (And.intro hs (And.intro p0 (And.intro p1 (And.intro pu (And.intro pd (And.intro hq (And.intro hr hQ)))))))
      clear hp hs2 hsi hyi hcap hcap2 c0 c00 hy hyd hg hg2 hs p0 p1 pu pd hq hr hQ
      go_wp2_with fail
      have hS0 : wr.drew.cell? ⟨g, off + k, none⟩ = some (.int .i64 y) := by rw [World.cell?_drew]; exact c1
      have d1 : wr.drew.cell? ⟨g2, off2 + k, none⟩ = some (.int .i64 s) := by rw [World.cell?_drew]; exact c2
      have HBD := Lib.hid (HBW.out.trans (Below.drew (Below.refl _ _)))
      refine wp_region_held_drew (S := fun w' => w'.cell? ⟨g, off + k, none⟩ = some (.int .i64 y)) (by kernel_rfl) hS0 (fun hHeld => ?_)
      change wpAnyH _ _ _ _ _ 13 #[false, false, false, false, false, false, false, false, false, false, false, false, false] _ _
      clear HBW c1 c2 hS0
      generalize wr.drew = w7 at *
      refine wpAnyH_take (i := 0) (oi := _) (v := .int .i64 t) rfl (by kernel_rfl) (by kernel_rfl) (by kernel_rfl) (fun _ _ _ h => h) (Or.inl ⟨by rfl, fun wx hSw => ?_⟩) (by assumption) ?_
      · go_simp
      (try simp only [Act.put, List.setIfInBounds_toArray, List.set_cons_zero, List.set_cons_succ, List.getElem_toArray, List.getElem_cons_zero, List.getElem_cons_succ])
      refine wpAnyH_take (i := 2) (oi := _) (v := .slice (some ⟨g, off, none⟩) n c) rfl (by kernel_rfl) (by kernel_rfl) (by kernel_rfl) (fun _ _ _ h => h) (Or.inl ⟨by rfl, fun wx hSw => ?_⟩) (by assumption) ?_
      · go_simp
      (try simp only [Act.put, List.setIfInBounds_toArray, List.set_cons_zero, List.set_cons_succ, List.getElem_toArray, List.getElem_cons_zero, List.getElem_cons_succ])
      refine wpAnyH_take (i := 3) (oi := _) (v := .int .i64 (k : Int)) rfl (by kernel_rfl) (by kernel_rfl) (by kernel_rfl) (fun _ _ _ h => h) (Or.inl ⟨by rfl, fun wx hSw => ?_⟩) (by assumption) ?_
      · go_simp
      (try simp only [Act.put, List.setIfInBounds_toArray, List.set_cons_zero, List.set_cons_succ, List.getElem_toArray, List.getElem_cons_zero, List.getElem_cons_succ])
      refine wpAnyH_take (i := 4) (oi := _) (v := .pointer (some ⟨g, off + k, none⟩)) rfl (by kernel_rfl) (by kernel_rfl) (by kernel_rfl) (fun _ _ _ h => h) (Or.inl ⟨by rfl, fun wx hSw => ?_⟩) (by assumption) ?_
      · go_simp
      (try simp only [Act.put, List.setIfInBounds_toArray, List.set_cons_zero, List.set_cons_succ, List.getElem_toArray, List.getElem_cons_zero, List.getElem_cons_succ])
      refine wpAnyH_take (i := 5) (oi := _) (v := .int .i64 y) rfl (by kernel_rfl) (by kernel_rfl) (by kernel_rfl) (fun _ _ _ h => h) (Or.inl ⟨by rfl, fun wx hSw => ?_⟩) (by assumption) ?_
      · replace hSw : wx.cell? ⟨g, off + k, none⟩ = some (.int .i64 y) := hSw; clear hHeld; go_simp
      (try simp only [Act.put, List.setIfInBounds_toArray, List.set_cons_zero, List.set_cons_succ, List.getElem_toArray, List.getElem_cons_zero, List.getElem_cons_succ])
      refine wpAnyH_take (i := 6) (oi := _) (v := .int .i64 S) rfl (by kernel_rfl) (by kernel_rfl) (by kernel_rfl) (fun _ _ _ h => h) (Or.inl ⟨by rfl, fun wx hSw => ?_⟩) (by assumption) ?_
      · go_simp
      (try simp only [Act.put, List.setIfInBounds_toArray, List.set_cons_zero, List.set_cons_succ, List.getElem_toArray, List.getElem_cons_zero, List.getElem_cons_succ])
      refine wpAnyH_ready (rs := [1]) (by kernel_rfl) (by simp) ?_
      refine AllReadyH.cons (o := _) rfl (fun K hK => ?_) AllReadyH.nil
      go_simp
      refine (HABS.out _).mono ?_
      rintro e wy ⟨rfl, rfl⟩
      go_wp2_with fail
      refine hK.out _ _ hHeld (fun hHeld => ?_)
      clear hK K
      (try simp only [Act.put, List.setIfInBounds_toArray, List.set_cons_zero, List.set_cons_succ, List.getElem_toArray, List.getElem_cons_zero, List.getElem_cons_succ])
      refine wpAnyH_ready (rs := [7]) (by kernel_rfl) (by simp) ?_
      refine AllReadyH.cons (o := _) rfl (fun K hK => ?_) AllReadyH.nil
      go_simp
      refine (HPR.out _).mono ?_
      rintro e wy ⟨rfl, rfl⟩
      go_wp2_with fail
      refine hK.out _ _ hHeld (fun hHeld => ?_)
      clear hK K
      (try simp only [Act.put, List.setIfInBounds_toArray, List.set_cons_zero, List.set_cons_succ, List.getElem_toArray, List.getElem_cons_zero, List.getElem_cons_succ])
      refine wpAnyH_take (i := 8) (oi := _) (v := .tuple #[.int .i64 q, .int .i64 r]) rfl (by kernel_rfl) (by kernel_rfl) (by kernel_rfl) (fun _ _ _ h => h) (Or.inl ⟨by rfl, fun wx hSw => ?_⟩) (by assumption) ?_
      · go_simp
      (try simp only [Act.put, List.setIfInBounds_toArray, List.set_cons_zero, List.set_cons_succ, List.getElem_toArray, List.getElem_cons_zero, List.getElem_cons_succ])
      refine wpAnyH_take (i := 9) (oi := _) (v := .int .i64 q) rfl (by kernel_rfl) (by kernel_rfl) (by kernel_rfl) (fun _ _ _ h => h) (Or.inl ⟨by rfl, fun wx hSw => ?_⟩) (by assumption) ?_
      · go_simp
      (try simp only [Act.put, List.setIfInBounds_toArray, List.set_cons_zero, List.set_cons_succ, List.getElem_toArray, List.getElem_cons_zero, List.getElem_cons_succ])
      refine wpAnyH_take (i := 10) (oi := _) (v := .int .i64 r) rfl (by kernel_rfl) (by kernel_rfl) (by kernel_rfl) (fun _ _ _ h => h) (Or.inl ⟨by rfl, fun wx hSw => ?_⟩) (by assumption) ?_
      · go_simp
      (try simp only [Act.put, List.setIfInBounds_toArray, List.set_cons_zero, List.set_cons_succ, List.getElem_toArray, List.getElem_cons_zero, List.getElem_cons_succ])
      refine wpAnyH_take (i := 11) (oi := _) (v := .int .i64 q) rfl (by kernel_rfl) (by kernel_rfl) (by kernel_rfl) (fun _ _ _ h => h) (Or.inl ⟨by rfl, fun wx hSw => ?_⟩) (by assumption) ?_
      · go_simp
      (try simp only [Act.put, List.setIfInBounds_toArray, List.set_cons_zero, List.set_cons_succ, List.getElem_toArray, List.getElem_cons_zero, List.getElem_cons_succ])
      refine wpAnyH_take (i := 12) (oi := _) (v := .int .i64 r) rfl (by kernel_rfl) (by kernel_rfl) (by kernel_rfl) (fun _ _ _ h => h) (Or.inl ⟨by rfl, fun wx hSw => ?_⟩) (by assumption) ?_
      · go_simp
      (try simp only [Act.put, List.setIfInBounds_toArray, List.set_cons_zero, List.set_cons_succ, List.getElem_toArray, List.getElem_cons_zero, List.getElem_cons_succ])
      refine wpAnyH_done (by kernel_rfl) ?_ _
      clear hHeld
      obtain ⟨hs, p0, p1, pu, pd, hq, hr, hQ⟩ := HFS.out
      clear HFS
      by_cases hu : upS t ws ord k
      · have n0 : p = Q := by have := pu hu; omega
        have n1 : (p != q) = true := by simp; omega
        have n2 : (p != Q) = false := by simp [n0]
        have n3 : (p == Q) = true := by simp [n0]
        clear n0
        by_cases u0 : r < L
        · have u0' : decide (r < L) = true := decide_eq_true u0
          have HJ2 := Lib.hid (by have := Jl.take hu; rw [hr] at this; exact this)
          clear HJ hq hQ hr u0
          by_cases ht : t < 0
          · have ht' : decide (t < 0) = true := decide_eq_true ht
            rw [if_pos ht] at hs
            have wn : IntKind.i64.wrap (-s) = p := by rw [← hs, Int.neg_neg]; exact wrap_in (by omega) (by omega)
            clear hs
            clear p0 p1 pu pd hu ht
            go_wp2
            go_roundw
            case rel => exact ⟨k + 1, r, (k : Int), by omega, rfl, rfl, by go_num, HJ2, HBD⟩
            case measure => simp [intOf]; omega
          · have ht' : decide (t < 0) = false := decide_eq_false ht
            rw [if_neg ht] at hs
            subst hs
            clear p0 p1 pu pd hu ht
            go_wp2
            go_roundw
            case rel => exact ⟨k + 1, r, (k : Int), by omega, rfl, rfl, by go_num, HJ2, HBD⟩
            case measure => simp [intOf]; omega
        · have u0' : decide (r < L) = false := decide_eq_false u0
          by_cases u1 : r = L
          · have u1' : (r == L) = true := by simp [u1]
            by_cases u2 : A < (k : Int)
            · have u2' : decide (A < (k : Int)) = true := decide_eq_true u2
              have HJ2 := Lib.hid (by have := Jl.take hu; rw [hr] at this; exact this)
              clear HJ hq hQ hr u0 u1 u2
              by_cases ht : t < 0
              · have ht' : decide (t < 0) = true := decide_eq_true ht
                rw [if_pos ht] at hs
                have wn : IntKind.i64.wrap (-s) = p := by rw [← hs, Int.neg_neg]; exact wrap_in (by omega) (by omega)
                clear hs
                clear p0 p1 pu pd hu ht
                go_wp2
                go_roundw
                case rel => exact ⟨k + 1, r, (k : Int), by omega, rfl, rfl, by go_num, HJ2, HBD⟩
                case measure => simp [intOf]; omega
              · have ht' : decide (t < 0) = false := decide_eq_false ht
                rw [if_neg ht] at hs
                subst hs
                clear p0 p1 pu pd hu ht
                go_wp2
                go_roundw
                case rel => exact ⟨k + 1, r, (k : Int), by omega, rfl, rfl, by go_num, HJ2, HBD⟩
                case measure => simp [intOf]; omega
            · have u2' : decide (A < (k : Int)) = false := decide_eq_false u2
              have HJ2 := Lib.hid (HJ.out.keep (Or.inr (by rw [hr]; exact u0)) HWO.out)
              clear HJ hq hQ hr u0 u1 u2
              by_cases ht : t < 0
              · have ht' : decide (t < 0) = true := decide_eq_true ht
                rw [if_pos ht] at hs
                have wn : IntKind.i64.wrap (-s) = p := by rw [← hs, Int.neg_neg]; exact wrap_in (by omega) (by omega)
                clear hs
                clear p0 p1 pu pd hu ht
                go_wp2
                go_roundw
                case rel => exact ⟨k + 1, L, A, by omega, rfl, rfl, by go_num, HJ2, HBD⟩
                case measure => simp [intOf]; omega
              · have ht' : decide (t < 0) = false := decide_eq_false ht
                rw [if_neg ht] at hs
                subst hs
                clear p0 p1 pu pd hu ht
                go_wp2
                go_roundw
                case rel => exact ⟨k + 1, L, A, by omega, rfl, rfl, by go_num, HJ2, HBD⟩
                case measure => simp [intOf]; omega
          · have u1' : (r == L) = false := by simp [u1]
            have HJ2 := Lib.hid (HJ.out.keep (Or.inr (by rw [hr]; exact u0)) HWO.out)
            clear HJ hq hQ hr u0 u1
            by_cases ht : t < 0
            · have ht' : decide (t < 0) = true := decide_eq_true ht
              rw [if_pos ht] at hs
              have wn : IntKind.i64.wrap (-s) = p := by rw [← hs, Int.neg_neg]; exact wrap_in (by omega) (by omega)
              clear hs
              clear p0 p1 pu pd hu ht
              go_wp2
              go_roundw
              case rel => exact ⟨k + 1, L, A, by omega, rfl, rfl, by go_num, HJ2, HBD⟩
              case measure => simp [intOf]; omega
            · have ht' : decide (t < 0) = false := decide_eq_false ht
              rw [if_neg ht] at hs
              subst hs
              clear p0 p1 pu pd hu ht
              go_wp2
              go_roundw
              case rel => exact ⟨k + 1, L, A, by omega, rfl, rfl, by go_num, HJ2, HBD⟩
              case measure => simp [intOf]; omega
      · have n0 : p = q := by have := pd hu; omega
        have n1 : (p != q) = false := by simp [n0]
        have n3 : (p == Q) = false := by simp; omega
        clear n0
        have HJ2 := Lib.hid (HJ.out.keep (Or.inl hu) HWO.out)
        clear HJ hq hQ hr
        by_cases ht : t < 0
        · have ht' : decide (t < 0) = true := decide_eq_true ht
          rw [if_pos ht] at hs
          have wn : IntKind.i64.wrap (-s) = p := by rw [← hs, Int.neg_neg]; exact wrap_in (by omega) (by omega)
          clear hs
          clear p0 p1 pu pd hu ht
          go_wp2
          go_roundw
          case rel => exact ⟨k + 1, L, A, by omega, rfl, rfl, by go_num, HJ2, HBD⟩
          case measure => simp [intOf]; omega
        · have ht' : decide (t < 0) = false := decide_eq_false ht
          rw [if_neg ht] at hs
          subst hs
          clear p0 p1 pu pd hu ht
          go_wp2
          go_roundw
          case rel => exact ⟨k + 1, L, A, by omega, rfl, rfl, by go_num, HJ2, HBD⟩
          case measure => simp [intOf]; omega
    · obtain rfl : k = n := by omega
      have hlt2 : ¬ ((k : Int) < (k : Int)) := by omega
      have HJF := Lib.hid HJ.out
      have HB0 := Lib.hid HBW.out
      clear HJ HBW hlt hk HJ0
      go_wp2
      go_loopw [16] (fun i wr => ∃ (j : Nat), j ≤ k ∧ i = .int .i64 (j : Int) ∧ Hid (Below w2.heap.size w2 wr)) (fun i _ => k - (intOf i).toNat)
      case atStart => exact ⟨0, by omega, rfl, Lib.hid HB0.out⟩
      case round =>
        obtain ⟨j, hj, rfl, HBW⟩ := hrel
        obtain ⟨n, hnk⟩ : ∃ n, n = k := ⟨_, rfl⟩
        subst hnk
        obtain ⟨k, hkj⟩ : ∃ k, k = j := ⟨_, rfl⟩
        subst hkj
        by_cases hlt : k < n
        · have hlt2 : (k : Int) < (n : Int) := by omega
          obtain ⟨g, off, y, rfl, hg, hy, hyi, c0, hcap⟩ := HV2.out.pick k (by have := HN.out; omega)
          obtain ⟨g2, off2, s, rfl, hg2, hs2, hsi, c00, hcap2⟩ := HL.out.pick k (by have := HLN.out; omega)
          have c1 : wr.cell? ⟨g, off + k, none⟩ = some (.int .i64 y) := (HBW.out.cell (p := ⟨g, off + k, none⟩) hg).trans c0
          have c2 : wr.cell? ⟨g2, off2 + k, none⟩ = some (.int .i64 s) := (HBW.out.cell (p := ⟨g2, off2 + k, none⟩) hg2).trans c00
          obtain ⟨p, hp, p0, p1, pu, pd⟩ := shl_get HRR.out HWO.out HO.out k (by rw [HN.out]; exact hlt)
          have hs : (if t < 0 then -p else p) = s := Option.some.inj (hp.symm.trans hs2)
          have hyd : ws.getD k 0 = y := by rw [List.getD_eq_getElem?_getD, hy]; rfl
          obtain ⟨q, hq⟩ : ∃ q, qf (absT t) ws.sum ws k = q := ⟨_, rfl⟩
          obtain ⟨r, hr⟩ : ∃ r, rf (absT t) ws.sum ws k = r := ⟨_, rfl⟩
          have HPR := Lib.hid (fun w => by
            have := prop_as (T := absT t) (S := ws.sum) k HWO.out HAB.out.1 HAB.out.2 hyd hq hr w
            rw [HT.out, HS.out] at this
            exact this)
          rw [hq] at pu pd
          have HAS := Lib.hid (fun w => abs_as (a := s) (T := p) (by rw [← hs]; split <;> exact ⟨by omega, by omega⟩) (by rw [← hs]; unfold absI; by_cases ht0 : t < 0 <;> simp only [ht0, if_true, if_false] <;> split <;> omega) w)
          have HFS := Lib.hid (And.intro hs (And.intro p0 (And.intro p1 (And.intro pu (And.intro pd (And.intro hq hr))))))
          clear hp hs2 hsi hyi hcap hcap2 c0 c00 hy hyd hg hg2 hs p0 p1 pu pd hq hr
          go_wp2_with fail
          have hS0 : wr.drew.cell? ⟨g, off + k, none⟩ = some (.int .i64 y) := by rw [World.cell?_drew]; exact c1
          have d1 : wr.drew.cell? ⟨g2, off2 + k, none⟩ = some (.int .i64 s) := by rw [World.cell?_drew]; exact c2
          have HBD := Lib.hid (HBW.out.trans (Below.drew (Below.refl _ _)))
          refine wp_region_held_drew (S := fun w' => w'.cell? ⟨g, off + k, none⟩ = some (.int .i64 y)) (by kernel_rfl) hS0 (fun hHeld => ?_)
          change wpAnyH _ _ _ _ _ 13 #[false, false, false, false, false, false, false, false, false, false, false, false, false] _ _
          clear HBW c1 c2 hS0
          generalize wr.drew = w7 at *
          refine wpAnyH_take (i := 0) (oi := _) (v := .int .i64 t) rfl (by kernel_rfl) (by kernel_rfl) (by kernel_rfl) (fun _ _ _ h => h) (Or.inl ⟨by rfl, fun wx hSw => ?_⟩) (by assumption) ?_
          · go_simp
          (try simp only [Act.put, List.setIfInBounds_toArray, List.set_cons_zero, List.set_cons_succ, List.getElem_toArray, List.getElem_cons_zero, List.getElem_cons_succ])
          refine wpAnyH_take (i := 2) (oi := _) (v := .slice (some ⟨g, off, none⟩) n c) rfl (by kernel_rfl) (by kernel_rfl) (by kernel_rfl) (fun _ _ _ h => h) (Or.inl ⟨by rfl, fun wx hSw => ?_⟩) (by assumption) ?_
          · go_simp
          (try simp only [Act.put, List.setIfInBounds_toArray, List.set_cons_zero, List.set_cons_succ, List.getElem_toArray, List.getElem_cons_zero, List.getElem_cons_succ])
          refine wpAnyH_take (i := 3) (oi := _) (v := .int .i64 (k : Int)) rfl (by kernel_rfl) (by kernel_rfl) (by kernel_rfl) (fun _ _ _ h => h) (Or.inl ⟨by rfl, fun wx hSw => ?_⟩) (by assumption) ?_
          · go_simp
          (try simp only [Act.put, List.setIfInBounds_toArray, List.set_cons_zero, List.set_cons_succ, List.getElem_toArray, List.getElem_cons_zero, List.getElem_cons_succ])
          refine wpAnyH_take (i := 4) (oi := _) (v := .pointer (some ⟨g, off + k, none⟩)) rfl (by kernel_rfl) (by kernel_rfl) (by kernel_rfl) (fun _ _ _ h => h) (Or.inl ⟨by rfl, fun wx hSw => ?_⟩) (by assumption) ?_
          · go_simp
          (try simp only [Act.put, List.setIfInBounds_toArray, List.set_cons_zero, List.set_cons_succ, List.getElem_toArray, List.getElem_cons_zero, List.getElem_cons_succ])
          refine wpAnyH_take (i := 5) (oi := _) (v := .int .i64 y) rfl (by kernel_rfl) (by kernel_rfl) (by kernel_rfl) (fun _ _ _ h => h) (Or.inl ⟨by rfl, fun wx hSw => ?_⟩) (by assumption) ?_
          · replace hSw : wx.cell? ⟨g, off + k, none⟩ = some (.int .i64 y) := hSw; clear hHeld; go_simp
          (try simp only [Act.put, List.setIfInBounds_toArray, List.set_cons_zero, List.set_cons_succ, List.getElem_toArray, List.getElem_cons_zero, List.getElem_cons_succ])
          refine wpAnyH_take (i := 6) (oi := _) (v := .int .i64 S) rfl (by kernel_rfl) (by kernel_rfl) (by kernel_rfl) (fun _ _ _ h => h) (Or.inl ⟨by rfl, fun wx hSw => ?_⟩) (by assumption) ?_
          · go_simp
          (try simp only [Act.put, List.setIfInBounds_toArray, List.set_cons_zero, List.set_cons_succ, List.getElem_toArray, List.getElem_cons_zero, List.getElem_cons_succ])
          refine wpAnyH_ready (rs := [1]) (by kernel_rfl) (by simp) ?_
          refine AllReadyH.cons (o := _) rfl (fun K hK => ?_) AllReadyH.nil
          go_simp
          refine (HABS.out _).mono ?_
          rintro e wy ⟨rfl, rfl⟩
          go_wp2_with fail
          refine hK.out _ _ hHeld (fun hHeld => ?_)
          clear hK K
          (try simp only [Act.put, List.setIfInBounds_toArray, List.set_cons_zero, List.set_cons_succ, List.getElem_toArray, List.getElem_cons_zero, List.getElem_cons_succ])
          refine wpAnyH_ready (rs := [7]) (by kernel_rfl) (by simp) ?_
          refine AllReadyH.cons (o := _) rfl (fun K hK => ?_) AllReadyH.nil
          go_simp
          refine (HPR.out _).mono ?_
          rintro e wy ⟨rfl, rfl⟩
          go_wp2_with fail
          refine hK.out _ _ hHeld (fun hHeld => ?_)
          clear hK K
          (try simp only [Act.put, List.setIfInBounds_toArray, List.set_cons_zero, List.set_cons_succ, List.getElem_toArray, List.getElem_cons_zero, List.getElem_cons_succ])
          refine wpAnyH_take (i := 8) (oi := _) (v := .tuple #[.int .i64 q, .int .i64 r]) rfl (by kernel_rfl) (by kernel_rfl) (by kernel_rfl) (fun _ _ _ h => h) (Or.inl ⟨by rfl, fun wx hSw => ?_⟩) (by assumption) ?_
          · go_simp
          (try simp only [Act.put, List.setIfInBounds_toArray, List.set_cons_zero, List.set_cons_succ, List.getElem_toArray, List.getElem_cons_zero, List.getElem_cons_succ])
          refine wpAnyH_take (i := 9) (oi := _) (v := .int .i64 q) rfl (by kernel_rfl) (by kernel_rfl) (by kernel_rfl) (fun _ _ _ h => h) (Or.inl ⟨by rfl, fun wx hSw => ?_⟩) (by assumption) ?_
          · go_simp
          (try simp only [Act.put, List.setIfInBounds_toArray, List.set_cons_zero, List.set_cons_succ, List.getElem_toArray, List.getElem_cons_zero, List.getElem_cons_succ])
          refine wpAnyH_take (i := 10) (oi := _) (v := .int .i64 r) rfl (by kernel_rfl) (by kernel_rfl) (by kernel_rfl) (fun _ _ _ h => h) (Or.inl ⟨by rfl, fun wx hSw => ?_⟩) (by assumption) ?_
          · go_simp
          (try simp only [Act.put, List.setIfInBounds_toArray, List.set_cons_zero, List.set_cons_succ, List.getElem_toArray, List.getElem_cons_zero, List.getElem_cons_succ])
          refine wpAnyH_take (i := 11) (oi := _) (v := .int .i64 q) rfl (by kernel_rfl) (by kernel_rfl) (by kernel_rfl) (fun _ _ _ h => h) (Or.inl ⟨by rfl, fun wx hSw => ?_⟩) (by assumption) ?_
          · go_simp
          (try simp only [Act.put, List.setIfInBounds_toArray, List.set_cons_zero, List.set_cons_succ, List.getElem_toArray, List.getElem_cons_zero, List.getElem_cons_succ])
          refine wpAnyH_take (i := 12) (oi := _) (v := .int .i64 r) rfl (by kernel_rfl) (by kernel_rfl) (by kernel_rfl) (fun _ _ _ h => h) (Or.inl ⟨by rfl, fun wx hSw => ?_⟩) (by assumption) ?_
          · go_simp
          (try simp only [Act.put, List.setIfInBounds_toArray, List.set_cons_zero, List.set_cons_succ, List.getElem_toArray, List.getElem_cons_zero, List.getElem_cons_succ])
          refine wpAnyH_done (by kernel_rfl) ?_ _
          clear hHeld
          obtain ⟨hs, p0, p1, pu, pd, hq, hr⟩ := HFS.out
          clear HFS
          by_cases hu : upS t ws ord k
          · have n3 : (p == q) = false := by have := pu hu; simp; omega
            clear hq hr
            clear hs p0 p1 pu pd hu
            go_wp2_with fail
            refine (HAS.out _).mono ?_
            rintro e wz ⟨rfl, rfl⟩
            go_wp2
            go_roundw
            case rel => exact ⟨k + 1, by omega, by go_num, HBD⟩
            case measure => simp [intOf]; omega
          · have n3 : (p == q) = true := by have := pd hu; simp; omega
            have hl := Jl.last (by rw [HN.out]; exact HJF.out) HWO.out HO.out k (by rw [HN.out]; exact hlt) hu
            rw [hr] at hl
            have u0' : decide (L < r) = false := decide_eq_false hl.1
            by_cases u1 : r = L
            · have u1' : (r == L) = true := by simp [u1]
              have u2' : decide ((k : Int) < A) = false := decide_eq_false (hl.2 u1)
              clear hq hr hl u1
              clear hs p0 p1 pu pd hu
              go_wp2_with fail
              refine (HAS.out _).mono ?_
              rintro e wz ⟨rfl, rfl⟩
              go_wp2
              go_roundw
              case rel => exact ⟨k + 1, by omega, by go_num, HBD⟩
              case measure => simp [intOf]; omega
            · have u1' : (r == L) = false := by simp [u1]
              clear hq hr hl u1
              clear hs p0 p1 pu pd hu
              go_wp2_with fail
              refine (HAS.out _).mono ?_
              rintro e wz ⟨rfl, rfl⟩
              go_wp2
              go_roundw
              case rel => exact ⟨k + 1, by omega, by go_num, HBD⟩
              case measure => simp [intOf]; omega
        · obtain rfl : k = n := by omega
          have hlt2 : ¬ ((k : Int) < (k : Int)) := by omega
          go_wp2
          go_ret
          exact ⟨rfl, btrans HB.out HBW.out⟩

set_option maxRecDepth 100000 in
theorem lifted (os : Os) (started : os.Started) (H : Type) (enc : TypeId × Value → H) :
    ReturnsInHanded {} Tryz.checked os 9 .any (fun w args => (Rows.moneySharesSpec.pre enc Tryz.prog Tryz.f9 [] false w args ∧ laidMetH Tryz.prog Rows.moneySharesRow.laid w) ∧ sizedMet enc Tryz.prog Tryz.f9 (OpenSpec.ofChange Rows.moneySharesSpec) false w args)
      (Rows.moneySharesSpec.post enc Tryz.prog Tryz.f9 false true false false) := by
  refine returnsInHanded_of_change_and (C := Tryz.checked) (X := fun w _ => laidMetH Tryz.prog Rows.moneySharesRow.laid w) (fun _ _ _ hh h => h.of_heap hh) own started (by kernel_rfl) Tryz.func9
    (ChangeSpec.witness_shaped (enc := enc) (C := Tryz.checked) (os := os) (X := fun w _ => laidMetH Tryz.prog Rows.moneySharesRow.laid w) false (World.laidAll Tryz.prog os laidAllOf) #[.int .i64 0, .slice none 0 0] 8 (World.laidAll_os _ _ _) (World.shaped_of_ZipB (by kernel_rfl) (by kernel_rfl)) (by kernel_rfl) (by kernel_rfl) (by kernel_rfl) (laidAll_met os _)) ?_
  intro W base args ds gs before hval0 hW _ hsz0 hL _
  have hsz : (DataW.weightsEach Tryz.prog (Tryz.f9.params.toList ++ Rows.moneySharesSpec.plain.varTypes Tryz.prog) (ds ++ gs)).all (· ≤ reachBytes) = true := hsz0
  clear hsz0
  have hval : ∀ (j : Nat) t v, Tryz.f9.params[j]? = some t → args[j]? = some v → Value.okWide Tryz.prog W .any base t v := hval0
  clear hval0
  have hW' := hW
  obtain ⟨p, q, hA0, hV, rfl, hfz, hnd⟩ := hW
  have hA : DataW.TrodAll enc Tryz.prog W 0 (fun _ => true) true Tryz.f9.params.toList args.toList ds p := hA0
  rw [Tryz.params9] at hA hval hsz
  obtain ⟨v0, vs0, d0, ds0, p0, q0, hargs, rfl, rfl, h0, r0⟩ := trodAll_cons hA
  obtain ⟨v1, vs1, d1, ds1, p1, q1, rfl, rfl, rfl, h1, r1⟩ := trodAll_cons r0
  obtain ⟨rfl, rfl, rfl⟩ := trodAll_nil r1
  obtain rfl : args = #[v0, v1] := by cases args; simp_all
  obtain ⟨rfl, rfl⟩ := trodVars_none hV
  obtain ⟨a0, rfl, rfl, rfl, wf0⟩ := open_int Tryz.underlying3 (hval 0 3 v0 rfl rfl) h0
  have ru0 := i64_wf wf0
  have hw1 : ∀ n ∈ d1.weights Tryz.prog 22, n ≤ reachBytes := by
    intro n hn
    have := List.all_eq_true.1 hsz n (DataW.weights_mem_each (t := 22) (d := d1) (j := 1) rfl rfl n hn)
    simpa using this
  obtain ⟨oa1, ol1, oc1, rfl⟩ := okWide_slice Tryz.underlying22 (hval 1 22 v1 rfl rfl)
  obtain ⟨fu1, hf1⟩ := h1
  obtain ⟨b1, hb1⟩ := openH (v := .slice oa1 ol1 oc1) hf1 hw1
  obtain rfl : ol1 = b1.length := by
    obtain ⟨_, _, _, _, e, _⟩ := hb1
    simp only [Value.slice.injEq] at e
    exact e.2.1
  clear hA0
  refine (walk a0 _ b1 W (lk_of_laid hL) hb1).mono fun e W' ⟨he, hbw⟩ => ?_
  subst he
  refine ⟨_, rfl, post_law laidOut ?_ rfl rfl hW' rfl rfl rfl hbw⟩
  intro t ht
  rw [Tryz.params9] at ht
  have hm : t ∈ [3, 22] := by
    simp at ht
    rcases ht with rfl|rfl <;> simp
  have hall : ([3, 22].all fun u => Tryz.prog.readableRec u && decide (u < Tryz.prog.types.size)) = true := by kernel_rfl
  have := List.all_eq_true.1 hall t hm
  simpa using this

theorem over : Rows.moneySharesRow.holds Tryz.pinned (OpenSpec.ofChange Rows.moneySharesSpec) :=
  OpenClaim.holds_of_wide 9 Tryz.f9 rfl rfl rfl rfl rfl rfl rfl ⟨rfl, rfl, rfl, rfl, rfl⟩ rfl rfl rfl rfl rfl (by kernel_rfl) Tryz.func9 (by kernel_rfl)
    (of_decide_eq_true (by kernel_rfl)) (by unfold Func.isWrapper; first | (rw [if_pos (by decide +kernel)]; kernel_rfl) | (rw [if_neg (by decide +kernel)]; exact ⟨rfl, rfl⟩))
    (fun os started H enc _ => lifted os started H enc)

/-- THE STATEMENT. -/
theorem proved : Rows.MoneySharesCardSaid :=
  Claim7.holds_tied_plain_at .later [] [.data, .data, .data, .data, .sentinel, .sentinel, .pinned] true (true, "d474b3da227b1f68ed449b6e949976c410548039ae0db78d056320657f151c7e") true
    over (fun _ h => by cases h) (by kernel_rfl) (fun _ h => by cases h) moneyShares_row_tie rfl ⟨rfl, rfl⟩ (by kernel_rfl) rfl
    (fun f fn hf hfn => by
      obtain rfl : f = 9 := Option.some.inj ((show Tryz.prog.funcNamed "wagonpool/wagonpoollaw07.MoneyShares" = some 9 by kernel_rfl).symm.trans hf) |>.symm
      obtain rfl : fn = Tryz.f9 := (Option.some.inj (Tryz.func9.symm.trans hfn)).symm
      exact ⟨by kernel_rfl, fun j t ht => by
        rw [Tryz.params9] at ht
        have hm : t ∈ [3, 22] := by
          have := Array.mem_of_getElem? ht
          simp at this
          rcases this with rfl|rfl <;> simp
        have hall : ([3, 22].all fun u => !Tryz.prog.wantsStandIn u) = true := by kernel_rfl
        exact (show Tryz.prog.wantsStandIn t = false by simpa using List.all_eq_true.1 hall t hm)⟩)
    (by kernel_rfl)
#print axioms proved
end Go.Proofs.YtempnbchiofghaaGreatDoor.moneyShares
