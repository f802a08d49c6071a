/-
  Walks: Feed.
-/
import Derived.Test.YtdmlnjgbfkkjdaaDoorCf
namespace Go.Proofs.YtdmlnjgbfkkjdaaDoor
open Go.RowKit
set_option linter.unusedVariables false
set_option linter.unusedSimpArgs false

theorem size31 {a b c d : Value} : (Tryd.prog.info? 31).map (·.size) = some (#[a, b, c, d] : Array Value).size := by kernel_rfl
theorem all31 {x y z : Bool} : (#[.slice none 0 0, .bool x, .bool y, .bool z] : Array Value).all (·.oneCell') = true := by kernel_rfl
theorem below_grown {w0 w wa : World} {v : Value} (hb : Below w0.heap.size w0 w) (hg : w.grownBy wa v.ownBlock) (ho : ∀ g, v.ownBlock = some g → w0.heap.size ≤ g) : Below w0.heap.size w0 wa :=
  hb.trans ⟨hg.os, hg.tape, hg.output, hg.size, fun k hk => hg.block k (Nat.lt_of_lt_of_le hk hb.size) (fun e => by have := ho k e.symm; omega)⟩
theorem app_box {w0 w wa : World} {B bs : Nat} {s : St} {L : List (List Int)} {vr vr' vl : Value} {r : List Int} {o : Obj} (h : FI w0 B bs s L vr vl w) (hap : Apd bs w vr wa vr' r) (hb : w.heap[B]? = some o) : wa.heap[B]? = some o :=
  (hap.grown.block B h.lt (fun e => by have := (own_lt h.own e.symm).1; have := h.hbs; omega)).trans hb
theorem all31' {a : Option Addr} {n c : Nat} {x y z : Bool} : (#[.slice a n c, .bool x, .bool y, .bool z] : Array Value).all (·.oneCell') = true := by kernel_rfl
theorem results_c2 {fn : Func} {p q r : Tmp} (h : fn.results = #[.cell p 31, .tmp q, .tmp r]) (tmps : Array Value) (w : World) (g : Nat) (cs : Array Value) (v u : Value)
    (hp : tmps.getD p undef = .pointer (some ⟨g, 0, none⟩)) (hq : tmps.getD q undef = v) (hr : tmps.getD r undef = u) (h1 : w.heap[g]? = some (.cells cs 31 (0, 0))) (hc : cs.size = 4) :
    (results fn tmps).run Tryd.prog w = .ok (.tuple #[.agg cs, v, u]) w := by
  have hp' : tmps[p]?.getD undef = .pointer (some ⟨g, 0, none⟩) := by simpa using hp
  have hq' : tmps[q]?.getD undef = v := by simpa using hq
  have hr' : tmps[r]?.getD undef = u := by simpa using hr
  have e1 : (Tryd.prog.info? 31).map (·.size) = some cs.size := by rw [hc]; kernel_rfl
  simp [results, h, hp', hq', hr', asAddr, run_loadVar_row w g 31 31 cs (0, 0) _ h1 Tryd.underlying31 rfl e1]
/-- What Feed answers. -/
def FeedOf (w : World) (s : St) (L : List (List Int)) (n : Nat) (e : Ending) (w' : World) : Prop :=
  ∃ vx vl, e = .returned (.tuple #[vx, vl, .int .i64 (n : Nat)]) ∧ Below w.heap.size w w' ∧ SV (fun k => w.heap.size ≤ k ∧ k < w'.heap.size) w' vx s ∧ ∃ vals, LV w.heap.size w' (.slice none 0 0) vl L vals

set_option maxRecDepth 100000 in
set_option maxHeartbeats 4000000 in
theorem feed_any (s : St) (b : List Int) (vd vb : Value) (w : World) (hk : KOk w) (hd : SV (fun k => k < w.heap.size) w vd s) (hb : Bs (fun k => k < w.heap.size) w vb b) (hsz : (b.length + 1) * 24 ≤ 140737488355328) :
    Calls Tryd.prog 15 #[vd, vb] w (FeedOf w (FS s b) (FL s b) (FB s b)) := by
  obtain ⟨ad, cd, rfl, hrest⟩ := hd
  obtain ⟨hbl, hbr, ab, cb, rfl, hbc, hbp⟩ := hb
  have hSR := hrest.2.1
  have HD : Hid (∀ wx, Below w.heap.size w wx → Calls Tryd.prog 25 #[.slice ad s.rest.length cd] wx (DupOf wx s.rest)) := Lib.hid (fun wx hx => dup_any s.rest _ wx (hrest.on hx))
  have HBP := Lib.hid (show 0 < b.length → ∃ g off, ab = some ⟨g, off, none⟩ ∧ g < w.heap.size ∧ ∀ (j : Nat) (u : Int), b[j]? = some u → w.cell? ⟨g, off + j, none⟩ = some (.int .u8 u) from hbp)
  have HBR := Lib.hid (show Rg8 b from hbr)
  have HSR := Lib.hid (show Rg8 s.rest from hSR)
  have HK := Lib.hid hk
  have HSZ := Lib.hid hsz
  have HSL := Lib.hid hrest.1
  clear hbp hbr hSR hk hsz hrest
  obtain ⟨n, hn⟩ : ∃ n, n = s.rest.length := ⟨_, rfl⟩
  rw [← hn] at HD ⊢
  obtain ⟨L, hL⟩ : ∃ L, L = b.length := ⟨_, rfl⟩
  rw [← hL] at hbl hbc HSZ ⊢
  have HN := Lib.hid hn; have HL := Lib.hid hL
  clear hn hL
  obtain ⟨W, hW⟩ : ∃ W, W = (w.alloc (.cells #[.slice ad n cd, .bool s.inn, .bool s.esc, .bool s.bad] 31)).alloc (.cells #[.slice ad n cd, .bool s.inn, .bool s.esc, .bool s.bad] 31) := ⟨_, rfl⟩
  have hB := Lib.hid (show Below w.heap.size w W by rw [hW]; exact ball (ball (Below.refl _ _) _) _)
  have hr1 := Lib.hid (show W.heap[w.heap.size + 1]? = some (.cells #[.slice ad n cd, .bool s.inn, .bool s.esc, .bool s.bad] 31 (0, 0)) by rw [hW]; have := bnew (w.alloc (.cells #[.slice ad n cd, .bool s.inn, .bool s.esc, .bool s.bad] 31)) (.cells #[.slice ad n cd, .bool s.inn, .bool s.esc, .bool s.bad] 31); simpa using this)
  have hws := Lib.hid (show W.heap.size = w.heap.size + 2 by rw [hW]; simp)
  have HW := Lib.hid hW; clear hW
  go_enter Tryd.func15, Tryd.ntmps15
  go_wp2
  go_step3
  go_wp2_with fail
  rw [← HW.out]
  refine (HD.out W hB.out).mono ?_
  rintro e w1 ⟨v1, rfl, hb1, hown1⟩
  rw [← HN.out] at hown1
  obtain ⟨a1, c1, rfl⟩ := own_shape hown1
  have hbx1 := bon hr1.out hb1
  have bx0 : w1.cell? ⟨w.heap.size + 1, 0, none⟩ = some (.slice ad n cd) := by rw [cell_of_row w1 _ 0 _ 31 (0, 0) hbx1]; rfl
  have fz0 : w1.frozen? ⟨w.heap.size + 1, 0, none⟩ = false := by simp [World.frozen?, hbx1]
  obtain ⟨W2, hW2⟩ : ∃ W2, W2 = w1.setCell ⟨w.heap.size + 1, 0, none⟩ (.slice a1 n c1) := ⟨_, rfl⟩
  have hFI : FI w (w.heap.size + 1) (w.heap.size + 1 + 1) s [] (.slice a1 n c1) (.slice none 0 0) W2 := by
    refine FI.start ?_ ?_ ?_ (by omega) (by omega)
    · rw [hW2, heap_setCell_same w1 _ 0 _ 31 _ hbx1]; rfl
    · rw [← HN.out, hW2]
      refine own_kept (owns_base hown1 (by have := hws.out; omega)) fun g hg => ?_
      have := (own_lt hown1 hg).1
      have := hws.out
      exact heap_setCell_other _ _ _ _ (by simp; omega)
    · rw [hW2]; exact (btrans hB.out hb1).setCell (by simp) _
  have HFI := Lib.hid hFI
  have HW2 := Lib.hid hW2
  clear hFI hW2 hbx1 hown1 hb1 HD HW hB hr1 hws
  go_wp2_with fail
  go_step3
  go_wp2_with fail
  rw [← HW2.out]
  clear HW2 bx0 fz0
  go_loopw [5, 6, 18] (fun x5 bd i wr => ∃ k : Nat, k ≤ L ∧ i = .int .i64 k ∧ ∃ (M : Nat) (vr vl : Value), bd = .int .i64 (M : Nat) ∧ vl = x5 ∧ Hid (M = FB s (b.take k) ∧ FI w (w.heap.size + 1) (w.heap.size + 1 + 1) (FS s (b.take k)) (FL s (b.take k)) vr vl wr)) (fun _ _ i _ => L - (intOf i).toNat)
  case atStart => exact ⟨0, by omega, rfl, 0, .slice a1 n c1, .slice none 0 0, rfl, rfl, Lib.hid ⟨rfl, HFI.out⟩⟩
  case round =>
    obtain ⟨k, hk, rfl, M, vr, vl, rfl, rfl, H⟩ := hrel
    by_cases hlt : k < L
    · have hkb : k < b.length := by rw [← HL.out]; exact hlt
      obtain ⟨g, off, rfl, hg, hcell⟩ := HBP.out (by omega)
      have hc := (H.out.2.below.cell (p := ⟨g, off + k, none⟩) hg).trans (hcell k b[k] (List.getElem?_eq_getElem hkb))
      have hu := HBR.out b[k] (List.getElem_mem _)
      have hFBn := FB_next s b k hkb
      have hFLn := FL_next s b k hkb
      have hFSn := FS_next s b k hkb
      have hSrg := FS_rg HSR.out (HBR.out.take k)
      have hMl : M ≤ L := by rw [H.out.1, HL.out]; exact Nat.le_trans (FB_le _ _) (by simp; omega)
      have hLl : (FL s (b.take k)).length ≤ L := by rw [HL.out]; exact Nat.le_trans (FL_le _ _) (by simp; omega)
      have hNl0 := FS_len s (b.take k)
      obtain ⟨S, hS⟩ : ∃ S, S = FS s (b.take k) := ⟨_, rfl⟩
      obtain ⟨LL, hLL⟩ : ∃ LL, LL = FL s (b.take k) := ⟨_, rfl⟩
      have hMM := H.out.1
      have hF := H.out.2
      rw [← hS] at hFBn hFLn hFSn hSrg hF hNl0
      rw [← hLL] at hFLn hLl hF
      rw [← hMM] at hFBn
      clear H hcell hMM hS hLL
      have hNl : S.rest.length ≤ 140737488355328 := by have := HSL.out; omega
      clear hNl0
      have HN2 := Lib.hid (show M + fb S b[k] = FB s (b.take (k + 1)) ∧ FL s (b.take (k + 1)) = LL ++ fl S b[k] ∧ FS s (b.take (k + 1)) = fs S b[k] from ⟨hFBn.symm, hFLn, hFSn⟩)
      clear hFBn hFLn hFSn
      obtain ⟨ar, cr, hvr⟩ := own_shape hF.own
      subst hvr
      have hbox := hF.box
      have hvS := Bs.ofOwn hF.own hNl hSrg
      obtain ⟨N, hN⟩ : ∃ N, N = S.rest.length := ⟨_, rfl⟩
      rw [← hN] at hbox hNl hF hvS
      have HNS := Lib.hid hN; clear hN
      have bx0 : wr.cell? ⟨w.heap.size + 1, 0, none⟩ = some (.slice ar N cr) := by rw [cell_of_row wr _ 0 _ 31 (0, 0) hbox]; rfl
      have bx1 : wr.cell? ⟨w.heap.size + 1, 1, none⟩ = some (.bool S.inn) := by rw [cell_of_row wr _ 1 _ 31 (0, 0) hbox]; rfl
      have bx2 : wr.cell? ⟨w.heap.size + 1, 2, none⟩ = some (.bool S.esc) := by rw [cell_of_row wr _ 2 _ 31 (0, 0) hbox]; rfl
      have bx3 : wr.cell? ⟨w.heap.size + 1, 3, none⟩ = some (.bool S.bad) := by rw [cell_of_row wr _ 3 _ 31 (0, 0) hbox]; rfl
      have fz : ∀ j, wr.frozen? ⟨w.heap.size + 1, j, none⟩ = false := fun j => by simp [World.frozen?, hbox]
      have HBX := Lib.hid hbox
      have HF := Lib.hid hF
      have HSG := Lib.hid hSrg
      have HVS := Lib.hid (show Bs (fun k => k < wr.heap.size) wr (.slice ar N cr) S.rest from hvS.kept (fun _ _ => rfl) (fun k hk => hk.2.1))
      have HKr := Lib.hid (HK.out.below HF.out.below)
      have hwr := HF.out.lt
      clear hbox hF hSrg hvS
      have HLl := Lib.hid hLl
      have HMl := Lib.hid hMl
      clear hLl hMl
      by_cases hc126 : b[k] = 126
      · have hq : (b[k] == 126) = true := by rw [hc126]; rfl
        have HC := Lib.hid hc126; clear hc126
        cases hR : recv S with
        | true =>
          have HFL := Lib.hid (show fl S b[k] = [cont S] ∧ fb S b[k] = 0 ∧ fs S b[k] = stF from by rw [HC.out]; exact ⟨by unfold fl; rw [if_pos ⟨rfl, hR⟩], by unfold fb; rw [if_neg (by rw [hR]; simp)], fs_flag S⟩)
          have HR := Lib.hid hR; clear hR
          go_wp2_with (refine wpList_load_row rfl 31 (.tmp 4) rfl (w.heap.size + 1) rfl 31 _ (0, 0) _ HBX.out Tryd.underlying31 rfl size31 ?_)
          refine (received_any S ar N cr _ HKr.out HNS.out HVS.out).mono ?_
          rintro e w2 ⟨hb2, he⟩
          obtain ⟨h4, rfl⟩ : 4 ≤ N ∧ e = .returned (.tuple #[.slice ar (N - 4) cr, .bool true]) := by
            rcases he with ⟨_, h4, h⟩ | ⟨h, _⟩
            · exact ⟨h4, h⟩
            · rw [HR.out] at h; cases h
          have F2 := HF.out.call hb2
          obtain ⟨vals, hlv⟩ := F2.lst
          have hA0 : ApL (w.heap.size + 1 + 1) w2 vl w2 vl vals := ApL.start (by rw [hlv.2.1]; exact hlv.1)
          have HA0 := Lib.hid hA0; have HF2 := Lib.hid F2; have HLV := Lib.hid hlv
          have HVL := Lib.hid (show (vals.length + 1) * 24 ≤ 140737488355328 by have h1 := hlv.2.1; have h2 := HLl.out; have h3 := HSZ.out; omega)
          have HB0 := Lib.hid (show w.heap.size + 1 + 1 ≤ w2.heap.size by have := F2.lt; omega)
          clear hA0 F2 hlv he bx0 bx1 bx2 bx3 fz hb2
          go_wp2_with (first
            | (at_builtin; refine wp_putL rfl rfl (.tmp 31) (.tmp 33) rfl w2 vl vals (.slice ar (N - 4) cr) rfl _ _ HA0.out rfl rfl rfl HVL.out HB0.out ?_; intro vl' wa hap; have HAP := Lib.hid hap; have HBA := Lib.hid (show wa.heap[w.heap.size + 1]? = some (.cells #[.slice ar N cr, .bool S.inn, .bool S.esc, .bool S.bad] 31 (0, 0)) from (hap.grown.block _ HF2.out.lt (fun e => by have := (own_lt HLV.out.1 e.symm).1; omega)).trans HF2.out.box); clear hap)
            | (refine wpList_store_row rfl 31 (.tmp 4) (.tmp 39) rfl (w.heap.size + 1) #[.slice none 0 0, .bool true, .bool false, .bool false] rfl rfl 31 _ HBA.out size31 rfl all31 ?_))
          go_roundw
          case rel =>
            refine ⟨k + 1, by omega, by go_num, M, .slice none 0 0, vl', rfl, rfl, ?_⟩
            obtain ⟨f1, f2, f3⟩ := HFL.out
            obtain ⟨n1, n2, n3⟩ := HN2.out
            refine ⟨by rw [← n1, f2, Nat.add_zero], ?_⟩
            rw [n2, n3, f1, f3]
            exact HF2.out.push HLV.out rfl HNS.out h4 HSG.out hNl HAP.out rfl (setRow_heap _ _ _ _ _ _ HBA.out) (fun k hk => setRow_other _ _ _ _ hk) (by simp)
              (bsetRow (below_grown HF2.out.below HAP.out.grown (fun g hg => by have := (own_lt HLV.out.1 hg).1; omega)) (by omega) _)
          case measure => simp [intOf]; omega
        | false =>
          have HR := Lib.hid hR; clear hR
          have hfl := Lib.hid (show fl S b[k] = [] ∧ fs S b[k] = stF from by rw [HC.out]; exact ⟨by unfold fl; rw [if_neg (fun e => by have := e.2; rw [HR.out] at this; cases this)], fs_flag S⟩)
          cases hG : begun S with
          | true =>
            have hfb := Lib.hid (show fb S b[k] = 1 by rw [HC.out]; unfold fb; rw [if_pos ⟨rfl, HR.out, hG⟩])
            have HG := Lib.hid hG; clear hG
            go_wp2_with (refine wpList_load_row rfl 31 (.tmp 4) rfl (w.heap.size + 1) rfl 31 _ (0, 0) _ HBX.out Tryd.underlying31 rfl size31 ?_)
            refine (received_any S ar N cr _ HKr.out HNS.out HVS.out).mono ?_
            rintro e w2 ⟨hb2, he⟩
            obtain rfl : e = .returned (.tuple #[.slice none 0 0, .bool false]) := by
              rcases he with ⟨h, _⟩ | ⟨_, h⟩
              · rw [HR.out] at h; cases h
              · exact h
            have HF2 := Lib.hid (HF.out.call hb2)
            have HBX2 := Lib.hid (bon HBX.out hb2)
            clear he bx0 bx1 bx2 bx3 fz hb2
            go_wp2_with (refine wpList_load_row rfl 31 (.tmp 4) rfl (w.heap.size + 1) rfl 31 _ (0, 0) _ HBX2.out Tryd.underlying31 rfl size31 ?_)
            refine (begun_any S ar N cr _ HNS.out).mono ?_
            rintro e w3 ⟨rfl, hb3⟩
            rw [HG.out]
            have HF3 := Lib.hid (HF2.out.call hb3)
            have HBX3 := Lib.hid (bon HBX2.out hb3)
            clear hb3
            have hM1 : ((M : Nat) : Int) + 1 ≤ 9223372036854775807 := by have := HMl.out; omega
            go_wp2_with (refine wpList_store_row rfl 31 (.tmp 4) (.tmp 39) rfl (w.heap.size + 1) #[.slice none 0 0, .bool true, .bool false, .bool false] rfl rfl 31 _ HBX3.out size31 rfl all31 ?_)
            go_roundw
            case rel =>
              refine ⟨k + 1, by omega, by go_num, M + 1, .slice none 0 0, vl, by go_num, rfl, ?_⟩
              obtain ⟨n1, n2, n3⟩ := HN2.out
              refine ⟨by rw [← n1, hfb.out], ?_⟩
              rw [n2, n3, hfl.out.1, hfl.out.2, List.append_nil]
              exact HF3.out.drop rfl (setRow_heap _ _ _ _ _ _ HBX3.out) (fun k hk => setRow_other _ _ _ _ hk) (by simp) (bsetRow HF3.out.below (by omega) _)
            case measure => simp [intOf]; omega
          | false =>
            have hfb := Lib.hid (show fb S b[k] = 0 by unfold fb; rw [if_neg (fun e => by have := e.2.2; rw [hG] at this; cases this)])
            have HG := Lib.hid hG; clear hG
            go_wp2_with (refine wpList_load_row rfl 31 (.tmp 4) rfl (w.heap.size + 1) rfl 31 _ (0, 0) _ HBX.out Tryd.underlying31 rfl size31 ?_)
            refine (received_any S ar N cr _ HKr.out HNS.out HVS.out).mono ?_
            rintro e w2 ⟨hb2, he⟩
            obtain rfl : e = .returned (.tuple #[.slice none 0 0, .bool false]) := by
              rcases he with ⟨h, _⟩ | ⟨_, h⟩
              · rw [HR.out] at h; cases h
              · exact h
            have HF2 := Lib.hid (HF.out.call hb2)
            have HBX2 := Lib.hid (bon HBX.out hb2)
            clear he bx0 bx1 bx2 bx3 fz hb2
            go_wp2_with (refine wpList_load_row rfl 31 (.tmp 4) rfl (w.heap.size + 1) rfl 31 _ (0, 0) _ HBX2.out Tryd.underlying31 rfl size31 ?_)
            refine (begun_any S ar N cr _ HNS.out).mono ?_
            rintro e w3 ⟨rfl, hb3⟩
            rw [HG.out]
            have HF3 := Lib.hid (HF2.out.call hb3)
            have HBX3 := Lib.hid (bon HBX2.out hb3)
            clear hb3
            go_wp2_with (refine wpList_store_row rfl 31 (.tmp 4) (.tmp 39) rfl (w.heap.size + 1) #[.slice none 0 0, .bool true, .bool false, .bool false] rfl rfl 31 _ HBX3.out size31 rfl all31 ?_)
            go_roundw
            case rel =>
              refine ⟨k + 1, by omega, by go_num, M, .slice none 0 0, vl, rfl, rfl, ?_⟩
              obtain ⟨n1, n2, n3⟩ := HN2.out
              refine ⟨by rw [← n1, hfb.out, Nat.add_zero], ?_⟩
              rw [n2, n3, hfl.out.1, hfl.out.2, List.append_nil]
              exact HF3.out.drop rfl (setRow_heap _ _ _ _ _ _ HBX3.out) (fun k hk => setRow_other _ _ _ _ hk) (by simp) (bsetRow HF3.out.below (by omega) _)
            case measure => simp [intOf]; omega
      · have hq : (b[k] == 126) = false := by simpa using hc126
        have hno := Lib.hid (show fl S b[k] = [] ∧ fb S b[k] = 0 from ⟨fl_no hc126, fb_no hc126⟩)
        have HC := Lib.hid hc126; clear hc126
        have HEND := Lib.hid (show ∀ (vr' : Value) (w' : World), FI w (w.heap.size + 1) (w.heap.size + 1 + 1) (fs S b[k]) LL vr' vl w' → (M = FB s (b.take (k + 1)) ∧ FI w (w.heap.size + 1) (w.heap.size + 1 + 1) (FS s (b.take (k + 1))) (FL s (b.take (k + 1))) vr' vl w') from by
          intro vr' w' h
          obtain ⟨n1, n2, n3⟩ := HN2.out
          refine ⟨by rw [← n1, hno.out.2, Nat.add_zero], ?_⟩
          rw [n2, n3, hno.out.1, List.append_nil]
          exact h)
        clear hno
        by_cases hst : S.inn = false ∨ S.bad = true
        · have HFS := Lib.hid (show fs S b[k] = S by unfold fs; rw [if_neg HC.out, if_pos hst])
          by_cases hst1 : S.inn = false
          · rw [hst1] at bx1
            clear hst hst1
            go_wp2
            go_roundw
            case rel =>
              refine ⟨k + 1, by omega, by go_num, M, .slice ar N cr, vl, rfl, rfl, HEND.out _ _ ?_⟩
              rw [HFS.out]; exact HF.out
            case measure => simp [intOf]; omega
          · have hst2 : S.bad = true := by
              rcases hst with h | h
              · exact absurd h hst1
              · exact h
            have hst1 : S.inn = true := by simpa using hst1
            rw [hst1] at bx1
            rw [hst2] at bx3
            clear hst hst1 hst2
            go_wp2
            go_roundw
            case rel =>
              refine ⟨k + 1, by omega, by go_num, M, .slice ar N cr, vl, rfl, rfl, HEND.out _ _ ?_⟩
              rw [HFS.out]; exact HF.out
            case measure => simp [intOf]; omega
        · simp only [not_or, Bool.not_eq_false, Bool.not_eq_true] at hst
          obtain ⟨hi, hbd⟩ := hst
          rw [hi] at bx1
          rw [hbd] at bx3
          have HI := Lib.hid hi; have HBD := Lib.hid hbd
          clear hi hbd
          by_cases hce : b[k] = 125 ∧ S.esc = false
          · obtain ⟨hc5, he⟩ := hce
            have HFS := Lib.hid (show fs S b[k] = ⟨S.rest, true, true, false⟩ by unfold fs; rw [if_neg HC.out, if_neg (by rw [HI.out, HBD.out]; simp), if_pos ⟨hc5, he⟩])
            have hq5 : (b[k] == 125) = true := by rw [hc5]; rfl
            rw [he] at bx2
            clear hc5 he
            go_wp2
            go_roundw
            case rel =>
              refine ⟨k + 1, by omega, by go_num, M, .slice ar N cr, vl, rfl, rfl, HEND.out _ _ ?_⟩
              rw [HFS.out]
              refine HF.out.set rfl ?_ (fun k hk => heap_setCell_other _ _ _ _ (by simpa using hk)) (by simp) (HF.out.below.setCell (by simp) _)
              rw [heap_setCell_same _ _ _ _ 31 _ HBX.out, HI.out, HBD.out]; rfl
            case measure => simp [intOf]; omega
          · have HCE := Lib.hid hce
            by_cases hN8 : 8196 ≤ N
            · have HFS := Lib.hid (show fs S b[k] = ⟨[], true, false, true⟩ by unfold fs; rw [if_neg HC.out, if_neg (by rw [HI.out, HBD.out]; simp), if_neg HCE.out, if_pos (by rw [← HNS.out]; exact hN8)])
              have hN8' : (8196 : Int) ≤ (N : Int) := by omega
              clear hN8
              by_cases h5 : b[k] = 125
              · have hq5 : (b[k] == 125) = true := by rw [h5]; rfl
                have he : S.esc = true := by simpa [h5] using hce
                rw [he] at bx2
                have HES := Lib.hid he
                clear hce h5 he
                go_wp2_with (refine wpList_store_row rfl 31 (.tmp 4) (.tmp 62) rfl (w.heap.size + 1) #[.slice none 0 0, .bool true, .bool false, .bool true] rfl rfl 31 _ HBX.out size31 rfl all31 ?_)
                go_roundw
                case rel =>
                  refine ⟨k + 1, by omega, by go_num, M, .slice none 0 0, vl, rfl, rfl, HEND.out _ _ ?_⟩
                  rw [HFS.out]
                  exact HF.out.drop rfl (setRow_heap _ _ _ _ _ _ HBX.out) (fun k hk => setRow_other _ _ _ _ hk) (by simp) (bsetRow HF.out.below (by omega) _)
                case measure => simp [intOf]; omega
              · have hq5 : (b[k] == 125) = false := by simpa using h5
                clear hce h5
                go_wp2_with (refine wpList_store_row rfl 31 (.tmp 4) (.tmp 62) rfl (w.heap.size + 1) #[.slice none 0 0, .bool true, .bool false, .bool true] rfl rfl 31 _ HBX.out size31 rfl all31 ?_)
                go_roundw
                case rel =>
                  refine ⟨k + 1, by omega, by go_num, M, .slice none 0 0, vl, rfl, rfl, HEND.out _ _ ?_⟩
                  rw [HFS.out]
                  exact HF.out.drop rfl (setRow_heap _ _ _ _ _ _ HBX.out) (fun k hk => setRow_other _ _ _ _ hk) (by simp) (bsetRow HF.out.below (by omega) _)
                case measure => simp [intOf]; omega
            · have hN8' : ¬ (8196 : Int) ≤ (N : Int) := by omega
              have HFS := Lib.hid (show fs S b[k] = ⟨S.rest ++ [if S.esc then x32 b[k] else b[k]], true, false, false⟩ by unfold fs; rw [if_neg HC.out, if_neg (by rw [HI.out, HBD.out]; simp), if_neg HCE.out, if_neg (by rw [← HNS.out]; exact hN8)])
              have HA0 := Lib.hid (Apd.start (show wr.ownsRow (w.heap.size + 1 + 1) 5 1 (.slice ar N cr) S.rest.length (byteVals S.rest) from HF.out.own))
              have hN9 : N < 8196 := by omega
              clear hN8
              by_cases hes : S.esc = true
              · rw [hes] at bx2
                have HES := Lib.hid (show (if S.esc then x32 b[k] else b[k]) = x32 b[k] by rw [hes]; rfl)
                by_cases h5 : b[k] = 125
                · have hq5 : (b[k] == 125) = true := by rw [h5]; rfl
                  clear hce h5 hes
                  go_wp2_with (at_builtin; refine wp_put rfl rfl (.tmp 68) (.tmp 70) rfl _ _ _ [x32 b[k]] _ _ _ HA0.out rfl rfl rfl rfl (by have := HNS.out; simp; omega) (by omega) ?_; intro v2 wa hA2; obtain ⟨a2, c2, hv2⟩ := own_shape hA2.own; have hv3 : v2 = .slice a2 (S.rest.length + 1) c2 := (by rw [hv2, List.length_append]; rfl); clear hv2; subst hv3; have hBA := app_box HF.out hA2 HBX.out; have HBA := Lib.hid hBA; have HAP := Lib.hid hA2; have ya0 : wa.cell? ⟨w.heap.size + 1, 0, none⟩ = some (.slice ar N cr) := (by rw [cell_of_row wa _ 0 _ 31 (0, 0) hBA]; rfl); have ya2 : wa.cell? ⟨w.heap.size + 1, 2, none⟩ = some (.bool S.esc) := (by rw [cell_of_row wa _ 2 _ 31 (0, 0) hBA]; rfl); have yz : ∀ j, wa.frozen? ⟨w.heap.size + 1, j, none⟩ = false := (fun j => by simp [World.frozen?, hBA]); clear hA2 hBA bx0 bx1 bx2 bx3 fz)
                  go_roundw
                  case rel =>
                    refine ⟨k + 1, by omega, by go_num, M, .slice a2 (S.rest.length + 1) c2, vl, rfl, rfl, HEND.out _ _ ?_⟩
                    rw [HFS.out, HES.out]
                    refine HF.out.app HAP.out ?_ (fun k hk => (heap_setCell_other _ _ _ _ (by simpa using hk)).trans (heap_setCell_other _ _ _ _ (by simpa using hk))) (by simp) ((Below.setCell (Below.setCell (below_grown HF.out.below HAP.out.grown (fun g hg => by have := (own_lt HF.out.own hg).1; omega)) (by simp) _) (by simp) _))
                    have e1 := heap_setCell_same _ _ 0 _ 31 (Value.slice a2 (S.rest.length + 1) c2) HBA.out
                    have e2 := heap_setCell_same _ _ 2 _ 31 (Value.bool false) e1
                    rw [e2, HI.out, HBD.out]; rfl
                  case measure => simp [intOf]; omega
                · have hq5 : (b[k] == 125) = false := by simpa using h5
                  clear hce h5 hes
                  go_wp2_with (at_builtin; refine wp_put rfl rfl (.tmp 68) (.tmp 70) rfl _ _ _ [x32 b[k]] _ _ _ HA0.out rfl rfl rfl rfl (by have := HNS.out; simp; omega) (by omega) ?_; intro v2 wa hA2; obtain ⟨a2, c2, hv2⟩ := own_shape hA2.own; have hv3 : v2 = .slice a2 (S.rest.length + 1) c2 := (by rw [hv2, List.length_append]; rfl); clear hv2; subst hv3; have hBA := app_box HF.out hA2 HBX.out; have HBA := Lib.hid hBA; have HAP := Lib.hid hA2; have ya0 : wa.cell? ⟨w.heap.size + 1, 0, none⟩ = some (.slice ar N cr) := (by rw [cell_of_row wa _ 0 _ 31 (0, 0) hBA]; rfl); have ya2 : wa.cell? ⟨w.heap.size + 1, 2, none⟩ = some (.bool S.esc) := (by rw [cell_of_row wa _ 2 _ 31 (0, 0) hBA]; rfl); have yz : ∀ j, wa.frozen? ⟨w.heap.size + 1, j, none⟩ = false := (fun j => by simp [World.frozen?, hBA]); clear hA2 hBA bx0 bx1 bx2 bx3 fz)
                  go_roundw
                  case rel =>
                    refine ⟨k + 1, by omega, by go_num, M, .slice a2 (S.rest.length + 1) c2, vl, rfl, rfl, HEND.out _ _ ?_⟩
                    rw [HFS.out, HES.out]
                    refine HF.out.app HAP.out ?_ (fun k hk => (heap_setCell_other _ _ _ _ (by simpa using hk)).trans (heap_setCell_other _ _ _ _ (by simpa using hk))) (by simp) ((Below.setCell (Below.setCell (below_grown HF.out.below HAP.out.grown (fun g hg => by have := (own_lt HF.out.own hg).1; omega)) (by simp) _) (by simp) _))
                    have e1 := heap_setCell_same _ _ 0 _ 31 (Value.slice a2 (S.rest.length + 1) c2) HBA.out
                    have e2 := heap_setCell_same _ _ 2 _ 31 (Value.bool false) e1
                    rw [e2, HI.out, HBD.out]; rfl
                  case measure => simp [intOf]; omega
              · have hes' : S.esc = false := by simpa using hes
                rw [hes'] at bx2
                have HES := Lib.hid (show (if S.esc then x32 b[k] else b[k]) = b[k] by rw [hes']; rfl)
                have h5 : ¬ b[k] = 125 := fun e => hce ⟨e, hes'⟩
                have hq5 : (b[k] == 125) = false := by simpa using h5
                clear hce h5 hes hes'
                go_wp2_with (at_builtin; refine wp_put rfl rfl (.tmp 68) (.tmp 70) rfl _ _ _ [b[k]] _ _ _ HA0.out rfl rfl rfl rfl (by have := HNS.out; simp; omega) (by omega) ?_; intro v2 wa hA2; obtain ⟨a2, c2, hv2⟩ := own_shape hA2.own; have hv3 : v2 = .slice a2 (S.rest.length + 1) c2 := (by rw [hv2, List.length_append]; rfl); clear hv2; subst hv3; have hBA := app_box HF.out hA2 HBX.out; have HBA := Lib.hid hBA; have HAP := Lib.hid hA2; have ya0 : wa.cell? ⟨w.heap.size + 1, 0, none⟩ = some (.slice ar N cr) := (by rw [cell_of_row wa _ 0 _ 31 (0, 0) hBA]; rfl); have ya2 : wa.cell? ⟨w.heap.size + 1, 2, none⟩ = some (.bool S.esc) := (by rw [cell_of_row wa _ 2 _ 31 (0, 0) hBA]; rfl); have yz : ∀ j, wa.frozen? ⟨w.heap.size + 1, j, none⟩ = false := (fun j => by simp [World.frozen?, hBA]); clear hA2 hBA bx0 bx1 bx2 bx3 fz)
                go_roundw
                case rel =>
                    refine ⟨k + 1, by omega, by go_num, M, .slice a2 (S.rest.length + 1) c2, vl, rfl, rfl, HEND.out _ _ ?_⟩
                    rw [HFS.out, HES.out]
                    refine HF.out.app HAP.out ?_ (fun k hk => (heap_setCell_other _ _ _ _ (by simpa using hk)).trans (heap_setCell_other _ _ _ _ (by simpa using hk))) (by simp) ((Below.setCell (Below.setCell (below_grown HF.out.below HAP.out.grown (fun g hg => by have := (own_lt HF.out.own hg).1; omega)) (by simp) _) (by simp) _))
                    have e1 := heap_setCell_same _ _ 0 _ 31 (Value.slice a2 (S.rest.length + 1) c2) HBA.out
                    have e2 := heap_setCell_same _ _ 2 _ 31 (Value.bool false) e1
                    rw [e2, HI.out, HBD.out]; rfl
                case measure => simp [intOf]; omega
    · obtain rfl : k = L := by omega
      have hF := H.out.2
      have hM := H.out.1
      have hT : b.take k = b := by rw [HL.out, List.take_length]
      rw [hT] at hF hM
      clear H hT
      have hSrg := FS_rg HSR.out HBR.out
      have hNl0 := FS_len s b
      have HFE := Lib.hid (show FeedOf w (FS s b) (FL s b) (FB s b) = FeedOf w (FS s b) (FL s b) (FB s b) from rfl)
      clear HFE
      generalize FS s b = S at *
      generalize FL s b = LL at *
      generalize FB s b = MM at *
      subst hM
      have hNl : S.rest.length ≤ 140737488355328 := by have := HSL.out; omega
      have hBX := hF.box
      obtain ⟨ar, cr, hvr⟩ := own_shape hF.own
      subst hvr
      have HBX := Lib.hid hBX
      have HVS := Lib.hid (Bs.ofOwn hF.own hNl hSrg)
      have HF := Lib.hid hF
      clear hF hSrg hNl0 hNl hBX
      go_wp2_with (first | (refine wpList_load_row rfl 31 (.tmp 4) rfl (w.heap.size + 1) rfl 31 _ (0, 0) _ HBX.out Tryd.underlying31 rfl size31 ?_) | (refine wpList_store_row rfl 31 (.tmp 4) (.tmp 75) rfl (w.heap.size + 1) #[.slice ar S.rest.length cr, .bool S.inn, .bool S.esc, .bool S.bad] rfl rfl 31 _ HBX.out size31 rfl all31' ?_))
      rw [Exit.noGoto_ret]
      refine bodyPost_ret (results_c2 rfl _ _ (w.heap.size + 1) _ _ _ rfl rfl rfl (setRow_heap _ _ _ _ _ _ HBX.out) rfl) rfl ?_
      refine ⟨_, vl, rfl, bsetRow HF.out.below (by omega) _, ⟨ar, cr, rfl, HVS.out.kept (fun k hk => setRow_other _ _ _ _ (by have := hk.1; omega)) (fun k hk => ⟨by have := hk.1; omega, by simpa using hk.2.1⟩)⟩, ?_⟩
      obtain ⟨vals, h1, h2, h3⟩ := HF.out.lst
      refine ⟨vals, own_kept (owns_base h1 (by omega)) fun g hg => setRow_other _ _ _ _ (by have := (own_lt h1 hg).1; omega), h2, fun j v l hv hl => ?_⟩
      exact (h3 j v l hv hl).kept (fun k hk => setRow_other _ _ _ _ (by have := hk.1; omega)) (fun k hk => ⟨by have := hk.1; omega, by simpa using hk.2.1, by simp [Value.ownBlock], hk.2.2.2⟩)
end Go.Proofs.YtdmlnjgbfkkjdaaDoor
