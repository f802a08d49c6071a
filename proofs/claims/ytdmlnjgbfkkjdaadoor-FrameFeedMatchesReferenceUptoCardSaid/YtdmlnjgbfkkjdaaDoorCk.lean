/-
  Walks of the reference: Feed.
-/
import Derived.Test.YtdmlnjgbfkkjdaaDoorCj
namespace Go.Proofs.YtdmlnjgbfkkjdaaDoor
open Go.RowKit
set_option linter.unusedVariables false
set_option linter.unusedSimpArgs false

theorem recv_begun {s : St} (h : begun s = false) : recv s = false := by
  unfold begun at h
  unfold recv
  cases hi : s.inn
  · rfl
  · rw [hi] at h
    simp only [Bool.true_and, Bool.or_eq_false_iff, decide_eq_false_iff_not] at h
    unfold good
    rw [decide_eq_false (show ¬ 4 ≤ s.rest.length by omega)]
    simp
/-- A step of next, and the box written. -/
theorem FI.step {w0 w w2 : World} {B bs : Nat} {s s' : St} {L : List (List Int)} {vr vr' vl : Value} (h : FI w0 B bs s L vr vl w) (hp : Apd bs w vr w2 vr' s'.rest ∨ (s'.rest = [] ∧ vr' = .slice none 0 0 ∧ Below w.heap.size w w2)) :
    (∃ a n c, vr' = .slice a n c) ∧ w2.heap[B]? = some (.cells #[vr, .bool s.inn, .bool s.esc, .bool s.bad] 31 (0, 0)) ∧ (∀ k o, k < bs → w.heap[k]? = some o → w2.heap[k]? = some o) ∧ Below w0.heap.size w0 w2 ∧
      FI w0 B bs s' L vr' vl (w2.setRow B #[vr', .bool s'.inn, .bool s'.esc, .bool s'.bad]) := by
  have hb0 : w0.heap.size ≤ B := h.hB
  have hbs := h.hbs
  rcases hp with hp | ⟨h1, rfl, hb⟩
  · have hk : ∀ k o, k < bs → w.heap[k]? = some o → w2.heap[k]? = some o := fun k o hk ho => (hp.grown.block k (blt ho) (fun e => by have := (own_lt h.own e.symm).1; omega)).trans ho
    have hx := hk B _ hbs h.box
    have hbl : Below w0.heap.size w0 w2 := below_grown h.below hp.grown (fun g hg => by have := (own_lt h.own hg).1; omega)
    obtain ⟨a, c, e⟩ := own_shape hp.own
    exact ⟨⟨a, _, c, e⟩, hx, hk, hbl, h.app hp (setRow_heap _ _ _ _ _ _ hx) (fun k hk => setRow_other _ _ _ _ hk) (by simp) (bsetRow hbl hb0 _)⟩
  · have h2 := h.call hb
    exact ⟨⟨none, 0, 0, rfl⟩, h2.box, fun k o hk ho => bon ho hb, h2.below, h2.drop h1 (setRow_heap _ _ _ _ _ _ h2.box) (fun k hk => setRow_other _ _ _ _ hk) (by simp) (bsetRow h2.below hb0 _)⟩
def Z31 : Array Value := #[.slice none 0 0, .bool false, .bool false, .bool false]

set_option maxRecDepth 100000 in
set_option maxHeartbeats 8000000 in
theorem rfeed_any (s : St) (b : List Int) (vd vb : Value) (w : World) (hd : SV (fun k => k < w.heap.size) w vd s) (hb : Bs (fun k => k < w.heap.size) w vb b) (hsz : (b.length + 1) * 24 ≤ 140737488355328) :
    Calls Tryd.prog 16 #[vd, vb] w (FeedOf w (FS s b) (FL s b) (FB s b)) := by
  obtain ⟨ad, cd, rfl, hrest⟩ := hd
  obtain ⟨hbl, hbr, ab, cb, rfl, hbc, hbp⟩ := hb
  have hSR := hrest.2.1
  have HBP := Lib.hid (show 0 < b.length → ∃ g off, ab = some ⟨g, off, none⟩ ∧ g < w.heap.size ∧ ∀ (j : Nat) (u : Int), b[j]? = some u → w.cell? ⟨g, off + j, none⟩ = some (.int .u8 u) from hbp)
  have HBR := Lib.hid (show Rg8 b from hbr)
  have HSR := Lib.hid (show Rg8 s.rest from hSR)
  have HSZ := Lib.hid hsz
  have HSL := Lib.hid hrest.1
  clear hbp hbr hSR hsz
  obtain ⟨W0, hW0⟩ : ∃ W0, W0 = (w.alloc (.cells #[.slice ad s.rest.length cd, .bool s.inn, .bool s.esc, .bool s.bad] 31)).alloc (.cells Z31 31) := ⟨_, rfl⟩
  have hB0 : Below w.heap.size w W0 := by rw [hW0]; exact ball (ball (Below.refl _ _) _) _
  have hs0 : W0.heap.size = w.heap.size + 2 := by rw [hW0]; simp
  have hr0 : W0.heap[w.heap.size]? = some (.cells #[.slice ad s.rest.length cd, .bool s.inn, .bool s.esc, .bool s.bad] 31 (0, 0)) := by rw [hW0]; exact bold (bnew _ _)
  have hz0 : W0.heap[w.heap.size + 1]? = some (.cells Z31 31 (0, 0)) := by
    rw [hW0]
    have := bnew (w.alloc (.cells #[.slice ad s.rest.length cd, .bool s.inn, .bool s.esc, .bool s.bad] 31)) (.cells Z31 31)
    simpa using this
  have hmt := own_mt W0
  have hb1 : Below W0.heap.size W0 (W0.alloc (.cells #[] 5)) := ball (Below.refl _ _) _
  obtain ⟨v1, w1, hr1, h1⟩ := append_run _ W0.heap.size _ _ (.slice ad s.rest.length cd) [] s.rest 22 hmt ((hrest.on hB0).on hb1) (by simp; exact hrest.1) hb1.size
  rw [List.nil_append] at h1
  have hg1 : Below W0.heap.size W0 w1 := grown_below hb1 h1.grown hb1.size (fun g hg => by simp [Value.ownBlock] at hg; omega)
  obtain ⟨a1, c1, rfl⟩ := own_shape h1.own
  have hbx1 := bon hr0 hg1
  have hbz1 := bon hz0 hg1
  have hbx2 : (W0.alloc (.cells #[] 5)).heap[w.heap.size]? = _ := bold hr0
  have fz1 : ∀ j, w1.frozen? ⟨w.heap.size, j, none⟩ = false := fun j => by simp [World.frozen?, hbx1]
  have bx0 : w1.cell? ⟨w.heap.size, 0, none⟩ = some (.slice ad s.rest.length cd) := by rw [cell_of_row w1 _ 0 _ 31 (0, 0) hbx1]; rfl
  obtain ⟨W2, hW2⟩ : ∃ W2, W2 = w1.setCell ⟨w.heap.size, 0, none⟩ (.slice a1 s.rest.length c1) := ⟨_, rfl⟩
  have hB2 : Below w.heap.size w W2 := by rw [hW2]; exact (btrans hB0 hg1).setCell (by simp) _
  have hx2 : W2.heap[w.heap.size]? = some (.cells #[.slice a1 s.rest.length c1, .bool s.inn, .bool s.esc, .bool s.bad] 31 (0, 0)) := by rw [hW2, heap_setCell_same w1 _ 0 _ 31 _ hbx1]; rfl
  have hz2 : W2.heap[w.heap.size + 1]? = some (.cells Z31 31 (0, 0)) := by rw [hW2]; exact (heap_setCell_other _ _ _ _ (by simp)).trans hbz1
  have ho2 : W2.ownsRow (w.heap.size + 2) 5 1 (.slice a1 s.rest.length c1) s.rest.length (byteVals s.rest) := by
    rw [hW2]
    refine own_kept (owns_base h1.own (by omega)) fun g hg => ?_
    have := (own_lt h1.own hg).1
    exact heap_setCell_other _ _ _ _ (by simp; omega)
  have hW2s : w.heap.size + 2 ≤ W2.heap.size := by rw [hW2]; simp; have := hg1.size; omega
  have hFI : FI w w.heap.size (w.heap.size + 2) s [] (.slice a1 s.rest.length c1) (.slice (some ⟨W2.heap.size, 0, none⟩) 0 0) (W2.alloc (.cells #[] 22)) := by
    have hal := ball (Below.refl W2.heap.size W2) (.cells #[] 22)
    refine ⟨bon hx2 hal, own_kept ho2 fun g hg => hal.block g (own_lt ho2 hg).2, ⟨[], ?_, rfl, fun j v l hv hl => by simp at hv⟩, fun g hg e => ?_, btrans hB2 hal, Nat.le_refl _, by omega⟩
    · exact owns_base (World.ownsRow_made W2 #[] 0 (Nat.le_refl _) (by unfold maxLen; omega) (by simp)) hW2s
    · simp only [Value.ownBlock, Option.some.injEq] at e
      have := (own_lt ho2 hg).2
      omega
  have HFI := Lib.hid (And.intro hFI (show (W2.alloc (.cells #[] 22)).heap[w.heap.size + 1]? = some (.cells Z31 31 (0, 0)) from bold hz2))
  have HW0 := Lib.hid hW0; have HW2 := Lib.hid hW2; have HR1 := Lib.hid hr1
  have HS0 := Lib.hid hs0
  have hcl : (W0.alloc (.cells #[] 5)).cell? ⟨w.heap.size, 0, none⟩ = some (.slice ad s.rest.length cd) := by rw [cell_of_row _ _ 0 _ 31 (0, 0) hbx2]; rfl
  have HCL := Lib.hid hcl
  clear hrest hW0 hB0 hs0 hr0 hz0 hmt hb1 hr1 h1 hg1 hbx1 hbz1 hbx2 hW2 hB2 hx2 hz2 ho2 hW2s hFI hcl
  obtain ⟨n, hn⟩ : ∃ n, n = s.rest.length := ⟨_, rfl⟩
  rw [← hn] at HFI HW0 HW2 HR1 HCL bx0 ⊢
  obtain ⟨L, hL⟩ : ∃ L, L = b.length := ⟨_, rfl⟩
  rw [← hL] at hbl hbc HSZ ⊢
  have HN := Lib.hid hn; have HL := Lib.hid hL
  clear hn hL
  go_enter Tryd.func16, Tryd.ntmps16
  go_upto_region 2 with (fail)
  have hw : (w.alloc (.cells #[.slice ad n cd, .bool s.inn, .bool s.esc, .bool s.bad] 31)).alloc (.cells #[.slice none 0 0, .bool false, .bool false, .bool false] 31) = W0 := HW0.out.symm
  rw [hw, show w.heap.size + 1 + 1 = W0.heap.size from HS0.out.symm]
  have hcl := HCL.out
  clear hw HCL
  go_wp2_with (at_builtin; refine wp_app rfl rfl rfl (.tmp 14) (.tmp 16) rfl rfl rfl HR1.out ?_; clear hcl)
  rw [← HW2.out]
  have hsz2 : w1.heap.size = W2.heap.size := by rw [HW2.out]; simp
  rw [hsz2]
  have HX := Lib.hid hsz2
  clear bx0 fz1 HW2 HW0 HR1 HS0 hsz2
  go_loopw [8, 9, 10] (fun x8 bd i wr => ∃ k : Nat, k ≤ L ∧ i = .int .i64 k ∧ ∃ (M : Nat) (vr vl : Value), bd = .int .i64 (M : Nat) ∧ vl = x8 ∧ Hid (M = FB s (b.take k) ∧ FI w w.heap.size (w.heap.size + 2) (FS s (b.take k)) (FL s (b.take k)) vr vl wr ∧ wr.heap[w.heap.size + 1]? = some (.cells Z31 31 (0, 0)))) (fun _ _ i _ => L - (intOf i).toNat)
  case atStart => exact ⟨0, by omega, rfl, 0, .slice a1 n c1, _, rfl, rfl, Lib.hid ⟨rfl, HFI.out.1, HFI.out.2⟩⟩
  case round =>
    obtain ⟨k, hk, rfl, M, vr, vl, rfl, rfl, H⟩ := hrel
    by_cases hlt : k < L
    · have hkb : k < b.length := by rw [← HL.out]; exact hlt
      obtain ⟨g, off, rfl, hg, hcell⟩ := HBP.out (by omega)
      have hc := (H.out.2.1.below.cell (p := ⟨g, off + k, none⟩) hg).trans (hcell k b[k] (List.getElem?_eq_getElem hkb))
      have hu := HBR.out b[k] (List.getElem_mem _)
      have hFBn := FB_next s b k hkb
      have hFLn := FL_next s b k hkb
      have hFSn := FS_next s b k hkb
      have hSrg := FS_rg HSR.out (HBR.out.take k)
      have hMl : M ≤ L := by rw [H.out.1, HL.out]; exact Nat.le_trans (FB_le _ _) (by simp; omega)
      have hLl : (FL s (b.take k)).length ≤ L := by rw [HL.out]; exact Nat.le_trans (FL_le _ _) (by simp; omega)
      have hNl0 := FS_len s (b.take k)
      obtain ⟨S, hS⟩ : ∃ S, S = FS s (b.take k) := ⟨_, rfl⟩
      obtain ⟨LL, hLL⟩ : ∃ LL, LL = FL s (b.take k) := ⟨_, rfl⟩
      have hMM := H.out.1
      have hF := H.out.2.1
      have HZ := Lib.hid H.out.2.2
      rw [← hS] at hFBn hFLn hFSn hSrg hF hNl0
      rw [← hLL] at hFLn hLl hF
      rw [← hMM] at hFBn
      clear H hcell hMM hS hLL
      have hNl : S.rest.length ≤ 140737488355328 := by have := HSL.out; omega
      clear hNl0
      have HN2 := Lib.hid (show M + fb S b[k] = FB s (b.take (k + 1)) ∧ FL s (b.take (k + 1)) = LL ++ fl S b[k] ∧ FS s (b.take (k + 1)) = fs S b[k] from ⟨hFBn.symm, hFLn, hFSn⟩)
      clear hFBn hFLn hFSn
      obtain ⟨ar, cr, hvr⟩ := own_shape hF.own
      subst hvr
      have hbox := hF.box
      have hvS := Bs.ofOwn hF.own hNl hSrg
      obtain ⟨N, hN⟩ : ∃ N, N = S.rest.length := ⟨_, rfl⟩
      rw [← hN] at hbox hNl hF hvS
      have HNS := Lib.hid hN; clear hN
      have bx0 : wr.cell? ⟨w.heap.size, 0, none⟩ = some (.slice ar N cr) := by rw [cell_of_row wr _ 0 _ 31 (0, 0) hbox]; rfl
      have bx1 : wr.cell? ⟨w.heap.size, 1, none⟩ = some (.bool S.inn) := by rw [cell_of_row wr _ 1 _ 31 (0, 0) hbox]; rfl
      have bx2 : wr.cell? ⟨w.heap.size, 2, none⟩ = some (.bool S.esc) := by rw [cell_of_row wr _ 2 _ 31 (0, 0) hbox]; rfl
      have bx3 : wr.cell? ⟨w.heap.size, 3, none⟩ = some (.bool S.bad) := by rw [cell_of_row wr _ 3 _ 31 (0, 0) hbox]; rfl
      have HBX := Lib.hid hbox
      have HF := Lib.hid hF
      have HSG := Lib.hid hSrg
      have HVS := Lib.hid (show Bs (fun k => k < wr.heap.size) wr (.slice ar N cr) S.rest from hvS.kept (fun _ _ => rfl) (fun k hk => hk.2.1))
      have hwr := HF.out.lt
      have HW2z := Lib.hid (blt HZ.out)
      clear hbox hF hSrg hvS
      have HLl := Lib.hid hLl
      have HMl := Lib.hid hMl
      clear hLl hMl
      by_cases hc126 : b[k] = 126
      · have hq : (b[k] == 126) = true := by rw [hc126]; rfl
        have HC := Lib.hid hc126; clear hc126
        have hq' : (b[k] != 126) = false := by unfold bne; rw [hq]; rfl
        have HNO := Lib.hid (show begun S = false → fl S b[k] = [] ∧ fb S b[k] = 0 ∧ fs S b[k] = stF from fun h => by
          rw [HC.out]
          exact ⟨by unfold fl; rw [if_neg (fun e => by have := e.2; rw [recv_begun h] at this; cases this)], by unfold fb; rw [if_neg (fun e => by have := e.2.2; rw [h] at this; cases this)], fs_flag S⟩)
        have HYES := Lib.hid (show begun S = true → good S = true → fl S b[k] = [cont S] ∧ fb S b[k] = 0 ∧ fs S b[k] = stF from fun h h2 => by
          have hr : recv S = true := by unfold recv; rw [h2]; unfold begun at h; simp only [Bool.and_eq_true] at h; rw [h.1]; rfl
          rw [HC.out]
          exact ⟨by unfold fl; rw [if_pos ⟨rfl, hr⟩], by unfold fb; rw [if_neg (by rw [hr]; simp)], fs_flag S⟩)
        have HBAD := Lib.hid (show begun S = true → good S = false → fl S b[k] = [] ∧ fb S b[k] = 1 ∧ fs S b[k] = stF from fun h h2 => by
          have hr : recv S = false := by unfold recv; rw [h2]; simp
          rw [HC.out]
          exact ⟨by unfold fl; rw [if_neg (fun e => by have := e.2; rw [hr] at this; cases this)], by unfold fb; rw [if_pos ⟨rfl, hr, h⟩], fs_flag S⟩)
        have HBG := Lib.hid (show begun S = (S.inn && (decide (0 < N) || S.esc || S.bad)) by unfold begun; rw [HNS.out])
        obtain ⟨G, hGG⟩ : ∃ G, G = begun S := ⟨_, rfl⟩
        rw [← hGG] at HBG HNO HYES HBAD
        clear hGG
        go_upto_region 10 with (fail)
        go_cut [52] from 37 to 52 (fun c wx => c = .bool G ∧ wr = wx)
        case first =>
          cases hi : S.inn with
          | false =>
            have HE := Lib.hid (show false = G by rw [HBG.out, hi]; rfl)
            rw [hi] at bx1
            clear hi
            go_wp2
            go_meet
            exact ⟨congrArg Value.bool HE.out, rfl⟩
          | true =>
            rw [hi] at bx1
            by_cases h0 : 0 < N
            · have HE := Lib.hid (show true = G by rw [HBG.out, hi, decide_eq_true h0]; simp)
              have h0' : 0 < (N : Int) := by omega
              clear hi
              go_wp2
              go_meet
              exact ⟨congrArg Value.bool HE.out, rfl⟩
            · have h0d : decide (0 < (N : Int)) = false := decide_eq_false (by omega)
              have h0e : decide (0 < N) = false := decide_eq_false h0
              cases he : S.esc with
              | true =>
                have HE := Lib.hid (show true = G by rw [HBG.out, hi, he]; simp)
                rw [he] at bx2
                clear hi he h0
                go_wp2
                go_meet
                exact ⟨congrArg Value.bool HE.out, rfl⟩
              | false =>
                rw [he] at bx2
                cases hd : S.bad with
                | true =>
                  have HE := Lib.hid (show true = G by rw [HBG.out, hi, hd]; simp)
                  rw [hd] at bx3
                  clear hi he hd h0
                  go_wp2
                  go_meet
                  exact ⟨congrArg Value.bool HE.out, rfl⟩
                | false =>
                  have HE := Lib.hid (show false = G by rw [HBG.out, hi, he, hd, h0e]; rfl)
                  rw [hd] at bx3
                  clear hi he hd h0
                  go_wp2
                  go_meet
                  exact ⟨congrArg Value.bool HE.out, rfl⟩
        case rest =>
          obtain ⟨rfl, rfl⟩ := hcut
          clear bx0 bx1 bx2 bx3 HBG
          cases G with
          | false =>
            have HNO2 := Lib.hid (HNO.out rfl)
            clear HNO HYES HBAD
            go_wp2_with (refine wpList_store_row rfl 31 (.tmp 2) (.tmp 65) rfl w.heap.size #[.slice none 0 0, .bool true, .bool false, .bool false] rfl rfl 31 _ HBX.out size31 rfl all31 ?_)
            go_roundw
            case rel =>
              refine ⟨k + 1, by omega, by go_num, M, .slice none 0 0, vl, rfl, rfl, ?_⟩
              obtain ⟨n1, n2, n3⟩ := HN2.out
              obtain ⟨f1, f2, f3⟩ := HNO2.out
              refine ⟨by rw [← n1, f2, Nat.add_zero], ?_, (setRow_other _ _ _ _ (by omega)).trans HZ.out⟩
              rw [n2, n3, f1, f3, List.append_nil]
              exact HF.out.drop rfl (setRow_heap _ _ _ _ _ _ HBX.out) (fun k hk => setRow_other _ _ _ _ hk) (by simp) (bsetRow HF.out.below (by omega) _)
            case measure => simp [intOf]; omega
          | true =>
            have HYES2 := Lib.hid (HYES.out rfl)
            have HBAD2 := Lib.hid (HBAD.out rfl)
            clear HNO HYES HBAD
            cases hR : good S with
            | true =>
              have HR := Lib.hid hR; clear hR
              go_wp2_with (refine wpList_load_row rfl 31 (.tmp 2) rfl w.heap.size rfl 31 _ (0, 0) _ HBX.out Tryd.underlying31 rfl size31 ?_)
              refine (content_any S ar N cr _ HNS.out HVS.out).mono ?_
              rintro e w2 ⟨hb2, he⟩
              obtain ⟨h4, rfl⟩ : 4 ≤ N ∧ e = .returned (.tuple #[.slice ar (N - 4) cr, .bool true]) := by
                rcases he with ⟨_, h4, h⟩ | ⟨h, _⟩
                · exact ⟨h4, h⟩
                · rw [HR.out] at h; cases h
              have F2 := HF.out.call hb2
              obtain ⟨vals, hlv⟩ := F2.lst
              have hA0 : ApL (w.heap.size + 2) w2 vl w2 vl vals := ApL.start (by rw [hlv.2.1]; exact hlv.1)
              have HA0 := Lib.hid hA0; have HF2 := Lib.hid F2; have HLV := Lib.hid hlv
              have HZ2 := Lib.hid (bon HZ.out hb2)
              have HVL := Lib.hid (show (vals.length + 1) * 24 ≤ 140737488355328 by have h1 := hlv.2.1; have h2 := HLl.out; have h3 := HSZ.out; omega)
              have HB0 := Lib.hid (show w.heap.size + 2 ≤ w2.heap.size by have := blt HZ2.out; omega)
              clear hA0 F2 hlv he hb2
              go_wp2_with (first
                | (at_builtin; refine wp_putL rfl rfl (.tmp 59) (.tmp 61) rfl w2 vl vals (.slice ar (N - 4) cr) rfl _ _ HA0.out rfl rfl rfl HVL.out HB0.out ?_; intro vl' wa hap; have HAP := Lib.hid hap; have HBA := Lib.hid (show wa.heap[w.heap.size]? = some (.cells #[.slice ar N cr, .bool S.inn, .bool S.esc, .bool S.bad] 31 (0, 0)) from (hap.grown.block _ HF2.out.lt (fun e => by have := (own_lt HLV.out.1 e.symm).1; omega)).trans HF2.out.box); have HZ3 := Lib.hid ((hap.grown.block _ (blt HZ2.out) (fun e => by have := (own_lt HLV.out.1 e.symm).1; omega)).trans HZ2.out); clear hap)
                | (refine wpList_store_row rfl 31 (.tmp 2) (.tmp 65) rfl w.heap.size #[.slice none 0 0, .bool true, .bool false, .bool false] rfl rfl 31 _ HBA.out size31 rfl all31 ?_))
              go_roundw
              case rel =>
                refine ⟨k + 1, by omega, by go_num, M, .slice none 0 0, vl', rfl, rfl, ?_⟩
                obtain ⟨f1, f2, f3⟩ := HYES2.out HR.out
                obtain ⟨n1, n2, n3⟩ := HN2.out
                refine ⟨by rw [← n1, f2, Nat.add_zero], ?_, (setRow_other _ _ _ _ (by omega)).trans HZ3.out⟩
                rw [n2, n3, f1, f3]
                exact HF2.out.push HLV.out rfl HNS.out h4 HSG.out hNl HAP.out rfl (setRow_heap _ _ _ _ _ _ HBA.out) (fun k hk => setRow_other _ _ _ _ hk) (by simp)
                  (bsetRow (below_grown HF2.out.below HAP.out.grown (fun g hg => by have := (own_lt HLV.out.1 hg).1; omega)) (by omega) _)
              case measure => simp [intOf]; omega
            | false =>
              have HR := Lib.hid hR; clear hR
              have hM1 : ((M : Nat) : Int) + 1 ≤ 9223372036854775807 := by have := HMl.out; omega
              go_wp2_with (refine wpList_load_row rfl 31 (.tmp 2) rfl w.heap.size rfl 31 _ (0, 0) _ HBX.out Tryd.underlying31 rfl size31 ?_)
              refine (content_any S ar N cr _ HNS.out HVS.out).mono ?_
              rintro e w2 ⟨hb2, he⟩
              obtain rfl : e = .returned (.tuple #[.slice none 0 0, .bool false]) := by
                rcases he with ⟨h, _⟩ | ⟨_, h⟩
                · rw [HR.out] at h; cases h
                · exact h
              have HF2 := Lib.hid (HF.out.call hb2)
              have HBX2 := Lib.hid (bon HBX.out hb2)
              have HZ2 := Lib.hid (bon HZ.out hb2)
              clear he hb2
              go_wp2_with (refine wpList_store_row rfl 31 (.tmp 2) (.tmp 65) rfl w.heap.size #[.slice none 0 0, .bool true, .bool false, .bool false] rfl rfl 31 _ HBX2.out size31 rfl all31 ?_)
              go_roundw
              case rel =>
                refine ⟨k + 1, by omega, by go_num, M + 1, .slice none 0 0, vl, by go_num, rfl, ?_⟩
                obtain ⟨n1, n2, n3⟩ := HN2.out
                obtain ⟨f1, f2, f3⟩ := HBAD2.out HR.out
                refine ⟨by rw [← n1, f2], ?_, (setRow_other _ _ _ _ (by omega)).trans HZ2.out⟩
                rw [n2, n3, f1, f3, List.append_nil]
                exact HF2.out.drop rfl (setRow_heap _ _ _ _ _ _ HBX2.out) (fun k hk => setRow_other _ _ _ _ hk) (by simp) (bsetRow HF2.out.below (by omega) _)
              case measure => simp [intOf]; omega
      · have hq : (b[k] == 126) = false := by simpa using hc126
        have hno := Lib.hid (show fl S b[k] = [] ∧ fb S b[k] = 0 from ⟨fl_no hc126, fb_no hc126⟩)
        have HNX := Lib.hid (show ∀ wx, Below wr.heap.size wr wx → Calls Tryd.prog 28 #[.agg #[.slice ar N cr, .bool S.inn, .bool S.esc, .bool S.bad], .int .u8 b[k]] wx (NextOf (w.heap.size + 2) wx (.slice ar N cr) (fs S b[k])) from fun wx hx =>
          next_any S b[k] ar N cr (w.heap.size + 2) wx hu hc126 HNS.out hNl (by have := HW2z.out; have := hx.size; omega) (own_kept HF.out.own fun g hg => hx.block g (own_lt HF.out.own hg).2))
        clear hc126
        go_wp2
        go_still_tail 5, (by kernel_rfl)
        change wpList _ _ _ _ _ wr.drew
        go_wp2_with (first
          | (go_at_call 28; refine (HNX.out _ (Below.drew (Below.refl _ _))).mono ?_; rintro e w2 ⟨vr', rfl, hp⟩; obtain ⟨⟨a3, n3, c3, rfl⟩, hx2, hk2, hbl2, hF2⟩ := FI.step (HF.out.call (Below.drew (Below.refl _ _))) hp; have HX2 := Lib.hid hx2; have HF2 := Lib.hid hF2; have HZ2 := Lib.hid (hk2 _ _ (by omega) HZ.out); clear hp hx2 hk2 hbl2 hF2)
          | (refine wpList_store_row rfl 31 (.tmp 2) (.tmp 36) rfl w.heap.size #[.slice a3 n3 c3, .bool (fs S b[k]).inn, .bool (fs S b[k]).esc, .bool (fs S b[k]).bad] rfl rfl 31 _ HX2.out size31 rfl all31' ?_))
        go_roundw
        case rel =>
          refine ⟨k + 1, by omega, by go_num, M, .slice a3 n3 c3, vl, rfl, rfl, ?_⟩
          obtain ⟨n1, n2, n3⟩ := HN2.out
          refine ⟨by rw [← n1, hno.out.2, Nat.add_zero], ?_, (setRow_other _ _ _ _ (by omega)).trans HZ2.out⟩
          rw [n2, n3, hno.out.1, List.append_nil]
          exact HF2.out
        case measure => simp [intOf]; omega
    · obtain rfl : k = L := by omega
      have hF := H.out.2.1
      have hM := H.out.1
      have HZ := Lib.hid H.out.2.2
      have hT : b.take k = b := by rw [HL.out, List.take_length]
      rw [hT] at hF hM
      clear H hT
      have hSrg := FS_rg HSR.out HBR.out
      have hNl0 := FS_len s b
      generalize FS s b = S at *
      generalize FL s b = LL at *
      generalize FB s b = MM at *
      subst hM
      have hNl : S.rest.length ≤ 140737488355328 := by have := HSL.out; omega
      have hBX := hF.box
      obtain ⟨ar, cr, hvr⟩ := own_shape hF.own
      subst hvr
      have HBX := Lib.hid hBX
      have HVS := Lib.hid (Bs.ofOwn hF.own hNl hSrg)
      have HF := Lib.hid hF
      clear hF hSrg hNl0 hNl hBX
      have HZL := Lib.hid (show Z31.size = (#[.slice ar S.rest.length cr, .bool S.inn, .bool S.esc, .bool S.bad] : Array Value).size from rfl)
      go_wp2_with (first | (refine wpList_load_row rfl 31 (.tmp 2) rfl w.heap.size rfl 31 _ (0, 0) _ HBX.out Tryd.underlying31 rfl size31 ?_) | (refine wpList_store_row rfl 31 (.tmp 4) (.tmp 66) rfl (w.heap.size + 1) #[.slice ar S.rest.length cr, .bool S.inn, .bool S.esc, .bool S.bad] rfl rfl 31 _ HZ.out size31 HZL.out all31' ?_))
      refine bodyPost_ret (results_c2 rfl _ _ (w.heap.size + 1) _ _ _ rfl rfl rfl (setRow_heap _ _ _ _ _ _ HZ.out) rfl) rfl ?_
      refine ⟨_, vl, rfl, bsetRow HF.out.below (by omega) _, ⟨ar, cr, rfl, HVS.out.kept (fun k hk => setRow_other _ _ _ _ (by have := hk.1; omega)) (fun k hk => by simpa using hk.2.1)⟩, ?_⟩
      obtain ⟨vals, h1, h2, h3⟩ := HF.out.lst
      refine ⟨vals, own_kept (owns_base h1 (by omega)) fun g hg => setRow_other _ _ _ _ (by have := (own_lt h1 hg).1; omega), h2, fun j v l hv hl => ?_⟩
      exact (h3 j v l hv hl).kept (fun k hk => setRow_other _ _ _ _ (by have := hk.1; omega)) (fun k hk => ⟨by have := hk.1; omega, by simpa using hk.2.1, by simp [Value.ownBlock], hk.2.2.2⟩)
end Go.Proofs.YtdmlnjgbfkkjdaaDoor
