/-
  Walks of the laws: sane, the chapter's examples.
-/
import Derived.Test.YtdmlnjgbfkkjdaaDoorCl
import Derived.Lib.SlBytesConst
namespace Go.Proofs.YtdmlnjgbfkkjdaaDoor
open Go.RowKit
set_option linter.unusedVariables false
set_option linter.unusedSimpArgs false

def digits : List Int := [49, 50, 51, 52, 53, 54, 55, 56, 57]
theorem crc_nil : crcI [] = 0 := by decide +kernel
theorem crc_dig : crcI digits = 3421780262 := by decide +kernel
theorem frm_nil : frm [] = [126, 0, 0, 0, 0, 126] := by decide +kernel
theorem frm_dig : frm digits = [126, 49, 50, 51, 52, 53, 54, 55, 56, 57, 203, 244, 57, 38, 126] := by decide +kernel
theorem str_nil : strOfNums [126, 0, 0, 0, 0, 126] = ⟨#[126, 0, 0, 0, 0, 126]⟩ := by decide +kernel
theorem str_dig : strOfNums [126, 49, 50, 51, 52, 53, 54, 55, 56, 57, 203, 244, 57, 38, 126] = ⟨#[126, 49, 50, 51, 52, 53, 54, 55, 56, 57, 203, 244, 57, 38, 126]⟩ := by decide +kernel
/-- Constant bytes in a block of their own. -/
theorem lit_bs (w : World) (l : List Int) (n : Nat) (fr : Nat × Nat) (hn : n = l.length) (hr : Rg8 l) (hl : n ≤ 1000) : Bs (fun k => k < (w.alloc (.cells (byteVals l).toArray 5 fr)).heap.size) (w.alloc (.cells (byteVals l).toArray 5 fr)) (.slice (some ⟨w.heap.size, 0, none⟩) n n) l := by
  subst hn
  refine ⟨by omega, hr, _, l.length, rfl, Nat.le_refl _, fun _ => ⟨w.heap.size, 0, rfl, by simp, fun j u hj => ?_⟩⟩
  rw [cell_of_row _ _ (0 + j) _ 5 fr (heap_alloc_new w _)]
  simp [byteVals, hj]
theorem bs_nil (F : Nat → Prop) (w : World) : Bs F w (.slice none 0 0) [] := ⟨by simp, by simp, none, 0, rfl, by simp, by simp⟩
def Exm (b : List Int) (want : List (List Int)) (d : Nat) : Prop := Rg8 b ∧ b.length ≤ 1000 ∧ FS st0 b = stF ∧ FL st0 b = want ∧ FB st0 b = d
instance (b : List Int) : Decidable (Rg8 b) := inferInstanceAs (Decidable (∀ u ∈ b, 0 ≤ u ∧ u ≤ 255))
instance (b : List Int) (want : List (List Int)) (d : Nat) : Decidable (Exm b want d) := inferInstanceAs (Decidable (_ ∧ _ ∧ _ ∧ _ ∧ _))
theorem ex1 : Exm [126, 126, 0, 0, 0, 0, 126, 126] [[]] 0 := by decide +kernel
theorem ex2 : Exm [0, 0, 0, 0, 126] [] 0 := by decide +kernel
theorem ex3 : Exm [126, 125, 32, 0, 0, 0, 126] [[]] 0 := by decide +kernel
theorem ex4 : Exm [126, 1, 2, 126] [] 1 := by decide +kernel
theorem ex5 : Exm [126, 0, 0, 0, 125, 126] [] 1 := by decide +kernel
theorem ex6 : Exm [126, 0, 0, 0, 1, 126] [] 1 := by decide +kernel

def SK (w : World) (a b : Option Addr) (W : World) : Prop := Below w.heap.size w W ∧ Ls (fun k => k < W.heap.size) W (.slice a 0 0) [] ∧ Ls (fun k => k < W.heap.size) W (.slice b 1 1) [[]]
theorem SK.on {w W V : World} {a b : Option Addr} (h : SK w a b W) (hb : Below W.heap.size W V) : SK w a b V := ⟨btrans h.1 hb, h.2.1.on hb, h.2.2.on hb⟩
set_option maxRecDepth 100000 in
set_option maxHeartbeats 4000000 in
theorem sane_true (w : World) (hk : KOk w) : Calls Tryd.prog 10 #[] w fun e w' => e = .returned (.bool true) ∧ Below w.heap.size w w' := by
  obtain ⟨W1, hW1⟩ : ∃ W1, W1 = w.alloc (.cells (byteVals digits).toArray 5 (9, 10)) := ⟨_, rfl⟩
  have HB1 := Lib.hid (show Below w.heap.size w W1 by rw [hW1]; exact ball (Below.refl _ _) _)
  have HD1 := Lib.hid (show Bs (fun k => k < W1.heap.size) W1 (.slice (some ⟨w.heap.size, 0, none⟩) 9 9) digits by rw [hW1]; exact lit_bs w digits 9 (9, 10) rfl (by decide) (by omega))
  have HW1 := Lib.hid (show w.alloc (.cells #[.int .u8 49, .int .u8 50, .int .u8 51, .int .u8 52, .int .u8 53, .int .u8 54, .int .u8 55, .int .u8 56, .int .u8 57] 5 (9, 10)) = W1 from hW1.symm)
  have HK := Lib.hid hk
  clear hW1 hk
  have kc := fun (w : World) (C : Array Value) (n c : Nat) => Lib.run_convert_bytes_const (P := Tryd.prog) w 22 5 C n c Tryd.underlying22 Tryd.underlying5
  go_enter Tryd.func10, Tryd.ntmps10
  go_wp2_with fail
  rw [HW1.out]
  refine (make_any [] _ W1 (HK.out.below HB1.out) (bs_nil _ _) (by simp)).mono ?_
  rintro e w2 ⟨v2, rfl, hb2, ho2⟩
  rw [frm_nil] at ho2
  have HB2 := Lib.hid (btrans HB1.out hb2)
  have HV2 := Lib.hid (show Bs (fun k => k < w2.heap.size) w2 v2 [126, 0, 0, 0, 0, 126] from Bs.own ho2 (by simp) (by decide))
  have HD2 := Lib.hid (HD1.out.on hb2)
  clear hb2 ho2 HD1 HW1
  go_wp2_with fail
  refine (make_any digits _ w2 (HK.out.below HB2.out) HD2.out (by decide)).mono ?_
  rintro e w3 ⟨v3, rfl, hb3, ho3⟩
  rw [frm_dig] at ho3
  have HB3 := Lib.hid (btrans HB2.out hb3)
  have HV3 := Lib.hid (show Bs (fun k => k < w3.heap.size) w3 v3 [126, 49, 50, 51, 52, 53, 54, 55, 56, 57, 203, 244, 57, 38, 126] from Bs.own ho3 (by simp) (by decide))
  have HD3 := Lib.hid (HD2.out.on hb3)
  have hcv2 := conv_str (HV2.out.on hb3)
  have hcv3 := conv_str HV3.out
  rw [str_nil] at hcv2
  rw [str_dig] at hcv3
  clear hb3 ho3 HD2 HV2 HV3
  go_wp2_with fail
  obtain ⟨W4, hW4⟩ : ∃ W4, ((w3.alloc (.cells #[] 22)).alloc (.cells #[] 5)).alloc (.cells #[.slice (some ⟨w3.heap.size + 1, 0, none⟩) 0 0] 22) = W4 := ⟨_, rfl⟩
  rw [hW4]
  have hb4 : Below w3.heap.size w3 W4 := by rw [← hW4]; exact ball (ball (ball (Below.refl _ _) _) _) _
  have hg4 : W4.heap[w3.heap.size + 1 + 1]? = some (.cells #[.slice (some ⟨w3.heap.size + 1, 0, none⟩) 0 0] 22 (0, 0)) := by
    rw [← hW4]
    have := bnew ((w3.alloc (.cells #[] 22)).alloc (.cells #[] 5)) (.cells #[.slice (some ⟨w3.heap.size + 1, 0, none⟩) 0 0] 22)
    simpa using this
  have HSK := Lib.hid (show SK w (some ⟨w3.heap.size, 0, none⟩) (some ⟨w3.heap.size + 1 + 1, 0, none⟩) W4 from ⟨btrans HB3.out hb4, Ls.nil _ _ _ _, by
    refine ⟨by simp, _, 1, rfl, by simp, fun _ => ⟨_, 0, rfl, blt hg4, fun j p hj => ?_⟩⟩
    have hj0 : j = 0 := by have := (List.getElem?_eq_some_iff.1 hj).1; simp at this; omega
    subst hj0
    simp at hj
    subst hj
    exact ⟨_, by rw [cell_of_row _ _ (0 + 0) _ 22 (0, 0) hg4]; rfl, ⟨by simp, by simp, _, 0, rfl, by simp, by simp⟩⟩⟩)
  have HD4 := Lib.hid (HD3.out.on hb4)
  clear hb4 hg4 hW4 HB3 HD3 hcv2 hcv3
  refine (crc_any [] _ W4 (HK.out.below HSK.out.1) (bs_nil _ _)).mono ?_
  rintro e w4 ⟨rfl, rfl⟩
  rw [crc_nil]
  go_wp2_with fail
  refine (crc_any digits _ W4 (HK.out.below HSK.out.1) HD4.out).mono ?_
  rintro e w4 ⟨rfl, rfl⟩
  rw [crc_dig]
  clear HD4
  go_wp2_with fail
  obtain ⟨V0, hV0⟩ : ∃ V, W4.alloc (.cells #[.int .u8 126, .int .u8 126, .int .u8 0, .int .u8 0, .int .u8 0, .int .u8 0, .int .u8 126, .int .u8 126] 5 (8, 9)) = V := ⟨_, rfl⟩
  have hbv0 : Below W4.heap.size W4 V0 := by rw [← hV0]; exact ball (Below.refl _ _) _
  have hlv0 : Bs (fun k => k < V0.heap.size) V0 (.slice (some ⟨W4.heap.size, 0, none⟩) 8 8) [126, 126, 0, 0, 0, 0, 126, 126] := by rw [← hV0]; exact lit_bs W4 [126, 126, 0, 0, 0, 0, 126, 126] 8 (8, 9) rfl (by decide) (by omega)
  have HV0 := Lib.hid (HSK.out.on hbv0)
  clear HSK hbv0
  rw [hV0]
  clear hV0
  refine (receives_any [126, 126, 0, 0, 0, 0, 126, 126] _ 0 _ _ V0 (HK.out.below HV0.out.1) hlv0 HV0.out.2.2 (by simp) ex1.2.2.1 ex1.2.2.2.1 ex1.2.2.2.2).mono ?_
  rintro e X0 ⟨rfl, hbx0⟩
  have HSK := Lib.hid (HV0.out.on hbx0)
  clear HV0 hbx0 hlv0
  go_wp2_with fail
  obtain ⟨V1, hV1⟩ : ∃ V, X0.alloc (.cells #[.int .u8 0, .int .u8 0, .int .u8 0, .int .u8 0, .int .u8 126] 5 (5, 6)) = V := ⟨_, rfl⟩
  have hbv1 : Below X0.heap.size X0 V1 := by rw [← hV1]; exact ball (Below.refl _ _) _
  have hlv1 : Bs (fun k => k < V1.heap.size) V1 (.slice (some ⟨X0.heap.size, 0, none⟩) 5 5) [0, 0, 0, 0, 126] := by rw [← hV1]; exact lit_bs X0 [0, 0, 0, 0, 126] 5 (5, 6) rfl (by decide) (by omega)
  have HV1 := Lib.hid (HSK.out.on hbv1)
  clear HSK hbv1
  rw [hV1]
  clear hV1
  refine (receives_any [0, 0, 0, 0, 126] _ 0 _ _ V1 (HK.out.below HV1.out.1) hlv1 HV1.out.2.1 (by simp) ex2.2.2.1 ex2.2.2.2.1 ex2.2.2.2.2).mono ?_
  rintro e X1 ⟨rfl, hbx1⟩
  have HSK := Lib.hid (HV1.out.on hbx1)
  clear HV1 hbx1 hlv1
  go_wp2_with fail
  obtain ⟨V2, hV2⟩ : ∃ V, X1.alloc (.cells #[.int .u8 126, .int .u8 125, .int .u8 32, .int .u8 0, .int .u8 0, .int .u8 0, .int .u8 126] 5 (7, 8)) = V := ⟨_, rfl⟩
  have hbv2 : Below X1.heap.size X1 V2 := by rw [← hV2]; exact ball (Below.refl _ _) _
  have hlv2 : Bs (fun k => k < V2.heap.size) V2 (.slice (some ⟨X1.heap.size, 0, none⟩) 7 7) [126, 125, 32, 0, 0, 0, 126] := by rw [← hV2]; exact lit_bs X1 [126, 125, 32, 0, 0, 0, 126] 7 (7, 8) rfl (by decide) (by omega)
  have HV2 := Lib.hid (HSK.out.on hbv2)
  clear HSK hbv2
  rw [hV2]
  clear hV2
  refine (receives_any [126, 125, 32, 0, 0, 0, 126] _ 0 _ _ V2 (HK.out.below HV2.out.1) hlv2 HV2.out.2.2 (by simp) ex3.2.2.1 ex3.2.2.2.1 ex3.2.2.2.2).mono ?_
  rintro e X2 ⟨rfl, hbx2⟩
  have HSK := Lib.hid (HV2.out.on hbx2)
  clear HV2 hbx2 hlv2
  go_wp2_with fail
  obtain ⟨V3, hV3⟩ : ∃ V, X2.alloc (.cells #[.int .u8 126, .int .u8 1, .int .u8 2, .int .u8 126] 5 (4, 5)) = V := ⟨_, rfl⟩
  have hbv3 : Below X2.heap.size X2 V3 := by rw [← hV3]; exact ball (Below.refl _ _) _
  have hlv3 : Bs (fun k => k < V3.heap.size) V3 (.slice (some ⟨X2.heap.size, 0, none⟩) 4 4) [126, 1, 2, 126] := by rw [← hV3]; exact lit_bs X2 [126, 1, 2, 126] 4 (4, 5) rfl (by decide) (by omega)
  have HV3 := Lib.hid (HSK.out.on hbv3)
  clear HSK hbv3
  rw [hV3]
  clear hV3
  refine (receives_any [126, 1, 2, 126] _ 1 _ _ V3 (HK.out.below HV3.out.1) hlv3 HV3.out.2.1 (by simp) ex4.2.2.1 ex4.2.2.2.1 ex4.2.2.2.2).mono ?_
  rintro e X3 ⟨rfl, hbx3⟩
  have HSK := Lib.hid (HV3.out.on hbx3)
  clear HV3 hbx3 hlv3
  go_wp2_with fail
  obtain ⟨V4, hV4⟩ : ∃ V, X3.alloc (.cells #[.int .u8 126, .int .u8 0, .int .u8 0, .int .u8 0, .int .u8 125, .int .u8 126] 5 (6, 7)) = V := ⟨_, rfl⟩
  have hbv4 : Below X3.heap.size X3 V4 := by rw [← hV4]; exact ball (Below.refl _ _) _
  have hlv4 : Bs (fun k => k < V4.heap.size) V4 (.slice (some ⟨X3.heap.size, 0, none⟩) 6 6) [126, 0, 0, 0, 125, 126] := by rw [← hV4]; exact lit_bs X3 [126, 0, 0, 0, 125, 126] 6 (6, 7) rfl (by decide) (by omega)
  have HV4 := Lib.hid (HSK.out.on hbv4)
  clear HSK hbv4
  rw [hV4]
  clear hV4
  refine (receives_any [126, 0, 0, 0, 125, 126] _ 1 _ _ V4 (HK.out.below HV4.out.1) hlv4 HV4.out.2.1 (by simp) ex5.2.2.1 ex5.2.2.2.1 ex5.2.2.2.2).mono ?_
  rintro e X4 ⟨rfl, hbx4⟩
  have HSK := Lib.hid (HV4.out.on hbx4)
  clear HV4 hbx4 hlv4
  go_wp2_with fail
  obtain ⟨V5, hV5⟩ : ∃ V, X4.alloc (.cells #[.int .u8 126, .int .u8 0, .int .u8 0, .int .u8 0, .int .u8 1, .int .u8 126] 5 (6, 7)) = V := ⟨_, rfl⟩
  have hbv5 : Below X4.heap.size X4 V5 := by rw [← hV5]; exact ball (Below.refl _ _) _
  have hlv5 : Bs (fun k => k < V5.heap.size) V5 (.slice (some ⟨X4.heap.size, 0, none⟩) 6 6) [126, 0, 0, 0, 1, 126] := by rw [← hV5]; exact lit_bs X4 [126, 0, 0, 0, 1, 126] 6 (6, 7) rfl (by decide) (by omega)
  have HV5 := Lib.hid (HSK.out.on hbv5)
  clear HSK hbv5
  rw [hV5]
  clear hV5
  refine (receives_any [126, 0, 0, 0, 1, 126] _ 1 _ _ V5 (HK.out.below HV5.out.1) hlv5 HV5.out.2.1 (by simp) ex6.2.2.1 ex6.2.2.2.1 ex6.2.2.2.2).mono ?_
  rintro e X5 ⟨rfl, hbx5⟩
  have HSK := Lib.hid (HV5.out.on hbx5)
  clear HV5 hbx5 hlv5
  go_wp2
  go_ret
  exact ⟨rfl, HSK.out.1⟩
end Go.Proofs.YtdmlnjgbfkkjdaaDoor
