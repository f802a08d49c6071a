/-
  Walks: Pad, Parent.
-/
import Derived.Test.YthmpeeipbclhkaaDoorHa
import Derived.Test.YthmpeeipbclhkaaDoorTm
import Derived.StillTailTactics
import Derived.Deep.MidRow
namespace Go.Proofs.YthmpeeipbclhkaaDoor
open Go.RowKit

/-- A digest: 32 bytes. -/
def Dg (x : List Int) : Prop := x.length = 32 ∧ ∀ u ∈ x, 0 ≤ u ∧ u ≤ 255
def padS : ByteArray := ⟨#[112, 97, 100]⟩
def nodeS : ByteArray := ⟨#[110, 111, 100, 101]⟩
/-- The digest of padding. -/
def pdd : List Int := sha (hmsg (strB padS) [])
/-- The digest of a node with two children. -/
def prt (a b : List Int) : List Int := sha (hmsg (strB nodeS) (a ++ b))
theorem sha_dg (b : List Int) : Dg (sha b) := by
  constructor
  · simp [sha, bytesOf]
  · intro u hu
    unfold sha bytesOf at hu
    obtain ⟨i, _, rfl⟩ := List.mem_map.1 hu
    unfold byteOf
    omega
theorem pdd_dg : Dg pdd := sha_dg _
theorem prt_dg (a b : List Int) : Dg (prt a b) := sha_dg _

theorem bs_nil (w : World) : Bs (fun k => k < w.heap.size) w (.slice none 0 0) [] := ⟨by simp, by simp, none, 0, rfl, by simp, by simp⟩

theorem SumS.new (w : World) (cs : Array Value) (h : cs = (byteVals (List.replicate 32 0)).toArray) : SumS w (w.alloc (.cells cs 26)) :=
  ⟨ball (Below.refl _ _) _, by simp, List.replicate 32 0, by simp, RowB.new' _ rfl h⟩

set_option maxRecDepth 100000 in
set_option maxHeartbeats 1000000 in
/-- Pad's contract. -/
theorem pad_any (w : World) (hk : KOk w) : Calls Tryd.prog 20 #[] w fun e w' => e = .returned (.agg (byteVals pdd).toArray) ∧ Below w.heap.size w w' := by
  obtain ⟨D, hD⟩ : ∃ D, D = pdd := ⟨_, rfl⟩
  rw [← hD]
  have hDl : D.length = 32 := by rw [hD]; exact pdd_dg.1
  have ht : ∀ w', Below w.heap.size w w' → Calls Tryd.prog 32 #[.string padS, .slice none 0 0] w' fun e w'' => e = .returned (.agg (byteVals D).toArray) ∧ Below w'.heap.size w' w'' := by
    intro w' hb
    have := tagged_any padS [] _ w' (hk.below hb) (bs_nil w') (by decide) (by simp)
    rw [show sha (hmsg (strB padS) []) = D from hD.symm] at this
    exact this
  have HT := Lib.hid ht
  clear ht hD hk
  go_enter Tryd.func20, Tryd.ntmps20
  go_wp2_with (first | (go_at_call 32; refine (HT.out _ (SumS.new w _ rfl).below).mono ?_; rintro e w3 ⟨rfl, hb3⟩; obtain ⟨l, hl, hrl⟩ := ((SumS.new w _ rfl).call hb3).row; have Hbf := Lib.hid ((SumS.new w _ rfl).call hb3).below; clear hb3) | (refine wpList_store_row rfl 26 (.tmp 0) (.tmp 1) rfl w.heap.size _ rfl rfl 26 _ hrl (size25 _ hDl) (by rw [List.size_toArray, List.size_toArray, bv_length, bv_length]; omega) (all_byteVals _) ?_))
  refine bodyPost_ret (results_cell_row rfl _ _ w.heap.size 26 _ (0, 0) _ rfl (RowB.put hrl) Tryd.underlying26 rfl (size25 _ hDl)) rfl ?_
  exact ⟨rfl, bsetRow Hbf.out (Nat.le_refl _) _⟩

/-- Two digests joined. -/
theorem cat2 (W : World) (a b : List Int) (A B : Nat) (hA : RowB W A 26 a) (hB : RowB W B 26 b) (ha : Dg a) (hb : Dg b) :
    Calls Tryd.prog 41 #[.slice (some ⟨W.heap.size, 0, none⟩) 2 2] (W.alloc (.cells #[.slice (some ⟨A, 0, none⟩) 32 32, .slice (some ⟨B, 0, none⟩) 32 32] 48)) fun e w' => ∃ u, e = .returned u ∧ Below (W.alloc (.cells #[.slice (some ⟨A, 0, none⟩) 32 32, .slice (some ⟨B, 0, none⟩) 32 32] 48)).heap.size (W.alloc (.cells #[.slice (some ⟨A, 0, none⟩) 32 32, .slice (some ⟨B, 0, none⟩) 32 32] 48)) w' ∧ Bs (fun k => k < w'.heap.size) w' u (a ++ b) := by
  obtain ⟨us, hus⟩ : ∃ us : List Value, us = [.slice (some ⟨A, 0, none⟩) 32 32, .slice (some ⟨B, 0, none⟩) 32 32] := ⟨_, rfl⟩
  have row : ∀ (B : Nat) (d : List Int), RowB W B 26 d → Dg d → Bs (fun k => k < (W.alloc (.cells us.toArray 48)).heap.size) (W.alloc (.cells us.toArray 48)) (.slice (some ⟨B, 0, none⟩) 32 32) d := by
    intro B d hB hd
    have hBl : B < W.heap.size := (Array.getElem?_eq_some_iff.1 hB).1
    have := (Bs.ofRow (F := fun k => k < W.heap.size) hB hBl hd.2 32 32 (by have := hd.1; omega) (by decide) (by decide)).up2 (w' := W.alloc (.cells us.toArray 48)) (fun k hk => heap_alloc_old W _ hk) (by simp)
    rw [List.take_of_length_le (by have := hd.1; omega)] at this
    exact this
  have hP : Parts (W.alloc (.cells us.toArray 48)) (.slice (some ⟨W.heap.size, 0, none⟩) 2 2) [a, b] := by
    refine Parts.mk (t := 48) us [a, b] 2 (heap_alloc_new W _) (by rw [hus]; rfl) (by simp) (by simp) ?_
    intro j u p hu hp
    rw [hus] at hu
    match j, hu, hp with
    | 0, hu, hp => simp at hu hp; subst hu hp; exact row _ _ hA ha
    | 1, hu, hp => simp at hu hp; subst hu hp; exact row _ _ hB hb
    | j + 2, hu, _ => simp at hu
  have hf : [a, b].flatten = a ++ b := by simp
  have hc := concat_any _ _ _ hP (by unfold total; rw [hf]; have := ha.1; have := hb.1; simp; omega)
  rw [hf] at hc
  rw [hus] at hc
  refine hc.mono ?_
  rintro e w' ⟨u, rfl, hb2, ho⟩
  refine ⟨u, rfl, hb2, Bs.kept (Bs.ofOwn ho (by have := ha.1; have := hb.1; simp; omega) ?_) (fun _ _ => rfl) (fun k hk => hk.2.1)⟩
  intro u hu
  rcases List.mem_append.1 hu with hu | hu
  · exact ha.2 u hu
  · exact hb.2 u hu

set_option maxRecDepth 100000 in
set_option maxHeartbeats 1000000 in
/-- Parent's contract. -/
theorem parent_any (a b : List Int) (w : World) (hk : KOk w) (ha : Dg a) (hb : Dg b) : Calls Tryd.prog 22 #[.agg (byteVals a).toArray, .agg (byteVals b).toArray] w fun e w' => e = .returned (.agg (byteVals (prt a b)).toArray) ∧ Below w.heap.size w w' := by
  obtain ⟨D, hD⟩ : ∃ D, D = prt a b := ⟨_, rfl⟩
  rw [← hD]
  have hDl : D.length = 32 := by rw [hD]; exact (prt_dg a b).1
  have hbA : Below w.heap.size w ((w.alloc (.cells (byteVals a).toArray 26)).alloc (.cells (byteVals b).toArray 26)) := ball (ball (Below.refl _ _) _) _
  have hrA : RowB ((w.alloc (.cells (byteVals a).toArray 26)).alloc (.cells (byteVals b).toArray 26)) w.heap.size 26 a := (RowB.new w 26 a).kept (heap_alloc_old _ _ (by simp))
  have hrB : RowB ((w.alloc (.cells (byteVals a).toArray 26)).alloc (.cells (byteVals b).toArray 26)) (w.heap.size + 1) 26 b := RowB.new' _ (by simp) rfl
  have hsA : ((w.alloc (.cells (byteVals a).toArray 26)).alloc (.cells (byteVals b).toArray 26)).heap.size = w.heap.size + 2 := by simp
  have hal := bv_length a
  have hbl := bv_length b
  rw [ha.1] at hal; rw [hb.1] at hbl
  have Hk := Lib.hid hk; have Ha := Lib.hid ha; have Hb := Lib.hid hb; have HD := Lib.hid hD
  clear hk ha hb hD
  go_enter Tryd.func22, Tryd.ntmps22
  go_wp2_with fail
  have hS : SumS ((w.alloc (.cells (byteVals a).toArray 26)).alloc (.cells (byteVals b).toArray 26)) (((w.alloc (.cells (byteVals a).toArray 26)).alloc (.cells (byteVals b).toArray 26)).alloc (.cells #[.int .u8 0, .int .u8 0, .int .u8 0, .int .u8 0, .int .u8 0, .int .u8 0, .int .u8 0, .int .u8 0, .int .u8 0, .int .u8 0, .int .u8 0, .int .u8 0, .int .u8 0, .int .u8 0, .int .u8 0, .int .u8 0, .int .u8 0, .int .u8 0, .int .u8 0, .int .u8 0, .int .u8 0, .int .u8 0, .int .u8 0, .int .u8 0, .int .u8 0, .int .u8 0, .int .u8 0, .int .u8 0, .int .u8 0, .int .u8 0, .int .u8 0, .int .u8 0] 26)) := SumS.new _ _ rfl
  have hrA2 := hrA.kept (hS.below.block w.heap.size (by omega))
  have hrB2 := hrB.kept (hS.below.block (w.heap.size + 1) (by omega))
  generalize (((w.alloc (.cells (byteVals a).toArray 26)).alloc (.cells (byteVals b).toArray 26)).alloc (.cells #[.int .u8 0, .int .u8 0, .int .u8 0, .int .u8 0, .int .u8 0, .int .u8 0, .int .u8 0, .int .u8 0, .int .u8 0, .int .u8 0, .int .u8 0, .int .u8 0, .int .u8 0, .int .u8 0, .int .u8 0, .int .u8 0, .int .u8 0, .int .u8 0, .int .u8 0, .int .u8 0, .int .u8 0, .int .u8 0, .int .u8 0, .int .u8 0, .int .u8 0, .int .u8 0, .int .u8 0, .int .u8 0, .int .u8 0, .int .u8 0, .int .u8 0, .int .u8 0] 26)) = W at *
  generalize ((w.alloc (.cells (byteVals a).toArray 26)).alloc (.cells (byteVals b).toArray 26)) = X at *
  refine wp_region_still_tail 2 (by kernel_rfl) (by kernel_rfl) ?_
  simp only [List.take_succ_cons, List.take_zero, List.drop_succ_cons, List.drop_zero]
  still_step
  still_step
  refine wpStill_nil ?_
  change wpList _ _ _ _ _ W.drew
  have hS2 : SumS X W.drew := hS.drew
  have hrA3 : RowB W.drew w.heap.size 26 a := hrA2
  have hrB3 : RowB W.drew (w.heap.size + 1) 26 b := hrB2
  generalize W.drew = V at *
  have hc := cat2 V a b _ _ hrA3 hrB3 Ha.out Hb.out
  have hj : Calls Tryd.prog 41 #[.slice (some ⟨V.heap.size, 0, none⟩) 2 2] (V.alloc (.cells #[.slice (some ⟨w.heap.size, 0, none⟩) 32 32, .slice (some ⟨w.heap.size + 1, 0, none⟩) 32 32] 48)) fun e w' => ∃ u, e = .returned u ∧ SumS X w' ∧ Bs (fun k => k < w'.heap.size) w' u (a ++ b) := by
    refine hc.mono ?_
    rintro e w' ⟨u, rfl, h1, h2⟩
    exact ⟨u, rfl, (hS2.alloc _).call h1, h2⟩
  have ht : ∀ w' u, SumS X w' → Bs (fun k => k < w'.heap.size) w' u (a ++ b) → Calls Tryd.prog 32 #[.string nodeS, u] w' fun e w'' => e = .returned (.agg (byteVals D).toArray) ∧ Below w'.heap.size w' w'' := by
    intro w' u hS hu
    have := tagged_any nodeS (a ++ b) u w' (Hk.out.below (hbA.trans (hS.below.mono (by omega)))) hu (by decide) (by have := Ha.out.1; have := Hb.out.1; simp; omega)
    rw [show sha (hmsg (strB nodeS) (a ++ b)) = D from HD.out.symm] at this
    exact this
  have Hj := Lib.hid hj; have Ht := Lib.hid ht; have Hbw := Lib.hid hbA
  clear hj ht hc hrA3 hrB3 hrA2 hrB2 hrA hrB hS hS2 hbA
  go_wp2_with (first | (go_at_call 41; refine Hj.out.mono ?_; rintro e w2 ⟨u, rfl, hS, hu⟩; have HS := Lib.hid hS; have HU := Lib.hid hu; clear hS hu) | (go_at_call 32; refine (Ht.out _ _ HS.out HU.out).mono ?_; rintro e w3 ⟨rfl, hb3⟩; obtain ⟨l, hl, hrl⟩ := (HS.out.call hb3).row; have Hbf := Lib.hid (HS.out.call hb3).below; rw [hsA] at hrl; clear hb3) | (refine wpList_store_row rfl 26 (.tmp 4) (.tmp 9) rfl (w.heap.size + 2) _ rfl rfl 26 _ hrl (size25 _ hDl) (by rw [List.size_toArray, List.size_toArray, bv_length, bv_length]; omega) (all_byteVals _) ?_))
  refine bodyPost_ret (results_cell_row rfl _ _ (w.heap.size + 2) 26 _ (0, 0) _ rfl (RowB.put hrl) Tryd.underlying26 rfl (size25 _ hDl)) rfl ?_
  exact ⟨rfl, bsetRow (Hbw.out.trans (Hbf.out.mono (by omega))) (by omega) _⟩
end Go.Proofs.YthmpeeipbclhkaaDoor
