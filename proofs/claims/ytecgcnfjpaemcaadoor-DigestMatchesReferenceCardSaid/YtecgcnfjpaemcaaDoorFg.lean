/-
  Walks of the reference's digest: Tagged, Next.
-/
import Derived.Test.YtecgcnfjpaemcaaDoorFe
namespace Go.Proofs.YtecgcnfjpaemcaaDoor
open Go.RowKit

theorem hmsg_length (t b : List Int) : (hmsg t b).length ≤ 256 + b.length := by
  unfold hmsg
  simp only [List.length_cons, List.length_append, List.length_take]
  omega

set_option maxRecDepth 100000 in
set_option maxHeartbeats 1000000 in
theorem rtagged_any (s : ByteArray) (b : List Int) (v : Value) (w : World) (hv : Bs (fun k => k < w.heap.size) w v b) (hs : s.size ≤ 1000000) (hb : b.length ≤ 40000) :
    Calls Tryd.prog 15 #[.string s, v] w fun e w' => e = .returned (.agg (byteVals (sha (hmsg (strB s) b))).toArray) ∧ Below w.heap.size w w' := by
  obtain ⟨D, hD⟩ : ∃ D, D = sha (hmsg (strB s) b) := ⟨_, rfl⟩
  have hDl : D.length = 32 := by rw [hD]; exact sha_length _
  rw [← hD]
  have HD := Lib.hid hD; clear hD
  have HV := Lib.hid (hv.up2 (w' := w.alloc (.cells (byteVals zer).toArray 25)) (fun k hk => heap_alloc_old _ _ hk) (by simp)); clear hv
  have hB0 : Below w.heap.size w (w.alloc (.cells (byteVals zer).toArray 25)) := ball (Below.refl _ _) _
  have hR0 : RowB (w.alloc (.cells (byteVals zer).toArray 25)) w.heap.size 25 zer := RowB.new w 25 zer
  have hS0 : (w.alloc (.cells (byteVals zer).toArray 25)).heap.size = w.heap.size + 1 := by simp
  have HB0 := Lib.hid hB0; have HR0 := Lib.hid hR0; have HS0 := Lib.hid hS0; clear hB0 hR0 hS0
  go_enter Tryd.func15, Tryd.ntmps15
  go_wp2_with fail
  refine (hashed_any s b v _ HV.out hs (by omega)).mono ?_
  rintro e w1 ⟨u, rfl, hb1, hu⟩
  have HB1 := Lib.hid (HB0.out.trans (hb1.mono HB0.out.size))
  have HR1 := Lib.hid (HR0.out.kept (hb1.block _ (by rw [HS0.out]; omega)))
  have HS1 := Lib.hid (show w.heap.size < w1.heap.size by have := hb1.size; rw [HS0.out] at this; omega)
  have HU := Lib.hid hu; clear hb1 hu HB0 HR0 HS0 HV
  go_wp2_with fail
  refine (rsum_any _ u w1 HU.out (by have := hmsg_length (strB s) b; omega)).mono ?_
  rintro e w2 ⟨rfl, hb2⟩
  rw [← HD.out]
  have HB2 := Lib.hid (HB1.out.trans (hb2.mono HB1.out.size))
  have hR2 := HR1.out.kept (hb2.block _ HS1.out)
  clear hb2 HB1 HR1 HU HS1
  unfold RowB at hR2
  go_wp2_with (refine wpList_store_row rfl 25 (.tmp 4) (.tmp 8) rfl w.heap.size _ rfl rfl 25 _ hR2 (size25 _ hDl) (by simp [byteVals, zer, hDl]) (all_byteVals _) ?_)
  refine bodyPost_ret (results_cell_row rfl _ _ w.heap.size 25 _ (0, 0) _ (by kernel_rfl) (RowB.put hR2) Tryd.underlying25 rfl (size25 _ hDl)) rfl ?_
  exact ⟨rfl, bsetRow HB2.out (by omega) _⟩

set_option maxRecDepth 100000 in
set_option maxHeartbeats 1000000 in
theorem rnext_any (d b : List Int) (v : Value) (w : World) (hd : d.length = 32) (rd : ∀ u ∈ d, 0 ≤ u ∧ u ≤ 255) (hv : Bs (fun k => k < w.heap.size) w v b) (hb : b.length ≤ 30000) :
    Calls Tryd.prog 17 #[.agg (byteVals d).toArray, v] w fun e w' => e = .returned (.agg (byteVals (link d b)).toArray) ∧ Below w.heap.size w w' := by
  obtain ⟨D, hD⟩ : ∃ D, D = link d b := ⟨_, rfl⟩
  have hDl : D.length = 32 := by rw [hD]; exact sha_length _
  rw [← hD]
  have HD := Lib.hid hD; clear hD
  obtain ⟨X, hX⟩ : ∃ X, X = ((w.alloc (.cells (byteVals d).toArray 25)).alloc (.cells (byteVals zer).toArray 25)) := ⟨_, rfl⟩
  have hXs : X.heap.size = w.heap.size + 2 := by rw [hX]; simp
  have hXb : Below w.heap.size w X := by rw [hX]; exact ball (ball (Below.refl _ _) _) _
  have hXd : RowB X w.heap.size 25 d := by rw [hX]; exact (RowB.new w 25 d).kept (heap_alloc_old _ _ (by simp))
  have hXz : RowB X (w.heap.size + 1) 25 zer := by rw [hX]; exact RowB.new' _ (by simp) rfl
  have hown : (X.alloc (.cells #[] 5)).ownsRow X.heap.size 5 1 (.slice (some ⟨X.heap.size, 0, none⟩) 0 0) ([] : List Int).length (byteVals []) := World.ownsRow_made X #[] 0 (Nat.le_refl _) (by unfold maxLen; omega) (by simp)
  have hbX : Below X.heap.size X (X.alloc (.cells #[] 5)) := ball (Below.refl _ _) _
  have hrowX : RowB (X.alloc (.cells #[] 5)) w.heap.size 25 d := hXd.kept (heap_alloc_old _ _ (by omega))
  have hbd := Bs.ofRow (F := fun k => k < (X.alloc (.cells #[] 5)).heap.size) hrowX (by simp; omega) rd 32 32 (by omega) (by decide) (by decide)
  rw [List.take_of_length_le (by omega)] at hbd
  obtain ⟨m1, W1, hr1, hA1⟩ := append_run _ X.heap.size _ _ _ [] d 22 hown hbd (by simp; omega) hbX.size
  rw [List.nil_append] at hA1
  have hbW1 : Below X.heap.size X W1 := hbX.grown hA1.grown hbX.size (by intro k hk; simp [Value.ownBlock] at hk; omega)
  have hown1 := hA1.own
  have hv1 : Bs (fun k => k < W1.heap.size) W1 v b := (hv.below (fun k hk => hk) (hXb.trans (hbW1.mono hXb.size))).kept (fun _ _ => rfl) (fun k hk => Nat.lt_of_lt_of_le hk (Nat.le_trans hXb.size hbW1.size))
  obtain ⟨m2, W2, hr2, hA2⟩ := append_run _ X.heap.size W1 m1 _ d b 22 hown1 hv1 (by omega) hbW1.size
  have hbW2 : Below X.heap.size X W2 := hbW1.grown hA2.grown hbW1.size (by intro k hk; exact (hown1.lt k hk).1)
  have hm2 := Bs.kept (Bs.ofOwn hA2.own (by simp; omega) (by
    intro u hu
    rcases List.mem_append.1 hu with hu | hu
    · exact rd u hu
    · exact hv.2.1 u hu)) (fun _ _ => rfl) (fun k hk => hk.2.1) (F' := fun k => k < W2.heap.size)
  have hBW : Below w.heap.size w W2 := hXb.trans (hbW2.mono hXb.size)
  have hZW : RowB W2 (w.heap.size + 1) 25 zer := hXz.kept (hbW2.block _ (by omega))
  have hSW : w.heap.size + 1 < W2.heap.size := by have := hbW2.size; omega
  rw [hXs, hX] at hr1
  have R1 := Lib.hid hr1; have R2 := Lib.hid hr2; have HM := Lib.hid hm2; have HBW := Lib.hid hBW; have HZ := Lib.hid hZW; have HSW := Lib.hid hSW
  clear hX hXs hXb hXd hXz hown hbX hrowX hbd hr1 hA1 hbW1 hown1 hv1 hr2 hA2 hbW2 hm2 hBW hZW hSW hv rd
  go_enter Tryd.func17, Tryd.ntmps17
  go_wp2_with (first | (at_builtin; refine wp_app rfl rfl rfl (.tmp 7) (.tmp 8) rfl rfl rfl R1.out ?_) | (at_builtin; refine wp_app rfl rfl rfl (.tmp 10) (.tmp 11) rfl rfl rfl R2.out ?_))
  have ht := rtagged_any nextS (d ++ b) _ W2 HM.out (by decide) (by simp; omega)
  rw [show sha (hmsg (strB nextS) (d ++ b)) = D from HD.out.symm] at ht
  refine ht.mono ?_
  rintro e w7 ⟨rfl, hb7⟩
  have HB7 := Lib.hid (HBW.out.trans (hb7.mono HBW.out.size))
  have hR7 := HZ.out.kept (hb7.block _ HSW.out)
  clear hb7 ht HBW HM HZ HSW R1 R2
  unfold RowB at hR7
  go_wp2_with (refine wpList_store_row rfl 25 (.tmp 4) (.tmp 14) rfl (w.heap.size + 1) _ rfl rfl 25 _ hR7 (size25 _ hDl) (by simp [byteVals, zer, hDl]) (all_byteVals _) ?_)
  refine bodyPost_ret (results_cell_row rfl _ _ (w.heap.size + 1) 25 _ (0, 0) _ (by kernel_rfl) (RowB.put hR7) Tryd.underlying25 rfl (size25 _ hDl)) rfl ?_
  exact ⟨rfl, bsetRow HB7.out (by omega) _⟩

end Go.Proofs.YtecgcnfjpaemcaaDoor
