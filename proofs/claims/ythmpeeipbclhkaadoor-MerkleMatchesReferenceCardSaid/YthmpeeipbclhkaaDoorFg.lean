/-
  Walks of the reference's digest: Tagged, Next.
-/
import Derived.Test.YthmpeeipbclhkaaDoorFe
namespace Go.Proofs.YthmpeeipbclhkaaDoor
open Go.RowKit

theorem hmsg_length (t b : List Int) : (hmsg t b).length ≤ 256 + b.length := by
  unfold hmsg
  simp only [List.length_cons, List.length_append, List.length_take]
  omega

set_option maxRecDepth 100000 in
set_option maxHeartbeats 1000000 in
theorem rtagged_any (s : ByteArray) (b : List Int) (v : Value) (w : World) (hv : Bs (fun k => k < w.heap.size) w v b) (hs : s.size ≤ 1000000) (hb : b.length ≤ 40000) :
    Calls Tryd.prog 40 #[.string s, v] w fun e w' => e = .returned (.agg (byteVals (sha (hmsg (strB s) b))).toArray) ∧ Below w.heap.size w w' := by
  obtain ⟨D, hD⟩ : ∃ D, D = sha (hmsg (strB s) b) := ⟨_, rfl⟩
  have hDl : D.length = 32 := by rw [hD]; exact sha_length _
  rw [← hD]
  have HD := Lib.hid hD; clear hD
  have HV := Lib.hid (hv.up2 (w' := w.alloc (.cells (byteVals zer).toArray 26)) (fun k hk => heap_alloc_old _ _ hk) (by simp)); clear hv
  have hB0 : Below w.heap.size w (w.alloc (.cells (byteVals zer).toArray 26)) := ball (Below.refl _ _) _
  have hR0 : RowB (w.alloc (.cells (byteVals zer).toArray 26)) w.heap.size 26 zer := RowB.new w 26 zer
  have hS0 : (w.alloc (.cells (byteVals zer).toArray 26)).heap.size = w.heap.size + 1 := by simp
  have HB0 := Lib.hid hB0; have HR0 := Lib.hid hR0; have HS0 := Lib.hid hS0; clear hB0 hR0 hS0
  go_enter Tryd.func40, Tryd.ntmps40
  go_wp2_with fail
  refine (hashed_any s b v _ HV.out hs (by omega)).mono ?_
  rintro e w1 ⟨u, rfl, hb1, hu⟩
  have HB1 := Lib.hid (HB0.out.trans (hb1.mono HB0.out.size))
  have HR1 := Lib.hid (HR0.out.kept (hb1.block _ (by rw [HS0.out]; omega)))
  have HS1 := Lib.hid (show w.heap.size < w1.heap.size by have := hb1.size; rw [HS0.out] at this; omega)
  have HU := Lib.hid hu; clear hb1 hu HB0 HR0 HS0 HV
  go_wp2_with fail
  refine (rsum_any _ u w1 HU.out (by have := hmsg_length (strB s) b; omega)).mono ?_
  rintro e w2 ⟨rfl, hb2⟩
  rw [← HD.out]
  have HB2 := Lib.hid (HB1.out.trans (hb2.mono HB1.out.size))
  have hR2 := HR1.out.kept (hb2.block _ HS1.out)
  clear hb2 HB1 HR1 HU HS1
  unfold RowB at hR2
  go_wp2_with (refine wpList_store_row rfl 26 (.tmp 4) (.tmp 8) rfl w.heap.size _ rfl rfl 26 _ hR2 (size25 _ hDl) (by simp [byteVals, zer, hDl]) (all_byteVals _) ?_)
  refine bodyPost_ret (results_cell_row rfl _ _ w.heap.size 26 _ (0, 0) _ (by kernel_rfl) (RowB.put hR2) Tryd.underlying26 rfl (size25 _ hDl)) rfl ?_
  exact ⟨rfl, bsetRow HB2.out (by omega) _⟩

end Go.Proofs.YthmpeeipbclhkaaDoor
