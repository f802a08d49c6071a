/-
  Walks: First.
-/
import Derived.Test.YthmpeeipbclhkaaDoorEv
namespace Go.Proofs.YthmpeeipbclhkaaDoor
open Go.RowKit

/-- The first of n indices from i on at which two lists of digests differ. -/
def ffrom (a b : List (List Int)) (i : Nat) : Nat → Int
  | 0 => -1
  | n + 1 => if a.getD i pdd = b.getD i pdd then ffrom a b (i + 1) n else (i : Int)
/-- The first index at which two lists of digests differ, or -1. -/
def fdiff (a b : List (List Int)) : Int := ffrom a b 0 (max a.length b.length)

theorem ffrom_end (a b : List (List Int)) : ∀ n i, max a.length b.length ≤ i → ffrom a b i n = -1 := by
  intro n
  induction n with
  | zero => intro i _; rfl
  | succ n ih =>
    intro i h
    unfold ffrom
    have e1 : a.getD i pdd = pdd := by rw [List.getD_eq_getElem?_getD, List.getElem?_eq_none (by omega)]; rfl
    have e2 : b.getD i pdd = pdd := by rw [List.getD_eq_getElem?_getD, List.getElem?_eq_none (by omega)]; rfl
    rw [e1, e2, if_pos rfl]
    exact ih (i + 1) (by omega)
theorem ffrom_more (a b : List (List Int)) : ∀ n i m, max a.length b.length ≤ i + n → ffrom a b i (n + m) = ffrom a b i n := by
  intro n
  induction n with
  | zero => intro i m h; rw [Nat.zero_add]; exact ffrom_end a b m i h
  | succ n ih =>
    intro i m h
    rw [show n + 1 + m = (n + m) + 1 from by omega]
    unfold ffrom
    rw [ih (i + 1) m (by omega)]
theorem fdiff_of (a b : List (List Int)) (n : Nat) (h : max a.length b.length ≤ n) : fdiff a b = ffrom a b 0 n := by
  unfold fdiff
  have := ffrom_more a b (max a.length b.length) 0 (n - max a.length b.length) (by omega)
  rw [← this]
  congr 1
  omega
theorem ffrom_same (a b : List (List Int)) : ∀ n i, (∀ j, a.getD j pdd = b.getD j pdd) → ffrom a b i n = -1 := by
  intro n
  induction n with
  | zero => intro i _; rfl
  | succ n ih => intro i h; unfold ffrom; rw [if_pos (h i)]; exact ih _ h

structure FiS (w : World) (A : Nat) (va vb : Value) (w' : World) : Prop where
  below : Below w.heap.size w w'
  ge : w.heap.size ≤ A
  size : A + 1 < w'.heap.size
  ra : RowC w' A 58 va pdd
  rb : RowC w' (A + 1) 58 vb pdd
theorem FiS.call {w w' w2 : World} {A : Nat} {va vb : Value} (h : FiS w A va vb w') (hb : Below w'.heap.size w' w2) : FiS w A va vb w2 := by
  have hs := h.size
  exact ⟨h.below.trans (hb.mono h.below.size), h.ge, Nat.lt_of_lt_of_le h.size hb.size, h.ra.kept (hb.block _ (by omega)), h.rb.kept (hb.block _ (by omega))⟩
theorem FiS.drew {w w' : World} {A : Nat} {va vb : Value} (h : FiS w A va vb w') : FiS w A va vb w'.drew := h.call (Below.drew (Below.refl _ _))
theorem row58z (w : World) (B : Nat) (hB : B = w.heap.size) : RowC (w.alloc (.cells #[.slice none 0 0, .int .u8 0, .int .u8 0, .int .u8 0, .int .u8 0, .int .u8 0, .int .u8 0, .int .u8 0, .int .u8 0, .int .u8 0, .int .u8 0, .int .u8 0, .int .u8 0, .int .u8 0, .int .u8 0, .int .u8 0, .int .u8 0, .int .u8 0, .int .u8 0, .int .u8 0, .int .u8 0, .int .u8 0, .int .u8 0, .int .u8 0, .int .u8 0, .int .u8 0, .int .u8 0, .int .u8 0, .int .u8 0, .int .u8 0, .int .u8 0, .int .u8 0, .int .u8 0] 58)) B 58 (.slice none 0 0) (List.replicate 32 0) := RowC.new' _ hB rfl
theorem zl32 : (List.replicate 32 (0 : Int)).length = 32 := by simp
theorem sz33 (v v' : Value) (l l' : List Int) (h : l.length = 32) (h' : l'.length = 32) : (v :: byteVals l).toArray.size = (v' :: byteVals l').toArray.size := by
  rw [List.size_toArray, List.size_toArray, List.length_cons, List.length_cons, bv_length, bv_length, h, h']

set_option maxRecDepth 100000 in
set_option maxHeartbeats 2000000 in
theorem first_any (a b : List (List Int)) (oa ob : Option Addr) (ca cb : Nat) (w : World) (hk : KOk w) (hv : Dl (fun k => k < w.heap.size) w (.slice oa a.length ca) a) (hv2 : Dl (fun k => k < w.heap.size) w (.slice ob b.length cb) b) :
    Calls Tryd.prog 26 #[.slice oa a.length ca, .slice ob b.length cb] w fun e w' => e = .returned (.int .i64 (fdiff a b)) ∧ Below w.heap.size w w' := by
  have hla := hv.1; have hlb := hv2.1
  have HV := Lib.hid hv; have HV2 := Lib.hid hv2; have HK := Lib.hid hk
  clear hv hv2 hk
  have hpl := pdd_dg.1
  by_cases hab : a.length < b.length
  · have hmm : fdiff a b = ffrom a b 0 (b.length - 0) := by rw [Nat.sub_zero]; exact fdiff_of a b _ (by omega)
    have HFD := Lib.hid hmm
    clear hmm
    go_enter Tryd.func26, Tryd.ntmps26
    go_wp2_with fail
    refine (leaves_any oa a.length ca w HK.out).mono ?_
    rintro e w1 ⟨rfl, hb1⟩
    go_wp2_with fail
    refine (leaves_any ob b.length cb w1 (HK.out.below hb1)).mono ?_
    rintro e w2 ⟨rfl, hb2⟩
    have hb3 := hb1.trans (hb2.mono hb1.size)
    have hge := hb3.size
    have q5 : RowC ((w2.alloc (.cells #[.slice none 0 0, .int .u8 0, .int .u8 0, .int .u8 0, .int .u8 0, .int .u8 0, .int .u8 0, .int .u8 0, .int .u8 0, .int .u8 0, .int .u8 0, .int .u8 0, .int .u8 0, .int .u8 0, .int .u8 0, .int .u8 0, .int .u8 0, .int .u8 0, .int .u8 0, .int .u8 0, .int .u8 0, .int .u8 0, .int .u8 0, .int .u8 0, .int .u8 0, .int .u8 0, .int .u8 0, .int .u8 0, .int .u8 0, .int .u8 0, .int .u8 0, .int .u8 0, .int .u8 0] 58)).alloc (.cells #[.slice none 0 0, .int .u8 0, .int .u8 0, .int .u8 0, .int .u8 0, .int .u8 0, .int .u8 0, .int .u8 0, .int .u8 0, .int .u8 0, .int .u8 0, .int .u8 0, .int .u8 0, .int .u8 0, .int .u8 0, .int .u8 0, .int .u8 0, .int .u8 0, .int .u8 0, .int .u8 0, .int .u8 0, .int .u8 0, .int .u8 0, .int .u8 0, .int .u8 0, .int .u8 0, .int .u8 0, .int .u8 0, .int .u8 0, .int .u8 0, .int .u8 0, .int .u8 0, .int .u8 0] 58)) w2.heap.size 58 (.slice none 0 0) (List.replicate 32 0) := (row58z w2 w2.heap.size rfl).kept (heap_alloc_old _ (.cells #[.slice none 0 0, .int .u8 0, .int .u8 0, .int .u8 0, .int .u8 0, .int .u8 0, .int .u8 0, .int .u8 0, .int .u8 0, .int .u8 0, .int .u8 0, .int .u8 0, .int .u8 0, .int .u8 0, .int .u8 0, .int .u8 0, .int .u8 0, .int .u8 0, .int .u8 0, .int .u8 0, .int .u8 0, .int .u8 0, .int .u8 0, .int .u8 0, .int .u8 0, .int .u8 0, .int .u8 0, .int .u8 0, .int .u8 0, .int .u8 0, .int .u8 0, .int .u8 0, .int .u8 0] 58) (by simp))
    have q6 : RowC (((w2.alloc (.cells #[.slice none 0 0, .int .u8 0, .int .u8 0, .int .u8 0, .int .u8 0, .int .u8 0, .int .u8 0, .int .u8 0, .int .u8 0, .int .u8 0, .int .u8 0, .int .u8 0, .int .u8 0, .int .u8 0, .int .u8 0, .int .u8 0, .int .u8 0, .int .u8 0, .int .u8 0, .int .u8 0, .int .u8 0, .int .u8 0, .int .u8 0, .int .u8 0, .int .u8 0, .int .u8 0, .int .u8 0, .int .u8 0, .int .u8 0, .int .u8 0, .int .u8 0, .int .u8 0, .int .u8 0] 58)).alloc (.cells #[.slice none 0 0, .int .u8 0, .int .u8 0, .int .u8 0, .int .u8 0, .int .u8 0, .int .u8 0, .int .u8 0, .int .u8 0, .int .u8 0, .int .u8 0, .int .u8 0, .int .u8 0, .int .u8 0, .int .u8 0, .int .u8 0, .int .u8 0, .int .u8 0, .int .u8 0, .int .u8 0, .int .u8 0, .int .u8 0, .int .u8 0, .int .u8 0, .int .u8 0, .int .u8 0, .int .u8 0, .int .u8 0, .int .u8 0, .int .u8 0, .int .u8 0, .int .u8 0, .int .u8 0] 58)).setRow w2.heap.size (Value.slice oa a.length ca :: byteVals pdd).toArray) (w2.heap.size + 1) 58 (.slice none 0 0) (List.replicate 32 0) := ((row58z (w2.alloc (.cells #[.slice none 0 0, .int .u8 0, .int .u8 0, .int .u8 0, .int .u8 0, .int .u8 0, .int .u8 0, .int .u8 0, .int .u8 0, .int .u8 0, .int .u8 0, .int .u8 0, .int .u8 0, .int .u8 0, .int .u8 0, .int .u8 0, .int .u8 0, .int .u8 0, .int .u8 0, .int .u8 0, .int .u8 0, .int .u8 0, .int .u8 0, .int .u8 0, .int .u8 0, .int .u8 0, .int .u8 0, .int .u8 0, .int .u8 0, .int .u8 0, .int .u8 0, .int .u8 0, .int .u8 0] 58)) (w2.heap.size + 1) (by simp)).kept (setRow_other _ _ _ _ (by omega)))
    have hF : FiS w w2.heap.size (.slice oa a.length ca) (.slice ob b.length cb) ((((w2.alloc (.cells #[.slice none 0 0, .int .u8 0, .int .u8 0, .int .u8 0, .int .u8 0, .int .u8 0, .int .u8 0, .int .u8 0, .int .u8 0, .int .u8 0, .int .u8 0, .int .u8 0, .int .u8 0, .int .u8 0, .int .u8 0, .int .u8 0, .int .u8 0, .int .u8 0, .int .u8 0, .int .u8 0, .int .u8 0, .int .u8 0, .int .u8 0, .int .u8 0, .int .u8 0, .int .u8 0, .int .u8 0, .int .u8 0, .int .u8 0, .int .u8 0, .int .u8 0, .int .u8 0, .int .u8 0] 58)).alloc (.cells #[.slice none 0 0, .int .u8 0, .int .u8 0, .int .u8 0, .int .u8 0, .int .u8 0, .int .u8 0, .int .u8 0, .int .u8 0, .int .u8 0, .int .u8 0, .int .u8 0, .int .u8 0, .int .u8 0, .int .u8 0, .int .u8 0, .int .u8 0, .int .u8 0, .int .u8 0, .int .u8 0, .int .u8 0, .int .u8 0, .int .u8 0, .int .u8 0, .int .u8 0, .int .u8 0, .int .u8 0, .int .u8 0, .int .u8 0, .int .u8 0, .int .u8 0, .int .u8 0, .int .u8 0] 58)).setRow w2.heap.size (Value.slice oa a.length ca :: byteVals pdd).toArray).setRow (w2.heap.size + 1) (Value.slice ob b.length cb :: byteVals pdd).toArray) :=
      ⟨bsetRow (bsetRow ((hb3.alloc hge _).alloc (by simp; omega) _) hge _) (by omega) _, hge, by simp, (RowC.put q5).kept (setRow_other _ _ _ _ (by omega)), RowC.put q6⟩
    have HF := Lib.hid hF; have Q5 := Lib.hid q5; have Q6 := Lib.hid q6
    clear hb1 hb2 hb3 hF q5 q6
    go_wp2_with (first | (refine wpList_store_row rfl 58 (.tmp 5) (.tmp 8) rfl w2.heap.size _ rfl rfl 58 _ Q5.out (size58 _ _ hpl) (sz33 _ _ _ _ zl32 hpl) (all_row _ _ rfl) ?_) | (refine wpList_store_row rfl 58 (.tmp 6) (.tmp 10) rfl (w2.heap.size + 1) _ rfl rfl 58 _ Q6.out (size58 _ _ hpl) (sz33 _ _ _ _ zl32 hpl) (all_row _ _ rfl) ?_))
    clear Q5 Q6
    generalize ((((w2.alloc (.cells #[.slice none 0 0, .int .u8 0, .int .u8 0, .int .u8 0, .int .u8 0, .int .u8 0, .int .u8 0, .int .u8 0, .int .u8 0, .int .u8 0, .int .u8 0, .int .u8 0, .int .u8 0, .int .u8 0, .int .u8 0, .int .u8 0, .int .u8 0, .int .u8 0, .int .u8 0, .int .u8 0, .int .u8 0, .int .u8 0, .int .u8 0, .int .u8 0, .int .u8 0, .int .u8 0, .int .u8 0, .int .u8 0, .int .u8 0, .int .u8 0, .int .u8 0, .int .u8 0, .int .u8 0] 58)).alloc (.cells #[.slice none 0 0, .int .u8 0, .int .u8 0, .int .u8 0, .int .u8 0, .int .u8 0, .int .u8 0, .int .u8 0, .int .u8 0, .int .u8 0, .int .u8 0, .int .u8 0, .int .u8 0, .int .u8 0, .int .u8 0, .int .u8 0, .int .u8 0, .int .u8 0, .int .u8 0, .int .u8 0, .int .u8 0, .int .u8 0, .int .u8 0, .int .u8 0, .int .u8 0, .int .u8 0, .int .u8 0, .int .u8 0, .int .u8 0, .int .u8 0, .int .u8 0, .int .u8 0, .int .u8 0] 58)).setRow w2.heap.size (Value.slice oa a.length ca :: byteVals pdd).toArray).setRow (w2.heap.size + 1) (Value.slice ob b.length cb :: byteVals pdd).toArray) = W at *
    go_loopw [4, 16] (fun v i wr => ∃ k : Nat, k ≤ b.length ∧ i = .int .i64 k ∧ (∃ z : Int, v = .int .i64 z) ∧ Hid (FiS w w2.heap.size (.slice oa a.length ca) (.slice ob b.length cb) wr) ∧ Hid (fdiff a b = ffrom a b k (b.length - k))) (fun _ i _ => b.length - (intOf i).toNat)
    case atStart => exact ⟨0, by omega, rfl, ⟨_, rfl⟩, HF, Lib.hid HFD.out⟩
    case round =>
      clear HF
      obtain ⟨k, hk, rfl, ⟨z, rfl⟩, H, HE⟩ := hrel
      by_cases hlt : k < b.length
      · have hlt2 : (k : Int) < (b.length : Int) := by omega
        have ha : ∀ w', FiS w w2.heap.size (.slice oa a.length ca) (.slice ob b.length cb) w' → Calls Tryd.prog 43 #[.agg (.slice oa a.length ca :: byteVals pdd).toArray, .int .i64 (k : Int)] w' fun e w'' => e = .returned (.agg (byteVals (a.getD k pdd)).toArray) ∧ Below w'.heap.size w' w'' :=
          fun w' hN => at_any a pdd _ k w' (HV.out.on hN.below) pdd_dg (by omega)
        have hb : ∀ w', FiS w w2.heap.size (.slice oa a.length ca) (.slice ob b.length cb) w' → Calls Tryd.prog 43 #[.agg (.slice ob b.length cb :: byteVals pdd).toArray, .int .i64 (k : Int)] w' fun e w'' => e = .returned (.agg (byteVals (b.getD k pdd)).toArray) ∧ Below w'.heap.size w' w'' :=
          fun w' hN => at_any b pdd _ k w' (HV2.out.on hN.below) pdd_dg (by omega)
        have hstep : ffrom a b k (b.length - k) = if a.getD k pdd = b.getD k pdd then ffrom a b (k + 1) (b.length - (k + 1)) else (k : Int) := by
          rw [show b.length - k = (b.length - (k + 1)) + 1 from by omega]; rfl
        have hxd := (getD_dg HV.out.2.1 pdd_dg k).1
        have hyd := (getD_dg HV2.out.2.1 pdd_dg k).1
        obtain ⟨X, hX⟩ : ∃ X, X = a.getD k pdd := ⟨_, rfl⟩
        obtain ⟨Y, hY⟩ : ∃ Y, Y = b.getD k pdd := ⟨_, rfl⟩
        rw [← hX] at ha hxd hstep
        rw [← hY] at hb hyd hstep
        have e1 := eqDig X Y hxd hyd
        have HA := Lib.hid ha; have HB := Lib.hid hb; have HST := Lib.hid hstep
        clear ha hb hstep hX hY
        by_cases hxy : X = Y
        · rw [decide_eq_true hxy] at e1
          have hE2 := HST.out
          rw [if_pos hxy] at hE2
          have HE2 : Hid (fdiff a b = ffrom a b (k + 1) (b.length - (k + 1))) := Lib.hid (HE.out.trans hE2)
          clear hxy hE2 HST HE
          go_wp2_with fail
          refine wp_region_held_drew (S := fun w' => FiS w w2.heap.size (.slice oa a.length ca) (.slice ob b.length cb) w') (by kernel_rfl) H.out.drew (fun hHeld => ?_)
          refine wpAnyH_take (i := 0) (oi := _) (v := .agg (Value.slice oa a.length ca :: byteVals pdd).toArray) rfl (by kernel_rfl) (by kernel_rfl) (by kernel_rfl) (fun _ _ _ h => h) (yieldsIf_load_mid (by rfl) 58 _ rfl w2.heap.size 0 rfl (Value.slice oa a.length ca :: byteVals pdd) _ (fun wx hSw => hSw.ra.range) Tryd.underlying58 rfl (s58 _ _ pdd_dg.1)) (by assumption) ?_
          (try simp only [Act.put, List.setIfInBounds_toArray, List.set_cons_zero, List.set_cons_succ])
          refine wpAnyH_take (i := 1) (oi := _) (v := .int .i64 (k : Int)) rfl (by kernel_rfl) (by kernel_rfl) (by kernel_rfl) (fun _ _ _ h => h) (Or.inl ⟨by rfl, fun wx hSw => ?_⟩) (by assumption) ?_
          · go_simp
            try (rw [IntKind.wrap_i64]; omega)
          (try simp only [Act.put, List.setIfInBounds_toArray, List.set_cons_zero, List.set_cons_succ])
          refine wpAnyH_take (i := 3) (oi := _) (v := .agg (Value.slice ob b.length cb :: byteVals pdd).toArray) rfl (by kernel_rfl) (by kernel_rfl) (by kernel_rfl) (fun _ _ _ h => h) (yieldsIf_load_mid (by rfl) 58 _ rfl (w2.heap.size + 1) 0 rfl (Value.slice ob b.length cb :: byteVals pdd) _ (fun wx hSw => hSw.rb.range) Tryd.underlying58 rfl (s58 _ _ pdd_dg.1)) (by assumption) ?_
          (try simp only [Act.put, List.setIfInBounds_toArray, List.set_cons_zero, List.set_cons_succ])
          refine wpAnyH_take (i := 4) (oi := _) (v := .int .i64 (k : Int)) rfl (by kernel_rfl) (by kernel_rfl) (by kernel_rfl) (fun _ _ _ h => h) (Or.inl ⟨by rfl, fun wx hSw => ?_⟩) (by assumption) ?_
          · go_simp
            try (rw [IntKind.wrap_i64]; omega)
          (try simp only [Act.put, List.setIfInBounds_toArray, List.set_cons_zero, List.set_cons_succ])
          refine wpAnyH_ready (rs := [2]) (by kernel_rfl) (by simp) ?_
          refine AllReadyH.cons (o := _) rfl (fun K hK => ?_) AllReadyH.nil
          go_simp
          refine (HA.out _ hHeld).mono ?_; rintro e w5 ⟨rfl, hb5⟩; have h5 := hHeld.call hb5; clear hb5 hHeld
          go_wp2_with fail
          refine hK.out _ _ (h5) (fun hHeld => ?_)
          clear hK K
          (try simp only [Act.put, List.setIfInBounds_toArray, List.set_cons_zero, List.set_cons_succ])
          refine wpAnyH_ready (rs := [5]) (by kernel_rfl) (by simp) ?_
          refine AllReadyH.cons (o := _) rfl (fun K hK => ?_) AllReadyH.nil
          go_simp
          refine (HB.out _ hHeld).mono ?_; rintro e w6 ⟨rfl, hb6⟩; have h6 := hHeld.call hb6; clear hb6 hHeld h5
          go_wp2_with fail
          refine hK.out _ _ (h6) (fun hHeld => ?_)
          clear hK K
          (try simp only [Act.put, List.setIfInBounds_toArray, List.set_cons_zero, List.set_cons_succ])
          refine wpAnyH_take (i := 6) (oi := _) (v := .bool false) rfl (by kernel_rfl) (by kernel_rfl) (by kernel_rfl) (fun _ _ _ h => h) (Or.inl ⟨by rfl, fun wx hSw => ?_⟩) (by assumption) ?_
          · go_simp
            try (rw [IntKind.wrap_i64]; omega)
          (try simp only [Act.put, List.setIfInBounds_toArray, List.set_cons_zero, List.set_cons_succ])
          refine wpAnyH_done (by kernel_rfl) ?_ _
          have H6 := Lib.hid h6
          clear h6 hHeld HA HB H e1
          go_wp2
          go_roundw
          case rel => exact ⟨k + 1, by omega, by go_num, ⟨_, rfl⟩, H6, HE2⟩
          case measure => simp [intOf]; omega
        · rw [decide_eq_false hxy] at e1
          have hE2 := HST.out
          rw [if_neg hxy] at hE2
          have HE2 : Hid (fdiff a b = (k : Int)) := Lib.hid (HE.out.trans hE2)
          clear hxy hE2 HST HE
          go_wp2_with fail
          refine wp_region_held_drew (S := fun w' => FiS w w2.heap.size (.slice oa a.length ca) (.slice ob b.length cb) w') (by kernel_rfl) H.out.drew (fun hHeld => ?_)
          refine wpAnyH_take (i := 0) (oi := _) (v := .agg (Value.slice oa a.length ca :: byteVals pdd).toArray) rfl (by kernel_rfl) (by kernel_rfl) (by kernel_rfl) (fun _ _ _ h => h) (yieldsIf_load_mid (by rfl) 58 _ rfl w2.heap.size 0 rfl (Value.slice oa a.length ca :: byteVals pdd) _ (fun wx hSw => hSw.ra.range) Tryd.underlying58 rfl (s58 _ _ pdd_dg.1)) (by assumption) ?_
          (try simp only [Act.put, List.setIfInBounds_toArray, List.set_cons_zero, List.set_cons_succ])
          refine wpAnyH_take (i := 1) (oi := _) (v := .int .i64 (k : Int)) rfl (by kernel_rfl) (by kernel_rfl) (by kernel_rfl) (fun _ _ _ h => h) (Or.inl ⟨by rfl, fun wx hSw => ?_⟩) (by assumption) ?_
          · go_simp
            try (rw [IntKind.wrap_i64]; omega)
          (try simp only [Act.put, List.setIfInBounds_toArray, List.set_cons_zero, List.set_cons_succ])
          refine wpAnyH_take (i := 3) (oi := _) (v := .agg (Value.slice ob b.length cb :: byteVals pdd).toArray) rfl (by kernel_rfl) (by kernel_rfl) (by kernel_rfl) (fun _ _ _ h => h) (yieldsIf_load_mid (by rfl) 58 _ rfl (w2.heap.size + 1) 0 rfl (Value.slice ob b.length cb :: byteVals pdd) _ (fun wx hSw => hSw.rb.range) Tryd.underlying58 rfl (s58 _ _ pdd_dg.1)) (by assumption) ?_
          (try simp only [Act.put, List.setIfInBounds_toArray, List.set_cons_zero, List.set_cons_succ])
          refine wpAnyH_take (i := 4) (oi := _) (v := .int .i64 (k : Int)) rfl (by kernel_rfl) (by kernel_rfl) (by kernel_rfl) (fun _ _ _ h => h) (Or.inl ⟨by rfl, fun wx hSw => ?_⟩) (by assumption) ?_
          · go_simp
            try (rw [IntKind.wrap_i64]; omega)
          (try simp only [Act.put, List.setIfInBounds_toArray, List.set_cons_zero, List.set_cons_succ])
          refine wpAnyH_ready (rs := [2]) (by kernel_rfl) (by simp) ?_
          refine AllReadyH.cons (o := _) rfl (fun K hK => ?_) AllReadyH.nil
          go_simp
          refine (HA.out _ hHeld).mono ?_; rintro e w5 ⟨rfl, hb5⟩; have h5 := hHeld.call hb5; clear hb5 hHeld
          go_wp2_with fail
          refine hK.out _ _ (h5) (fun hHeld => ?_)
          clear hK K
          (try simp only [Act.put, List.setIfInBounds_toArray, List.set_cons_zero, List.set_cons_succ])
          refine wpAnyH_ready (rs := [5]) (by kernel_rfl) (by simp) ?_
          refine AllReadyH.cons (o := _) rfl (fun K hK => ?_) AllReadyH.nil
          go_simp
          refine (HB.out _ hHeld).mono ?_; rintro e w6 ⟨rfl, hb6⟩; have h6 := hHeld.call hb6; clear hb6 hHeld h5
          go_wp2_with fail
          refine hK.out _ _ (h6) (fun hHeld => ?_)
          clear hK K
          (try simp only [Act.put, List.setIfInBounds_toArray, List.set_cons_zero, List.set_cons_succ])
          refine wpAnyH_take (i := 6) (oi := _) (v := .bool true) rfl (by kernel_rfl) (by kernel_rfl) (by kernel_rfl) (fun _ _ _ h => h) (Or.inl ⟨by rfl, fun wx hSw => ?_⟩) (by assumption) ?_
          · go_simp
            try (rw [IntKind.wrap_i64]; omega)
          (try simp only [Act.put, List.setIfInBounds_toArray, List.set_cons_zero, List.set_cons_succ])
          refine wpAnyH_done (by kernel_rfl) ?_ _
          have H6 := Lib.hid h6
          clear h6 hHeld HA HB H e1
          go_wp2
          go_ret
          exact ⟨by rw [HE2.out]; rfl, H6.out.below⟩
      · have hk2 : k = b.length := by omega
        subst hk2
        have hz : fdiff a b = -1 := by rw [HE.out, Nat.sub_self]; rfl
        have HZ := Lib.hid hz
        have hlt2 : ¬ ((b.length : Int) < (b.length : Int)) := by omega
        clear hz hlt HE
        go_wp2
        go_ret
        exact ⟨by rw [HZ.out]; rfl, H.out.below⟩
  · have hmm : fdiff a b = ffrom a b 0 (a.length - 0) := by rw [Nat.sub_zero]; exact fdiff_of a b _ (by omega)
    have HFD := Lib.hid hmm
    clear hmm
    go_enter Tryd.func26, Tryd.ntmps26
    go_wp2_with fail
    refine (leaves_any oa a.length ca w HK.out).mono ?_
    rintro e w1 ⟨rfl, hb1⟩
    go_wp2_with fail
    refine (leaves_any ob b.length cb w1 (HK.out.below hb1)).mono ?_
    rintro e w2 ⟨rfl, hb2⟩
    have hb3 := hb1.trans (hb2.mono hb1.size)
    have hge := hb3.size
    have q5 : RowC ((w2.alloc (.cells #[.slice none 0 0, .int .u8 0, .int .u8 0, .int .u8 0, .int .u8 0, .int .u8 0, .int .u8 0, .int .u8 0, .int .u8 0, .int .u8 0, .int .u8 0, .int .u8 0, .int .u8 0, .int .u8 0, .int .u8 0, .int .u8 0, .int .u8 0, .int .u8 0, .int .u8 0, .int .u8 0, .int .u8 0, .int .u8 0, .int .u8 0, .int .u8 0, .int .u8 0, .int .u8 0, .int .u8 0, .int .u8 0, .int .u8 0, .int .u8 0, .int .u8 0, .int .u8 0, .int .u8 0] 58)).alloc (.cells #[.slice none 0 0, .int .u8 0, .int .u8 0, .int .u8 0, .int .u8 0, .int .u8 0, .int .u8 0, .int .u8 0, .int .u8 0, .int .u8 0, .int .u8 0, .int .u8 0, .int .u8 0, .int .u8 0, .int .u8 0, .int .u8 0, .int .u8 0, .int .u8 0, .int .u8 0, .int .u8 0, .int .u8 0, .int .u8 0, .int .u8 0, .int .u8 0, .int .u8 0, .int .u8 0, .int .u8 0, .int .u8 0, .int .u8 0, .int .u8 0, .int .u8 0, .int .u8 0, .int .u8 0] 58)) w2.heap.size 58 (.slice none 0 0) (List.replicate 32 0) := (row58z w2 w2.heap.size rfl).kept (heap_alloc_old _ (.cells #[.slice none 0 0, .int .u8 0, .int .u8 0, .int .u8 0, .int .u8 0, .int .u8 0, .int .u8 0, .int .u8 0, .int .u8 0, .int .u8 0, .int .u8 0, .int .u8 0, .int .u8 0, .int .u8 0, .int .u8 0, .int .u8 0, .int .u8 0, .int .u8 0, .int .u8 0, .int .u8 0, .int .u8 0, .int .u8 0, .int .u8 0, .int .u8 0, .int .u8 0, .int .u8 0, .int .u8 0, .int .u8 0, .int .u8 0, .int .u8 0, .int .u8 0, .int .u8 0, .int .u8 0] 58) (by simp))
    have q6 : RowC (((w2.alloc (.cells #[.slice none 0 0, .int .u8 0, .int .u8 0, .int .u8 0, .int .u8 0, .int .u8 0, .int .u8 0, .int .u8 0, .int .u8 0, .int .u8 0, .int .u8 0, .int .u8 0, .int .u8 0, .int .u8 0, .int .u8 0, .int .u8 0, .int .u8 0, .int .u8 0, .int .u8 0, .int .u8 0, .int .u8 0, .int .u8 0, .int .u8 0, .int .u8 0, .int .u8 0, .int .u8 0, .int .u8 0, .int .u8 0, .int .u8 0, .int .u8 0, .int .u8 0, .int .u8 0, .int .u8 0] 58)).alloc (.cells #[.slice none 0 0, .int .u8 0, .int .u8 0, .int .u8 0, .int .u8 0, .int .u8 0, .int .u8 0, .int .u8 0, .int .u8 0, .int .u8 0, .int .u8 0, .int .u8 0, .int .u8 0, .int .u8 0, .int .u8 0, .int .u8 0, .int .u8 0, .int .u8 0, .int .u8 0, .int .u8 0, .int .u8 0, .int .u8 0, .int .u8 0, .int .u8 0, .int .u8 0, .int .u8 0, .int .u8 0, .int .u8 0, .int .u8 0, .int .u8 0, .int .u8 0, .int .u8 0, .int .u8 0] 58)).setRow w2.heap.size (Value.slice oa a.length ca :: byteVals pdd).toArray) (w2.heap.size + 1) 58 (.slice none 0 0) (List.replicate 32 0) := ((row58z (w2.alloc (.cells #[.slice none 0 0, .int .u8 0, .int .u8 0, .int .u8 0, .int .u8 0, .int .u8 0, .int .u8 0, .int .u8 0, .int .u8 0, .int .u8 0, .int .u8 0, .int .u8 0, .int .u8 0, .int .u8 0, .int .u8 0, .int .u8 0, .int .u8 0, .int .u8 0, .int .u8 0, .int .u8 0, .int .u8 0, .int .u8 0, .int .u8 0, .int .u8 0, .int .u8 0, .int .u8 0, .int .u8 0, .int .u8 0, .int .u8 0, .int .u8 0, .int .u8 0, .int .u8 0, .int .u8 0] 58)) (w2.heap.size + 1) (by simp)).kept (setRow_other _ _ _ _ (by omega)))
    have hF : FiS w w2.heap.size (.slice oa a.length ca) (.slice ob b.length cb) ((((w2.alloc (.cells #[.slice none 0 0, .int .u8 0, .int .u8 0, .int .u8 0, .int .u8 0, .int .u8 0, .int .u8 0, .int .u8 0, .int .u8 0, .int .u8 0, .int .u8 0, .int .u8 0, .int .u8 0, .int .u8 0, .int .u8 0, .int .u8 0, .int .u8 0, .int .u8 0, .int .u8 0, .int .u8 0, .int .u8 0, .int .u8 0, .int .u8 0, .int .u8 0, .int .u8 0, .int .u8 0, .int .u8 0, .int .u8 0, .int .u8 0, .int .u8 0, .int .u8 0, .int .u8 0, .int .u8 0] 58)).alloc (.cells #[.slice none 0 0, .int .u8 0, .int .u8 0, .int .u8 0, .int .u8 0, .int .u8 0, .int .u8 0, .int .u8 0, .int .u8 0, .int .u8 0, .int .u8 0, .int .u8 0, .int .u8 0, .int .u8 0, .int .u8 0, .int .u8 0, .int .u8 0, .int .u8 0, .int .u8 0, .int .u8 0, .int .u8 0, .int .u8 0, .int .u8 0, .int .u8 0, .int .u8 0, .int .u8 0, .int .u8 0, .int .u8 0, .int .u8 0, .int .u8 0, .int .u8 0, .int .u8 0, .int .u8 0] 58)).setRow w2.heap.size (Value.slice oa a.length ca :: byteVals pdd).toArray).setRow (w2.heap.size + 1) (Value.slice ob b.length cb :: byteVals pdd).toArray) :=
      ⟨bsetRow (bsetRow ((hb3.alloc hge _).alloc (by simp; omega) _) hge _) (by omega) _, hge, by simp, (RowC.put q5).kept (setRow_other _ _ _ _ (by omega)), RowC.put q6⟩
    have HF := Lib.hid hF; have Q5 := Lib.hid q5; have Q6 := Lib.hid q6
    clear hb1 hb2 hb3 hF q5 q6
    go_wp2_with (first | (refine wpList_store_row rfl 58 (.tmp 5) (.tmp 8) rfl w2.heap.size _ rfl rfl 58 _ Q5.out (size58 _ _ hpl) (sz33 _ _ _ _ zl32 hpl) (all_row _ _ rfl) ?_) | (refine wpList_store_row rfl 58 (.tmp 6) (.tmp 10) rfl (w2.heap.size + 1) _ rfl rfl 58 _ Q6.out (size58 _ _ hpl) (sz33 _ _ _ _ zl32 hpl) (all_row _ _ rfl) ?_))
    clear Q5 Q6
    generalize ((((w2.alloc (.cells #[.slice none 0 0, .int .u8 0, .int .u8 0, .int .u8 0, .int .u8 0, .int .u8 0, .int .u8 0, .int .u8 0, .int .u8 0, .int .u8 0, .int .u8 0, .int .u8 0, .int .u8 0, .int .u8 0, .int .u8 0, .int .u8 0, .int .u8 0, .int .u8 0, .int .u8 0, .int .u8 0, .int .u8 0, .int .u8 0, .int .u8 0, .int .u8 0, .int .u8 0, .int .u8 0, .int .u8 0, .int .u8 0, .int .u8 0, .int .u8 0, .int .u8 0, .int .u8 0, .int .u8 0] 58)).alloc (.cells #[.slice none 0 0, .int .u8 0, .int .u8 0, .int .u8 0, .int .u8 0, .int .u8 0, .int .u8 0, .int .u8 0, .int .u8 0, .int .u8 0, .int .u8 0, .int .u8 0, .int .u8 0, .int .u8 0, .int .u8 0, .int .u8 0, .int .u8 0, .int .u8 0, .int .u8 0, .int .u8 0, .int .u8 0, .int .u8 0, .int .u8 0, .int .u8 0, .int .u8 0, .int .u8 0, .int .u8 0, .int .u8 0, .int .u8 0, .int .u8 0, .int .u8 0, .int .u8 0, .int .u8 0] 58)).setRow w2.heap.size (Value.slice oa a.length ca :: byteVals pdd).toArray).setRow (w2.heap.size + 1) (Value.slice ob b.length cb :: byteVals pdd).toArray) = W at *
    go_loopw [4, 16] (fun v i wr => ∃ k : Nat, k ≤ a.length ∧ i = .int .i64 k ∧ (∃ z : Int, v = .int .i64 z) ∧ Hid (FiS w w2.heap.size (.slice oa a.length ca) (.slice ob b.length cb) wr) ∧ Hid (fdiff a b = ffrom a b k (a.length - k))) (fun _ i _ => a.length - (intOf i).toNat)
    case atStart => exact ⟨0, by omega, rfl, ⟨_, rfl⟩, HF, Lib.hid HFD.out⟩
    case round =>
      clear HF
      obtain ⟨k, hk, rfl, ⟨z, rfl⟩, H, HE⟩ := hrel
      by_cases hlt : k < a.length
      · have hlt2 : (k : Int) < (a.length : Int) := by omega
        have ha : ∀ w', FiS w w2.heap.size (.slice oa a.length ca) (.slice ob b.length cb) w' → Calls Tryd.prog 43 #[.agg (.slice oa a.length ca :: byteVals pdd).toArray, .int .i64 (k : Int)] w' fun e w'' => e = .returned (.agg (byteVals (a.getD k pdd)).toArray) ∧ Below w'.heap.size w' w'' :=
          fun w' hN => at_any a pdd _ k w' (HV.out.on hN.below) pdd_dg (by omega)
        have hb : ∀ w', FiS w w2.heap.size (.slice oa a.length ca) (.slice ob b.length cb) w' → Calls Tryd.prog 43 #[.agg (.slice ob b.length cb :: byteVals pdd).toArray, .int .i64 (k : Int)] w' fun e w'' => e = .returned (.agg (byteVals (b.getD k pdd)).toArray) ∧ Below w'.heap.size w' w'' :=
          fun w' hN => at_any b pdd _ k w' (HV2.out.on hN.below) pdd_dg (by omega)
        have hstep : ffrom a b k (a.length - k) = if a.getD k pdd = b.getD k pdd then ffrom a b (k + 1) (a.length - (k + 1)) else (k : Int) := by
          rw [show a.length - k = (a.length - (k + 1)) + 1 from by omega]; rfl
        have hxd := (getD_dg HV.out.2.1 pdd_dg k).1
        have hyd := (getD_dg HV2.out.2.1 pdd_dg k).1
        obtain ⟨X, hX⟩ : ∃ X, X = a.getD k pdd := ⟨_, rfl⟩
        obtain ⟨Y, hY⟩ : ∃ Y, Y = b.getD k pdd := ⟨_, rfl⟩
        rw [← hX] at ha hxd hstep
        rw [← hY] at hb hyd hstep
        have e1 := eqDig X Y hxd hyd
        have HA := Lib.hid ha; have HB := Lib.hid hb; have HST := Lib.hid hstep
        clear ha hb hstep hX hY
        by_cases hxy : X = Y
        · rw [decide_eq_true hxy] at e1
          have hE2 := HST.out
          rw [if_pos hxy] at hE2
          have HE2 : Hid (fdiff a b = ffrom a b (k + 1) (a.length - (k + 1))) := Lib.hid (HE.out.trans hE2)
          clear hxy hE2 HST HE
          go_wp2_with fail
          refine wp_region_held_drew (S := fun w' => FiS w w2.heap.size (.slice oa a.length ca) (.slice ob b.length cb) w') (by kernel_rfl) H.out.drew (fun hHeld => ?_)
          refine wpAnyH_take (i := 0) (oi := _) (v := .agg (Value.slice oa a.length ca :: byteVals pdd).toArray) rfl (by kernel_rfl) (by kernel_rfl) (by kernel_rfl) (fun _ _ _ h => h) (yieldsIf_load_mid (by rfl) 58 _ rfl w2.heap.size 0 rfl (Value.slice oa a.length ca :: byteVals pdd) _ (fun wx hSw => hSw.ra.range) Tryd.underlying58 rfl (s58 _ _ pdd_dg.1)) (by assumption) ?_
          (try simp only [Act.put, List.setIfInBounds_toArray, List.set_cons_zero, List.set_cons_succ])
          refine wpAnyH_take (i := 1) (oi := _) (v := .int .i64 (k : Int)) rfl (by kernel_rfl) (by kernel_rfl) (by kernel_rfl) (fun _ _ _ h => h) (Or.inl ⟨by rfl, fun wx hSw => ?_⟩) (by assumption) ?_
          · go_simp
            try (rw [IntKind.wrap_i64]; omega)
          (try simp only [Act.put, List.setIfInBounds_toArray, List.set_cons_zero, List.set_cons_succ])
          refine wpAnyH_take (i := 3) (oi := _) (v := .agg (Value.slice ob b.length cb :: byteVals pdd).toArray) rfl (by kernel_rfl) (by kernel_rfl) (by kernel_rfl) (fun _ _ _ h => h) (yieldsIf_load_mid (by rfl) 58 _ rfl (w2.heap.size + 1) 0 rfl (Value.slice ob b.length cb :: byteVals pdd) _ (fun wx hSw => hSw.rb.range) Tryd.underlying58 rfl (s58 _ _ pdd_dg.1)) (by assumption) ?_
          (try simp only [Act.put, List.setIfInBounds_toArray, List.set_cons_zero, List.set_cons_succ])
          refine wpAnyH_take (i := 4) (oi := _) (v := .int .i64 (k : Int)) rfl (by kernel_rfl) (by kernel_rfl) (by kernel_rfl) (fun _ _ _ h => h) (Or.inl ⟨by rfl, fun wx hSw => ?_⟩) (by assumption) ?_
          · go_simp
            try (rw [IntKind.wrap_i64]; omega)
          (try simp only [Act.put, List.setIfInBounds_toArray, List.set_cons_zero, List.set_cons_succ])
          refine wpAnyH_ready (rs := [2]) (by kernel_rfl) (by simp) ?_
          refine AllReadyH.cons (o := _) rfl (fun K hK => ?_) AllReadyH.nil
          go_simp
          refine (HA.out _ hHeld).mono ?_; rintro e w5 ⟨rfl, hb5⟩; have h5 := hHeld.call hb5; clear hb5 hHeld
          go_wp2_with fail
          refine hK.out _ _ (h5) (fun hHeld => ?_)
          clear hK K
          (try simp only [Act.put, List.setIfInBounds_toArray, List.set_cons_zero, List.set_cons_succ])
          refine wpAnyH_ready (rs := [5]) (by kernel_rfl) (by simp) ?_
          refine AllReadyH.cons (o := _) rfl (fun K hK => ?_) AllReadyH.nil
          go_simp
          refine (HB.out _ hHeld).mono ?_; rintro e w6 ⟨rfl, hb6⟩; have h6 := hHeld.call hb6; clear hb6 hHeld h5
          go_wp2_with fail
          refine hK.out _ _ (h6) (fun hHeld => ?_)
          clear hK K
          (try simp only [Act.put, List.setIfInBounds_toArray, List.set_cons_zero, List.set_cons_succ])
          refine wpAnyH_take (i := 6) (oi := _) (v := .bool false) rfl (by kernel_rfl) (by kernel_rfl) (by kernel_rfl) (fun _ _ _ h => h) (Or.inl ⟨by rfl, fun wx hSw => ?_⟩) (by assumption) ?_
          · go_simp
            try (rw [IntKind.wrap_i64]; omega)
          (try simp only [Act.put, List.setIfInBounds_toArray, List.set_cons_zero, List.set_cons_succ])
          refine wpAnyH_done (by kernel_rfl) ?_ _
          have H6 := Lib.hid h6
          clear h6 hHeld HA HB H e1
          go_wp2
          go_roundw
          case rel => exact ⟨k + 1, by omega, by go_num, ⟨_, rfl⟩, H6, HE2⟩
          case measure => simp [intOf]; omega
        · rw [decide_eq_false hxy] at e1
          have hE2 := HST.out
          rw [if_neg hxy] at hE2
          have HE2 : Hid (fdiff a b = (k : Int)) := Lib.hid (HE.out.trans hE2)
          clear hxy hE2 HST HE
          go_wp2_with fail
          refine wp_region_held_drew (S := fun w' => FiS w w2.heap.size (.slice oa a.length ca) (.slice ob b.length cb) w') (by kernel_rfl) H.out.drew (fun hHeld => ?_)
          refine wpAnyH_take (i := 0) (oi := _) (v := .agg (Value.slice oa a.length ca :: byteVals pdd).toArray) rfl (by kernel_rfl) (by kernel_rfl) (by kernel_rfl) (fun _ _ _ h => h) (yieldsIf_load_mid (by rfl) 58 _ rfl w2.heap.size 0 rfl (Value.slice oa a.length ca :: byteVals pdd) _ (fun wx hSw => hSw.ra.range) Tryd.underlying58 rfl (s58 _ _ pdd_dg.1)) (by assumption) ?_
          (try simp only [Act.put, List.setIfInBounds_toArray, List.set_cons_zero, List.set_cons_succ])
          refine wpAnyH_take (i := 1) (oi := _) (v := .int .i64 (k : Int)) rfl (by kernel_rfl) (by kernel_rfl) (by kernel_rfl) (fun _ _ _ h => h) (Or.inl ⟨by rfl, fun wx hSw => ?_⟩) (by assumption) ?_
          · go_simp
            try (rw [IntKind.wrap_i64]; omega)
          (try simp only [Act.put, List.setIfInBounds_toArray, List.set_cons_zero, List.set_cons_succ])
          refine wpAnyH_take (i := 3) (oi := _) (v := .agg (Value.slice ob b.length cb :: byteVals pdd).toArray) rfl (by kernel_rfl) (by kernel_rfl) (by kernel_rfl) (fun _ _ _ h => h) (yieldsIf_load_mid (by rfl) 58 _ rfl (w2.heap.size + 1) 0 rfl (Value.slice ob b.length cb :: byteVals pdd) _ (fun wx hSw => hSw.rb.range) Tryd.underlying58 rfl (s58 _ _ pdd_dg.1)) (by assumption) ?_
          (try simp only [Act.put, List.setIfInBounds_toArray, List.set_cons_zero, List.set_cons_succ])
          refine wpAnyH_take (i := 4) (oi := _) (v := .int .i64 (k : Int)) rfl (by kernel_rfl) (by kernel_rfl) (by kernel_rfl) (fun _ _ _ h => h) (Or.inl ⟨by rfl, fun wx hSw => ?_⟩) (by assumption) ?_
          · go_simp
            try (rw [IntKind.wrap_i64]; omega)
          (try simp only [Act.put, List.setIfInBounds_toArray, List.set_cons_zero, List.set_cons_succ])
          refine wpAnyH_ready (rs := [2]) (by kernel_rfl) (by simp) ?_
          refine AllReadyH.cons (o := _) rfl (fun K hK => ?_) AllReadyH.nil
          go_simp
          refine (HA.out _ hHeld).mono ?_; rintro e w5 ⟨rfl, hb5⟩; have h5 := hHeld.call hb5; clear hb5 hHeld
          go_wp2_with fail
          refine hK.out _ _ (h5) (fun hHeld => ?_)
          clear hK K
          (try simp only [Act.put, List.setIfInBounds_toArray, List.set_cons_zero, List.set_cons_succ])
          refine wpAnyH_ready (rs := [5]) (by kernel_rfl) (by simp) ?_
          refine AllReadyH.cons (o := _) rfl (fun K hK => ?_) AllReadyH.nil
          go_simp
          refine (HB.out _ hHeld).mono ?_; rintro e w6 ⟨rfl, hb6⟩; have h6 := hHeld.call hb6; clear hb6 hHeld h5
          go_wp2_with fail
          refine hK.out _ _ (h6) (fun hHeld => ?_)
          clear hK K
          (try simp only [Act.put, List.setIfInBounds_toArray, List.set_cons_zero, List.set_cons_succ])
          refine wpAnyH_take (i := 6) (oi := _) (v := .bool true) rfl (by kernel_rfl) (by kernel_rfl) (by kernel_rfl) (fun _ _ _ h => h) (Or.inl ⟨by rfl, fun wx hSw => ?_⟩) (by assumption) ?_
          · go_simp
            try (rw [IntKind.wrap_i64]; omega)
          (try simp only [Act.put, List.setIfInBounds_toArray, List.set_cons_zero, List.set_cons_succ])
          refine wpAnyH_done (by kernel_rfl) ?_ _
          have H6 := Lib.hid h6
          clear h6 hHeld HA HB H e1
          go_wp2
          go_ret
          exact ⟨by rw [HE2.out]; rfl, H6.out.below⟩
      · have hk2 : k = a.length := by omega
        subst hk2
        have hz : fdiff a b = -1 := by rw [HE.out, Nat.sub_self]; rfl
        have HZ := Lib.hid hz
        have hlt2 : ¬ ((a.length : Int) < (a.length : Int)) := by omega
        clear hz hlt HE
        go_wp2
        go_ret
        exact ⟨by rw [HZ.out]; rfl, H.out.below⟩
end Go.Proofs.YthmpeeipbclhkaaDoor
