/-
  The statement 'Rows.DigestNumbersCardSaid': for all two digests the law of their numbers returns true; the arguments read as they did.
-/
import Derived.Test.YtecgcnfjpaemcaaDoorLw
namespace Go.Proofs.YtecgcnfjpaemcaaDoor.digestNumbers
open Go.ChangeShapes Go.WideShapes Go.ChangeAt Go.RowKit
set_option linter.unusedVariables false

theorem num_drop (l : List Int) (hl : ∀ u ∈ l, 0 ≤ u ∧ u ≤ 255) (k i : Nat) (hk : k ≤ l.length) (hi : i < k) : num (l.take k) / 256 ^ (k - 1 - i) % 256 = l[i]'(by omega) := by
  induction k with
  | zero => omega
  | succ k ih =>
    rw [num_take l k (by omega)]
    have hr := hl l[k] (List.getElem_mem _)
    by_cases h : i = k
    · subst h
      rw [show i + 1 - 1 - i = 0 from by omega, Int.pow_zero, Int.ediv_one]
      omega
    · have e : k + 1 - 1 - i = (k - 1 - i) + 1 := by omega
      rw [e, Int.pow_succ, Int.mul_comm ((256 : Int) ^ (k - 1 - i)) 256, ← Int.ediv_ediv_of_nonneg (by omega)]
      have : (num (l.take k) * 256 + l[k]) / 256 = num (l.take k) := by omega
      rw [this]
      exact ih (by omega) (by omega)

theorem num_byte (l : List Int) (hl : ∀ u ∈ l, 0 ≤ u ∧ u ≤ 255) (hn : l.length = 32) (i : Nat) (hi : i < 8) : num (l.take 8) / 2 ^ (56 - 8 * i) % 256 = l[i]'(by omega) := by
  rw [← num_drop l hl 8 i (by omega) hi, show 56 - 8 * i = 8 * (8 - 1 - i) from by omega, Int.pow_mul]
  rfl

theorem num_cons (c : Int) (l : List Int) : num (c :: l) = c * 256 ^ l.length + num l := by
  have h : ∀ (l : List Int) (s : Int), l.foldl (fun n c => n * 256 + c) s = s * 256 ^ l.length + l.foldl (fun n c => n * 256 + c) 0 := by
    intro l
    induction l with
    | nil => intro s; simp
    | cons c l ih =>
      intro s
      simp only [List.foldl_cons, List.length_cons]
      rw [ih (s * 256 + c), ih (0 * 256 + c), Int.pow_succ, Int.add_mul, Int.zero_mul, Int.zero_add, Int.mul_assoc, Int.mul_comm 256, Int.add_assoc]
  unfold num
  rw [List.foldl_cons, h]
  simp

theorem num_bound (l : List Int) (hl : ∀ u ∈ l, 0 ≤ u ∧ u ≤ 255) : 0 ≤ num l ∧ num l < 256 ^ l.length := by
  have := num_range l hl l.length (Nat.le_refl _)
  rwa [List.take_length] at this

theorem bytesLess_num : ∀ (l m : List Int), l.length = m.length → (∀ u ∈ l, 0 ≤ u ∧ u ≤ 255) → (∀ u ∈ m, 0 ≤ u ∧ u ≤ 255) → Op.bytesLess (l.map fun n => UInt8.ofNat n.toNat) (m.map fun n => UInt8.ofNat n.toNat) = decide (num l < num m)
  | [], [], _, _, _ => by simp [Op.bytesLess, num]
  | [], _ :: _, h, _, _ => by simp at h
  | _ :: _, [], h, _, _ => by simp at h
  | a :: l, b :: m, h, hl, hm => by
    have ih := bytesLess_num l m (by simpa using h) (fun u hu => hl u (by simp [hu])) (fun u hu => hm u (by simp [hu]))
    have ha := hl a (by simp)
    have hb := hm b (by simp)
    obtain ⟨p0, p1⟩ := num_bound l (fun u hu => hl u (by simp [hu]))
    obtain ⟨q0, q1⟩ := num_bound m (fun u hu => hm u (by simp [hu]))
    have hlen : l.length = m.length := by simpa using h
    simp only [List.map_cons, Op.bytesLess, ih]
    rw [num_cons, num_cons, ← hlen]
    rw [← hlen] at q1
    generalize (256 : Int) ^ l.length = P at *
    have e1 : (UInt8.ofNat a.toNat < UInt8.ofNat b.toNat) ↔ a < b := by
      rw [UInt8.lt_iff_toNat_lt, UInt8.toNat_ofNat', UInt8.toNat_ofNat']
      rw [Nat.mod_eq_of_lt (by omega), Nat.mod_eq_of_lt (by omega)]
      omega
    have e2 : (UInt8.ofNat a.toNat == UInt8.ofNat b.toNat) = decide (a = b) := by
      by_cases hab : a = b
      · subst hab; simp
      · have : UInt8.ofNat a.toNat ≠ UInt8.ofNat b.toNat := by
          intro e
          have := congrArg UInt8.toNat e
          rw [UInt8.toNat_ofNat', UInt8.toNat_ofNat', Nat.mod_eq_of_lt (by omega), Nat.mod_eq_of_lt (by omega)] at this
          omega
        simp [this, hab]
    rw [e2]
    rcases Int.lt_trichotomy a b with hab | hab | hab
    · have h5 : (a + 1) * P ≤ b * P := Int.mul_le_mul_of_nonneg_right (by omega) (by omega)
      rw [Int.add_mul, Int.one_mul] at h5
      have : a * P + num l < b * P + num m := by omega
      simp [e1, hab, this]
    · subst hab
      simp [e1]
    · have h5 : (b + 1) * P ≤ a * P := Int.mul_le_mul_of_nonneg_right (by omega) (by omega)
      rw [Int.add_mul, Int.one_mul] at h5
      have h6 : ¬ (a * P + num l < b * P + num m) := by omega
      have h7 : ¬ a < b := by omega
      have h8 : ¬ a = b := by omega
      simp [e1, h6, h7, h8]

theorem toList_nums (l : List Int) : (strOfNums l).toList = l.map fun n => UInt8.ofNat n.toNat := by
  rw [ByteArray.toList_eq]
  exact strOfNums_data l

set_option maxRecDepth 100000 in
set_option maxHeartbeats 2000000 in
theorem walk (a b : List Int) (w : World) (hk : KOk w) (ha : a.length = 32) (hb : b.length = 32) (ra : ∀ u ∈ a, 0 ≤ u ∧ u ≤ 255) (rb : ∀ u ∈ b, 0 ≤ u ∧ u ≤ 255) :
    Calls Tryd.prog 10 #[.agg (byteVals a).toArray, .agg (byteVals b).toArray] w fun e w' => e = .returned (.bool true) ∧ Below w.heap.size w w' := by
  have hb0 : Below w.heap.size w ((w.alloc (.cells (byteVals a).toArray 25)).alloc (.cells (byteVals b).toArray 25)) := ball (ball (Below.refl _ _) _) _
  have h0 : RowB ((w.alloc (.cells (byteVals a).toArray 25)).alloc (.cells (byteVals b).toArray 25)) w.heap.size 25 a := (RowB.new w 25 a).kept (heap_alloc_old _ _ (by simp))
  have h1 : RowB ((w.alloc (.cells (byteVals a).toArray 25)).alloc (.cells (byteVals b).toArray 25)) (w.heap.size + 1) 25 b := RowB.new' _ (by simp) rfl
  have hsz : ((w.alloc (.cells (byteVals a).toArray 25)).alloc (.cells (byteVals b).toArray 25)).heap.size = w.heap.size + 2 := by simp
  have HK := Lib.hid hk; have RA := Lib.hid ra; have RB := Lib.hid rb; have HB0 := Lib.hid hb0; have H0 := Lib.hid h0; have H1 := Lib.hid h1; have HSZ := Lib.hid hsz
  clear hk ra rb hb0 h0 h1 hsz
  go_enter Tryd.func10, Tryd.ntmps10
  go_wp2_with fail
  refine (sane_true _ (HK.out.below HB0.out)).mono ?_
  rintro e w1 ⟨rfl, hb1⟩
  have h0 : RowB w1 w.heap.size 25 a := H0.out.kept (hb1.block _ (by rw [HSZ.out]; omega))
  have h1 : RowB w1 (w.heap.size + 1) 25 b := H1.out.kept (hb1.block _ (by rw [HSZ.out]; omega))
  have hB1 : Below w.heap.size w w1 := HB0.out.trans (hb1.mono HB0.out.size)
  have hs1 : w.heap.size + 2 ≤ w1.heap.size := by have := hb1.size; rw [HSZ.out] at this; exact this
  clear HB0 H0 H1 HSZ hb1
  have HB1 := Lib.hid hB1; have HS1 := Lib.hid hs1; clear hB1 hs1
  go_wp2_with (refine wpList_load_row rfl 25 (.tmp 2) rfl w.heap.size rfl 25 _ (0, 0) _ h0 Tryd.underlying25 rfl (size25 _ ha) ?_)
  refine (number_any a w1 ha RA.out).mono ?_
  rintro e w2 ⟨rfl, hb2⟩
  have h0' : RowB w2 w.heap.size 25 a := h0.kept (hb2.block _ (by have := HS1.out; omega))
  have h1' : RowB w2 (w.heap.size + 1) 25 b := h1.kept (hb2.block _ (by have := HS1.out; omega))
  have HB2 := Lib.hid (HB1.out.trans (hb2.mono HB1.out.size)); have HS2 := Lib.hid (show w.heap.size + 2 ≤ w2.heap.size from Nat.le_trans HS1.out hb2.size)
  clear hb2 HB1 HS1 h0 h1
  go_wp2_with (refine wpList_load_row rfl 25 (.tmp 3) rfl (w.heap.size + 1) rfl 25 _ (0, 0) _ h1' Tryd.underlying25 rfl (size25 _ hb) ?_)
  refine (number_any b w2 hb RB.out).mono ?_
  rintro e w3 ⟨rfl, hb3⟩
  have h0 : RowB w3 w.heap.size 25 a := h0'.kept (hb3.block _ (by have := HS2.out; omega))
  have h1 : RowB w3 (w.heap.size + 1) 25 b := h1'.kept (hb3.block _ (by have := HS2.out; omega))
  have HB3 := Lib.hid (HB2.out.trans (hb3.mono HB2.out.size))
  clear hb3 HB2 HS2 h0' h1'
  have H0 := Lib.hid h0; have H1 := Lib.hid h1; clear h0 h1
  obtain ⟨x, hx⟩ : ∃ x, x = num (a.take 8) := ⟨_, rfl⟩
  obtain ⟨y, hy⟩ : ∃ y, y = num (b.take 8) := ⟨_, rfl⟩
  rw [← hx, ← hy]
  have HX := Lib.hid hx; have HY := Lib.hid hy; clear hx hy
  go_wp2_with fail
  go_loopw [7] (fun i wr => ∃ k : Nat, k ≤ 8 ∧ i = .int .i64 k ∧ ∃ m, wr = w3.drewN m) (fun i _ => 8 - (intOf i).toNat)
  case atStart => exact ⟨0, by omega, rfl, 0, rfl⟩
  case round =>
    obtain ⟨k, hk, rfl, m, rfl⟩ := hrel
    by_cases hlt : k < 8
    · have hc : (w3.drewN m).cell? ⟨w.heap.size, k, none⟩ = some (.int .u8 (a[k]'(by omega))) := H0.out.cell (List.getElem?_eq_getElem (by omega))
      have hv : x / 2 ^ (56 - 8 * k) % 256 = a[k]'(by omega) := by rw [HX.out]; exact num_byte a RA.out ha k hlt
      have e1 : (56 : Int) - 8 * (k : Int) = ((56 - 8 * k : Nat) : Int) := by omega
      obtain ⟨q0, q, w1', w2', hq⟩ : ∃ q0 q : Nat, IntKind.i64.wrap (8 * (k : Int)) = (q0 : Int) ∧ IntKind.i64.wrap (56 - (q0 : Int)) = (q : Int) ∧ q = 56 - 8 * k := ⟨8 * k, 56 - 8 * k, by rw [IntKind.wrap_i64]; omega, by rw [IntKind.wrap_i64]; omega, rfl⟩
      rw [← hq, ← Nat.min_eq_left (show q ≤ 64 by omega)] at hv
      have b1 : (k : Int) < 32 := by omega
      clear e1 hq
      generalize hak : a[k]'(by omega) = ak at *
      clear hak
      have hne : (x / 2 ^ min q 64 % 256 != ak) = false := by rw [hv]; simp
      generalize hw4 : w3.drewN m = w4 at *
      go_wp2
      go_quiet (fail)
      go_wp2
      go_roundw
      case rel => exact ⟨k + 1, by omega, by go_num, m + nq, by rw [← hw4]; exact World.drewN_drewN _ _ _⟩
      case measure => simp [intOf]; omega
    · have hk' : k = 8 := by omega
      subst hk'
      obtain ⟨sa, hsa⟩ : ∃ sa, sa = strOfNums (a.take 8) := ⟨_, rfl⟩
      obtain ⟨sb, hsb⟩ : ∃ sb, sb = strOfNums (b.take 8) := ⟨_, rfl⟩
      have hca : ∀ n, (convert 22 9 (.slice (some ⟨w.heap.size, 0, none⟩) 8 32)).run Tryd.prog (w3.drewN n) = .ok (.string sa) (w3.drewN n) := by
        intro n
        rw [hsa]
        exact run_convert_bytes_arg (P := Tryd.prog) (w3.drewN n) 22 5 Tryd.underlying22 Tryd.underlying5 w.heap.size 0 8 32 (a.take 8) (by simp; omega) (fun i hi => by
          rw [Nat.zero_add]
          refine (H0.out.cell ?_ : w3.cell? _ = _)
          rw [List.getD_eq_getElem?_getD, List.getElem?_take, if_pos hi, List.getElem?_eq_getElem (by omega)]; rfl) 9 Tryd.underlying9
      have hcb : ∀ n, (convert 22 9 (.slice (some ⟨w.heap.size + 1, 0, none⟩) 8 32)).run Tryd.prog (w3.drewN n) = .ok (.string sb) (w3.drewN n) := by
        intro n
        rw [hsb]
        exact run_convert_bytes_arg (P := Tryd.prog) (w3.drewN n) 22 5 Tryd.underlying22 Tryd.underlying5 (w.heap.size + 1) 0 8 32 (b.take 8) (by simp; omega) (fun i hi => by
          rw [Nat.zero_add]
          refine (H1.out.cell ?_ : w3.cell? _ = _)
          rw [List.getD_eq_getElem?_getD, List.getElem?_take, if_pos hi, List.getElem?_eq_getElem (by omega)]; rfl) 9 Tryd.underlying9
      have HSA := Lib.hid hsa; have HSB := Lib.hid hsb; clear hsa hsb
      have hca' : ∀ n, (convert 22 9 (.slice (some ⟨w.heap.size, 0, none⟩) 8 32)).run Tryd.prog ((w3.drewN m).drewN n) = .ok (.string sa) ((w3.drewN m).drewN n) := fun n => by rw [World.drewN_drewN]; exact hca _
      have hcb' : ∀ n, (convert 22 9 (.slice (some ⟨w.heap.size + 1, 0, none⟩) 8 32)).run Tryd.prog ((w3.drewN m).drewN n) = .ok (.string sb) ((w3.drewN m).drewN n) := fun n => by rw [World.drewN_drewN]; exact hcb _
      have HB4 := Lib.hid (bdrewN HB3.out m)
      clear hca hcb
      generalize w3.drewN m = w4 at *
      go_wp2
      go_quiet (fail)
      have hfin : (decide (x < y) == Op.bytesLess sa.toList sb.toList) = true := by
        rw [HSA.out, HSB.out, toList_nums, toList_nums, bytesLess_num _ _ (by simp; omega) (fun u hu => RA.out u (List.mem_of_mem_take hu)) (fun u hu => RB.out u (List.mem_of_mem_take hu)), HX.out, HY.out]
        simp
      rw [hfin]
      go_wp2
      go_ret
      exact ⟨rfl, bdrewN HB4.out _⟩

/-- The door's own heap meets the condition. -/
theorem door_met (os : Os) (args : Array Value) : laidMetH Tryd.prog Rows.digestNumbersRow.laid ((World.doorLaid Tryd.prog 400 os).forCall (fun _ _ => 0) ⟨#[], args, []⟩).memory :=
  laidMetH_of_parts3 (fuel := 8) (laidMet_of_run' 8 (by kernel_rfl) (by kernel_rfl)) (by kernel_rfl) (by kernel_rfl)

set_option maxRecDepth 100000 in
theorem lifted (os : Os) (started : os.Started) (H : Type) (enc : TypeId × Value → H) :
    ReturnsInHanded {} Tryd.checked os 10 .any (fun w args => (Rows.digestNumbersSpec.pre enc Tryd.prog Tryd.f10 [] false w args ∧ laidMetH Tryd.prog Rows.digestNumbersRow.laid w) ∧ sizedMet enc Tryd.prog Tryd.f10 (OpenSpec.ofChange Rows.digestNumbersSpec) false w args)
      (Rows.digestNumbersSpec.post enc Tryd.prog Tryd.f10 false true false false) := by
  refine returnsInHanded_of_change_and (C := Tryd.checked) (X := fun w _ => laidMetH Tryd.prog Rows.digestNumbersRow.laid w) (fun _ _ _ hh h => h.of_heap hh) own started (by kernel_rfl) Tryd.func10
    (ChangeSpec.witness_shaped (enc := enc) (C := Tryd.checked) (os := os) (X := fun w _ => laidMetH Tryd.prog Rows.digestNumbersRow.laid w) false (World.doorLaid Tryd.prog 400 os) #[.agg (byteVals zer).toArray, .agg (byteVals zer).toArray] 8 rfl (World.shaped_of_RefB (by kernel_rfl) (by kernel_rfl)) (by kernel_rfl) (by kernel_rfl) (by kernel_rfl) (door_met os _)) ?_
  intro W base args ds gs before hval0 hW _ _ hL _
  have hval : ∀ (j : Nat) t v, Tryd.f10.params[j]? = some t → args[j]? = some v → Value.okWide Tryd.prog W .any base t v := hval0
  have hW' := hW
  obtain ⟨p, q, hA0, hV, rfl, hfz, hnd⟩ := hW
  have hA : DataW.TrodAll enc Tryd.prog W 0 (fun _ => true) true Tryd.f10.params.toList args.toList ds p := hA0
  rw [Tryd.params10] at hA hval
  obtain ⟨v0, vs0, d0, ds0, p0, q0, hargs, rfl, rfl, h0, r0⟩ := trodAll_cons hA
  obtain ⟨v1, vs1, d1, ds1, p1, q1, rfl, rfl, rfl, h1, r1⟩ := trodAll_cons r0
  obtain ⟨rfl, rfl, rfl⟩ := trodAll_nil r1
  obtain rfl : args = #[v0, v1] := by cases args; simp_all
  obtain ⟨rfl, rfl⟩ := trodVars_none hV
  obtain ⟨a, rfl, ha, ra⟩ := openDig (hval 0 25 v0 rfl rfl) h0
  obtain ⟨b, rfl, hb, rb⟩ := openDig (hval 1 25 v1 rfl rfl) h1
  clear hA0 hval0
  simp only [List.append_nil] at hW'
  refine (walk a b W (kok_of_laid hL) ha hb ra rb).mono fun e W' ⟨he, hbw⟩ => ?_
  subst he
  refine ⟨_, rfl, post_law laidOut ?_ rfl rfl hW' rfl rfl rfl hbw⟩
  intro t ht
  rw [Tryd.params10] at ht
  simp at ht
  subst ht
  exact ⟨by kernel_rfl, of_decide_eq_true (by kernel_rfl)⟩

theorem over : Rows.digestNumbersRow.holds Tryd.pinned (OpenSpec.ofChange Rows.digestNumbersSpec) :=
  OpenClaim.holds_of_wide 10 Tryd.f10 rfl rfl rfl rfl rfl rfl rfl ⟨rfl, rfl, rfl, rfl, rfl⟩ rfl rfl rfl rfl rfl (by kernel_rfl) Tryd.func10 (by kernel_rfl)
    (of_decide_eq_true (by kernel_rfl)) (by unfold Func.isWrapper; first | (rw [if_pos (by decide +kernel)]; kernel_rfl) | (rw [if_neg (by decide +kernel)]; exact ⟨rfl, rfl⟩))
    (fun os started H enc _ => lifted os started H enc)

/-- THE STATEMENT. -/
theorem proved : Rows.DigestNumbersCardSaid :=
  Claim7.holds_tied_plain_at .later [] [.data] true (true, "5b71b292ae13d560f78d921198e2d2567ee92d257eb85392c5009a583e81aed0") false
    over (fun _ h => by cases h) (by kernel_rfl) (fun _ h => by cases h) digestNumbers_row_tie rfl ⟨rfl, rfl⟩ (by kernel_rfl) rfl
    (fun f fn hf hfn => by
      obtain rfl : f = 10 := Option.some.inj ((show Tryd.prog.funcNamed "wagonpool/wagonpoollaw02.DigestNumbers" = some 10 by kernel_rfl).symm.trans hf) |>.symm
      obtain rfl : fn = Tryd.f10 := (Option.some.inj (Tryd.func10.symm.trans hfn)).symm
      exact ⟨by kernel_rfl, fun j t ht => by
        rw [Tryd.params10] at ht
        have hm : t ∈ [25] := by have := Array.mem_of_getElem? ht; simpa using this
        have hall : ([25].all fun u => !Tryd.prog.wantsStandIn u) = true := by kernel_rfl
        exact (show Tryd.prog.wantsStandIn t = false by simpa using List.all_eq_true.1 hall t hm)⟩)
    (by kernel_rfl)
#print axioms proved
end Go.Proofs.YtecgcnfjpaemcaaDoor.digestNumbers
