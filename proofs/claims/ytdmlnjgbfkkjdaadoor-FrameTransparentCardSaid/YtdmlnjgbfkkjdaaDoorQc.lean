/-
  The statement 'Rows.FrameTransparentCardSaid': for every content the law of transparency (a frame has a flag as its first and last byte and nowhere else, and is not too long) answers true; the argument reads as it did. Condition: the table of the checksum lies as the program's text lays it.
-/
import Derived.Test.YtdmlnjgbfkkjdaaDoorFr
import Derived.ChangeMaps5
namespace Go.Proofs.YtdmlnjgbfkkjdaaDoor.frameTransparent
open Go.ChangeShapes Go.WideShapes Go.ChangeAt Go.RowKit Go.Lib
set_option linter.unusedVariables false
set_option linter.unusedSimpArgs false

/-- How many flags. -/
def cnt (l : List Int) : Nat := (l.filter fun c => c == 126).length
theorem cnt_next (l : List Int) (k : Nat) (h : k < l.length) : cnt (l.take (k + 1)) = cnt (l.take k) + if l[k] = 126 then 1 else 0 := by
  unfold cnt
  rw [List.take_succ_eq_append_getElem h, List.filter_append, List.length_append]
  by_cases hc : l[k] = 126 <;> simp [List.filter_cons, hc]
theorem cnt_none {l : List Int} (h : 126 ∉ l) : cnt l = 0 := by
  unfold cnt
  rw [List.length_eq_zero_iff, List.filter_eq_nil_iff]
  intro c hc e
  have : c = 126 := by simpa using e
  subst this
  exact h hc
theorem cnt_frm {b : List Int} (h : Rg8 b) : cnt (frm b) = 2 := by
  have h0 := cnt_none (esc_no (seal_rg h (crcI b)))
  unfold cnt at h0 ⊢
  unfold frm wrapF
  rw [List.filter_cons, List.filter_append, if_pos (by rfl), List.length_cons, List.length_append, h0]
  rfl
theorem frm_first (b : List Int) : (frm b)[0]? = some 126 := rfl
theorem frm_last (b : List Int) : (frm b)[(frm b).length - 1]? = some 126 := by
  unfold frm wrapF
  rw [List.length_cons, Nat.add_sub_cancel, ← List.cons_append, List.length_append, List.length_singleton]
  rw [List.getElem?_append_right (by simp)]
  simp
theorem cnt_le (l : List Int) : cnt l ≤ l.length := List.length_filter_le _ _

set_option maxRecDepth 100000 in
set_option maxHeartbeats 4000000 in
theorem walk (b : List Int) (v : Value) (w : World) (hk : KOk w) (hv : Bs (fun k => k < w.heap.size) w v b) :
    Calls Tryd.prog 8 #[v] w fun e w' => e = .returned (.bool true) ∧ Below w.heap.size w w' := by
  have HK := Lib.hid hk; have HV := Lib.hid hv
  obtain ⟨a, c, rfl⟩ := hv.shape
  clear hk
  have hrg : Rg8 b := hv.2.1
  obtain ⟨n, hn⟩ : ∃ n, n = b.length := ⟨_, rfl⟩
  rw [← hn] at HV ⊢
  have HN := Lib.hid hn; clear hn hv
  by_cases hb : n ≤ 8192
  · have hfl := frm_len b
    have HRG := Lib.hid (frm_rg hrg)
    have HCF := Lib.hid (cnt_frm hrg)
    have HF0 := Lib.hid (frm_first b)
    have HF1 := Lib.hid (frm_last b)
    rw [← HN.out] at hfl
    have HMK := Lib.hid (show ∀ wx, Below w.heap.size w wx → Calls Tryd.prog 11 #[.slice a n c] wx (MkOf wx b) from fun wx hx => make_any b _ wx (HK.out.below hx) (HV.out.on hx) (by rw [← HN.out]; exact hb))
    clear hrg
    unfold MkOf at HMK
    generalize frm b = F at *
    go_enter Tryd.func8, Tryd.ntmps8
    go_wp2_with fail
    refine (sane_true w HK.out).mono ?_
    rintro e w1 ⟨rfl, hb1⟩
    have HB1 := Lib.hid hb1; clear hb1
    go_wp2_with fail
    refine (HMK.out w1 HB1.out).mono ?_
    rintro e w2 ⟨v2, rfl, hb2, ho2⟩
    have HB2 := Lib.hid (btrans HB1.out hb2)
    have hF := Bs.own ho2 (by omega) HRG.out
    obtain ⟨N, hN⟩ : ∃ N, N = F.length := ⟨_, rfl⟩
    obtain ⟨g, off, cp, hv2, hcp, _, hcell⟩ := hF.at (by omega)
    rw [← hN] at hfl hv2 hcp HF1
    subst hv2
    have HCE := Lib.hid hcell
    have c0 := hcell 0 126 HF0.out
    have c1 := hcell (N - 1) 126 HF1.out
    have HNF := Lib.hid hN
    clear hb2 ho2 hF hcell hN HMK HK HV
    rw [Nat.add_zero] at c0
    have hN1 : 6 ≤ N := by omega
    go_wp2
    go_loop [5, 6] (fun fl i => ∃ k : Nat, k ≤ N ∧ i = .int .i64 k ∧ ∃ M : Nat, fl = .int .i64 (M : Nat) ∧ Hid (M = cnt (F.take k))) (fun _ i => N - (intOf i).toNat)
    case atStart => exact ⟨0, by omega, rfl, 0, rfl, Lib.hid rfl⟩
    case round =>
      obtain ⟨k, hk, rfl, M, rfl, HM⟩ := hrel
      by_cases hlt : k < N
      · have hkF : k < F.length := by rw [← HNF.out]; exact hlt
        have hc := HCE.out k F[k] (List.getElem?_eq_getElem hkF)
        have hnx := cnt_next F k hkF
        rw [← HM.out] at hnx
        have hMl : M ≤ N := by rw [HM.out]; exact Nat.le_trans (cnt_le _) (by simp; omega)
        by_cases h6 : F[k] = 126
        · rw [if_pos h6] at hnx
          have HX := Lib.hid hnx
          have hq : (F[k] == 126) = true := by rw [h6]; rfl
          clear hnx h6 c0 c1
          go_wp2
          go_round
          case rel => exact ⟨k + 1, by omega, by go_num, M + 1, by go_num, Lib.hid HX.out.symm⟩
          case measure => simp [intOf]; omega
        · rw [if_neg h6, Nat.add_zero] at hnx
          have HX := Lib.hid hnx
          have hq : (F[k] == 126) = false := by simpa using h6
          clear hnx h6 c0 c1
          go_wp2
          go_round
          case rel => exact ⟨k + 1, by omega, by go_num, M, rfl, Lib.hid HX.out.symm⟩
          case measure => simp [intOf]; omega
      · obtain rfl : k = N := by omega
        have hM2 : M = 2 := by rw [HM.out, HNF.out, List.take_length]; exact HCF.out
        subst hM2
        have l1 : (n : Int) + 6 ≤ (k : Int) := by omega
        have l2 : (k : Int) ≤ 2 * (n : Int) + 10 := by omega
        have l3 : ((k : Int) - 1).toNat = k - 1 := by omega
        have l4 : 0 ≤ (k : Int) - 1 := by omega
        have l5 : k - 1 < k := by omega
        clear hlt hk
        go_wp2
        go_ret
        exact ⟨rfl, HB2.out⟩
  · have hb' : 8192 < n := by omega
    have hb2 : (8192 : Int) < (n : Int) := by omega
    clear hrg hb
    go_enter Tryd.func8, Tryd.ntmps8
    go_wp2_with fail
    refine (sane_true w HK.out).mono ?_
    rintro e w1 ⟨rfl, hb1⟩
    have HB1 := Lib.hid hb1; clear hb1
    go_wp2_with fail
    refine (make_big b _ w1 (HV.out.on HB1.out) (by rw [← HN.out]; exact hb')).mono ?_
    rintro e w2 ⟨rfl, rfl⟩
    go_wp2
    go_ret
    exact ⟨rfl, HB1.out⟩

/-- The door's own heap meets the condition. -/
theorem door_met (os : Os) (args : Array Value) : laidMetH Tryd.prog Rows.frameTransparentRow.laid ((World.doorLaid Tryd.prog 400 os).forCall (fun _ _ => 0) ⟨#[], args, []⟩).memory :=
  laidMetH_of_parts3 (fuel := 8) (laidMet_of_run' 8 (by kernel_rfl) (by kernel_rfl)) (by kernel_rfl) (by kernel_rfl)

set_option maxRecDepth 100000 in
theorem lifted (os : Os) (started : os.Started) (H : Type) (enc : TypeId × Value → H) :
    ReturnsInHanded {} Tryd.checked os 8 .any (fun w args => (Rows.frameTransparentSpec.pre enc Tryd.prog Tryd.f8 [] false w args ∧ laidMetH Tryd.prog Rows.frameTransparentRow.laid w) ∧ sizedMet enc Tryd.prog Tryd.f8 (OpenSpec.ofChange Rows.frameTransparentSpec) false w args)
      (Rows.frameTransparentSpec.post enc Tryd.prog Tryd.f8 false true false false) := by
  refine returnsInHanded_of_change_and (C := Tryd.checked) (X := fun w _ => laidMetH Tryd.prog Rows.frameTransparentRow.laid w) (fun _ _ _ hh h => h.of_heap hh) own started (by kernel_rfl) Tryd.func8
    (ChangeSpec.witness_shaped (enc := enc) (C := Tryd.checked) (os := os) (X := fun w _ => laidMetH Tryd.prog Rows.frameTransparentRow.laid w) false (World.doorLaid Tryd.prog 400 os) #[.slice none 0 0] 8 rfl (World.shaped_of_RefB (by kernel_rfl) (by kernel_rfl)) (by kernel_rfl) (by kernel_rfl) (by kernel_rfl) (door_met os _)) ?_
  intro W base args ds gs before hval0 hW _ hsz0 hL _
  have hsz : (DataW.weightsEach Tryd.prog (Tryd.f8.params.toList ++ Rows.frameTransparentSpec.plain.varTypes Tryd.prog) (ds ++ gs)).all (· ≤ reachBytes) = true := hsz0
  clear hsz0
  have hval : ∀ (j : Nat) t v, Tryd.f8.params[j]? = some t → args[j]? = some v → Value.okWide Tryd.prog W .any base t v := hval0
  clear hval0
  have hW' := hW
  obtain ⟨p, q, hA0, hV, rfl, hfz, hnd⟩ := hW
  have hA : DataW.TrodAll enc Tryd.prog W 0 (fun _ => true) true Tryd.f8.params.toList args.toList ds p := hA0
  rw [Tryd.params8] at hA hval hsz
  obtain ⟨v0, vs0, d0, ds0, p0, q0, hargs, rfl, rfl, h0, r0⟩ := trodAll_cons hA
  obtain ⟨rfl, rfl, rfl⟩ := trodAll_nil r0
  obtain rfl : args = #[v0] := by cases args; simp_all
  obtain ⟨rfl, rfl⟩ := trodVars_none hV
  have hw0 : ∀ n ∈ d0.weights Tryd.prog 22, n ≤ reachBytes := by
    intro n hn
    have := List.all_eq_true.1 hsz n (DataW.weights_mem_each (t := 22) (d := d0) (j := 0) rfl rfl n hn)
    simpa using this
  obtain ⟨oa0, ol0, oc0, rfl⟩ := okWide_slice Tryd.underlying22 (hval 0 22 v0 rfl rfl)
  obtain ⟨fu0, hf0⟩ := h0
  obtain ⟨b0, hb0⟩ := openB (v := .slice oa0 ol0 oc0) hf0 hw0
  clear hA0
  refine (walk b0 _ W (kok_of_laid hL) hb0).mono fun e W' ⟨he, hbw⟩ => ?_
  subst he
  refine ⟨_, rfl, post_law laidOut ?_ rfl rfl hW' rfl rfl rfl hbw⟩
  intro t ht
  rw [Tryd.params8] at ht
  have hm : t ∈ [22] := by
    simp at ht
    subst ht; simp
  have hall : ([22].all fun u => Tryd.prog.readableRec u && decide (u < Tryd.prog.types.size)) = true := by kernel_rfl
  have := List.all_eq_true.1 hall t hm
  simpa using this

theorem over : Rows.frameTransparentRow.holds Tryd.pinned (OpenSpec.ofChange Rows.frameTransparentSpec) :=
  OpenClaim.holds_of_wide 8 Tryd.f8 rfl rfl rfl rfl rfl rfl rfl ⟨rfl, rfl, rfl, rfl, rfl⟩ rfl rfl rfl rfl rfl (by kernel_rfl) Tryd.func8 (by kernel_rfl)
    (of_decide_eq_true (by kernel_rfl)) (by unfold Func.isWrapper; first | (rw [if_pos (by decide +kernel)]; kernel_rfl) | (rw [if_neg (by decide +kernel)]; exact ⟨rfl, rfl⟩))
    (fun os started H enc _ => lifted os started H enc)

/-- THE STATEMENT. -/
theorem proved : Rows.FrameTransparentCardSaid :=
  Claim7.holds_tied_plain_at .later [] [.data] true (true, "77527d3cf38f6b3763f46bed1e18cdecc3d688c4d8546000962d453ae035ff12") false
    over (fun _ h => by cases h) (by kernel_rfl) (fun _ h => by cases h) frameTransparent_row_tie rfl ⟨rfl, rfl⟩ (by kernel_rfl) rfl
    (fun f fn hf hfn => by
      obtain rfl : f = 8 := Option.some.inj ((show Tryd.prog.funcNamed "wagonpool/wagonpoollaw10.FrameTransparent" = some 8 by kernel_rfl).symm.trans hf) |>.symm
      obtain rfl : fn = Tryd.f8 := (Option.some.inj (Tryd.func8.symm.trans hfn)).symm
      exact ⟨by kernel_rfl, fun j t ht => by
        rw [Tryd.params8] at ht
        have hm : t ∈ [22] := by
          have := Array.mem_of_getElem? ht
          simp at this
          subst this; simp
        have hall : ([22].all fun u => !Tryd.prog.wantsStandIn u) = true := by kernel_rfl
        exact (show Tryd.prog.wantsStandIn t = false by simpa using List.all_eq_true.1 hall t hm)⟩)
    (by kernel_rfl)
#print axioms proved
end Go.Proofs.YtdmlnjgbfkkjdaaDoor.frameTransparent
