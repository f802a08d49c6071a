/-
  The statement 'Rows.DigestChainBindsCardSaid': for all digests and lists of byte sequences the law of chains returns true; the arguments read as they did.
-/
import Derived.Test.YtecgcnfjpaemcaaDoorCx
import Derived.ChangeMaps5
namespace Go.Proofs.YtecgcnfjpaemcaaDoor.digestChainBinds
open Go.ChangeShapes Go.WideShapes Go.ChangeAt Go.RowKit
set_option linter.unusedVariables false


theorem same_still (F G : Nat → Prop) (a b : List Int) (v u : Value) (w : World) (ha : Bs F w v a) (hb : Bs G w u b) :
    Calls Tryd.prog 21 #[v, u] w fun e w' => e = .returned (.bool (decide (a = b))) ∧ w' = w :=
  (same_any F G a b v u w ha hb).mono fun e w' ⟨h1, h2⟩ => ⟨h1, h2.symm⟩

theorem Ls.pick {w w6 : World} {a : Option Addr} {c : Nat} {l : List (List Int)} (h : Ls (fun k => k < w.heap.size) w (.slice a l.length c) l) (hb : Below w.heap.size w w6) (j : Nat) (hj : j < l.length) :
    ∃ g off b ua uc, a = some ⟨g, off, none⟩ ∧ l[j]? = some b ∧ w6.cell? ⟨g, off + j, none⟩ = some (.slice ua b.length uc) ∧ Bs (fun k => k < w6.heap.size) w6 (.slice ua b.length uc) b ∧ b.length ≤ uc := by
  obtain ⟨_, a', cap', he, hc, hp⟩ := h.up2 (fun k hk => hb.block k hk) hb.size
  simp only [Value.slice.injEq] at he
  obtain ⟨rfl, _, rfl⟩ := he
  obtain ⟨g, off, rfl, _, hcell⟩ := hp (by omega)
  have hb' := List.getElem?_eq_getElem hj
  obtain ⟨u, hu, hbs⟩ := hcell j _ hb'
  have h2 := hbs
  obtain ⟨_, _, ua, uc, rfl, h3, _⟩ := h2
  exact ⟨g, off, _, ua, uc, rfl, hb', hu, hbs, h3⟩

theorem still_off {P : Program} {ops : Array Oper} {rest : List Oper} {o : Oper} {a : Act} {w : World} {Q : Act → Prop} (hw : Region.wanted o (yielded ops a.tmps) = false)
    (h : wpStill P ops w Q rest (a.put o.dst undef)) : wpStill P ops w Q (o :: rest) a :=
  wpStill_step fun K hK => by
    rw [if_neg (by rw [hw]; decide)]
    exact hK _ h

set_option maxRecDepth 100000 in
set_option maxHeartbeats 4000000 in
theorem walk (d : List Int) (l m : List (List Int)) (a : Option Addr) (c : Nat) (a' : Option Addr) (c' : Nat) (w : World) (hk : KOk w) (hd : d.length = 32) (hr : ∀ u ∈ d, 0 ≤ u ∧ u ≤ 255) (hv : Ls (fun k => k < w.heap.size) w (.slice a l.length c) l) (hv' : Ls (fun k => k < w.heap.size) w (.slice a' m.length c') m) :
    Calls Tryd.prog 9 #[.agg (byteVals d).toArray, .slice a l.length c, .slice a' m.length c'] w fun e w' => e = .returned (.bool true) ∧ Below w.heap.size w w' := by
  have HK := Lib.hid hk; have HV := Lib.hid hv; have HV' := Lib.hid hv'; have Hd := Lib.hid hd; have Hr := Lib.hid hr
  clear hk hv hv' hr
  have hb0 : Below w.heap.size w (w.alloc (.cells (byteVals d).toArray 25)) := ball (Below.refl _ _) _
  have hrow0 : RowB (w.alloc (.cells (byteVals d).toArray 25)) w.heap.size 25 d := RowB.new w 25 d
  have hsz0 : w.heap.size < (w.alloc (.cells (byteVals d).toArray 25)).heap.size := by simp
  have L1 := Lib.hid (fun w hv => long_any l a c w hv)
  have L2 := Lib.hid (fun w hv => long_any m a' c' w hv)
  by_cases hlm : l.length = m.length
  · obtain ⟨L, hL⟩ : ∃ L, l.length = L := ⟨_, rfl⟩
    have hM : m.length = L := by omega
    have HL := Lib.hid hL; have HM := Lib.hid hM
    rw [hL, hM]
    by_cases hl1 : lng l = true
    · rw [hl1] at L1
      go_enter Tryd.func9, Tryd.ntmps9
      go_wp2_with fail
      refine (sane_true _ (HK.out.below hb0)).mono ?_
      rintro e w1 ⟨rfl, hb1⟩
      have hrow1 : RowB w1 w.heap.size 25 d := hrow0.kept (hb1.block _ hsz0)
      have hsz1 : w.heap.size < w1.heap.size := Nat.lt_of_lt_of_le hsz0 hb1.size
      have B1 := Lib.hid (hb0.trans (hb1.mono (Nat.le_of_lt hsz0))); clear hb1
      have M1 := L1.out w1 (HV.out.up2 (fun k hk => B1.out.block k hk) B1.out.size)
      have M2 := L2.out w1 (HV'.out.up2 (fun k hk => B1.out.block k hk) B1.out.size)
      rw [hL] at M1
      rw [hM] at M2
      go_wp2_with fail
      refine M1.mono ?_
      rintro e w2 ⟨rfl, rfl⟩
      go_wp2
      go_ret
      exact ⟨rfl, B1.out⟩
    · by_cases hl2 : lng m = true
      · have hl1' : lng l = false := by simpa using hl1
        rw [hl1'] at L1
        rw [hl2] at L2
        go_enter Tryd.func9, Tryd.ntmps9
        go_wp2_with fail
        refine (sane_true _ (HK.out.below hb0)).mono ?_
        rintro e w1 ⟨rfl, hb1⟩
        have hrow1 : RowB w1 w.heap.size 25 d := hrow0.kept (hb1.block _ hsz0)
        have hsz1 : w.heap.size < w1.heap.size := Nat.lt_of_lt_of_le hsz0 hb1.size
        have B1 := Lib.hid (hb0.trans (hb1.mono (Nat.le_of_lt hsz0))); clear hb1
        have M1 := L1.out w1 (HV.out.up2 (fun k hk => B1.out.block k hk) B1.out.size)
        have M2 := L2.out w1 (HV'.out.up2 (fun k hk => B1.out.block k hk) B1.out.size)
        rw [hL] at M1
        rw [hM] at M2
        go_wp2_with fail
        refine M1.mono ?_
        rintro e w2 ⟨rfl, rfl⟩
        go_wp2_with fail
        refine M2.mono ?_
        rintro e w3 ⟨rfl, rfl⟩
        go_wp2
        go_ret
        exact ⟨rfl, B1.out⟩
      · have hl1' : lng l = false := by simpa using hl1
        have hl2' : lng m = false := by simpa using hl2
        rw [hl1'] at L1
        rw [hl2'] at L2
        go_enter Tryd.func9, Tryd.ntmps9
        go_wp2_with fail
        refine (sane_true _ (HK.out.below hb0)).mono ?_
        rintro e w1 ⟨rfl, hb1⟩
        have hrow1 : RowB w1 w.heap.size 25 d := hrow0.kept (hb1.block _ hsz0)
        have hsz1 : w.heap.size < w1.heap.size := Nat.lt_of_lt_of_le hsz0 hb1.size
        have B1 := Lib.hid (hb0.trans (hb1.mono (Nat.le_of_lt hsz0))); clear hb1
        have M1 := L1.out w1 (HV.out.up2 (fun k hk => B1.out.block k hk) B1.out.size)
        have M2 := L2.out w1 (HV'.out.up2 (fun k hk => B1.out.block k hk) B1.out.size)
        rw [hL] at M1
        rw [hM] at M2
        go_wp2_with fail
        refine M1.mono ?_
        rintro e w2 ⟨rfl, rfl⟩
        go_wp2_with fail
        refine M2.mono ?_
        rintro e w3 ⟨rfl, rfl⟩
        have K1 := chain_any d l a c w1 (HK.out.below B1.out) hd Hr.out (HV.out.up2 (fun k hk => B1.out.block k hk) B1.out.size) hl1'
        rw [hL] at K1
        have hL8 : L ≤ 8 := by
          unfold lng at hl1'
          rw [Bool.or_eq_false_iff, decide_eq_false_iff_not] at hl1'
          omega
        clear M1 M2 hl1 hl2 hl1'
        have R1 := Lib.hid hrow1
        go_wp2_with (refine wpList_load_row rfl 25 (.tmp 3) rfl w.heap.size rfl 25 _ (0, 0) _ R1.out Tryd.underlying25 rfl (size25 _ hd) ?_)
        refine K1.mono ?_
        rintro e w4 ⟨u1, rfl, ho1, hb4⟩
        obtain ⟨g1, k1, rfl, hk1, hg1, hg1', hR1⟩ := own_rng ho1 hd
        have hrow4 : RowB w4 w.heap.size 25 d := R1.out.kept (hb4.block _ hsz1)
        have hsz4 : w.heap.size < w4.heap.size := Nat.lt_of_lt_of_le hsz1 hb4.size
        have B4 := Lib.hid (B1.out.trans (hb4.mono B1.out.size))
        have R4 := Lib.hid hrow4
        have K2 := chain_any d m a' c' w4 (HK.out.below B4.out) hd Hr.out (HV'.out.up2 (fun k hk => B4.out.block k hk) B4.out.size) hl2'
        rw [hM] at K2
        clear ho1 hb4 hrow4 hrow1 R1 hl2'
        have HR1 := Lib.hid hR1; clear hR1
        go_wp2_with (refine wpList_load_row rfl 25 (.tmp 3) rfl w.heap.size rfl 25 _ (0, 0) _ R4.out Tryd.underlying25 rfl (size25 _ hd) ?_)
        refine K2.mono ?_
        rintro e w5 ⟨u2, rfl, ho2, hb5⟩
        obtain ⟨g2, k2, rfl, hk2, hg2, hg2', hR2⟩ := own_rng ho2 hd
        have HR1' := Lib.hid (HR1.out.below hg1' hb5)
        have HR2 := Lib.hid hR2
        have B5 := Lib.hid (B4.out.trans (hb5.mono B4.out.size))
        clear ho2 hR2 hb5 HR1 R4
        obtain ⟨X, hX⟩ : ∃ X, X = cur d l L := ⟨_, rfl⟩
        obtain ⟨Y, hY⟩ : ∃ Y, Y = cur d m L := ⟨_, rfl⟩
        have hXl : X.length = 32 := by rw [hX]; exact cur_length d l hd L
        have hYl : Y.length = 32 := by rw [hY]; exact cur_length d m hd L
        have hx : w5.rangeAt g1 (L * 32) (byteVals X) := by rw [hX]; exact HR1'.out L (Nat.le_refl _)
        have hy : w5.rangeAt g2 (L * 32) (byteVals Y) := by rw [hY]; exact HR2.out L (Nat.le_refl _)
        have HX := Lib.hid hX; have HY := Lib.hid hY
        clear hX hY
        have e1 := fun w => eqDig X Y hXl hYl w
        have e2 : (byteVals X).length = 32 := by rw [byteVals_length, hXl]
        have e3 : (byteVals Y).length = 32 := by rw [byteVals_length, hYl]
        have hll : (L : Int) < (L : Int) + 1 := by omega
        go_wp2_with fail
        refine wp_region_still_tail 8 (by kernel_rfl) (by kernel_rfl) ?_
        simp only [List.take_succ_cons, List.take_zero, List.drop_succ_cons, List.drop_zero]
        change wpStill _ _ w5.drew _ _ _
        still_step
        still_step
        still_step
        refine still_load_mid (by rfl) (.tmp 38) rfl g1 (L * 32) rfl X hx hXl ?_
        still_step
        still_step
        still_step
        refine still_load_mid (by rfl) (.tmp 42) rfl g2 (L * 32) rfl Y hy hYl ?_
        refine wpStill_nil ?_
        change wpList _ _ _ _ _ w5.drew
        have HR3 : Hid (Rng w5.drew g1 d l L) := HR1'
        have HR4 : Hid (Rng w5.drew g2 d m L) := HR2
        have B6 : Hid (Below w.heap.size w w5.drew) := Lib.hid (B5.out.trans (Below.drew (Below.refl _ _)))
        generalize w5.drew = w6 at *
        by_cases hxy : X = Y
        · subst hxy
          have e5 := e1 w6
          rw [decide_eq_true rfl] at e5
          clear e1
          have HC : Hid (cur d l L = cur d m L) := Lib.hid (by rw [← HX.out, ← HY.out])
          go_wp2_with fail
          clear e5 HX HY hx hy hXl hYl e2 e3
          go_loopw [11] (fun i wr => ∃ k : Nat, k ≤ L ∧ i = .int .i64 ((k : Int) - 1) ∧ Hid (Below w.heap.size w wr) ∧ Hid (Rng wr g1 d l L) ∧ Hid (Rng wr g2 d m L) ∧ Hid (cur d l k = cur d m k) ∧ Hid (∀ j, k ≤ j → j < L → l[j]? = m[j]?)) (fun i _ => (intOf i + 1).toNat)
          case atStart => exact ⟨L, by omega, rfl, B6, HR3, HR4, HC, Lib.hid (fun j hj hj' => by omega)⟩
          case round =>
            clear B6 HR3 HR4 HC
            obtain ⟨k, hk, hi, B6, HR3, HR4, HC, HE⟩ := hrel
            cases k with
            | zero =>
              rw [show ((0 : Nat) : Int) - 1 = -1 from rfl] at hi
              subst hi
              go_wp2_with fail
              have HE0 : Hid (∀ j, j < L → l[j]? = m[j]?) := Lib.hid (fun j hj => HE.out j (Nat.zero_le _) hj)
              clear HR3 HR4 HC HE
              go_loopw [12] (fun i wr => ∃ k : Nat, k ≤ L ∧ i = .int .i64 k ∧ Hid (Below w.heap.size w wr)) (fun i _ => L - (intOf i).toNat)
              case atStart => exact ⟨0, by omega, rfl, B6⟩
              case round =>
                clear B6
                obtain ⟨k, hk, rfl, B6⟩ := hrel
                have B7 : Hid (Below w.heap.size w wr.drew) := Lib.hid (B6.out.trans (Below.drew (Below.refl _ _)))
                by_cases hlt : k < L
                · obtain ⟨ga, offa, b, ua, uc, rfl, hb, hu, hbs, hcap⟩ := Ls.pick HV.out (w6 := wr.drew) B7.out k (by rw [HL.out]; omega)
                  obtain ⟨ga', offa', b', ua', uc', rfl, hb', hu', hbs', hcap'⟩ := Ls.pick HV'.out (w6 := wr.drew) B7.out k (by rw [HM.out]; omega)
                  have hbb : b = b' := by
                    have := HE0.out k hlt
                    rw [hb, hb'] at this
                    simpa using this
                  have hS := same_still _ _ _ _ _ _ _ hbs hbs'
                  subst hbb
                  rw [decide_eq_true rfl] at hS
                  have HS := Lib.hid hS
                  clear hS hb hb' hbs hbs' hcap hcap'
                  generalize b.length = n at *
                  go_wp2_with fail
                  refine wp_region_still_lit (by kernel_rfl) (by kernel_rfl) ?_
                  change wpStill _ _ wr.drew _ _ _
                  iterate 8 still_step
                  still_call HS.out
                  still_step
                  refine wpStill_nil ?_
                  change Exit.then _ _ _ _ wr.drew
                  clear hu hu' HS B6
                  generalize wr.drew = w7 at *
                  go_wp2_with fail
                  exact ⟨⟨k + 1, by omega, by go_num, B7⟩, by simp [intOf]; omega⟩
                · have hk' : k = L := by omega
                  subst hk'
                  go_wp2
                  go_ret
                  exact ⟨rfl, B6.out⟩
            | succ j =>
              rw [show ((j + 1 : Nat) : Int) - 1 = (j : Int) by omega] at hi
              subst hi
              have B7 : Hid (Below w.heap.size w wr.drew) := Lib.hid (B6.out.trans (Below.drew (Below.refl _ _)))
              have HR5 : Hid (Rng wr.drew g1 d l L) := HR3
              have HR6 : Hid (Rng wr.drew g2 d m L) := HR4
              clear B6 HR3 HR4
              obtain ⟨ga, offa, b, ua, uc, rfl, hb, hu, hbs, hcap⟩ := Ls.pick HV.out (w6 := wr.drew) B7.out j (by rw [HL.out]; omega)
              obtain ⟨ga', offa', b', ua', uc', rfl, hb', hu', hbs', hcap'⟩ := Ls.pick HV'.out (w6 := wr.drew) B7.out j (by rw [HM.out]; omega)
              obtain ⟨X', hX'⟩ : ∃ X', X' = cur d l j := ⟨_, rfl⟩
              obtain ⟨Y', hY'⟩ : ∃ Y', Y' = cur d m j := ⟨_, rfl⟩
              have hXl : X'.length = 32 := by rw [hX']; exact cur_length d l hd j
              have hYl : Y'.length = 32 := by rw [hY']; exact cur_length d m hd j
              have hx : wr.drew.rangeAt g1 (j * 32) (byteVals X') := by rw [hX']; exact HR5.out j (by omega)
              have hy : wr.drew.rangeAt g2 (j * 32) (byteVals Y') := by rw [hY']; exact HR6.out j (by omega)
              have HX' := Lib.hid hX'; have HY' := Lib.hid hY'
              clear hX' hY'
              have e1 := eqDig X' Y' hXl hYl wr.drew
              have e2 : (byteVals X').length = 32 := by rw [byteVals_length, hXl]
              have e3 : (byteVals Y').length = 32 := by rw [byteVals_length, hYl]
              have hjL : (j : Int) < (L : Int) := by omega
              have hjL1 : (j : Int) < (L : Int) + 1 := by omega
              have hjL2 : (j : Int) + 1 < (L : Int) + 1 := by omega
              have hS := same_still _ _ _ _ _ _ _ hbs hbs'
              have finish : ∀ (w7 : World), w7 = wr.drew.drew → Hid (Below w.heap.size w w7 ∧ Rng w7 g1 d l L ∧ Rng w7 g2 d m L) := fun w7 e => by
                subst e
                exact Lib.hid ⟨B7.out.trans (Below.drew (Below.refl _ _)), HR5.out, HR6.out⟩
              by_cases hxy : X' = Y'
              · subst hxy
                rw [decide_eq_true rfl] at e1
                by_cases hbb : b = b'
                · subst hbb
                  rw [decide_eq_true rfl] at hS
                  have HS := Lib.hid hS
                  have HC' : Hid (cur d l j = cur d m j) := Lib.hid (by rw [← HX'.out, ← HY'.out])
                  have HE' : Hid (∀ i, j ≤ i → i < L → l[i]? = m[i]?) := Lib.hid (fun i hi hi' => by
                    by_cases h : i = j
                    · subst h; rw [hb, hb']
                    · exact HE.out i (by omega) hi')
                  clear hS hb hb' hbs hbs' HE HC HX' HY' hcap hcap' finish
                  generalize b.length = n at *
                  go_wp2_with fail
                  refine wp_region_still_lit (by kernel_rfl) (by kernel_rfl) ?_
                  change wpStill _ _ wr.drew _ _ _
                  iterate 3 still_step
                  refine still_load_mid (by rfl) (.tmp 68) rfl g1 (j * 32) rfl X' hx hXl ?_
                  iterate 3 still_step
                  refine still_load_mid (by rfl) (.tmp 72) rfl g2 (j * 32) rfl X' hy hYl ?_
                  iterate 10 still_step
                  still_call HS.out
                  iterate 2 still_step
                  refine wpStill_nil ?_
                  change Exit.then _ _ _ _ wr.drew
                  clear hu hu' HS e1 e2 e3 hx hy
                  generalize wr.drew = w7 at *
                  go_wp2_with fail
                  exact ⟨⟨j, by omega, rfl, B7, HR5, HR6, HC', HE'⟩, by simp [intOf]⟩
                · rw [decide_eq_false hbb] at hS
                  have HS := Lib.hid hS
                  clear hS hb hb' hbs hbs' HE HX' HY' hcap hcap' hbb
                  generalize b.length = n at *
                  generalize b'.length = n' at *
                  go_wp2_with fail
                  refine wp_region_still_lit (by kernel_rfl) (by kernel_rfl) ?_
                  change wpStill _ _ wr.drew _ _ _
                  iterate 3 still_step
                  refine still_load_mid (by rfl) (.tmp 68) rfl g1 (j * 32) rfl X' hx hXl ?_
                  iterate 3 still_step
                  refine still_load_mid (by rfl) (.tmp 72) rfl g2 (j * 32) rfl X' hy hYl ?_
                  iterate 10 still_step
                  still_call HS.out
                  iterate 2 still_step
                  refine wpStill_nil ?_
                  change Exit.then _ _ _ _ wr.drew
                  clear hu hu' HS e1 e2 e3 hx hy hXl hYl
                  obtain ⟨j1, hj1, hjw⟩ : ∃ j1 : Nat, j1 = j + 1 ∧ IntKind.i64.wrap ((j : Int) + 1) = (j1 : Int) := ⟨j + 1, rfl, by rw [IntKind.wrap_i64]; omega⟩
                  have hjb : (j1 : Int) < (L : Int) + 1 := by omega
                  have hjn : j1 ≤ L := by omega
                  rw [← hj1] at HC
                  obtain ⟨Z, hZ⟩ : ∃ Z, Z = cur d l j1 := ⟨_, rfl⟩
                  have hZl : Z.length = 32 := by rw [hZ]; exact cur_length d l hd _
                  have hz : wr.drew.drew.rangeAt g1 (j1 * 32) (byteVals Z) := by rw [hZ]; exact (finish _ rfl).out.2.1 j1 hjn
                  have hz' : wr.drew.drew.rangeAt g2 (j1 * 32) (byteVals Z) := by rw [hZ, HC.out]; exact (finish _ rfl).out.2.2 j1 hjn
                  have e6 := eqDig Z Z hZl hZl wr.drew.drew
                  rw [decide_eq_true rfl] at e6
                  have e7 : (byteVals Z).length = 32 := by rw [byteVals_length, hZl]
                  have B8 := Lib.hid (finish _ rfl).out.1
                  clear hZ HC finish HR5 HR6 B7 hj1 hjn
                  go_wp2_with fail
                  refine wp_region_still_lit (by kernel_rfl) (by kernel_rfl) ?_
                  change wpStill _ _ wr.drew.drew _ _ _
                  iterate 4 still_step
                  refine still_load_mid (by rfl) (.tmp 90) rfl g1 (j1 * 32) rfl Z hz hZl ?_
                  iterate 4 still_step
                  refine still_load_mid (by rfl) (.tmp 95) rfl g2 (j1 * 32) rfl Z hz' hZl ?_
                  still_step
                  refine wpStill_nil ?_
                  change Exit.then _ _ _ _ wr.drew.drew
                  clear e6 e7 hz hz' hZl
                  generalize wr.drew.drew = w8 at *
                  go_wp2
                  go_ret
                  exact ⟨rfl, B8.out⟩
              · obtain ⟨q, hq⟩ : ∃ q : Bool, q = false := ⟨_, rfl⟩
                rw [decide_eq_false hxy, ← hq] at e1
                have Hq := Lib.hid hq
                clear hq
                clear hS hb hb' hbs hbs' HE HX' HY' hcap hcap' hu hu' hxy
                go_wp2_with fail
                refine wp_region_still_lit (by kernel_rfl) (by kernel_rfl) ?_
                change wpStill _ _ wr.drew _ _ _
                iterate 3 still_step
                refine still_load_mid (by rfl) (.tmp 68) rfl g1 (j * 32) rfl X' hx hXl ?_
                iterate 3 still_step
                refine still_load_mid (by rfl) (.tmp 72) rfl g2 (j * 32) rfl Y' hy hYl ?_
                iterate 2 still_step
                iterate 10 (refine still_off (by show (some (!q) == some false) = false; rw [Hq.out]; rfl) ?_; go_simp)
                obtain rfl : q = false := Hq.out
                still_step
                refine wpStill_nil ?_
                try (change Exit.then _ _ _ _ wr.drew)
                clear e1 e2 e3 hx hy hXl hYl
                obtain ⟨j1, hj1, hjw⟩ : ∃ j1 : Nat, j1 = j + 1 ∧ IntKind.i64.wrap ((j : Int) + 1) = (j1 : Int) := ⟨j + 1, rfl, by rw [IntKind.wrap_i64]; omega⟩
                have hjb : (j1 : Int) < (L : Int) + 1 := by omega
                have hjn : j1 ≤ L := by omega
                rw [← hj1] at HC
                obtain ⟨Z, hZ⟩ : ∃ Z, Z = cur d l j1 := ⟨_, rfl⟩
                have hZl : Z.length = 32 := by rw [hZ]; exact cur_length d l hd _
                have hz : wr.drew.drew.rangeAt g1 (j1 * 32) (byteVals Z) := by rw [hZ]; exact (finish _ rfl).out.2.1 j1 hjn
                have hz' : wr.drew.drew.rangeAt g2 (j1 * 32) (byteVals Z) := by rw [hZ, HC.out]; exact (finish _ rfl).out.2.2 j1 hjn
                have e6 := eqDig Z Z hZl hZl wr.drew.drew
                rw [decide_eq_true rfl] at e6
                have e7 : (byteVals Z).length = 32 := by rw [byteVals_length, hZl]
                have B8 := Lib.hid (finish _ rfl).out.1
                clear hZ HC finish HR5 HR6 B7 hj1 hjn
                go_wp2_with fail
                refine wp_region_still_lit (by kernel_rfl) (by kernel_rfl) ?_
                change wpStill _ _ wr.drew.drew _ _ _
                iterate 4 still_step
                refine still_load_mid (by rfl) (.tmp 90) rfl g1 (j1 * 32) rfl Z hz hZl ?_
                iterate 4 still_step
                refine still_load_mid (by rfl) (.tmp 95) rfl g2 (j1 * 32) rfl Z hz' hZl ?_
                still_step
                refine wpStill_nil ?_
                change Exit.then _ _ _ _ wr.drew.drew
                clear e6 e7 hz hz' hZl
                generalize wr.drew.drew = w8 at *
                go_wp2
                go_ret
                exact ⟨rfl, B8.out⟩
        · have e5 := e1 w6
          rw [decide_eq_false hxy] at e5
          have Hxy := Lib.hid hxy
          clear e1 hxy
          go_wp2_with fail
          clear e5 hx hy hXl hYl e2 e3 HR3 HR4
          go_loopw [10] (fun i wr => ∃ k : Nat, k ≤ L ∧ i = .int .i64 k ∧ Hid (Below w.heap.size w wr) ∧ Hid (∀ j, j < k → l[j]? = m[j]?)) (fun i _ => L - (intOf i).toNat)
          case atStart => exact ⟨0, by omega, rfl, B6, Lib.hid (fun j hj => by omega)⟩
          case round =>
            clear B6
            obtain ⟨k, hk, rfl, B6, HE⟩ := hrel
            by_cases hlt : k < L
            · obtain ⟨ga, offa, b, ua, uc, rfl, hb, hu, hbs, hcap⟩ := Ls.pick HV.out (w6 := wr.drew) (B6.out.trans (Below.drew (Below.refl _ _))) k (by rw [HL.out]; omega)
              obtain ⟨ga', offa', b', ua', uc', rfl, hb', hu', hbs', hcap'⟩ := Ls.pick HV'.out (w6 := wr.drew) (B6.out.trans (Below.drew (Below.refl _ _))) k (by rw [HM.out]; omega)
              have hS := same_still _ _ _ _ _ _ _ hbs hbs'
              have B7 : Hid (Below w.heap.size w wr.drew) := Lib.hid (B6.out.trans (Below.drew (Below.refl _ _)))
              by_cases hbb : b = b'
              · subst hbb
                rw [decide_eq_true rfl] at hS
                have HE' : Hid (∀ j, j < k + 1 → l[j]? = m[j]?) := Lib.hid (fun j hj => by
                  by_cases h : j < k
                  · exact HE.out j h
                  · have : j = k := by omega
                    subst this
                    rw [hb, hb'])
                have HS := Lib.hid hS
                clear hS hb hb' hbs hbs' HE hcap hcap'
                generalize b.length = n at *
                go_wp2_with fail
                refine wp_region_still_lit (by kernel_rfl) (by kernel_rfl) ?_
                change wpStill _ _ wr.drew _ _ _
                iterate 8 still_step
                still_call HS.out
                still_step
                refine wpStill_nil ?_
                change Exit.then _ _ _ _ wr.drew
                clear hu hu' HS B6
                generalize wr.drew = w7 at *
                go_wp2_with fail
                exact ⟨⟨k + 1, by omega, by go_num, B7, HE'⟩, by simp [intOf]; omega⟩
              · rw [decide_eq_false hbb] at hS
                have HS := Lib.hid hS
                clear hS hb hb' hbs hbs' HE hcap hcap' hbb
                generalize b.length = n at *
                generalize b'.length = n' at *
                go_wp2_with fail
                refine wp_region_still_lit (by kernel_rfl) (by kernel_rfl) ?_
                change wpStill _ _ wr.drew _ _ _
                iterate 8 still_step
                still_call HS.out
                still_step
                refine wpStill_nil ?_
                change Exit.then _ _ _ _ wr.drew
                clear hu hu' HS B6
                generalize wr.drew = w7 at *
                go_wp2
                go_ret
                exact ⟨rfl, B7.out⟩
            · exfalso
              have hk' : k = L := by omega
              subst hk'
              exact Hxy.out (by rw [HX.out, HY.out]; exact cur_same d l m k HE.out)
  · have hq : ((l.length : Int) == (m.length : Int)) = false := by rw [beq_eq_false_iff_ne]; omega
    have hq2 : ((l.length : Int) != (m.length : Int)) = true := by unfold bne; rw [hq]; rfl
    clear L1 L2 hlm
    generalize l.length = L at *
    generalize m.length = M at *
    go_enter Tryd.func9, Tryd.ntmps9
    go_wp2_with fail
    refine (sane_true _ (HK.out.below hb0)).mono ?_
    rintro e w1 ⟨rfl, hb1⟩
    have B1 := Lib.hid (hb0.trans (hb1.mono (Nat.le_of_lt hsz0))); clear hb1
    go_wp2
    go_ret
    exact ⟨rfl, B1.out⟩


/-- The door's own heap meets the condition. -/
theorem door_met (os : Os) (args : Array Value) : laidMetH Tryd.prog Rows.digestChainBindsRow.laid ((World.doorLaid Tryd.prog 400 os).forCall (fun _ _ => 0) ⟨#[], args, []⟩).memory :=
  laidMetH_of_parts3 (fuel := 8) (laidMet_of_run' 8 (by kernel_rfl) (by kernel_rfl)) (by kernel_rfl) (by kernel_rfl)

set_option maxRecDepth 100000 in
theorem lifted (os : Os) (started : os.Started) (H : Type) (enc : TypeId × Value → H) :
    ReturnsInHanded {} Tryd.checked os 9 .any (fun w args => (Rows.digestChainBindsSpec.pre enc Tryd.prog Tryd.f9 [] false w args ∧ laidMetH Tryd.prog Rows.digestChainBindsRow.laid w) ∧ sizedMet enc Tryd.prog Tryd.f9 (OpenSpec.ofChange Rows.digestChainBindsSpec) false w args)
      (Rows.digestChainBindsSpec.post enc Tryd.prog Tryd.f9 false true false false) := by
  refine returnsInHanded_of_change_and (C := Tryd.checked) (X := fun w _ => laidMetH Tryd.prog Rows.digestChainBindsRow.laid w) (fun _ _ _ hh h => h.of_heap hh) own started (by kernel_rfl) Tryd.func9
    (ChangeSpec.witness_shaped (enc := enc) (C := Tryd.checked) (os := os) (X := fun w _ => laidMetH Tryd.prog Rows.digestChainBindsRow.laid w) false (World.doorLaid Tryd.prog 400 os) #[.agg (byteVals zer).toArray, .slice none 0 0, .slice none 0 0] 8 rfl (World.shaped_of_RefB (by kernel_rfl) (by kernel_rfl)) (by kernel_rfl) (by kernel_rfl) (by kernel_rfl) (door_met os _)) ?_
  intro W base args ds gs before hval0 hW _ hsz0 hL _
  have hsz : (DataW.weightsEach Tryd.prog (Tryd.f9.params.toList ++ Rows.digestChainBindsSpec.plain.varTypes Tryd.prog) (ds ++ gs)).all (· ≤ reachBytes) = true := hsz0
  have hval : ∀ (j : Nat) t v, Tryd.f9.params[j]? = some t → args[j]? = some v → Value.okWide Tryd.prog W .any base t v := hval0
  clear hsz0 hval0
  have hW' := hW
  obtain ⟨p, q, hA0, hV, rfl, hfz, hnd⟩ := hW
  have hA : DataW.TrodAll enc Tryd.prog W 0 (fun _ => true) true Tryd.f9.params.toList args.toList ds p := hA0
  rw [Tryd.params9] at hA hval hsz
  obtain ⟨v0, vs0, d0, ds0, p0, q0, hargs, rfl, rfl, h0, r0⟩ := trodAll_cons hA
  obtain ⟨v1, vs1, d1, ds1, p1, q1, rfl, rfl, rfl, h1, r1⟩ := trodAll_cons r0
  obtain ⟨v2, vs2, d2, ds2, p2, q2, rfl, rfl, rfl, h2, r2⟩ := trodAll_cons r1
  obtain ⟨rfl, rfl, rfl⟩ := trodAll_nil r2
  obtain rfl : args = #[v0, v1, v2] := by cases args; simp_all
  obtain ⟨rfl, rfl⟩ := trodVars_none hV
  obtain ⟨D0, rfl, hl0, hr0⟩ := openDig (hval 0 25 v0 rfl rfl) h0
  have hw1 : ∀ n ∈ d1.weights Tryd.prog 47, n ≤ reachBytes := by
    intro n hn
    have := List.all_eq_true.1 hsz n (DataW.weights_mem_each (t := 47) (d := d1) (j := 1) rfl rfl n hn)
    simpa using this
  obtain ⟨oa1, ol1, oc1, rfl⟩ := okWide_slice Tryd.underlying47 (hval 1 47 v1 rfl rfl)
  obtain ⟨fu1, hf1⟩ := h1
  obtain ⟨b1, hb1⟩ := openL (v := .slice oa1 ol1 oc1) hf1 hw1
  obtain rfl : ol1 = b1.length := by
    obtain ⟨_, _, _, e, _⟩ := hb1
    simp only [Value.slice.injEq] at e
    exact e.2.1
  have hw2 : ∀ n ∈ d2.weights Tryd.prog 47, n ≤ reachBytes := by
    intro n hn
    have := List.all_eq_true.1 hsz n (DataW.weights_mem_each (t := 47) (d := d2) (j := 2) rfl rfl n hn)
    simpa using this
  obtain ⟨oa2, ol2, oc2, rfl⟩ := okWide_slice Tryd.underlying47 (hval 2 47 v2 rfl rfl)
  obtain ⟨fu2, hf2⟩ := h2
  obtain ⟨b2, hb2⟩ := openL (v := .slice oa2 ol2 oc2) hf2 hw2
  obtain rfl : ol2 = b2.length := by
    obtain ⟨_, _, _, e, _⟩ := hb2
    simp only [Value.slice.injEq] at e
    exact e.2.1
  clear hA0
  refine (walk D0 b1 b2 oa1 oc1 oa2 oc2 W (kok_of_laid hL) hl0 hr0 hb1 hb2).mono fun e W' ⟨he, hbw⟩ => ?_
  subst he
  refine ⟨_, rfl, post_law laidOut ?_ rfl rfl hW' rfl rfl rfl hbw⟩
  intro t ht
  rw [Tryd.params9] at ht
  have hm : t ∈ [25, 47] := by simp at ht; simp; omega
  have hall : ([25, 47].all fun u => Tryd.prog.readableRec u && decide (u < Tryd.prog.types.size)) = true := by kernel_rfl
  have := List.all_eq_true.1 hall t hm
  simpa using this

theorem over : Rows.digestChainBindsRow.holds Tryd.pinned (OpenSpec.ofChange Rows.digestChainBindsSpec) :=
  OpenClaim.holds_of_wide 9 Tryd.f9 rfl rfl rfl rfl rfl rfl rfl ⟨rfl, rfl, rfl, rfl, rfl⟩ rfl rfl rfl rfl rfl (by kernel_rfl) Tryd.func9 (by kernel_rfl)
    (of_decide_eq_true (by kernel_rfl)) (by unfold Func.isWrapper; first | (rw [if_pos (by decide +kernel)]; kernel_rfl) | (rw [if_neg (by decide +kernel)]; exact ⟨rfl, rfl⟩))
    (fun os started H enc _ => lifted os started H enc)

/-- THE STATEMENT. -/
theorem proved : Rows.DigestChainBindsCardSaid :=
  Claim7.holds_tied_plain_at .later [] [.data] true (true, "5b71b292ae13d560f78d921198e2d2567ee92d257eb85392c5009a583e81aed0") false
    over (fun _ h => by cases h) (by kernel_rfl) (fun _ h => by cases h) digestChainBinds_row_tie rfl ⟨rfl, rfl⟩ (by kernel_rfl) rfl
    (fun f fn hf hfn => by
      obtain rfl : f = 9 := Option.some.inj ((show Tryd.prog.funcNamed "wagonpool/wagonpoollaw02.DigestChainBinds" = some 9 by kernel_rfl).symm.trans hf) |>.symm
      obtain rfl : fn = Tryd.f9 := (Option.some.inj (Tryd.func9.symm.trans hfn)).symm
      exact ⟨by kernel_rfl, fun j t ht => by
        rw [Tryd.params9] at ht
        have hm : t ∈ [25, 47] := by have := Array.mem_of_getElem? ht; simp at this; simp; omega
        have hall : ([25, 47].all fun u => !Tryd.prog.wantsStandIn u) = true := by kernel_rfl
        exact (show Tryd.prog.wantsStandIn t = false by simpa using List.all_eq_true.1 hall t hm)⟩)
    (by kernel_rfl)
#print axioms proved
end Go.Proofs.YtecgcnfjpaemcaaDoor.digestChainBinds
