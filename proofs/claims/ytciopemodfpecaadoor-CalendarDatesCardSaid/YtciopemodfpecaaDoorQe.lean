/-
  The statement 'Rows.CalendarDatesCardSaid': for all arguments the law returns true; the arguments read as they did. Condition: the table of the months' lengths lies as the program's text lays it.
-/
import Derived.Test.YtciopemodfpecaaDoorSn
import Derived.Test.YtciopemodfpecaaDoorKw
import Derived.Test.YtciopemodfpecaaDoorQc
import Derived.ChangeMaps5
namespace Go.Proofs.YtciopemodfpecaaDoor.calendarDates
open Go.ChangeShapes Go.WideShapes Go.ChangeAt Go.RowKit
set_option linter.unusedVariables false
set_option linter.unusedSimpArgs false

set_option maxRecDepth 100000 in
set_option maxHeartbeats 32000000 in
theorem mid (n Y M D Y2 M2 D2 : Int) (w : World) (hk : MOk w) (hn0 : 0 ≤ n) (hn1 : n < 745654) (hx : DU n Y M D 0) (hx1 : DU (n + 1) Y2 M2 D2 0)
    (hnext : (Y = Y2 ∧ M = M2 ∧ D + 1 = D2 ∧ D < mlen Y M) ∨ (Y = Y2 ∧ M + 1 = M2 ∧ D2 = 1 ∧ D = mlen Y M ∧ M < 12) ∨ (Y + 1 = Y2 ∧ M2 = 1 ∧ D2 = 1 ∧ D = mlen Y M ∧ M = 12)) :
    Calls Tryd.prog 5 #[.int .i64 n] w fun e w' => e = .returned (.bool true) ∧ Below w.heap.size w w' := by
  have HK := Lib.hid (Kw.nil hk)
  have hb := date_bounds hx
  obtain ⟨hY0, hY1, hM0, hM1, hD0, hD1⟩ := hb
  obtain ⟨R, E, hday⟩ := dayU_exists Y M D
  have hdc := day_cases hx hday
  have B0 := Lib.hid (show I64 n by unfold I64; omega)
  have B1 := Lib.hid (show I64 (n + 1) by unfold I64; omega)
  have BY := Lib.hid (show I64 Y by unfold I64; omega)
  have BM := Lib.hid (show I64 M by unfold I64; omega)
  have BD := Lib.hid (show I64 D by unfold I64; omega)
  have HX := Lib.hid hx; have HX1 := Lib.hid hx1; have HD := Lib.hid hday; have HDC := Lib.hid hdc
  have qn : IntKind.i64.wrap (n + 1) = n + 1 := by rw [IntKind.wrap_i64]; omega
  have qY : IntKind.i64.wrap (Y + 1) = Y + 1 := by rw [IntKind.wrap_i64]; omega
  have qM : IntKind.i64.wrap (M + 1) = M + 1 := by rw [IntKind.wrap_i64]; omega
  have qD : IntKind.i64.wrap (D + 1) = D + 1 := by rw [IntKind.wrap_i64]; omega
  obtain ⟨V, hV⟩ : ∃ V, V = wkd n := ⟨_, rfl⟩
  have hV2 : V = (n + 5) % 7 := by rw [hV]; unfold wkd; rw [if_pos (by omega)]
  have hU : (V + 1) % 7 = wkd (n + 1) := by unfold wkd; rw [if_pos (by omega), hV2]; omega
  have qV : IntKind.i64.wrap (V + 1) = V + 1 := by rw [IntKind.wrap_i64]; omega
  have hV0 : 0 ≤ V + 1 := by omega
  have hV1 : 0 ≤ V := by omega
  have hV3 : V ≤ 6 := by omega
  obtain ⟨b, hb⟩ : ∃ b, b = leap Y := ⟨_, rfl⟩
  obtain ⟨bA, hbA⟩ : ∃ bA : Bool, bA = decide (Y = Y2 ∧ M = M2 ∧ D + 1 = D2) := ⟨_, rfl⟩
  obtain ⟨bB, hbB⟩ : ∃ bB : Bool, bB = decide (Y = Y2 ∧ M + 1 = M2 ∧ D2 = 1 ∧ 28 ≤ D) := ⟨_, rfl⟩
  obtain ⟨bC, hbC⟩ : ∃ bC : Bool, bC = decide (Y + 1 = Y2 ∧ M2 = 1 ∧ D2 = 1 ∧ M = 12 ∧ D = 31) := ⟨_, rfl⟩
  have hor := dates_or hM1 hD0 hbA hbB hbC hnext
  have hm2 := dates_two hb hnext
  have HLP := Lib.hid hb; have HOR := Lib.hid hor; have HM2 := Lib.hid hm2
  have HA := Lib.hid hbA; have HB := Lib.hid hbB; have HC := Lib.hid hbC
  have HV := Lib.hid hV; have HU := Lib.hid hU
  clear hk hx hx1 hday hV hV2 hU hnext hdc hb hor hm2 hbA hbB hbC
  go_enter Tryd.func5, Tryd.ntmps5
  have d0 : decide (n < 0) = false := decide_eq_false (by omega)
  have d1 : decide (n ≥ 745654) = false := decide_eq_false (by omega)
  have d1' : decide (745654 ≤ n) = false := decide_eq_false (by omega)
  have HCC := Lib.hid (sane_true w HK.out.mok)
  go_wp2_with fail
  refine HCC.out.mono ?_
  rintro e w1 ⟨rfl, hb⟩
  replace HK := Lib.hid (HK.out.call hb)
  clear hb HCC
  have HCC := Lib.hid (dateOf_any n Y M D 0 B0.out HX.out w1 HK.out.mok)
  go_wp2_with fail
  refine HCC.out.mono ?_
  rintro e w2 ⟨rfl, hb⟩
  replace HK := Lib.hid (HK.out.call hb)
  clear hb HCC
  replace HK := Lib.hid (HK.out.laid (.cells #[.int .i64 Y, .int .i64 M, .int .i64 D] 40))
  obtain ⟨pa, pb, pc⟩ := cell_new3 w2 (.int .i64 Y) (.int .i64 M) (.int .i64 D) 40 _ rfl
  have l_pa : w2.heap.size < (w2.alloc (.cells #[.int .i64 Y, .int .i64 M, .int .i64 D] 40)).heap.size := by rw [World.size_alloc]; omega
  have HCC := Lib.hid (dateOf_any (n + 1) Y2 M2 D2 0 B1.out HX1.out (w2.alloc (.cells #[.int .i64 Y, .int .i64 M, .int .i64 D] 40)) HK.out.mok)
  go_wp2_with fail
  refine HCC.out.mono ?_
  rintro e w3 ⟨rfl, hb⟩
  replace pa := (hb.cell (p := ⟨w2.heap.size, 0, none⟩) l_pa).trans pa
  replace pb := (hb.cell (p := ⟨w2.heap.size, 1, none⟩) l_pa).trans pb
  replace pc := (hb.cell (p := ⟨w2.heap.size, 2, none⟩) l_pa).trans pc
  replace l_pa := Nat.lt_of_lt_of_le l_pa hb.size
  replace HK := Lib.hid (HK.out.call hb)
  clear hb HCC
  replace pa := cellA (.cells #[.int .i64 Y2, .int .i64 M2, .int .i64 D2] 40) pa
  replace pb := cellA (.cells #[.int .i64 Y2, .int .i64 M2, .int .i64 D2] 40) pb
  replace pc := cellA (.cells #[.int .i64 Y2, .int .i64 M2, .int .i64 D2] 40) pc
  replace l_pa := ltA (.cells #[.int .i64 Y2, .int .i64 M2, .int .i64 D2] 40) l_pa
  replace HK := Lib.hid (HK.out.laid (.cells #[.int .i64 Y2, .int .i64 M2, .int .i64 D2] 40))
  obtain ⟨qa, qb, qc⟩ := cell_new3 w3 (.int .i64 Y2) (.int .i64 M2) (.int .i64 D2) 40 _ rfl
  have l_qa : w3.heap.size < (w3.alloc (.cells #[.int .i64 Y2, .int .i64 M2, .int .i64 D2] 40)).heap.size := by rw [World.size_alloc]; omega
  have HCC := Lib.hid (day_any Y M D R E BY.out BM.out BD.out HD.out (w3.alloc (.cells #[.int .i64 Y2, .int .i64 M2, .int .i64 D2] 40)) HK.out.mok)
  go_wp2_with fail
  refine HCC.out.mono ?_
  rintro e w4 ⟨rfl, hb⟩
  replace pa := (hb.cell (p := ⟨w2.heap.size, 0, none⟩) l_pa).trans pa
  replace pb := (hb.cell (p := ⟨w2.heap.size, 1, none⟩) l_pa).trans pb
  replace pc := (hb.cell (p := ⟨w2.heap.size, 2, none⟩) l_pa).trans pc
  replace qa := (hb.cell (p := ⟨w3.heap.size, 0, none⟩) l_qa).trans qa
  replace qb := (hb.cell (p := ⟨w3.heap.size, 1, none⟩) l_qa).trans qb
  replace qc := (hb.cell (p := ⟨w3.heap.size, 2, none⟩) l_qa).trans qc
  replace l_pa := Nat.lt_of_lt_of_le l_pa hb.size
  replace l_qa := Nat.lt_of_lt_of_le l_qa hb.size
  replace HK := Lib.hid (HK.out.call hb)
  clear hb HCC
  go_upto_region 10 with (fail)
  go_cut [63] from 43 to 63 (fun c wx => c = .bool false ∧ w4 = wx)
  case first =>
    rcases HDC.out with ⟨hY4, he, hr⟩ | ⟨hY4, he⟩
    · subst he hr
      have d2 : decide (Y ≤ 4000) = true := decide_eq_true (by omega)
      have d2' : decide (4000 < Y) = false := decide_eq_false (by omega)
      have d2x : decide (Y > 4000) = false := decide_eq_false (by omega)
      have er : (n == n) = true := by simp
      have ern : (n != n) = false := by unfold bne; rw [er]; rfl
      go_wp2
      go_meet
      exact ⟨rfl, rfl⟩
    · subst he
      have d2 : decide (Y ≤ 4000) = false := decide_eq_false (by omega)
      have d2' : decide (4000 < Y) = true := decide_eq_true (by omega)
      have d2x : decide (Y > 4000) = true := decide_eq_true (by omega)
      go_wp2
      go_meet
      exact ⟨rfl, rfl⟩
  case rest =>
    obtain ⟨rfl, rfl⟩ := hcut
    clear HDC HD
    go_upto_region 12 with (fail)
    go_cut [9] from 64 to 79 (fun c wx => c = .bool b ∧ w4 = wx)
    case first =>
      by_cases h4 : Y % 4 = 0
      · have m4 : (Y % 4 == 0) = true := by rw [beq_iff_eq]; exact h4
        have m4n : (Y % 4 != 0) = false := by unfold bne; rw [m4]; rfl
        by_cases h100 : Y % 100 = 0
        · have m100 : (Y % 100 == 0) = true := by rw [beq_iff_eq]; exact h100
          have m100n : (Y % 100 != 0) = false := by unfold bne; rw [m100]; rfl
          by_cases h400 : Y % 400 = 0
          · have m400 : (Y % 400 == 0) = true := by rw [beq_iff_eq]; exact h400
            have m400n : (Y % 400 != 0) = false := by unfold bne; rw [m400]; rfl
            have hl : true = b := by rw [HLP.out]; unfold leap; first | exact (decide_eq_true (by omega)).symm | exact (decide_eq_false (by omega)).symm
            have HLX := Lib.hid hl
            clear hl
            go_wp2
            go_meet
            exact ⟨congrArg Value.bool HLX.out, rfl⟩
          · have m400 : (Y % 400 == 0) = false := by rw [beq_eq_false_iff_ne]; exact h400
            have m400n : (Y % 400 != 0) = true := by unfold bne; rw [m400]; rfl
            have hl : false = b := by rw [HLP.out]; unfold leap; first | exact (decide_eq_true (by omega)).symm | exact (decide_eq_false (by omega)).symm
            have HLX := Lib.hid hl
            clear hl
            go_wp2
            go_meet
            exact ⟨congrArg Value.bool HLX.out, rfl⟩
        · have m100 : (Y % 100 == 0) = false := by rw [beq_eq_false_iff_ne]; exact h100
          have m100n : (Y % 100 != 0) = true := by unfold bne; rw [m100]; rfl
          have hl : true = b := by rw [HLP.out]; unfold leap; first | exact (decide_eq_true (by omega)).symm | exact (decide_eq_false (by omega)).symm
          have HLX := Lib.hid hl
          clear hl
          go_wp2
          go_meet
          exact ⟨congrArg Value.bool HLX.out, rfl⟩
      · have m4 : (Y % 4 == 0) = false := by rw [beq_eq_false_iff_ne]; exact h4
        have m4n : (Y % 4 != 0) = true := by unfold bne; rw [m4]; rfl
        have hl : false = b := by rw [HLP.out]; unfold leap; first | exact (decide_eq_true (by omega)).symm | exact (decide_eq_false (by omega)).symm
        have HLX := Lib.hid hl
        clear hl
        go_wp2
        go_meet
        exact ⟨congrArg Value.bool HLX.out, rfl⟩
    case rest =>
      obtain ⟨rfl, rfl⟩ := hcut
      clear HLP
      go_upto_region 13 with (fail)
      go_cut [109] from 80 to 109 (fun c wx => c = .bool false ∧ w4 = wx)
      case first =>
        by_cases h2 : M = 2
        · have m2 : (M == 2) = true := by rw [beq_iff_eq]; exact h2
          have hm := HM2.out h2
          clear HM2
          have H2 := Lib.hid h2
          clear h2
          rcases hm with ⟨rfl, h3⟩ | ⟨rfl, h3, rfl⟩ | ⟨rfl, h3⟩ | ⟨rfl, h3⟩
          · obtain rfl := h3
            go_wp2
            go_meet
            exact ⟨rfl, rfl⟩
          · obtain rfl := h3
            go_wp2
            go_meet
            exact ⟨rfl, rfl⟩
          · have x1 := Lib.hid h3
            have x2 : decide (29 < D) = false := decide_eq_false (by omega)
            have x2' : decide (D > 29) = false := decide_eq_false (by omega)
            have x3 : (D == 29) = false := by rw [beq_eq_false_iff_ne]; omega
            have x3n : (D != 29) = true := by unfold bne; rw [x3]; rfl
            have x4 : (D == 28) = false := by rw [beq_eq_false_iff_ne]; omega
            have x4n : (D != 28) = true := by unfold bne; rw [x4]; rfl
            go_wp2
            go_meet
            exact ⟨rfl, rfl⟩
          · have x1 := Lib.hid h3
            have x2 : decide (29 < D) = false := decide_eq_false (by omega)
            have x2' : decide (D > 29) = false := decide_eq_false (by omega)
            have x3 : (D == 29) = false := by rw [beq_eq_false_iff_ne]; omega
            have x3n : (D != 29) = true := by unfold bne; rw [x3]; rfl
            by_cases h28 : D = 28
            · have x4 : (D == 28) = true := by rw [beq_iff_eq]; exact h28
              have H28 := Lib.hid h28
              clear h28
              go_wp2
              go_meet
              exact ⟨rfl, rfl⟩
            · have x4 : (D == 28) = false := by rw [beq_eq_false_iff_ne]; exact h28
              go_wp2
              go_meet
              exact ⟨rfl, rfl⟩
        · have m2 : (M == 2) = false := by rw [beq_eq_false_iff_ne]; exact h2
          go_wp2
          go_meet
          exact ⟨rfl, rfl⟩
      case rest =>
        obtain ⟨rfl, rfl⟩ := hcut
        clear HM2
        go_upto_region 15 with (fail)
        go_cut [10] from 110 to 129 (fun c wx => c = .bool bA ∧ w4 = wx)
        case first =>
          by_cases y0 : Y = Y2
          rotate_left
          · skip
            have y0b : (Y2 == Y) = false := by rw [beq_eq_false_iff_ne]; omega
            have hv : false = bA := by rw [HA.out]; exact (decide_eq_false (fun h => by omega)).symm
            have HVX := Lib.hid hv
            clear hv y0
            go_wp2
            go_meet
            exact ⟨congrArg Value.bool HVX.out, rfl⟩
          have y0b : (Y2 == Y) = true := by rw [beq_iff_eq]; omega
          by_cases y1 : M = M2
          rotate_left
          · skip
            have y1b : (M2 == M) = false := by rw [beq_eq_false_iff_ne]; omega
            have hv : false = bA := by rw [HA.out]; exact (decide_eq_false (fun h => by omega)).symm
            have HVX := Lib.hid hv
            clear hv y0 y1
            go_wp2
            go_meet
            exact ⟨congrArg Value.bool HVX.out, rfl⟩
          have y1b : (M2 == M) = true := by rw [beq_iff_eq]; omega
          by_cases y2 : D + 1 = D2
          rotate_left
          · skip
            have y2b : (D2 == (D + 1)) = false := by rw [beq_eq_false_iff_ne]; omega
            have hv : false = bA := by rw [HA.out]; exact (decide_eq_false (fun h => by omega)).symm
            have HVX := Lib.hid hv
            clear hv y0 y1 y2
            go_wp2
            go_meet
            exact ⟨congrArg Value.bool HVX.out, rfl⟩
          have y2b : (D2 == (D + 1)) = true := by rw [beq_iff_eq]; omega
          have hv : true = bA := by rw [HA.out]; exact (decide_eq_true (by omega)).symm
          have HVX := Lib.hid hv
          clear hv y0 y1 y2
          go_wp2
          go_meet
          exact ⟨congrArg Value.bool HVX.out, rfl⟩
        case rest =>
          obtain ⟨rfl, rfl⟩ := hcut
          clear HA
          go_upto_region 16 with (fail)
          go_cut [11] from 130 to 152 (fun c wx => c = .bool bB ∧ w4 = wx)
          case first =>
            by_cases y0 : Y = Y2
            rotate_left
            · skip
              have y0b : (Y2 == Y) = false := by rw [beq_eq_false_iff_ne]; omega
              have hv : false = bB := by rw [HB.out]; exact (decide_eq_false (fun h => by omega)).symm
              have HVX := Lib.hid hv
              clear hv y0
              go_wp2
              go_meet
              exact ⟨congrArg Value.bool HVX.out, rfl⟩
            have y0b : (Y2 == Y) = true := by rw [beq_iff_eq]; omega
            by_cases y1 : M + 1 = M2
            rotate_left
            · skip
              have y1b : (M2 == (M + 1)) = false := by rw [beq_eq_false_iff_ne]; omega
              have hv : false = bB := by rw [HB.out]; exact (decide_eq_false (fun h => by omega)).symm
              have HVX := Lib.hid hv
              clear hv y0 y1
              go_wp2
              go_meet
              exact ⟨congrArg Value.bool HVX.out, rfl⟩
            have y1b : (M2 == (M + 1)) = true := by rw [beq_iff_eq]; omega
            by_cases y2 : D2 = 1
            rotate_left
            · skip
              have y2b : (D2 == 1) = false := by rw [beq_eq_false_iff_ne]; omega
              have hv : false = bB := by rw [HB.out]; exact (decide_eq_false (fun h => by omega)).symm
              have HVX := Lib.hid hv
              clear hv y0 y1 y2
              go_wp2
              go_meet
              exact ⟨congrArg Value.bool HVX.out, rfl⟩
            have y2b : (D2 == 1) = true := by rw [beq_iff_eq]; omega
            by_cases y3 : 28 ≤ D
            rotate_left
            · skip
              have y3b : decide (28 ≤ D) = false := decide_eq_false (by omega)
              have y3c : decide (D ≥ 28) = false := decide_eq_false (by omega)
              have hv : false = bB := by rw [HB.out]; exact (decide_eq_false (fun h => by omega)).symm
              have HVX := Lib.hid hv
              clear hv y0 y1 y2 y3
              go_wp2
              go_meet
              exact ⟨congrArg Value.bool HVX.out, rfl⟩
            have y3b : decide (28 ≤ D) = true := decide_eq_true (by omega)
            have y3c : decide (D ≥ 28) = true := decide_eq_true (by omega)
            have hv : true = bB := by rw [HB.out]; exact (decide_eq_true (by omega)).symm
            have HVX := Lib.hid hv
            clear hv y0 y1 y2 y3
            go_wp2
            go_meet
            exact ⟨congrArg Value.bool HVX.out, rfl⟩
          case rest =>
            obtain ⟨rfl, rfl⟩ := hcut
            clear HB
            go_upto_region 17 with (fail)
            go_cut [12] from 153 to 178 (fun c wx => c = .bool bC ∧ w4 = wx)
            case first =>
              by_cases y0 : Y + 1 = Y2
              rotate_left
              · skip
                have y0b : (Y2 == (Y + 1)) = false := by rw [beq_eq_false_iff_ne]; omega
                have hv : false = bC := by rw [HC.out]; exact (decide_eq_false (fun h => by omega)).symm
                have HVX := Lib.hid hv
                clear hv y0
                go_wp2
                go_meet
                exact ⟨congrArg Value.bool HVX.out, rfl⟩
              have y0b : (Y2 == (Y + 1)) = true := by rw [beq_iff_eq]; omega
              by_cases y1 : M2 = 1
              rotate_left
              · skip
                have y1b : (M2 == 1) = false := by rw [beq_eq_false_iff_ne]; omega
                have hv : false = bC := by rw [HC.out]; exact (decide_eq_false (fun h => by omega)).symm
                have HVX := Lib.hid hv
                clear hv y0 y1
                go_wp2
                go_meet
                exact ⟨congrArg Value.bool HVX.out, rfl⟩
              have y1b : (M2 == 1) = true := by rw [beq_iff_eq]; omega
              by_cases y2 : D2 = 1
              rotate_left
              · skip
                have y2b : (D2 == 1) = false := by rw [beq_eq_false_iff_ne]; omega
                have hv : false = bC := by rw [HC.out]; exact (decide_eq_false (fun h => by omega)).symm
                have HVX := Lib.hid hv
                clear hv y0 y1 y2
                go_wp2
                go_meet
                exact ⟨congrArg Value.bool HVX.out, rfl⟩
              have y2b : (D2 == 1) = true := by rw [beq_iff_eq]; omega
              by_cases y3 : M = 12
              rotate_left
              · skip
                have y3b : (M == 12) = false := by rw [beq_eq_false_iff_ne]; omega
                have hv : false = bC := by rw [HC.out]; exact (decide_eq_false (fun h => by omega)).symm
                have HVX := Lib.hid hv
                clear hv y0 y1 y2 y3
                go_wp2
                go_meet
                exact ⟨congrArg Value.bool HVX.out, rfl⟩
              have y3b : (M == 12) = true := by rw [beq_iff_eq]; omega
              by_cases y4 : D = 31
              rotate_left
              · skip
                have y4b : (D == 31) = false := by rw [beq_eq_false_iff_ne]; omega
                have hv : false = bC := by rw [HC.out]; exact (decide_eq_false (fun h => by omega)).symm
                have HVX := Lib.hid hv
                clear hv y0 y1 y2 y3 y4
                go_wp2
                go_meet
                exact ⟨congrArg Value.bool HVX.out, rfl⟩
              have y4b : (D == 31) = true := by rw [beq_iff_eq]; omega
              have hv : true = bC := by rw [HC.out]; exact (decide_eq_true (by omega)).symm
              have HVX := Lib.hid hv
              clear hv y0 y1 y2 y3 y4
              go_wp2
              go_meet
              exact ⟨congrArg Value.bool HVX.out, rfl⟩
            case rest =>
              obtain ⟨rfl, rfl⟩ := hcut
              clear HC
              have z1 : decide (D ≤ 31) = true := decide_eq_true (by omega)
              have z2 : decide (M ≤ 12) = true := decide_eq_true (by omega)
              have k20 : ((V + 1) % 7 == (V + 1) % 7) = true := by simp
              rcases HOR.out with rfl | ⟨rfl, rfl⟩ | ⟨rfl, rfl, rfl⟩
              · clear HOR
                have HCC := Lib.hid (weekday_any (n + 1) B1.out ((V + 1) % 7) HU.out w4)
                go_wp2_with fail
                refine HCC.out.mono ?_
                rintro e _ ⟨rfl, rfl⟩
                clear HCC
                have HCC := Lib.hid (weekday_any n B0.out V HV.out w4)
                go_wp2_with fail
                refine HCC.out.mono ?_
                rintro e _ ⟨rfl, rfl⟩
                clear HCC
                go_wp2
                go_ret
                exact ⟨rfl, HK.out.below⟩
              · clear HOR
                have HCC := Lib.hid (weekday_any (n + 1) B1.out ((V + 1) % 7) HU.out w4)
                go_wp2_with fail
                refine HCC.out.mono ?_
                rintro e _ ⟨rfl, rfl⟩
                clear HCC
                have HCC := Lib.hid (weekday_any n B0.out V HV.out w4)
                go_wp2_with fail
                refine HCC.out.mono ?_
                rintro e _ ⟨rfl, rfl⟩
                clear HCC
                go_wp2
                go_ret
                exact ⟨rfl, HK.out.below⟩
              · clear HOR
                have HCC := Lib.hid (weekday_any (n + 1) B1.out ((V + 1) % 7) HU.out w4)
                go_wp2_with fail
                refine HCC.out.mono ?_
                rintro e _ ⟨rfl, rfl⟩
                clear HCC
                have HCC := Lib.hid (weekday_any n B0.out V HV.out w4)
                go_wp2_with fail
                refine HCC.out.mono ?_
                rintro e _ ⟨rfl, rfl⟩
                clear HCC
                go_wp2
                go_ret
                exact ⟨rfl, HK.out.below⟩

set_option maxRecDepth 100000 in
set_option maxHeartbeats 16000000 in
theorem walk (n : Int) (w : World) (hk : MOk w) (hn : I64 n) :
    Calls Tryd.prog 5 #[.int .i64 n] w fun e w' => e = .returned (.bool true) ∧ Below w.heap.size w w' := by
  by_cases hr : 0 ≤ n ∧ n < 745654
  · obtain ⟨Y, M, D, E, hx⟩ := du_exists n
    obtain ⟨Y2, M2, D2, E2, hx2⟩ := du_exists (n + 1)
    have e1 : E = 0 := by rcases hx with h | h; exact h.2.2.1; exact absurd ⟨hr.1, by omega⟩ h.1
    have e2 : E2 = 0 := by rcases hx2 with h | h; exact h.2.2.1; exact absurd ⟨by omega, by omega⟩ h.1
    subst e1 e2
    exact mid n Y M D Y2 M2 D2 w hk hr.1 hr.2 hx hx2 (dates_next hx hx2)
  have HK := Lib.hid (Kw.nil hk)
  clear hk
  go_enter Tryd.func5, Tryd.ntmps5
  by_cases h0 : n < 0
  · have d0 : decide (n < 0) = true := decide_eq_true h0
    have HCC := Lib.hid (sane_true w HK.out.mok)
    go_wp2_with fail
    refine HCC.out.mono ?_
    rintro e w1 ⟨rfl, hb⟩
    replace HK := Lib.hid (HK.out.call hb)
    clear hb HCC
    go_wp2
    go_ret
    exact ⟨rfl, HK.out.below⟩
  · have d0 : decide (n < 0) = false := decide_eq_false h0
    have h1 : 745654 ≤ n := by omega
    have d1 : decide (745654 ≤ n) = true := decide_eq_true h1
    have d2 : decide (n ≥ 745654) = true := decide_eq_true h1
    have HCC := Lib.hid (sane_true w HK.out.mok)
    go_wp2_with fail
    refine HCC.out.mono ?_
    rintro e w1 ⟨rfl, hb⟩
    replace HK := Lib.hid (HK.out.call hb)
    clear hb HCC
    go_wp2
    go_ret
    exact ⟨rfl, HK.out.below⟩

/-- The door's own heap meets the condition. -/
theorem door_met (os : Os) (args : Array Value) : laidMetH Tryd.prog Rows.calendarDatesRow.laid ((World.doorLaid Tryd.prog 400 os).forCall (fun _ _ => 0) ⟨#[], args, []⟩).memory :=
  laidMetH_of_parts3 (fuel := 8) (laidMet_of_run' 8 (by kernel_rfl) (by kernel_rfl)) (by kernel_rfl) (by kernel_rfl)

set_option maxRecDepth 100000 in
theorem lifted (os : Os) (started : os.Started) (H : Type) (enc : TypeId × Value → H) :
    ReturnsInHanded {} Tryd.checked os 5 .any (fun w args => (Rows.calendarDatesSpec.pre enc Tryd.prog Tryd.f5 [] false w args ∧ laidMetH Tryd.prog Rows.calendarDatesRow.laid w) ∧ sizedMet enc Tryd.prog Tryd.f5 (OpenSpec.ofChange Rows.calendarDatesSpec) false w args)
      (Rows.calendarDatesSpec.post enc Tryd.prog Tryd.f5 false true false false) := by
  refine returnsInHanded_of_change_and (C := Tryd.checked) (X := fun w _ => laidMetH Tryd.prog Rows.calendarDatesRow.laid w) (fun _ _ _ hh h => h.of_heap hh) own started (by kernel_rfl) Tryd.func5
    (ChangeSpec.witness_shaped (enc := enc) (C := Tryd.checked) (os := os) (X := fun w _ => laidMetH Tryd.prog Rows.calendarDatesRow.laid w) false (World.doorLaid Tryd.prog 400 os) #[.int .i64 0] 8 rfl (World.shaped_of_RefB (by kernel_rfl) (by kernel_rfl)) (by kernel_rfl) (by kernel_rfl) (by kernel_rfl) (door_met os _)) ?_
  intro W base args ds gs before hval0 hW _ hsz0 hL _
  have hsz : (DataW.weightsEach Tryd.prog (Tryd.f5.params.toList ++ Rows.calendarDatesSpec.plain.varTypes Tryd.prog) (ds ++ gs)).all (· ≤ reachBytes) = true := hsz0
  have hval : ∀ (j : Nat) t v, Tryd.f5.params[j]? = some t → args[j]? = some v → Value.okWide Tryd.prog W .any base t v := hval0
  clear hsz0 hval0
  have hW' := hW
  obtain ⟨p, q, hA0, hV, rfl, hfz, hnd⟩ := hW
  have hA : DataW.TrodAll enc Tryd.prog W 0 (fun _ => true) true Tryd.f5.params.toList args.toList ds p := hA0
  rw [Tryd.params5] at hA hval hsz
  obtain ⟨v0, vs0, d0, ds0, p0, q0, hargs, rfl, rfl, h0, r0⟩ := trodAll_cons hA
  obtain ⟨rfl, rfl, rfl⟩ := trodAll_nil r0
  obtain rfl : args = #[v0] := by cases args; simp_all
  obtain ⟨rfl, rfl⟩ := trodVars_none hV
  obtain ⟨a0, rfl, rfl, rfl, wf0⟩ := open_int Tryd.underlying3 (hval 0 3 v0 rfl rfl) h0
  have ru0 := i64_wf wf0
  clear hA0
  refine (walk a0 W (mok_of_laid hL) ru0).mono fun e W' ⟨he, hbw⟩ => ?_
  subst he
  refine ⟨_, rfl, post_law laidOut ?_ rfl rfl hW' rfl rfl rfl hbw⟩
  intro t ht
  rw [Tryd.params5] at ht
  have hm : t ∈ [3] := by
    simp at ht
    subst ht; simp
  have hall : ([3].all fun u => Tryd.prog.readableRec u && decide (u < Tryd.prog.types.size)) = true := by kernel_rfl
  have := List.all_eq_true.1 hall t hm
  simpa using this

theorem over : Rows.calendarDatesRow.holds Tryd.pinned (OpenSpec.ofChange Rows.calendarDatesSpec) :=
  OpenClaim.holds_of_wide 5 Tryd.f5 rfl rfl rfl rfl rfl rfl rfl ⟨rfl, rfl, rfl, rfl, rfl⟩ rfl rfl rfl rfl rfl (by kernel_rfl) Tryd.func5 (by kernel_rfl)
    (of_decide_eq_true (by kernel_rfl)) (by unfold Func.isWrapper; first | (rw [if_pos (by decide +kernel)]; kernel_rfl) | (rw [if_neg (by decide +kernel)]; exact ⟨rfl, rfl⟩))
    (fun os started H enc _ => lifted os started H enc)

/-- THE STATEMENT. -/
theorem proved : Rows.CalendarDatesCardSaid :=
  Claim7.holds_tied_plain_at .later [] [.data] true (true, "364b556707f00daf4033d8d2c5686098de318f6eb3e3f6625036c7b768a91a03") false
    over (fun _ h => by cases h) (by kernel_rfl) (fun _ h => by cases h) calendarDates_row_tie rfl ⟨rfl, rfl⟩ (by kernel_rfl) rfl
    (fun f fn hf hfn => by
      obtain rfl : f = 5 := Option.some.inj ((show Tryd.prog.funcNamed "wagonpool/wagonpoollaw06.CalendarDates" = some 5 by kernel_rfl).symm.trans hf) |>.symm
      obtain rfl : fn = Tryd.f5 := (Option.some.inj (Tryd.func5.symm.trans hfn)).symm
      exact ⟨by kernel_rfl, fun j t ht => by
        rw [Tryd.params5] at ht
        have hm : t ∈ [3] := by
          have := Array.mem_of_getElem? ht
          simp at this
          subst this; simp
        have hall : ([3].all fun u => !Tryd.prog.wantsStandIn u) = true := by kernel_rfl
        exact (show Tryd.prog.wantsStandIn t = false by simpa using List.all_eq_true.1 hall t hm)⟩)
    (by kernel_rfl)
#print axioms proved
end Go.Proofs.YtciopemodfpecaaDoor.calendarDates
