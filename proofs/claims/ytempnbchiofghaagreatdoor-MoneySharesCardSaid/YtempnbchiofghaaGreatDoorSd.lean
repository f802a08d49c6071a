/-
  Walks: strings.CutPrefix, strings.Cut at a point, isDigits.
-/
import Derived.Test.YtempnbchiofghaaGreatDoorSc
import Derived.Test.YtempnbchiofghaaGreatDoorSj
import Derived.Test.YtempnbchiofghaaGreatDoorPc
import Derived.Lib.IndexLaws
namespace Go.Proofs.YtempnbchiofghaaGreatDoor
open Go.RowKit Go.Lib
set_option linter.unusedVariables false
set_option linter.unusedSimpArgs false

theorem ba_size (x : ByteArray) : x.size = x.data.toList.length := (Array.length_toList ..).symm
theorem ba_ext_list (x : ByteArray) (a b : Nat) : (x.extract a b).data.toList = (x.data.toList.drop a).take (b - a) := by
  rw [ByteArray.data_extract, Array.toList_extract]
  try rfl

/-- b is l without its sign. -/
def DashV (l b : List UInt8) : Prop := l = (if l.head? = some 45 then [45] else []) ++ b
theorem dash_any (S : ByteArray) (w : World) : Calls Tryz.prog 92 #[.string S, .string ⟨#[45]⟩] w fun e w' => e = .returned (.bool (decide (S.data.toList.head? = some 45))) ∧ w = w' := by
  obtain ⟨R, hR⟩ : ∃ R, decide (S.data.toList.head? = some 45) = R := ⟨_, rfl⟩
  rw [hR]
  have hsz := ba_size S
  cases hl : S.data.toList with
  | nil =>
    rw [hl] at hsz hR
    have h1 : ¬ (1 : Int) ≤ (S.size : Int) := by rw [hsz]; simp
    have hF : Hid (R = false) := Lib.hid (by rw [← hR]; rfl)
    clear hsz hR hl
    go_enter Tryz.func92, Tryz.ntmps92
    go_wp2
    go_ret
    exact ⟨retB hF.out.symm, rfl⟩
  | cons x t =>
    rw [hl] at hsz hR
    have h1 : (1 : Int) ≤ (S.size : Int) := by rw [hsz]; simp only [List.length_cons]; omega
    have hx : (S.extract 0 1).toList = [x] := by
      rw [Lib.toList_data, ba_ext_list, hl]
      rfl
    have hF : Hid (R = ((S.extract 0 1).toList == [45])) := Lib.hid (by
      rw [← hR, hx]
      by_cases h : x = 45
      · subst h; rfl
      · simp [h])
    clear hsz hR hl hx
    go_enter Tryz.func92, Tryz.ntmps92
    go_wp2
    go_ret
    exact ⟨retB hF.out.symm, rfl⟩

theorem cutp69_any (S : ByteArray) (w : World) : Calls Tryz.prog 69 #[.string S, .string ⟨#[45]⟩] w fun e w' => ∃ B : ByteArray, e = .returned (.tuple #[.string B, .bool (decide (S.data.toList.head? = some 45))]) ∧ w = w' ∧ DashV S.data.toList B.data.toList := by
  have H := Lib.hid (dash_any S)
  by_cases h : S.data.toList.head? = some 45
  · rw [decide_eq_true h] at H
    have hl : Hid (DashV S.data.toList (S.extract 1 S.size).data.toList) := Lib.hid (by
      unfold DashV
      rw [if_pos h, ba_ext_list, ba_size]
      cases hl : S.data.toList with
      | nil => rw [hl] at h; cases h
      | cons x t =>
        rw [hl] at h
        simp only [List.head?_cons, Option.some.injEq] at h
        subst h
        simp)
    have h1 : (1 : Int) ≤ (S.size : Int) := by
      rw [ba_size]
      cases hl : S.data.toList with
      | nil => rw [hl] at h; cases h
      | cons x t => simp only [List.length_cons]; omega
    rw [decide_eq_true h]
    clear h
    go_enter Tryz.func69, Tryz.ntmps69
    go_wp2_with fail
    refine (H.out _).mono ?_
    rintro e w' ⟨rfl, rfl⟩
    go_wp2
    go_ret2
    exact ⟨_, rfl, rfl, hl.out⟩
  · rw [decide_eq_false h] at H
    have hl : Hid (DashV S.data.toList S.data.toList) := Lib.hid (by unfold DashV; rw [if_neg h]; rfl)
    rw [decide_eq_false h]
    clear h
    go_enter Tryz.func69, Tryz.ntmps69
    go_wp2_with fail
    refine (H.out _).mono ?_
    rintro e w' ⟨rfl, rfl⟩
    go_wp2
    go_ret2
    exact ⟨_, rfl, rfl, hl.out⟩

theorem cutp_any (S : ByteArray) (w : World) : Calls Tryz.prog 58 #[.string S, .string ⟨#[45]⟩] w fun e w' => ∃ B : ByteArray, e = .returned (.tuple #[.string B, .bool (decide (S.data.toList.head? = some 45))]) ∧ w = w' ∧ DashV S.data.toList B.data.toList := by
  have H := Lib.hid (cutp69_any S)
  obtain ⟨D, hD⟩ : ∃ D, decide (S.data.toList.head? = some 45) = D := ⟨_, rfl⟩
  rw [hD] at H
  rw [hD]
  clear hD
  go_enter Tryz.func58, Tryz.ntmps58
  go_wp2_with fail
  refine (H.out _).mono ?_
  rintro e w' ⟨B, rfl, rfl, hl⟩
  have HL := Lib.hid hl
  clear hl
  go_wp2
  go_ret2
  exact ⟨_, rfl, rfl, HL.out⟩

theorem index_any (S : ByteArray) (w : World) : Calls Tryz.prog 93 #[.string S, .string ⟨#[46]⟩] w fun e w' => e = .returned (.int .i64 (Lib.indexByte S.data.toList 46)) ∧ w = w' := by
  have H := fun w => Any.stringslite_IndexByte Tryz.idxL S 46 w
  rw [show ((46 : Int).toNat.toUInt8) = (46 : UInt8) from rfl] at H
  change ∀ w, Calls Tryz.prog 114 _ _ _ at H
  obtain ⟨R, hR⟩ : ∃ R, Lib.indexByte S.data.toList 46 = R := ⟨_, rfl⟩
  rw [hR] at H ⊢
  replace H := Lib.hid H
  by_cases he : S.toList = [46]
  · have e1 : ([46] == S.toList) = true := by rw [he]; rfl
    have e2 : Hid ((0 : Int) = R) := Lib.hid (by
      rw [← hR, ← Lib.toList_data, he]
      rfl)
    clear hR he
    go_enter Tryz.func93, Tryz.ntmps93
    go_wp2
    go_ret
    exact ⟨retI e2.out, rfl⟩
  · have e1 : ([46] == S.toList) = false := by
      rw [beq_eq_false_iff_ne]
      exact fun h => he h.symm
    clear hR he
    go_enter Tryz.func93, Tryz.ntmps93
    go_wp2_with fail
    refine (H.out _).mono ?_
    rintro e w' ⟨rfl, rfl⟩
    go_wp2
    go_ret
    exact ⟨rfl, rfl⟩

/-- What strings.Cut at a point returns. -/
def CutV (l : List UInt8) (U C : ByteArray) (f : Bool) : Prop := (f = true ∧ l = U.data.toList ++ 46 :: C.data.toList ∧ (46 : UInt8) ∉ U.data.toList) ∨ (f = false ∧ (46 : UInt8) ∉ l ∧ U.data.toList = l ∧ C = ⟨#[]⟩)
theorem cut70_any (S : ByteArray) (hS : S.size ≤ 9223372036854775800) (w : World) : Calls Tryz.prog 70 #[.string S, .string ⟨#[46]⟩] w fun e w' => ∃ (U C : ByteArray) (f : Bool), e = .returned (.tuple #[.string U, .string C, .bool f]) ∧ Below w.heap.size w w' ∧ CutV S.data.toList U C f := by
  have H := Lib.hid (index_any S)
  have hge := Lib.indexByte_ge S.data.toList 46
  have hsz := ba_size S
  obtain ⟨R, hR⟩ : ∃ R, Lib.indexByte S.data.toList 46 = R := ⟨_, rfl⟩
  rw [hR] at H hge
  by_cases h0 : R = -1
  · subst h0
    have hn := Lib.indexByte_none hR
    have HV : Hid (CutV S.data.toList S ⟨#[]⟩ false) := Lib.hid (Or.inr ⟨rfl, fun hm => by
      obtain ⟨i, hi, he⟩ := List.getElem_of_mem hm
      exact hn i (by rw [List.getElem?_eq_getElem hi, he]), rfl, rfl⟩)
    clear hge hsz hR hn hS
    go_enter Tryz.func70, Tryz.ntmps70
    go_wp2_with fail
    refine (H.out _).mono ?_
    rintro e w' ⟨rfl, rfl⟩
    go_wp2
    go_ret3
    exact ⟨_, _, _, rfl, Below.refl _ _, HV.out⟩
  · obtain ⟨i, rfl⟩ := Int.eq_ofNat_of_zero_le (show 0 ≤ R by omega)
    obtain ⟨h1, h2⟩ := Lib.indexByte_some hR
    have hi : i < S.size := by rw [hsz]; exact (List.getElem?_eq_some_iff.1 h1).1
    have HV : Hid (CutV S.data.toList (S.extract 0 i) (S.extract (i + 1) S.size) true) := Lib.hid (Or.inl ⟨rfl, by
      rw [ba_ext_list, ba_ext_list, Nat.sub_zero, List.drop_zero]
      have e1 : (S.data.toList.drop (i + 1)).take (S.size - (i + 1)) = S.data.toList.drop (i + 1) := List.take_of_length_le (by rw [List.length_drop]; omega)
      rw [e1]
      have e2 : S.data.toList.drop i = 46 :: S.data.toList.drop (i + 1) := by
        rw [List.drop_eq_getElem_cons (by omega)]
        congr 1
        rw [List.getElem?_eq_getElem (by omega)] at h1
        exact Option.some.inj h1
      rw [← e2, List.take_append_drop], by
      rw [ba_ext_list, Nat.sub_zero, List.drop_zero]
      intro hm
      obtain ⟨j, hj, he⟩ := List.getElem_of_mem hm
      rw [List.length_take] at hj
      rw [List.getElem_take] at he
      exact h2 j (by omega) (by rw [List.getElem?_eq_getElem (by omega), he])⟩)
    have c1 : (0 : Int) ≤ (i : Int) := by omega
    have c2 : (i : Int) ≤ (S.size : Int) := by omega
    have c3 : (0 : Int) ≤ (i : Int) + 1 := by omega
    have c4 : (i : Int) + 1 ≤ (S.size : Int) := by omega
    have c5 : IntKind.i64.wrap ((i : Int) + 1) = (i : Int) + 1 := wrap_in (by omega) (by omega)
    have c6 : ((i : Int) + 1).toNat = i + 1 := by omega
    clear hge hsz hR h1 h2 h0
    go_enter Tryz.func70, Tryz.ntmps70
    go_wp2_with fail
    refine (H.out _).mono ?_
    rintro e w' ⟨rfl, rfl⟩
    go_wp2_with fail
    go_quiet (fail)
    have HD : Hid (Below w.heap.size w (w.drewN nq)) := Lib.hid (bdrewN (Below.refl _ _) nq)
    generalize w.drewN nq = w7 at *
    go_wp2
    go_ret3
    exact ⟨_, _, _, rfl, HD.out, HV.out⟩
theorem cut_any (S : ByteArray) (hS : S.size ≤ 9223372036854775800) (w : World) : Calls Tryz.prog 59 #[.string S, .string ⟨#[46]⟩] w fun e w' => ∃ (U C : ByteArray) (f : Bool), e = .returned (.tuple #[.string U, .string C, .bool f]) ∧ Below w.heap.size w w' ∧ CutV S.data.toList U C f := by
  have H := Lib.hid (cut70_any S hS)
  clear hS
  go_enter Tryz.func59, Tryz.ntmps59
  go_wp2_with fail
  refine (H.out _).mono ?_
  rintro e w' ⟨U, C, f, rfl, hb, hv⟩
  have HB := Lib.hid hb; have HV := Lib.hid hv
  clear hb hv
  go_wp2
  go_ret3
  exact ⟨_, _, _, rfl, HB.out, HV.out⟩

theorem trim_ren : (Tryz.prog.info? (Tryz.trimL_ren.t 116)).map (fun i => (i.zero, i.size)) = some (some (.agg (Array.replicate 256 (.bool false))), 256) := by kernel_rfl
theorem digits_any (S : ByteArray) (hS : S.size ≤ 9223372036854775800) (w : World) : Calls Tryz.prog 60 #[.string S] w fun e w' => e = .returned (.bool (decide (S.data.toList ≠ [] ∧ ∀ c ∈ S.data.toList, isD c))) ∧ Below w.heap.size w w' := by
  obtain ⟨R, hR⟩ : ∃ R, decide (S.data.toList ≠ [] ∧ ∀ c ∈ S.data.toList, isD c) = R := ⟨_, rfl⟩
  rw [hR]
  have H := fun w => Any.strings_Trim_laid Tryz.trimL trim_ren S ⟨#[48, 49, 50, 51, 52, 53, 54, 55, 56, 57]⟩ w (by omega) (by decide) (ascii_of_all (by decide))
  change ∀ w, Calls Tryz.prog 71 _ _ _ at H
  have hS2 : S.toList = S.data.toList := Lib.toList_data S
  by_cases h0 : S.data.toList = []
  · have hF : Hid (R = false) := Lib.hid (by rw [← hR]; simp [h0])
    have e0 : S.toList.isEmpty = true := by rw [hS2, h0]; rfl
    have e1 : (S.toList == []) = true := by rw [hS2, h0]; rfl
    have e2 : (S.toList != []) = false := by rw [hS2, h0]; rfl
    clear H hR hS h0 hS2
    go_enter Tryz.func60, Tryz.ntmps60
    go_wp2
    go_ret
    exact ⟨retB hF.out.symm, Below.refl _ _⟩
  · obtain ⟨T, hT⟩ : ∃ T : ByteArray, (⟨(Lib.trimS S.data.toList [48, 49, 50, 51, 52, 53, 54, 55, 56, 57]).toArray⟩ : ByteArray) = T := ⟨_, rfl⟩
    have H2 : ∀ w, Calls Tryz.prog 71 #[.string S, .string ⟨#[48, 49, 50, 51, 52, 53, 54, 55, 56, 57]⟩] w fun e w' => e = .returned (.string T) ∧ Below w.heap.size w w' := by
      rw [← hT]
      exact H
    have hiff : (∀ c ∈ S.data.toList, isD c) ↔ T.data.toList = [] := by
      rw [← hT]
      show _ ↔ Lib.trimS S.data.toList _ = []
      rw [trim_nil]
      constructor
      · intro h c hc
        exact (digits_set c).2 (h c hc)
      · intro h c hc
        exact (digits_set c).1 (h c hc)
    have hF : Hid (R = decide (T.data.toList = [])) := Lib.hid (by
      rw [← hR]
      refine decide_eq_decide.2 ?_
      rw [← hiff]
      exact ⟨fun h => h.2, fun h => ⟨h0, h⟩⟩)
    have e0 : S.toList.isEmpty = false := by
      rw [hS2]
      cases hc : S.data.toList with
      | nil => exact absurd hc h0
      | cons x t => rfl
    have HT2 : T.toList = T.data.toList := Lib.toList_data T
    replace H2 := Lib.hid H2
    by_cases ht : T.data.toList = []
    · have hF2 : Hid (R = true) := Lib.hid (by rw [hF.out]; exact decide_eq_true ht)
      have e1 : T.toList.isEmpty = true := by rw [HT2, ht]; rfl
      clear H hR hS h0 hS2 hT hiff hF HT2 ht
      go_enter Tryz.func60, Tryz.ntmps60
      go_wp2_with fail
      refine (H2.out _).mono ?_
      rintro e w' ⟨rfl, hb⟩
      have HB := Lib.hid hb
      clear hb
      go_wp2
      go_ret
      exact ⟨retB hF2.out.symm, HB.out⟩
    · have hF2 : Hid (R = false) := Lib.hid (by rw [hF.out]; exact decide_eq_false ht)
      have e1 : T.toList.isEmpty = false := by
        rw [HT2]
        cases hc : T.data.toList with
        | nil => exact absurd hc ht
        | cons x t => rfl
      clear H hR hS h0 hS2 hT hiff hF HT2 ht
      go_enter Tryz.func60, Tryz.ntmps60
      go_wp2_with fail
      refine (H2.out _).mono ?_
      rintro e w' ⟨rfl, hb⟩
      have HB := Lib.hid hb
      clear hb
      go_wp2
      go_ret
      exact ⟨retB hF2.out.symm, HB.out⟩
end Go.Proofs.YtempnbchiofghaaGreatDoor
