/-
  The statement of MerkleUpdates: walk and row.
-/
import Derived.Test.YthmpeeipbclhkaaDoorSn
import Derived.Test.YthmpeeipbclhkaaDoorWi1
import Derived.Test.YthmpeeipbclhkaaDoorSm
import Derived.Test.YthmpeeipbclhkaaDoorIn
import Derived.Test.YthmpeeipbclhkaaDoorLw
import Derived.Test.YthmpeeipbclhkaaDoorOs
import Derived.Test.YthmpeeipbclhkaaDoorEq
import Derived.ChangeMaps5
namespace Go.Proofs.YthmpeeipbclhkaaDoor.merkleUpdates
set_option linter.unusedSimpArgs false
open Go.ChangeShapes Go.WideShapes Go.ChangeAt Go.RowKit
set_option linter.unusedVariables false

theorem ffrom_at (a b : List (List Int)) (I : Nat) (hne : a.getD I pdd ≠ b.getD I pdd) : ∀ n i, i ≤ I → I < i + n → (∀ j, j < I → a.getD j pdd = b.getD j pdd) → ffrom a b i n = (I : Int) := by
  intro n
  induction n with
  | zero => intro i h1 h2 _; omega
  | succ n ih =>
    intro i h1 h2 h
    unfold ffrom
    by_cases hi : i = I
    · subst hi; rw [if_neg hne]
    · rw [if_pos (h i (by omega))]
      exact ih (i + 1) (by omega) (by omega) h

theorem set_getD (l : List (List Int)) (I : Nat) (d : List Int) (hI : I < l.length) (j : Nat) : (l.set I d).getD j pdd = if j = I then d else l.getD j pdd := by
  rw [List.getD_eq_getElem?_getD, List.getD_eq_getElem?_getD, List.getElem?_set]
  by_cases h : I = j
  · subst h; rw [if_pos rfl, if_pos rfl, if_pos hI]; rfl
  · rw [if_neg h, if_neg (fun e => h e.symm)]

theorem fdiff_set (l : List (List Int)) (I : Nat) (d : List Int) (hI : I < l.length) : decide (fdiff l (l.set I d) = (I : Int)) = !decide (l.getD I pdd = d) := by
  by_cases h : l.getD I pdd = d
  · rw [decide_eq_true h]
    have e : fdiff l (l.set I d) = -1 := by
      refine ffrom_same _ _ _ 0 (fun j => ?_)
      rw [set_getD l I d hI]
      by_cases hj : j = I
      · rw [if_pos hj, hj, h]
      · rw [if_neg hj]
    rw [e, decide_eq_false (by omega)]; rfl
  · rw [decide_eq_false h]
    have e : fdiff l (l.set I d) = (I : Int) := by
      refine ffrom_at _ _ I ?_ _ 0 (by omega) (by rw [List.length_set]; omega) (fun j hj => ?_)
      · rw [set_getD l I d hI, if_pos rfl]; exact h
      · rw [set_getD l I d hI, if_neg (by omega)]
    rw [e, decide_eq_true rfl]; rfl

theorem sib_ne (n : Nat) : sib n ≠ n := by unfold sib; split <;> omega

theorem sibs_set (l : List (List Int)) (I : Nat) (d : List Int) (hI : I < l.length) (n : Nat) : ∀ j, sibs prt pdd (l.set I d) j (I / 2 ^ j) n = sibs prt pdd l j (I / 2 ^ j) n := by
  induction n with
  | zero => intro j; rfl
  | succ n ih =>
    intro j
    show nd prt pdd (l.set I d) j (sib (I / 2 ^ j)) :: sibs prt pdd (l.set I d) (j + 1) (I / 2 ^ j / 2) n = nd prt pdd l j (sib (I / 2 ^ j)) :: sibs prt pdd l (j + 1) (I / 2 ^ j / 2) n
    have e : I / 2 ^ j / 2 = I / 2 ^ (j + 1) := by rw [Nat.div_div_eq_div_mul, Nat.pow_succ]
    rw [e, ih (j + 1)]
    congr 1
    refine nd_local prt pdd _ _ j _ _ (fun t ht => ?_)
    rw [set_getD l I d hI, if_neg]
    intro h
    have h1 := div_of j (sib (I / 2 ^ j)) t ht
    rw [h] at h1
    exact sib_ne _ h1.symm

theorem path_set (l : List (List Int)) (I : Nat) (d : List Int) (hI : I < l.length) : pathD (l.set I d) I = pathD l I := by
  unfold pathD
  rw [List.length_set]
  have h := sibs_set l I d hI (dpt l.length) 0
  simpa using h

theorem inc_path2 (l : List (List Int)) (i : Nat) (hl : l.length ≤ 65536) (hi : i < 2 ^ dpt l.length) : inc (l.length : Int) (rootD l) (i : Int) (l.getD i pdd) (pathD l i) = true := by
  unfold inc
  have e1 : decide ((0 : Int) ≤ (l.length : Int) ∧ (l.length : Int) ≤ 65536) = true := decide_eq_true (by omega)
  have e2 : decide ((0 : Int) ≤ (i : Int) ∧ (i : Int) < ((2 ^ dpt (l.length : Int).toNat : Nat) : Int)) = true := decide_eq_true (by rw [Int.toNat_natCast]; omega)
  have e3 : decide ((pathD l i).length = dpt (l.length : Int).toNat) = true := decide_eq_true (by rw [Int.toNat_natCast, pathD_length])
  have e4 : decide (climb prt (i : Int).toNat (l.getD i pdd) (pathD l i) = rootD l) = true := by
    refine decide_eq_true ?_
    rw [Int.toNat_natCast]
    have h := climb_sibs prt pdd l (dpt l.length) 0 i
    rw [Nat.zero_add, Nat.div_eq_of_lt hi] at h
    exact h
  rw [e1, e2, e3, e4]; rfl

theorem pathS (l : List (List Int)) (oa : Option Addr) (oc I n : Nat) (p : List (List Int)) (w' : World) (hn : n = l.length) (hp : p = pathD l I) (hl : n ≤ 65536) (hi : I < 2 ^ dpt n) (h1 : KOk w') (h2 : Dl (fun k => k < w'.heap.size) w' (.slice oa n oc) l) :
    Calls Tryd.prog 17 #[.slice oa n oc, .int .i64 (I : Int)] w' fun e w'' => ∃ a c, e = .returned (.tuple #[.slice a p.length c, .int .i64 0]) ∧ Below w'.heap.size w' w'' ∧ Dl (fun k => w'.heap.size ≤ k ∧ k < w''.heap.size) w'' (.slice a p.length c) p := by
  subst hn hp
  refine (pathOk_any l oa oc I w' h1 h2 hl hi).mono ?_
  rintro e w'' ⟨v, he, hb, hd⟩
  obtain ⟨a, c, rfl⟩ := hd.shape
  exact ⟨a, c, he, hb, hd⟩

theorem wneg (b : Bool) : (b == b) = true := by cases b <;> rfl

set_option maxRecDepth 100000 in
set_option maxHeartbeats 4000000 in
theorem walk (l : List (List Int)) (oa : Option Addr) (oc : Nat) (i : Int) (d : List Int) (w : World) (hk : KOk w) (hv : Dl (fun k => k < w.heap.size) w (.slice oa l.length oc) l) (hi : -9223372036854775808 ≤ i ∧ i ≤ 9223372036854775807) (hd : Dg d) :
    Calls Tryd.prog 9 #[.slice oa l.length oc, .int .i64 i, .agg (byteVals d).toArray] w fun e w' => e = .returned (.bool true) ∧ Below w.heap.size w w' := by
  have HK := Lib.hid hk
  have HV := Lib.hid hv
  have HS := Lib.hid ((St4.nil w).new 26 (byteVals d))
  have hf : ∀ w', Calls Tryd.prog 12 #[.slice oa l.length oc] w' fun e w'' => e = .returned (.bool (decide (l.length ≤ 64))) ∧ w' = w'' := fun w' => (few_any l oa oc w').mono (fun e w2 h => ⟨h.1, h.2.symm⟩)
  have hll := hv.1
  have hdl := hd.1
  have HD := Lib.hid hd
  clear hk hv hd
  by_cases h64 : l.length ≤ 64
  · rw [decide_eq_true h64] at hf
    have HF := Lib.hid hf
    have hl65 : l.length ≤ 65536 := by omega
    clear hf
    by_cases f1 : i < 0
    · have g1 : decide (i < 0) = true := decide_eq_true f1
      go_enter Tryd.func9, Tryd.ntmps9
      go_wp2_with fail
      refine (sane_true _ (HK.out.below HS.out.below)).mono ?_
      rintro e w1 ⟨rfl, hb⟩
      replace HS := Lib.hid (HS.out.call hb)
      clear hb
      go_wp2_with fail
      refine (HF.out _).mono ?_
      rintro e w2 ⟨rfl, rfl⟩
      go_wp2
      go_ret
      exact ⟨rfl, HS.out.below⟩
    by_cases f2 : (l.length : Int) ≤ i
    · have g1 : decide (i < 0) = false := decide_eq_false f1
      have g2 : decide ((l.length : Int) ≤ i) = true := decide_eq_true f2
      go_enter Tryd.func9, Tryd.ntmps9
      go_wp2_with fail
      refine (sane_true _ (HK.out.below HS.out.below)).mono ?_
      rintro e w1 ⟨rfl, hb⟩
      replace HS := Lib.hid (HS.out.call hb)
      clear hb
      go_wp2_with fail
      refine (HF.out _).mono ?_
      rintro e w2 ⟨rfl, rfl⟩
      go_wp2
      go_ret
      exact ⟨rfl, HS.out.below⟩
    obtain ⟨I, rfl⟩ : ∃ I : Nat, i = (I : Int) := ⟨i.toNat, by omega⟩
    have hI : I < l.length := by omega
    have g1 : decide ((I : Int) < 0) = false := decide_eq_false f1
    have g2 : decide ((l.length : Int) ≤ (I : Int)) = false := decide_eq_false f2
    obtain ⟨g, off, X, rfl, hg, hx, hxl, hr, hc⟩ := HV.out.pick I hI
    have hX : l.getD I pdd = X := by rw [List.getD_eq_getElem?_getD, hx]; rfl
    have hfs := fdiff_set l I d hI
    have hps := path_set l I d hI
    obtain ⟨m, hm⟩ : ∃ m, m = l.set I d := ⟨_, rfl⟩
    have hml : m.length = l.length := by rw [hm]; simp
    have hmd : m.getD I pdd = d := by rw [hm, set_getD l I d hI, if_pos rfl]
    rw [hX] at hfs
    rw [← hm] at hfs hps
    have hIQ : I < 2 ^ dpt m.length := by rw [hml]; exact Nat.lt_of_lt_of_le hI (dpt_ge _)
    have hin := inc_path2 m I (by omega) hIQ
    rw [hmd, hps] at hin
    have hmdg : ∀ x ∈ m, Dg x := by
      intro x hx
      rw [hm] at hx
      rcases List.mem_or_eq_of_mem_set hx with h | h
      · exact HV.out.2.1 x h
      · rw [h]; exact HD.out
    have hwi : ∀ w', Dl (fun k => k < w'.heap.size) w' (.slice (some ⟨g, off, none⟩) l.length oc) l → Calls Tryd.prog 34 #[.slice (some ⟨g, off, none⟩) l.length oc, .int .i64 (I : Int), .agg (byteVals d).toArray] w' fun e w'' => ∃ a c, e = .returned (.slice a l.length c) ∧ Below w'.heap.size w' w'' ∧ Dl (fun k => w'.heap.size ≤ k ∧ k < w''.heap.size) w'' (.slice a l.length c) m := by
      intro w' h
      rw [hm]
      exact with_any l _ oc I d w' h HD.out (by omega) hI
    have hpl := pathD_length l I
    have hpd := pathD_dg l I HV.out.2.1
    obtain ⟨p, hp⟩ : ∃ p, p = pathD l I := ⟨_, rfl⟩
    rw [← hp] at hin hpl hpd hps
    have hpa : ∀ w', KOk w' → Dl (fun k => k < w'.heap.size) w' (.slice (some ⟨g, off, none⟩) l.length oc) l → Calls Tryd.prog 17 #[.slice (some ⟨g, off, none⟩) l.length oc, .int .i64 (I : Int)] w' fun e w'' => ∃ a c, e = .returned (.tuple #[.slice a p.length c, .int .i64 0]) ∧ Below w'.heap.size w' w'' ∧ Dl (fun k => w'.heap.size ≤ k ∧ k < w''.heap.size) w'' (.slice a p.length c) p :=
      fun w' h1 h2 => pathS l _ oc I l.length p w' rfl hp hl65 (by rw [← hml]; exact hIQ) h1 h2
    have hpb : ∀ w' a c, KOk w' → Dl (fun k => k < w'.heap.size) w' (.slice a l.length c) m → Calls Tryd.prog 17 #[.slice a l.length c, .int .i64 (I : Int)] w' fun e w'' => ∃ a c, e = .returned (.tuple #[.slice a p.length c, .int .i64 0]) ∧ Below w'.heap.size w' w'' ∧ Dl (fun k => w'.heap.size ≤ k ∧ k < w''.heap.size) w'' (.slice a p.length c) p :=
      fun w' a c h1 h2 => pathS m a c I l.length p w' hml.symm hps.symm hl65 (by rw [← hml]; exact hIQ) h1 h2
    obtain ⟨R, hR⟩ : ∃ R, R = rootD m := ⟨_, rfl⟩
    have hRD : Dg R := by rw [hR]; exact rootD_dg m hmdg
    have hrl := hRD.1
    have hro : ∀ w' a c, KOk w' → Dl (fun k => k < w'.heap.size) w' (.slice a l.length c) m → Calls Tryd.prog 15 #[.slice a l.length c] w' fun e w'' => e = .returned (.tuple #[.agg (.int .i64 (l.length : Int) :: byteVals R).toArray, .int .i64 0]) ∧ Below w'.heap.size w' w'' := by
      intro w' a c h1 h2
      have h3 := root_any m a c w' h1 (by rw [hml]; exact h2) (by omega)
      rw [hml, ← hR] at h3
      exact h3
    rw [← hR, hml] at hin
    have hsa : ∀ w' a c a2 c2, Dl (fun k => k < w'.heap.size) w' (.slice a p.length c) p → Dl (fun k => k < w'.heap.size) w' (.slice a2 p.length c2) p → Calls Tryd.prog 19 #[.slice a p.length c, .slice a2 p.length c2] w' fun e w'' => e = .returned (.bool true) ∧ Below w'.heap.size w' w'' := by
      intro w' a c a2 c2 h1 h2
      have h := same_any p p a a2 c c2 w' h1 h2
      rw [decide_eq_true rfl] at h
      exact h
    have hinc : ∀ w' a c, KOk w' → Dl (fun k => k < w'.heap.size) w' (.slice a p.length c) p → Calls Tryd.prog 28 #[.agg (.int .i64 (l.length : Int) :: byteVals R).toArray, .int .i64 (I : Int), .agg (byteVals d).toArray, .slice a p.length c] w' fun e w'' => e = .returned (.bool true) ∧ Below w'.heap.size w' w'' := by
      intro w' a c h1 h2
      have h := inc_any (l.length : Int) R (I : Int) d p a c w' h1 hRD HD.out h2
      rw [hin] at h
      exact h
    obtain ⟨F, hF⟩ : ∃ F, F = fdiff l m := ⟨_, rfl⟩
    have hfi : ∀ w' a c, KOk w' → Dl (fun k => k < w'.heap.size) w' (.slice (some ⟨g, off, none⟩) l.length oc) l → Dl (fun k => k < w'.heap.size) w' (.slice a l.length c) m → Calls Tryd.prog 26 #[.slice (some ⟨g, off, none⟩) l.length oc, .slice a l.length c] w' fun e w'' => e = .returned (.int .i64 F) ∧ Below w'.heap.size w' w'' := by
      intro w' a c h1 h2 h3
      have h := first_any l m _ a oc c w' h1 h2 (by rw [hml]; exact h3)
      rw [hml, ← hF] at h
      exact h
    rw [← hF] at hfs
    obtain ⟨bq, hbq⟩ : ∃ b, b = decide (X = d) := ⟨_, rfl⟩
    have heq := eqDig X d hxl hdl
    rw [← hbq] at hfs heq
    have hfq : (F == (I : Int)) = !bq := by
      rw [← hfs]
      by_cases h : F = (I : Int)
      · rw [decide_eq_true h, h]; simp
      · rw [decide_eq_false h]; simp [h]
    have HWI := Lib.hid hwi; have HPA := Lib.hid hpa; have HPB := Lib.hid hpb; have HRO := Lib.hid hro; have HSA := Lib.hid hsa; have HINC := Lib.hid hinc; have HFI := Lib.hid hfi; have HR := Lib.hid (And.intro hg hr)
    have q1 : (I : Int) < (l.length : Int) := by omega
    clear hwi hpa hpb hro hsa hinc hfi hpl hpd hps hin hp hR hF hRD hIQ hmdg hmd hml hm hX hx hfs hbq hr hg f1 f2
    go_enter Tryd.func9, Tryd.ntmps9
    go_wp2_with fail
    refine (sane_true _ (HK.out.below HS.out.below)).mono ?_
    rintro e w1 ⟨rfl, hb⟩
    replace HS := Lib.hid (HS.out.call hb)
    clear hb
    go_wp2_with fail
    refine (HF.out _).mono ?_
    rintro e w2 ⟨rfl, rfl⟩
    go_wp2_with (first | (refine wpList_loadG (by rfl) (.tmp 5) rfl w.heap.size rfl d (HS.out.range (by (with_reducible (repeat (first | exact List.mem_cons_self | refine List.mem_cons_of_mem _ ?_))))) hdl ?_; (try simp only [Act.put, List.setIfInBounds_toArray, List.set_cons_zero, List.set_cons_succ, List.getElem_toArray, List.getElem_cons_zero, List.getElem_cons_succ])))
    refine (HWI.out _ (HV.out.on HS.out.below)).mono ?_
    rintro e w3 ⟨ma, mc, rfl, hb, hd⟩
    replace HS := Lib.hid (HS.out.callAlso hb hd)
    clear hb hd
    go_wp2_with fail
    refine (HPA.out _ (HK.out.below HS.out.below) (HV.out.on HS.out.below)).mono ?_
    rintro e w4 ⟨pa, pc, rfl, hb, hd⟩
    replace HS := Lib.hid (HS.out.callAlso hb hd)
    clear hb hd
    go_wp2_with fail
    refine (HPB.out _ _ _ (HK.out.below HS.out.below) (HS.out.dl (by (with_reducible (repeat (first | exact List.mem_cons_self | refine List.mem_cons_of_mem _ ?_)))))).mono ?_
    rintro e w5 ⟨qa, qc, rfl, hb, hd⟩
    replace HS := Lib.hid (HS.out.callAlso hb hd)
    clear hb hd
    go_wp2_with fail
    refine (HRO.out _ _ _ (HK.out.below HS.out.below) (HS.out.dl (by (with_reducible (repeat (first | exact List.mem_cons_self | refine List.mem_cons_of_mem _ ?_)))))).mono ?_
    rintro e w6 ⟨rfl, hb⟩
    replace HS := Lib.hid (HS.out.call hb)
    clear hb
    go_upto_region 9 with (refine wpList_newC HS.out rfl (.tmp 12) (.tmp 48) rfl rfl (l.length : Int) R rfl hrl rfl ?_; intro wS hS; replace HS := Lib.hid hS; clear hS; (try simp only [Act.put, List.setIfInBounds_toArray, List.set_cons_zero, List.set_cons_succ, List.getElem_toArray, List.getElem_cons_zero, List.getElem_cons_succ]))
    generalize w6.heap.size = gc at *
    refine wp_region_held_drew (S := fun w' => St4 w [(gc, 30, Value.int .i64 (l.length : Int) :: byteVals R), (w.heap.size, 26, byteVals d)] [(.slice qa p.length qc, p), (.slice pa p.length pc, p), (.slice ma l.length mc, m)] w') (by kernel_rfl) HS.out.drew (fun hHeld => ?_)
    change wpAnyH _ _ _ _ _ 37 #[false, false, false, false, false, false, false, false, false, false, false, false, false, false, false, false, false, false, false, false, false, false, false, false, false, false, false, false, false, false, false, false, false, false, false, false, false] _ _
    refine wpAnyH_take (i := 0) (oi := _) (v := .int .i64 0) rfl (by kernel_rfl) (by kernel_rfl) (by kernel_rfl) (fun _ _ _ h => h) (Or.inl ⟨by rfl, fun wx hSw => ?_⟩) (by assumption) ?_
    · go_simp
      try (rw [IntKind.wrap_i64]; omega)
    (try simp only [Act.put, List.setIfInBounds_toArray, List.set_cons_zero, List.set_cons_succ, List.getElem_toArray, List.getElem_cons_zero, List.getElem_cons_succ])
    refine wpAnyH_take (i := 1) (oi := _) (v := .bool true) rfl (by kernel_rfl) (by kernel_rfl) (by kernel_rfl) (fun _ _ _ h => h) (Or.inl ⟨by rfl, fun wx hSw => ?_⟩) (by assumption) ?_
    · go_simp
      try (rw [IntKind.wrap_i64]; omega)
    (try simp only [Act.put, List.setIfInBounds_toArray, List.set_cons_zero, List.set_cons_succ, List.getElem_toArray, List.getElem_cons_zero, List.getElem_cons_succ])
    refine wpAnyH_take (i := 2) (oi := _) (v := .bool true) rfl (by kernel_rfl) (by kernel_rfl) (by kernel_rfl) (fun _ _ _ h => h) (Or.inl ⟨by rfl, fun wx hSw => ?_⟩) (by assumption) ?_
    · go_simp
      try (rw [IntKind.wrap_i64]; omega)
    (try simp only [Act.put, List.setIfInBounds_toArray, List.set_cons_zero, List.set_cons_succ, List.getElem_toArray, List.getElem_cons_zero, List.getElem_cons_succ])
    refine wpAnyH_take (i := 3) (oi := _) (v := .int .i64 0) rfl (by kernel_rfl) (by kernel_rfl) (by kernel_rfl) (fun _ _ _ h => h) (Or.inl ⟨by rfl, fun wx hSw => ?_⟩) (by assumption) ?_
    · go_simp
      try (rw [IntKind.wrap_i64]; omega)
    (try simp only [Act.put, List.setIfInBounds_toArray, List.set_cons_zero, List.set_cons_succ, List.getElem_toArray, List.getElem_cons_zero, List.getElem_cons_succ])
    refine wpAnyH_take (i := 4) (oi := _) (v := .bool true) rfl (by kernel_rfl) (by kernel_rfl) (by kernel_rfl) (fun _ _ _ h => h) (Or.inl ⟨by rfl, fun wx hSw => ?_⟩) (by assumption) ?_
    · go_simp
      try (rw [IntKind.wrap_i64]; omega)
    (try simp only [Act.put, List.setIfInBounds_toArray, List.set_cons_zero, List.set_cons_succ, List.getElem_toArray, List.getElem_cons_zero, List.getElem_cons_succ])
    refine wpAnyH_take (i := 5) (oi := _) (v := .bool true) rfl (by kernel_rfl) (by kernel_rfl) (by kernel_rfl) (fun _ _ _ h => h) (Or.inl ⟨by rfl, fun wx hSw => ?_⟩) (by assumption) ?_
    · go_simp
      try (rw [IntKind.wrap_i64]; omega)
    (try simp only [Act.put, List.setIfInBounds_toArray, List.set_cons_zero, List.set_cons_succ, List.getElem_toArray, List.getElem_cons_zero, List.getElem_cons_succ])
    refine wpAnyH_take (i := 6) (oi := _) (v := .bool true) rfl (by kernel_rfl) (by kernel_rfl) (by kernel_rfl) (fun _ _ _ h => h) (Or.inl ⟨by rfl, fun wx hSw => ?_⟩) (by assumption) ?_
    · go_simp
      try (rw [IntKind.wrap_i64]; omega)
    (try simp only [Act.put, List.setIfInBounds_toArray, List.set_cons_zero, List.set_cons_succ, List.getElem_toArray, List.getElem_cons_zero, List.getElem_cons_succ])
    refine wpAnyH_take (i := 7) (oi := _) (v := .int .i64 0) rfl (by kernel_rfl) (by kernel_rfl) (by kernel_rfl) (fun _ _ _ h => h) (Or.inl ⟨by rfl, fun wx hSw => ?_⟩) (by assumption) ?_
    · go_simp
      try (rw [IntKind.wrap_i64]; omega)
    (try simp only [Act.put, List.setIfInBounds_toArray, List.set_cons_zero, List.set_cons_succ, List.getElem_toArray, List.getElem_cons_zero, List.getElem_cons_succ])
    refine wpAnyH_take (i := 8) (oi := _) (v := .bool true) rfl (by kernel_rfl) (by kernel_rfl) (by kernel_rfl) (fun _ _ _ h => h) (Or.inl ⟨by rfl, fun wx hSw => ?_⟩) (by assumption) ?_
    · go_simp
      try (rw [IntKind.wrap_i64]; omega)
    (try simp only [Act.put, List.setIfInBounds_toArray, List.set_cons_zero, List.set_cons_succ, List.getElem_toArray, List.getElem_cons_zero, List.getElem_cons_succ])
    refine wpAnyH_take (i := 9) (oi := _) (v := .bool true) rfl (by kernel_rfl) (by kernel_rfl) (by kernel_rfl) (fun _ _ _ h => h) (Or.inl ⟨by rfl, fun wx hSw => ?_⟩) (by assumption) ?_
    · go_simp
      try (rw [IntKind.wrap_i64]; omega)
    (try simp only [Act.put, List.setIfInBounds_toArray, List.set_cons_zero, List.set_cons_succ, List.getElem_toArray, List.getElem_cons_zero, List.getElem_cons_succ])
    refine wpAnyH_take (i := 10) (oi := _) (v := .bool true) rfl (by kernel_rfl) (by kernel_rfl) (by kernel_rfl) (fun _ _ _ h => h) (Or.inl ⟨by rfl, fun wx hSw => ?_⟩) (by assumption) ?_
    · go_simp
      try (rw [IntKind.wrap_i64]; omega)
    (try simp only [Act.put, List.setIfInBounds_toArray, List.set_cons_zero, List.set_cons_succ, List.getElem_toArray, List.getElem_cons_zero, List.getElem_cons_succ])
    refine wpAnyH_take (i := 11) (oi := _) (v := .slice pa p.length pc) rfl (by kernel_rfl) (by kernel_rfl) (by kernel_rfl) (fun _ _ _ h => h) (Or.inl ⟨by rfl, fun wx hSw => ?_⟩) (by assumption) ?_
    · go_simp
      try (rw [IntKind.wrap_i64]; omega)
    (try simp only [Act.put, List.setIfInBounds_toArray, List.set_cons_zero, List.set_cons_succ, List.getElem_toArray, List.getElem_cons_zero, List.getElem_cons_succ])
    refine wpAnyH_take (i := 12) (oi := _) (v := .slice qa p.length qc) rfl (by kernel_rfl) (by kernel_rfl) (by kernel_rfl) (fun _ _ _ h => h) (Or.inl ⟨by rfl, fun wx hSw => ?_⟩) (by assumption) ?_
    · go_simp
      try (rw [IntKind.wrap_i64]; omega)
    (try simp only [Act.put, List.setIfInBounds_toArray, List.set_cons_zero, List.set_cons_succ, List.getElem_toArray, List.getElem_cons_zero, List.getElem_cons_succ])
    refine wpAnyH_ready (rs := [13]) (by kernel_rfl) (by simp) ?_
    refine AllReadyH.cons (o := _) rfl (fun K hK => ?_) AllReadyH.nil
    go_simp
    refine (HSA.out _ _ _ _ _ (hHeld.dl (by (with_reducible (repeat (first | exact List.mem_cons_self | refine List.mem_cons_of_mem _ ?_))))) (hHeld.dl (by (with_reducible (repeat (first | exact List.mem_cons_self | refine List.mem_cons_of_mem _ ?_)))))).mono ?_
    rintro e V1 ⟨rfl, hb⟩
    have h5 := hHeld.call hb
    clear hb hHeld
    go_wp2_with fail
    refine hK.out _ _ (h5) (fun hHeld => ?_)
    clear hK K
    (try simp only [Act.put, List.setIfInBounds_toArray, List.set_cons_zero, List.set_cons_succ, List.getElem_toArray, List.getElem_cons_zero, List.getElem_cons_succ])
    refine wpAnyH_take (i := 14) (oi := _) (v := .bool true) rfl (by kernel_rfl) (by kernel_rfl) (by kernel_rfl) (fun _ _ _ h => h) (Or.inl ⟨by rfl, fun wx hSw => ?_⟩) (by assumption) ?_
    · go_simp
      try (rw [IntKind.wrap_i64]; omega)
    (try simp only [Act.put, List.setIfInBounds_toArray, List.set_cons_zero, List.set_cons_succ, List.getElem_toArray, List.getElem_cons_zero, List.getElem_cons_succ])
    refine wpAnyH_take (i := 15) (oi := _) (v := .bool true) rfl (by kernel_rfl) (by kernel_rfl) (by kernel_rfl) (fun _ _ _ h => h) (Or.inl ⟨by rfl, fun wx hSw => ?_⟩) (by assumption) ?_
    · go_simp
      try (rw [IntKind.wrap_i64]; omega)
    (try simp only [Act.put, List.setIfInBounds_toArray, List.set_cons_zero, List.set_cons_succ, List.getElem_toArray, List.getElem_cons_zero, List.getElem_cons_succ])
    refine wpAnyH_take (i := 16) (oi := _) (v := .agg (Value.int .i64 (l.length : Int) :: byteVals R).toArray) rfl (by kernel_rfl) (by kernel_rfl) (by kernel_rfl) (fun _ _ _ h => h) (yieldsIf_load_mid (by rfl) 30 _ rfl gc 0 rfl (Value.int .i64 (l.length : Int) :: byteVals R) _ (fun wx hSw => hSw.range (by (with_reducible (repeat (first | exact List.mem_cons_self | refine List.mem_cons_of_mem _ ?_))))) Tryd.underlying30 rfl (s30 _ _ hrl)) (by assumption) ?_
    (try simp only [Act.put, List.setIfInBounds_toArray, List.set_cons_zero, List.set_cons_succ, List.getElem_toArray, List.getElem_cons_zero, List.getElem_cons_succ])
    refine wpAnyH_take (i := 17) (oi := _) (v := .int .i64 (I : Int)) rfl (by kernel_rfl) (by kernel_rfl) (by kernel_rfl) (fun _ _ _ h => h) (Or.inl ⟨by rfl, fun wx hSw => ?_⟩) (by assumption) ?_
    · go_simp
      try (rw [IntKind.wrap_i64]; omega)
    (try simp only [Act.put, List.setIfInBounds_toArray, List.set_cons_zero, List.set_cons_succ, List.getElem_toArray, List.getElem_cons_zero, List.getElem_cons_succ])
    refine wpAnyH_take (i := 18) (oi := _) (v := .agg (byteVals d).toArray) rfl (by kernel_rfl) (by kernel_rfl) (by kernel_rfl) (fun _ _ _ h => h) (yieldsIf_load_mid (by rfl) 26 _ rfl w.heap.size 0 rfl (byteVals d) _ (fun wx hSw => hSw.range (by (with_reducible (repeat (first | exact List.mem_cons_self | refine List.mem_cons_of_mem _ ?_))))) Tryd.underlying26 rfl (size26 _ hdl)) (by assumption) ?_
    (try simp only [Act.put, List.setIfInBounds_toArray, List.set_cons_zero, List.set_cons_succ, List.getElem_toArray, List.getElem_cons_zero, List.getElem_cons_succ])
    refine wpAnyH_take (i := 19) (oi := _) (v := .slice pa p.length pc) rfl (by kernel_rfl) (by kernel_rfl) (by kernel_rfl) (fun _ _ _ h => h) (Or.inl ⟨by rfl, fun wx hSw => ?_⟩) (by assumption) ?_
    · go_simp
      try (rw [IntKind.wrap_i64]; omega)
    (try simp only [Act.put, List.setIfInBounds_toArray, List.set_cons_zero, List.set_cons_succ, List.getElem_toArray, List.getElem_cons_zero, List.getElem_cons_succ])
    refine wpAnyH_ready (rs := [20]) (by kernel_rfl) (by simp) ?_
    refine AllReadyH.cons (o := _) rfl (fun K hK => ?_) AllReadyH.nil
    go_simp
    refine (HINC.out _ _ _ (HK.out.below hHeld.below) (hHeld.dl (by (with_reducible (repeat (first | exact List.mem_cons_self | refine List.mem_cons_of_mem _ ?_)))))).mono ?_
    rintro e V2 ⟨rfl, hb⟩
    replace h5 := hHeld.call hb
    clear hb hHeld
    go_wp2_with fail
    refine hK.out _ _ (h5) (fun hHeld => ?_)
    clear hK K
    (try simp only [Act.put, List.setIfInBounds_toArray, List.set_cons_zero, List.set_cons_succ, List.getElem_toArray, List.getElem_cons_zero, List.getElem_cons_succ])
    refine wpAnyH_take (i := 21) (oi := _) (v := .bool true) rfl (by kernel_rfl) (by kernel_rfl) (by kernel_rfl) (fun _ _ _ h => h) (Or.inl ⟨by rfl, fun wx hSw => ?_⟩) (by assumption) ?_
    · go_simp
      try (rw [IntKind.wrap_i64]; omega)
    (try simp only [Act.put, List.setIfInBounds_toArray, List.set_cons_zero, List.set_cons_succ, List.getElem_toArray, List.getElem_cons_zero, List.getElem_cons_succ])
    refine wpAnyH_take (i := 22) (oi := _) (v := .bool true) rfl (by kernel_rfl) (by kernel_rfl) (by kernel_rfl) (fun _ _ _ h => h) (Or.inl ⟨by rfl, fun wx hSw => ?_⟩) (by assumption) ?_
    · go_simp
      try (rw [IntKind.wrap_i64]; omega)
    (try simp only [Act.put, List.setIfInBounds_toArray, List.set_cons_zero, List.set_cons_succ, List.getElem_toArray, List.getElem_cons_zero, List.getElem_cons_succ])
    refine wpAnyH_take (i := 23) (oi := _) (v := .slice (some ⟨g, off, none⟩) l.length oc) rfl (by kernel_rfl) (by kernel_rfl) (by kernel_rfl) (fun _ _ _ h => h) (Or.inl ⟨by rfl, fun wx hSw => ?_⟩) (by assumption) ?_
    · go_simp
      try (rw [IntKind.wrap_i64]; omega)
    (try simp only [Act.put, List.setIfInBounds_toArray, List.set_cons_zero, List.set_cons_succ, List.getElem_toArray, List.getElem_cons_zero, List.getElem_cons_succ])
    refine wpAnyH_take (i := 24) (oi := _) (v := .slice ma l.length mc) rfl (by kernel_rfl) (by kernel_rfl) (by kernel_rfl) (fun _ _ _ h => h) (Or.inl ⟨by rfl, fun wx hSw => ?_⟩) (by assumption) ?_
    · go_simp
      try (rw [IntKind.wrap_i64]; omega)
    (try simp only [Act.put, List.setIfInBounds_toArray, List.set_cons_zero, List.set_cons_succ, List.getElem_toArray, List.getElem_cons_zero, List.getElem_cons_succ])
    refine wpAnyH_take (i := 26) (oi := _) (v := .int .i64 (I : Int)) rfl (by kernel_rfl) (by kernel_rfl) (by kernel_rfl) (fun _ _ _ h => h) (Or.inl ⟨by rfl, fun wx hSw => ?_⟩) (by assumption) ?_
    · go_simp
      try (rw [IntKind.wrap_i64]; omega)
    (try simp only [Act.put, List.setIfInBounds_toArray, List.set_cons_zero, List.set_cons_succ, List.getElem_toArray, List.getElem_cons_zero, List.getElem_cons_succ])
    refine wpAnyH_take (i := 28) (oi := _) (v := .slice (some ⟨g, off, none⟩) l.length oc) rfl (by kernel_rfl) (by kernel_rfl) (by kernel_rfl) (fun _ _ _ h => h) (Or.inl ⟨by rfl, fun wx hSw => ?_⟩) (by assumption) ?_
    · go_simp
      try (rw [IntKind.wrap_i64]; omega)
    (try simp only [Act.put, List.setIfInBounds_toArray, List.set_cons_zero, List.set_cons_succ, List.getElem_toArray, List.getElem_cons_zero, List.getElem_cons_succ])
    refine wpAnyH_take (i := 29) (oi := _) (v := .int .i64 (I : Int)) rfl (by kernel_rfl) (by kernel_rfl) (by kernel_rfl) (fun _ _ _ h => h) (Or.inl ⟨by rfl, fun wx hSw => ?_⟩) (by assumption) ?_
    · go_simp
      try (rw [IntKind.wrap_i64]; omega)
    (try simp only [Act.put, List.setIfInBounds_toArray, List.set_cons_zero, List.set_cons_succ, List.getElem_toArray, List.getElem_cons_zero, List.getElem_cons_succ])
    refine wpAnyH_take (i := 30) (oi := _) (v := .pointer (some ⟨g, off + I * 32, none⟩)) rfl (by kernel_rfl) (by kernel_rfl) (by kernel_rfl) (fun _ _ _ h => h) (Or.inl ⟨by rfl, fun wx hSw => ?_⟩) (by assumption) ?_
    · go_simp
      try (rw [IntKind.wrap_i64]; omega)
    (try simp only [Act.put, List.setIfInBounds_toArray, List.set_cons_zero, List.set_cons_succ, List.getElem_toArray, List.getElem_cons_zero, List.getElem_cons_succ])
    refine wpAnyH_take (i := 31) (oi := _) (v := .agg (byteVals X).toArray) rfl (by kernel_rfl) (by kernel_rfl) (by kernel_rfl) (fun _ _ _ h => h) (yieldsIf_load_mid (by rfl) 26 _ rfl g (off + I * 32) rfl (byteVals X) _ (fun wx hSw => rangeAt_kept HR.out.2 (hSw.below.block _ HR.out.1)) Tryd.underlying26 rfl (size26 _ hxl)) (by assumption) ?_
    (try simp only [Act.put, List.setIfInBounds_toArray, List.set_cons_zero, List.set_cons_succ, List.getElem_toArray, List.getElem_cons_zero, List.getElem_cons_succ])
    refine wpAnyH_take (i := 32) (oi := _) (v := .agg (byteVals d).toArray) rfl (by kernel_rfl) (by kernel_rfl) (by kernel_rfl) (fun _ _ _ h => h) (yieldsIf_load_mid (by rfl) 26 _ rfl w.heap.size 0 rfl (byteVals d) _ (fun wx hSw => hSw.range (by (with_reducible (repeat (first | exact List.mem_cons_self | refine List.mem_cons_of_mem _ ?_))))) Tryd.underlying26 rfl (size26 _ hdl)) (by assumption) ?_
    (try simp only [Act.put, List.setIfInBounds_toArray, List.set_cons_zero, List.set_cons_succ, List.getElem_toArray, List.getElem_cons_zero, List.getElem_cons_succ])
    refine wpAnyH_take (i := 33) (oi := _) (v := .bool (!bq)) rfl (by kernel_rfl) (by kernel_rfl) (by kernel_rfl) (fun _ _ _ h => h) (Or.inl ⟨by rfl, fun wx hSw => ?_⟩) (by assumption) ?_
    · go_simp
      try (rw [IntKind.wrap_i64]; omega)
    (try simp only [Act.put, List.setIfInBounds_toArray, List.set_cons_zero, List.set_cons_succ, List.getElem_toArray, List.getElem_cons_zero, List.getElem_cons_succ])
    refine wpAnyH_ready (rs := [25]) (by kernel_rfl) (by simp) ?_
    refine AllReadyH.cons (o := _) rfl (fun K hK => ?_) AllReadyH.nil
    go_simp
    refine (HFI.out _ _ _ (HK.out.below hHeld.below) (HV.out.on hHeld.below) (hHeld.dl (by (with_reducible (repeat (first | exact List.mem_cons_self | refine List.mem_cons_of_mem _ ?_)))))).mono ?_
    rintro e V3 ⟨rfl, hb⟩
    replace h5 := hHeld.call hb
    clear hb hHeld
    go_wp2_with fail
    refine hK.out _ _ (h5) (fun hHeld => ?_)
    clear hK K
    (try simp only [Act.put, List.setIfInBounds_toArray, List.set_cons_zero, List.set_cons_succ, List.getElem_toArray, List.getElem_cons_zero, List.getElem_cons_succ])
    refine wpAnyH_take (i := 27) (oi := _) (v := .bool (!bq)) rfl (by kernel_rfl) (by kernel_rfl) (by kernel_rfl) (fun _ _ _ h => h) (Or.inl ⟨by rfl, fun wx hSw => ?_⟩) (by assumption) ?_
    · go_simp
      try (rw [IntKind.wrap_i64]; omega)
    (try simp only [Act.put, List.setIfInBounds_toArray, List.set_cons_zero, List.set_cons_succ, List.getElem_toArray, List.getElem_cons_zero, List.getElem_cons_succ])
    refine wpAnyH_take (i := 34) (oi := _) (v := .bool true) rfl (by kernel_rfl) (by kernel_rfl) (by kernel_rfl) (fun _ _ _ h => h) (Or.inl ⟨by rfl, fun wx hSw => ?_⟩) (by assumption) ?_
    · go_simp
      try (rw [IntKind.wrap_i64]; omega)
    (try simp only [Act.put, List.setIfInBounds_toArray, List.set_cons_zero, List.set_cons_succ, List.getElem_toArray, List.getElem_cons_zero, List.getElem_cons_succ])
    refine wpAnyH_take (i := 35) (oi := _) (v := .bool true) rfl (by kernel_rfl) (by kernel_rfl) (by kernel_rfl) (fun _ _ _ h => h) (Or.inl ⟨by rfl, fun wx hSw => ?_⟩) (by assumption) ?_
    · go_simp
      try (rw [IntKind.wrap_i64]; omega)
    (try simp only [Act.put, List.setIfInBounds_toArray, List.set_cons_zero, List.set_cons_succ, List.getElem_toArray, List.getElem_cons_zero, List.getElem_cons_succ])
    refine wpAnyH_take (i := 36) (oi := _) (v := .bool true) rfl (by kernel_rfl) (by kernel_rfl) (by kernel_rfl) (fun _ _ _ h => h) (Or.inl ⟨by rfl, fun wx hSw => ?_⟩) (by assumption) ?_
    · go_simp
      try (rw [IntKind.wrap_i64]; omega)
    (try simp only [Act.put, List.setIfInBounds_toArray, List.set_cons_zero, List.set_cons_succ, List.getElem_toArray, List.getElem_cons_zero, List.getElem_cons_succ])
    refine wpAnyH_done (by kernel_rfl) ?_ _
    go_wp2_with fail
    go_ret
    exact ⟨rfl, h5.below⟩
  · rw [decide_eq_false h64] at hf
    have HF := Lib.hid hf
    clear hf
    go_enter Tryd.func9, Tryd.ntmps9
    go_wp2_with fail
    refine (sane_true _ (HK.out.below HS.out.below)).mono ?_
    rintro e w1 ⟨rfl, hb⟩
    replace HS := Lib.hid (HS.out.call hb)
    clear hb
    go_wp2_with fail
    refine (HF.out _).mono ?_
    rintro e w2 ⟨rfl, rfl⟩
    go_wp2
    go_ret
    exact ⟨rfl, HS.out.below⟩

/-- The door's own heap meets the condition. -/
theorem door_met (os : Os) (args : Array Value) : laidMetH Tryd.prog Rows.merkleUpdatesRow.laid ((World.doorLaid Tryd.prog 400 os).forCall (fun _ _ => 0) ⟨#[], args, []⟩).memory :=
  laidMetH_of_parts3 (fuel := 8) (laidMet_of_run' 8 (by kernel_rfl) (by kernel_rfl)) (by kernel_rfl) (by kernel_rfl)

set_option maxRecDepth 100000 in
theorem lifted (os : Os) (started : os.Started) (H : Type) (enc : TypeId × Value → H) :
    ReturnsInHanded {} Tryd.checked os 9 .any (fun w args => (Rows.merkleUpdatesSpec.pre enc Tryd.prog Tryd.f9 [] false w args ∧ laidMetH Tryd.prog Rows.merkleUpdatesRow.laid w) ∧ sizedMet enc Tryd.prog Tryd.f9 (OpenSpec.ofChange Rows.merkleUpdatesSpec) false w args)
      (Rows.merkleUpdatesSpec.post enc Tryd.prog Tryd.f9 false true false false) := by
  refine returnsInHanded_of_change_and (C := Tryd.checked) (X := fun w _ => laidMetH Tryd.prog Rows.merkleUpdatesRow.laid w) (fun _ _ _ hh h => h.of_heap hh) own started (by kernel_rfl) Tryd.func9
    (ChangeSpec.witness_shaped (enc := enc) (C := Tryd.checked) (os := os) (X := fun w _ => laidMetH Tryd.prog Rows.merkleUpdatesRow.laid w) false (World.doorLaid Tryd.prog 400 os) #[.slice none 0 0, .int .i64 0, .agg (byteVals (List.replicate 32 0)).toArray] 8 rfl (World.shaped_of_RefB (by kernel_rfl) (by kernel_rfl)) (by kernel_rfl) (by kernel_rfl) (by kernel_rfl) (door_met os _)) ?_
  intro W base args ds gs before hval0 hW _ hsz0 hL _
  have hsz : (DataW.weightsEach Tryd.prog (Tryd.f9.params.toList ++ Rows.merkleUpdatesSpec.plain.varTypes Tryd.prog) (ds ++ gs)).all (· ≤ reachBytes) = true := hsz0
  have hval : ∀ (j : Nat) t v, Tryd.f9.params[j]? = some t → args[j]? = some v → Value.okWide Tryd.prog W .any base t v := hval0
  clear hsz0 hval0
  have hW' := hW
  obtain ⟨p, q, hA0, hV, rfl, hfz, hnd⟩ := hW
  have hA : DataW.TrodAll enc Tryd.prog W 0 (fun _ => true) true Tryd.f9.params.toList args.toList ds p := hA0
  rw [Tryd.params9] at hA hval hsz
  obtain ⟨v0, vs0, d0, ds0, p0, q0, hargs, rfl, rfl, h0, r0⟩ := trodAll_cons hA
  obtain ⟨v1, vs1, d1, ds1, p1, q1, rfl, rfl, rfl, h1, r1⟩ := trodAll_cons r0
  obtain ⟨v2, vs2, d2, ds2, p2, q2, rfl, rfl, rfl, h2, r2⟩ := trodAll_cons r1
  obtain ⟨rfl, rfl, rfl⟩ := trodAll_nil r2
  obtain rfl : args = #[v0, v1, v2] := by cases args; simp_all
  obtain ⟨rfl, rfl⟩ := trodVars_none hV
  have hw0 : ∀ n ∈ d0.weights Tryd.prog 22, n ≤ reachBytes := by
    intro n hn
    have := List.all_eq_true.1 hsz n (DataW.weights_mem_each (t := 22) (d := d0) (j := 0) rfl rfl n hn)
    simpa using this
  obtain ⟨oa0, ol0, oc0, rfl⟩ := okWide_slice Tryd.underlying22 (hval 0 22 v0 rfl rfl)
  obtain ⟨fu0, hf0⟩ := h0
  obtain ⟨b0, hb0⟩ := openDs (v := .slice oa0 ol0 oc0) hf0 hw0
  obtain rfl : ol0 = b0.length := by
    obtain ⟨_, _, _, _, e, _⟩ := hb0
    simp only [Value.slice.injEq] at e
    exact e.2.1
  obtain ⟨a1, rfl, rfl, rfl, wf1⟩ := open_int Tryd.underlying3 (hval 1 3 v1 rfl rfl) h1
  have ru1 := i64_wf wf1
  obtain ⟨D2, rfl, hl2, hr2⟩ := openDig (hval 2 26 v2 rfl rfl) h2
  clear hA0
  refine (walk b0 oa0 oc0 a1 D2 W (kok_of_laid hL) hb0 ru1 ⟨hl2, hr2⟩).mono fun e W' ⟨he, hbw⟩ => ?_
  subst he
  refine ⟨_, rfl, post_law laidOut ?_ rfl rfl hW' rfl rfl rfl hbw⟩
  intro t ht
  rw [Tryd.params9] at ht
  have hm : t ∈ [3, 22, 26] := by
    simp at ht
    rcases ht with rfl|rfl|rfl <;> simp
  have hall : ([3, 22, 26].all fun u => Tryd.prog.readableRec u && decide (u < Tryd.prog.types.size)) = true := by kernel_rfl
  have := List.all_eq_true.1 hall t hm
  simpa using this

theorem over : Rows.merkleUpdatesRow.holds Tryd.pinned (OpenSpec.ofChange Rows.merkleUpdatesSpec) :=
  OpenClaim.holds_of_wide 9 Tryd.f9 rfl rfl rfl rfl rfl rfl rfl ⟨rfl, rfl, rfl, rfl, rfl⟩ rfl rfl rfl rfl rfl (by kernel_rfl) Tryd.func9 (by kernel_rfl)
    (of_decide_eq_true (by kernel_rfl)) (by unfold Func.isWrapper; first | (rw [if_pos (by decide +kernel)]; kernel_rfl) | (rw [if_neg (by decide +kernel)]; exact ⟨rfl, rfl⟩))
    (fun os started H enc _ => lifted os started H enc)

/-- THE STATEMENT. -/
theorem proved : Rows.MerkleUpdatesCardSaid :=
  Claim7.holds_tied_plain_at .later [] [.data] true (true, "ea83294f5b67d008c3aa80d7c08f5dc94fc0d0607cdbc7283e27c890a7edc858") false
    over (fun _ h => by cases h) (by kernel_rfl) (fun _ h => by cases h) merkleUpdates_row_tie rfl ⟨rfl, rfl⟩ (by kernel_rfl) rfl
    (fun f fn hf hfn => by
      obtain rfl : f = 9 := Option.some.inj ((show Tryd.prog.funcNamed "wagonpool/wagonpoollaw04.MerkleUpdates" = some 9 by kernel_rfl).symm.trans hf) |>.symm
      obtain rfl : fn = Tryd.f9 := (Option.some.inj (Tryd.func9.symm.trans hfn)).symm
      exact ⟨by kernel_rfl, fun j t ht => by
        rw [Tryd.params9] at ht
        have hm : t ∈ [3, 22, 26] := by
          have := Array.mem_of_getElem? ht
          simp at this
          rcases this with rfl|rfl|rfl <;> simp
        have hall : ([3, 22, 26].all fun u => !Tryd.prog.wantsStandIn u) = true := by kernel_rfl
        exact (show Tryd.prog.wantsStandIn t = false by simpa using List.all_eq_true.1 hall t hm)⟩)
    (by kernel_rfl)
#print axioms proved
end Go.Proofs.YthmpeeipbclhkaaDoor.merkleUpdates
