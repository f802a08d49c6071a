/-
  The statement 'Rows.SpansNormalFormSaid': for all arguments the law returns true; the arguments read as they did.
-/
import Derived.Test.YtboojinokljelaaSn
import Derived.Test.YtboojinokljelaaOw
namespace Go.Proofs.Ytboojinokljelaa.spansNormalForm
open Go.ChangeShapes Go.WideShapes Go.ChangeAt Go.RowKit
set_option linter.unusedVariables false
set_option linter.unusedSimpArgs false

theorem inB_snoc {l : List (Int × Int)} {k : Nat} {x y : Int} (m : Int) (h : l[k]? = some (x, y)) : inB (l.take (k + 1)) m = (inB (l.take k) m || decide (x ≤ m ∧ m < y ∧ 0 ≤ m ∧ m < 1073741824)) := by
  rw [List.take_add_one, h, Bool.eq_iff_iff, Bool.or_eq_true, inB_iff, inB_iff, decide_eq_true_iff]
  rw [show (some (x, y)).toList = [(x, y)] from rfl, mem_append]
  unfold mem
  rw [cov_cons, cov_nil]
  simp only [or_false]
  constructor
  · rintro (h | h)
    · exact .inl h
    · exact .inr ⟨h.2.2.1, h.2.2.2, h.1, h.2.1⟩
  · rintro (h | h)
    · exact .inl h
    · exact .inr ⟨h.2.2.1, h.2.2.2, h.1, h.2.1⟩

set_option maxRecDepth 100000 in
set_option maxHeartbeats 4000000 in
theorem walk (l0 : List (Int × Int)) (a1 : Int) (u0 : Value) (w : World) (h0 : Sl (fun k => k < w.heap.size) w u0 l0) (h1 : I64 a1) :
    Calls Try.prog 5 #[u0, .int .i64 a1] w fun e w' => e = .returned (.bool true) ∧ Below w.heap.size w w' := by
  obtain ⟨oa, ca, rfl⟩ := h0.shape
  obtain ⟨n, hn⟩ : ∃ n, n = l0.length := ⟨_, rfl⟩
  rw [← hn] at h0 ⊢
  have HK : Hid (Kn w [(.slice oa n ca, l0)] w) := Lib.hid ⟨Below.refl _ _, by
    intro y hy
    simp only [List.mem_cons, List.not_mem_nil, or_false] at hy
    subst hy
    exact h0⟩
  clear h0
  by_cases c0 : l0.length ≤ 40
  · have d0 : decide (l0.length ≤ 40) = true := decide_eq_true c0
    obtain ⟨R, hR⟩ : ∃ R, R = inB l0 a1 := ⟨_, rfl⟩
    have q1 : R = inB (norm l0) a1 := by rw [hR, Bool.eq_iff_iff, inB_iff, inB_iff, mem_norm]
    have q2 := (chk_ok (norm_nr l0)).symm
    have q3 := norm_length l0
    have e1 : (R == R) = true := by simp
    have HR := Lib.hid hR; have Q1 := Lib.hid q1; have Q2 := Lib.hid q2; have Q3 := Lib.hid q3; have HN := Lib.hid hn
    have hn40 : n ≤ 40 := by omega
    have C0 := Lib.hid c0
    clear hR q1 q2 q3 h1 hn c0
    go_enter Try.func5, Try.ntmps5
    have Hc := Lib.hid (sane_true w)
    go_wp2_with fail
    refine Hc.out.mono ?_
    rintro e w1 ⟨rfl, hb⟩
    replace HK := Lib.hid (HK.out.call hb)
    clear hb
    clear Hc
    have Hc := Lib.hid (few_s (HK.out.get (.slice oa n ca) (l0) (by with_reducible (repeat (first | exact List.mem_cons_self | refine List.mem_cons_of_mem _ ?_)))))
    go_wp2_with fail
    refine Hc.out.mono ?_
    rintro e _ ⟨rfl, rfl⟩
    clear Hc
    have Hc := Lib.hid (normal_s (HK.out.get (.slice oa n ca) (l0) (by with_reducible (repeat (first | exact List.mem_cons_self | refine List.mem_cons_of_mem _ ?_)))) (by have := C0.out; omega))
    go_wp2_with fail
    refine Hc.out.mono ?_
    rintro e w2 ⟨v1, rfl, hb, hs⟩
    replace HK := Lib.hid (HK.out.also hb hs)
    clear hb hs Hc
    go_wp2
    go_loopw [6, 7] (fun b t wr => ∃ (k : Nat) (V : Bool), k ≤ n ∧ t = .int .i64 k ∧ b = .bool V ∧ Hid (V = inB (l0.take k) a1) ∧ wr = w2) (fun _ t _ => n - (intOf t).toNat)
    case atStart => exact ⟨0, false, by omega, rfl, rfl, Lib.hid (by rw [List.take_zero]; exact (inB_false (fun h => (mem_nil a1).1 h)).symm), rfl⟩
    case round =>
      obtain ⟨k, V, hk, rfl, rfl, HV, rfl⟩ := hrel
      by_cases hlt : k < n
      · have hlt2 : (k : Int) < (n : Int) := by omega
        obtain ⟨g, off, x, y, rfl, hg, hx, hxi, hyi, c0, c1, hcap⟩ := (HK.out.get (.slice oa n ca) (l0) (by with_reducible (repeat (first | exact List.mem_cons_self | refine List.mem_cons_of_mem _ ?_)))).pick k (by have := HN.out; omega)
        have hst := inB_snoc a1 hx
        rw [← HV.out] at hst
        have HST := Lib.hid hst
        clear hx hst HV HK
        cases V with
        | true =>
          rw [Bool.true_or] at HST
          go_wp2
          go_roundw
          case rel => exact ⟨k + 1, true, by omega, by go_num, rfl, Lib.hid HST.out.symm, trivial⟩
          case measure => simp [intOf]; omega
        | false =>
          rw [Bool.false_or] at HST
          by_cases z0 : x ≤ a1
          · skip
            by_cases z1 : a1 < y
            · skip
              by_cases z2 : 0 ≤ a1
              · skip
                by_cases z3 : a1 < 1073741824
                · skip
                  rw [decide_eq_true ⟨z0, z1, z2, z3⟩] at HST
                  go_wp2
                  go_roundw
                  case rel => exact ⟨k + 1, true, by omega, by go_num, rfl, Lib.hid HST.out.symm, trivial⟩
                  case measure => simp [intOf]; omega
                · rw [decide_eq_false (fun h => z3 h.2.2.2)] at HST
                  go_wp2
                  go_roundw
                  case rel => exact ⟨k + 1, false, by omega, by go_num, rfl, Lib.hid HST.out.symm, trivial⟩
                  case measure => simp [intOf]; omega
              · rw [decide_eq_false (fun h => z2 h.2.2.1)] at HST
                go_wp2
                go_roundw
                case rel => exact ⟨k + 1, false, by omega, by go_num, rfl, Lib.hid HST.out.symm, trivial⟩
                case measure => simp [intOf]; omega
            · rw [decide_eq_false (fun h => z1 h.2.1)] at HST
              go_wp2
              go_roundw
              case rel => exact ⟨k + 1, false, by omega, by go_num, rfl, Lib.hid HST.out.symm, trivial⟩
              case measure => simp [intOf]; omega
          · rw [decide_eq_false (fun h => z0 h.1)] at HST
            go_wp2
            go_roundw
            case rel => exact ⟨k + 1, false, by omega, by go_num, rfl, Lib.hid HST.out.symm, trivial⟩
            case measure => simp [intOf]; omega
      · have hk2 : k = n := by omega
        subst hk2
        have hT : l0.take k = l0 := List.take_of_length_le (by rw [HN.out]; exact Nat.le_refl _)
        rw [hT, ← HR.out] at HV
        have hV := HV.out
        subst hV
        have hlt2 : ¬ ((k : Int) < (k : Int)) := by omega
        clear hlt hT HV
        have Hc := Lib.hid (check_s (HK.out.get (v1) (norm l0) (by with_reducible (repeat (first | exact List.mem_cons_self | refine List.mem_cons_of_mem _ ?_)))) 0 Q2.out)
        go_wp2_with fail
        refine Hc.out.mono ?_
        rintro e w3 ⟨rfl, hb⟩
        replace HK := Lib.hid (HK.out.call hb)
        clear hb
        clear Hc
        have Hc := Lib.hid (normal_s (HK.out.get (v1) (norm l0) (by with_reducible (repeat (first | exact List.mem_cons_self | refine List.mem_cons_of_mem _ ?_)))) (by have := Q3.out; have := C0.out; omega))
        go_wp2_with fail
        refine Hc.out.mono ?_
        rintro e w4 ⟨v2, rfl, hb, hs⟩
        rw [norm_self (norm_nr l0)] at hs
        replace HK := Lib.hid (HK.out.also hb hs)
        clear hb hs Hc
        have Hc := Lib.hid (same_s (HK.out.get (v2) (norm l0) (by with_reducible (repeat (first | exact List.mem_cons_self | refine List.mem_cons_of_mem _ ?_)))) (HK.out.get (v1) (norm l0) (by with_reducible (repeat (first | exact List.mem_cons_self | refine List.mem_cons_of_mem _ ?_)))) true (by simp))
        go_wp2_with fail
        refine Hc.out.mono ?_
        rintro e w5 ⟨rfl, hb⟩
        replace HK := Lib.hid (HK.out.call hb)
        clear hb
        clear Hc
        have Hc := Lib.hid (contains_s (HK.out.get (v1) (norm l0) (by with_reducible (repeat (first | exact List.mem_cons_self | refine List.mem_cons_of_mem _ ?_)))) a1 V Q1.out)
        go_wp2_with fail
        refine Hc.out.mono ?_
        rintro e w6 ⟨rfl, hb⟩
        replace HK := Lib.hid (HK.out.call hb)
        clear hb
        clear Hc
        have Hc := Lib.hid (contains_s (HK.out.get (.slice oa k ca) (l0) (by with_reducible (repeat (first | exact List.mem_cons_self | refine List.mem_cons_of_mem _ ?_)))) a1 V HR.out)
        go_wp2_with fail
        refine Hc.out.mono ?_
        rintro e w7 ⟨rfl, hb⟩
        replace HK := Lib.hid (HK.out.call hb)
        clear hb
        clear Hc
        go_wp2
        go_ret
        exact ⟨rfl, HK.out.below⟩
  · have d0 : decide (l0.length ≤ 40) = false := decide_eq_false c0
    have HN := Lib.hid hn
    clear hn c0 h1
    go_enter Try.func5, Try.ntmps5
    have Hc := Lib.hid (sane_true w)
    go_wp2_with fail
    refine Hc.out.mono ?_
    rintro e w1 ⟨rfl, hb⟩
    replace HK := Lib.hid (HK.out.call hb)
    clear hb
    clear Hc
    have Hc := Lib.hid (few_s (HK.out.get (.slice oa n ca) (l0) (by with_reducible (repeat (first | exact List.mem_cons_self | refine List.mem_cons_of_mem _ ?_)))))
    go_wp2_with fail
    refine Hc.out.mono ?_
    rintro e _ ⟨rfl, rfl⟩
    clear Hc
    go_wp2
    go_ret
    exact ⟨rfl, HK.out.below⟩

set_option maxRecDepth 100000 in
theorem lifted (os : Os) (started : os.Started) (H : Type) (enc : TypeId × Value → H) :
    ReturnsInHanded {} Try.checked os 5 .any (Rows.spansNormalFormSpec.pre6 enc Try.prog Try.f5 Rows.spansNormalFormRow.domain false) (Rows.spansNormalFormSpec.post enc Try.prog Try.f5 false true false false) := by
  refine returnsInHanded_of_change_sized (C := Try.checked) own started (by kernel_rfl) Try.func5
    (ChangeSpec.witness6 (enc := enc) (C := Try.checked) false ⟨#[], #[.slice none 0 0, .int .i64 0], []⟩ 8 (by kernel_rfl) (by kernel_rfl) (by kernel_rfl) (by kernel_rfl)) ?_
  intro W base args ds gs before hval0 hW _ hsz0 _
  have hsz : (DataW.weightsEach Try.prog (Try.f5.params.toList ++ Rows.spansNormalFormSpec.plain.varTypes Try.prog) (ds ++ gs)).all (· ≤ reachBytes) = true := hsz0
  have hval : ∀ (j : Nat) t v, Try.f5.params[j]? = some t → args[j]? = some v → Value.okWide Try.prog W .any base t v := hval0
  clear hsz0 hval0
  have hW' := hW
  obtain ⟨p, q, hA0, hV, rfl, _, _⟩ := hW
  have hA : DataW.TrodAll enc Try.prog W 0 (fun _ => true) true Try.f5.params.toList args.toList ds p := hA0
  rw [Try.params5] at hA hval hsz
  obtain ⟨v0, vs0, d0, ds0, p0, q0, hargs, rfl, rfl, h0, r0⟩ := trodAll_cons hA
  obtain ⟨v1, vs1, d1, ds1, p1, q1, rfl, rfl, rfl, h1, r1⟩ := trodAll_cons r0
  obtain ⟨rfl, rfl, rfl⟩ := trodAll_nil r1
  obtain rfl : args = #[v0, v1] := by cases args; simp_all
  obtain ⟨rfl, rfl⟩ := trodVars_none hV
  have hw0 : ∀ n ∈ d0.weights Try.prog 22, n ≤ reachBytes := by
    intro n hn
    have := List.all_eq_true.1 hsz n (DataW.weights_mem_each (t := 22) (d := d0) (j := 0) rfl rfl n hn)
    simpa using this
  obtain ⟨fuel0, hf0⟩ := h0
  obtain ⟨l0, hl0⟩ := openS (v := v0) (by first | exact hf0 | (obtain ⟨o, m, c, rfl⟩ := okWide_slice Try.underlying22 (hval 0 22 v0 rfl rfl); exact hf0)) hw0
  obtain ⟨a1, rfl, rfl, rfl, wf1⟩ := open_int Try.underlying3 (hval 1 3 v1 rfl rfl) h1
  clear hA0
  refine (walk l0 a1 v0 W hl0 (i64_wf wf1)).mono fun e W' ⟨he, hb⟩ => ?_
  subst he
  refine ⟨_, rfl, post_law laidOut ?_ rfl rfl hW' rfl rfl rfl hb⟩
  intro t ht
  rw [Try.params5] at ht
  have hm : t ∈ [3, 22] := (by decide : ∀ t ∈ (#[22, 3] : Array TypeId).toList, t ∈ [3, 22]) t ht
  have hall : ([3, 22].all fun u => Try.prog.readableRec u && decide (u < Try.prog.types.size)) = true := by kernel_rfl
  have := List.all_eq_true.1 hall t hm
  simpa using this

theorem over : Rows.spansNormalFormRow.holds Try.pinned (OpenSpec.ofChange Rows.spansNormalFormSpec) :=
  OpenClaim.holds_of_wide 5 Try.f5 rfl rfl rfl rfl rfl rfl rfl ⟨rfl, rfl, rfl, rfl, rfl⟩ rfl rfl rfl rfl rfl (by kernel_rfl) Try.func5 (by kernel_rfl)
    (of_decide_eq_true (by kernel_rfl)) (by unfold Func.isWrapper; first | (rw [if_pos (by decide +kernel)]; kernel_rfl) | (rw [if_neg (by decide +kernel)]; exact ⟨rfl, rfl⟩))
    (fun os started H enc _ => lifted os started H enc)

/-- THE STATEMENT. -/
theorem proved : Rows.SpansNormalFormSaid :=
  over
#print axioms proved
end Go.Proofs.Ytboojinokljelaa.spansNormalForm
