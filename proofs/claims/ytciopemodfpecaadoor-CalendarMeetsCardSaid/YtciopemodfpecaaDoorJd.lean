/-
  What CalendarMeets says, plainly.
-/
import Derived.Test.YtciopemodfpecaaDoorJb
namespace Go.Proofs.YtciopemodfpecaaDoor
set_option linter.unusedVariables false
set_option linter.unusedSimpArgs false

/-- The load of a whole row by an operation whose guard lets it run. -/
theorem wpList_load_row_g {P : Program} {ops : Array Oper} {rest : List Oper} {o : Oper} {a : Act} {w : World} {Q : Exit → Act → World → Prop} (hwt : Region.wanted o (yielded ops a.tmps) = true) (ty : TypeId) (x : Operand) (ho : o.op = .load ty x)
    (g : Nat) (hx : a.eval x = .pointer (some ⟨g, 0, none⟩)) (t : TypeId) (cs : Array Value) (fr : Nat × Nat) (d : TypeDesc) (hg : w.heap[g]? = some (.cells cs t fr))
    (hu : P.underlying ty = some d) (hd : (match d with | .struct _ | .array _ _ => true | _ => false) = true) (hi : (P.info? ty).map (·.size) = some cs.size)
    (h : wpList P ops Q rest (a.put o.dst (.agg cs)) w) : wpList P ops Q (o :: rest) a w :=
  wpList_step fun K hK => by rw [if_pos hwt]; exact wp_load_row ty x ho g hx t cs fr d hg hu hd hi (hK _ _ h)
theorem few_holB {hol : List Int} {f t : Int} (h : true = fewB hol f t) : hol.length ≤ 300 := by
  have h := h.symm
  unfold fewB at h
  simp only [Bool.and_eq_true, decide_eq_true_eq] at h
  exact h.1
theorem dsp_cs1 {op op' opx : List (Int × Int)} (hl : op.length = 7) (hl' : op'.length = 7) (hx : ∀ (i : Nat) (s s' : Int × Int), op[i]? = some s → op'[i]? = some s' → opx[i]? = some (cs1 s s')) (d : Int) : dsp opx d = cs1 (dsp op d) (dsp op' d) := by
  have hw : (wday d).toNat < 7 := by unfold wday; omega
  have e1 : op[(wday d).toNat]? = some op[(wday d).toNat] := List.getElem?_eq_getElem (by omega)
  have e2 : op'[(wday d).toNat]? = some op'[(wday d).toNat] := List.getElem?_eq_getElem (by omega)
  rw [dsp_get (hx _ _ _ e1 e2), dsp_get e1, dsp_get e2]
theorem opB_cs1 {op op' opx : List (Int × Int)} (hl : op.length = 7) (hl' : op'.length = 7) (h0 : opx.length = 7) (ho : opB op = true) (ho' : opB op' = true) (hx : ∀ (i : Nat) (s s' : Int × Int), op[i]? = some s → op'[i]? = some s' → opx[i]? = some (cs1 s s')) : opB opx = true := by
  rw [opB_iff] at ho ho' ⊢
  intro s hs
  obtain ⟨i, hi, rfl⟩ := List.mem_iff_getElem.1 hs
  have e1 : op[i]? = some op[i] := List.getElem?_eq_getElem (by omega)
  have e2 : op'[i]? = some op'[i] := List.getElem?_eq_getElem (by omega)
  have e3 := hx i _ _ e1 e2
  rw [List.getElem?_eq_getElem hi] at e3
  rw [Option.some.inj e3]
  have a1 := ho _ (List.getElem_mem (by omega : i < op.length))
  have a2 := ho' _ (List.getElem_mem (by omega : i < op'.length))
  unfold cs1
  split
  · simp only; omega
  · simp
theorem meets_plain {op op' opx : List (Int × Int)} {hol hol' : List Int} {f t : Int} (hl : op.length = 7) (hl' : op'.length = 7) (h0 : opx.length = 7) (hc : chkC op hol = 0) (hc' : chkC op' hol' = 0) (hw : true = fewB hol f t)
    (hx : ∀ (i : Nat) (s s' : Int × Int), op[i]? = some s → op'[i]? = some s' → opx[i]? = some (cs1 s s')) :
    eR op' hol' f t = eR op hol f t ∧ eR opx (mH hol hol') f t = eR op hol f t ∧ intL (oV op hol f t) (oV op' hol' f t) = oV opx (mH hol hol') f t ∧ (oV op hol f t).length ≤ 402 ∧ (oV op' hol' f t).length ≤ 402 := by
  obtain ⟨b1, b2⟩ := (chkC_zero _ _).1 hc
  obtain ⟨b1', b2'⟩ := (chkC_zero _ _).1 hc'
  have b3 := opB_cs1 hl hl' h0 b1 b1' hx
  obtain ⟨b4, b5, _⟩ := mH_ok _ hol hol' (-1) (Nat.le_refl _) b2 b2'
  by_cases hr : 0 ≤ f ∧ f ≤ t ∧ t ≤ 1073741824
  · obtain ⟨r1, r2, r3⟩ := hr
    have hft := few_true hw r2
    have hd : t - f ≤ 576000 := by omega
    have k1 : okR op hol f t = true := by unfold okR; simp [b1, b2, r1, r2, r3]
    have k2 : okR op' hol' f t = true := by unfold okR; simp [b1', b2', r1, r2, r3]
    have k3 : okR opx (mH hol hol') f t = true := by unfold okR; simp [b3, b4, r1, r2, r3]
    have o1 := ((okR_iff hl).1 k1).1
    have o2 := ((okR_iff hl').1 k2).1
    have o3 := ((okR_iff h0).1 k3).1
    refine ⟨by unfold eR; rw [if_pos k1, if_pos k2], by unfold eR; rw [if_pos k1, if_pos k3], ?_, oV_len _ _ _ _ hl hd, oV_len _ _ _ _ hl' hd⟩
    unfold oV
    rw [if_pos k1, if_pos k2, if_pos k3]
    refine wlist_meet o1 o2 o3 r1 r2 r3 (fun d x => ?_) (fun d => b5 d)
    rw [dsp_cs1 hl hl' hx d]
    have s1 := dsp_ok o1 d
    have s2 := dsp_ok o2 d
    unfold cs1
    split
    · simp only; omega
    · simp only; omega
  · have n1 : okR op hol f t = false := by
      cases hk : okR op hol f t
      · rfl
      · have := ((okR_iff hl).1 hk).2.2; exact absurd this hr
    have n2 : okR op' hol' f t = false := by
      cases hk : okR op' hol' f t
      · rfl
      · have := ((okR_iff hl').1 hk).2.2; exact absurd this hr
    have n3 : okR opx (mH hol hol') f t = false := by
      cases hk : okR opx (mH hol hol') f t
      · rfl
      · have := ((okR_iff h0).1 hk).2.2; exact absurd this hr
    unfold eR oV
    rw [n1, n2, n3]
    refine ⟨rfl, rfl, ?_, by simp, by simp⟩
    exact List.eq_nil_of_length_eq_zero (by have := int_length [] []; simpa using this)
end Go.Proofs.YtciopemodfpecaaDoor
