/-
  Both ends of a line improved at once.
-/
import Derived.Test.YtbeoldklpklbfaaXe
namespace Go.Proofs.Ytbeoldklpklbfaa
set_option linter.unusedVariables false
set_option linter.unusedSimpArgs false

def d1 (D : List Int) (x : Ln) : List Int := if 0 ≤ dv D x.a then D.set x.b (bt (dv D x.b) (dv D x.a + x.m)) else D
def d2 (D : List Int) (x : Ln) : List Int := if 0 ≤ dv D x.b then (d1 D x).set x.a (bt (dv D x.a) (dv D x.b + x.m)) else d1 D x
theorem set_dv {D : List Int} {p : Nat} (h : p < D.length) : D.set p (dv D p) = D :=
  dv_ext (by rw [List.length_set]) fun q => by
    by_cases e : q = p
    · rw [e, dv_set_same _ h]
    · rw [dv_set_other _ e]
/-- What is closed at a line. -/
def Clo (D : List Int) (x : Ln) : Prop := (0 ≤ dv D x.a → 0 ≤ dv D x.b ∧ dv D x.b ≤ dv D x.a + x.m) ∧ (0 ≤ dv D x.b → 0 ≤ dv D x.a ∧ dv D x.a ≤ dv D x.b + x.m)
theorem BF.line {n : Nat} {es : List Ln} {f : Nat} {d : Nat → Int} {D : List Int} (hn6 : n ≤ 600) (h : BF n es f d D) (hok : ∀ x ∈ es, x.ok n) (Ds : Dist (wt es) f d) {i : Nat} {x : Ln} (hx : es[i]? = some x) :
    BF n es f d (d2 D x) ∧ wsum (d2 D x) ≤ wsum D ∧ ((dv (d2 D x) x.a ≠ dv D x.a ∨ dv (d2 D x) x.b ≠ dv D x.b) → wsum (d2 D x) < wsum D) ∧
    (dv (d2 D x) x.a = dv D x.a → dv (d2 D x) x.b = dv D x.b → d2 D x = D ∧ Clo D x) := by
  have ho := hok x (List.mem_of_getElem? hx)
  unfold Ln.ok at ho
  have la : x.a < D.length := by rw [h.len]; exact ho.1
  have lb : x.b < D.length := by rw [h.len]; exact ho.2.1
  have hne : x.a ≠ x.b := ho.2.2.1
  have hm : 1 ≤ x.m := ho.2.2.2.2.1
  by_cases A : 0 ≤ dv D x.a
  · have s1 := h.one hn6 hok Ds hx (p := x.a) (q := x.b) (Or.inl ⟨rfl, rfl⟩) A
    have e1 : d1 D x = D.set x.b (bt (dv D x.b) (dv D x.a + x.m)) := by unfold d1; rw [if_pos A]
    rw [← e1] at s1
    have v1b : dv (d1 D x) x.b = bt (dv D x.b) (dv D x.a + x.m) := by rw [e1, dv_set_same _ lb]
    have v1a : dv (d1 D x) x.a = dv D x.a := by rw [e1, dv_set_other _ hne]
    have l1 : x.a < (d1 D x).length := by rw [e1, List.length_set]; exact la
    have hb1 := bt_le (a := dv D x.b) (b := dv D x.a + x.m) (by omega)
    by_cases B : 0 ≤ dv D x.b
    · have s2 := s1.1.one hn6 hok Ds hx (p := x.b) (q := x.a) (Or.inr ⟨rfl, rfl⟩) (by rw [v1b]; exact hb1.1)
      have e2 : d2 D x = (d1 D x).set x.a (bt (dv D x.a) (dv D x.b + x.m)) := by unfold d2; rw [if_pos B]
      have eb : bt (dv (d1 D x) x.a) (dv (d1 D x) x.b + x.m) = bt (dv D x.a) (dv D x.b + x.m) := by
        rw [v1a, v1b]
        unfold bt
        rw [if_neg (by omega), if_neg (by omega), if_neg (by omega)]
        omega
      rw [eb, ← e2] at s2
      have v2a : dv (d2 D x) x.a = bt (dv D x.a) (dv D x.b + x.m) := by rw [e2, dv_set_same _ l1]
      have v2b : dv (d2 D x) x.b = bt (dv D x.b) (dv D x.a + x.m) := by rw [e2, dv_set_other _ (fun e => hne e.symm), v1b]
      refine ⟨s2.1, Nat.le_trans s2.2.1 s1.2.1, fun hc => ?_, fun ea eb2 => ?_⟩
      · rcases hc with hc | hc
        · exact Nat.lt_of_lt_of_le (s2.2.2 (by rw [v1a, ← v2a]; exact hc)) s1.2.1
        · exact Nat.lt_of_le_of_lt s2.2.1 (s1.2.2 (by rw [← v2b]; exact hc))
      · rw [v2a] at ea
        rw [v2b] at eb2
        have f1 : d1 D x = D := by rw [e1, eb2]; exact set_dv lb
        refine ⟨by rw [e2, ea, f1]; exact set_dv la, fun _ => ⟨B, by omega⟩, fun _ => ⟨A, ?_⟩⟩
        have := bt_le (a := dv D x.a) (b := dv D x.b + x.m) (by omega)
        omega
    · have e2 : d2 D x = d1 D x := by unfold d2; rw [if_neg B]
      rw [e2]
      refine ⟨s1.1, s1.2.1, fun hc => ?_, fun _ eb2 => ?_⟩
      · rcases hc with hc | hc
        · exact absurd v1a hc
        · exact s1.2.2 (by rw [← v1b]; exact hc)
      · rw [v1b] at eb2; omega
  · have e1 : d1 D x = D := by unfold d1; rw [if_neg A]
    by_cases B : 0 ≤ dv D x.b
    · have s2 := h.one hn6 hok Ds hx (p := x.b) (q := x.a) (Or.inr ⟨rfl, rfl⟩) B
      have e2 : d2 D x = D.set x.a (bt (dv D x.a) (dv D x.b + x.m)) := by unfold d2; rw [if_pos B, e1]
      have hb2 := bt_le (a := dv D x.a) (b := dv D x.b + x.m) (by omega)
      have v2a : dv (d2 D x) x.a = bt (dv D x.a) (dv D x.b + x.m) := by rw [e2, dv_set_same _ la]
      have v2b : dv (d2 D x) x.b = dv D x.b := by rw [e2, dv_set_other _ (fun e => hne e.symm)]
      rw [← e2] at s2
      refine ⟨s2.1, s2.2.1, fun hc => ?_, fun ea _ => ?_⟩
      · rcases hc with hc | hc
        · exact s2.2.2 (by rw [← v2a]; exact hc)
        · exact absurd v2b hc
      · rw [v2a] at ea; omega
    · have e2 : d2 D x = D := by unfold d2; rw [if_neg B, e1]
      rw [e2]
      exact ⟨h, Nat.le_refl _, fun hc => by rcases hc with hc | hc <;> exact absurd rfl hc, fun _ _ => ⟨rfl, fun a => absurd a A, fun b => absurd b B⟩⟩
theorem bf_start {n f : Nat} {es : List Ln} {L0 : List Int} (T : Tm n es f L0) (hf : f < n) : BF n es f (dv L0) ((List.replicate n (-1)).set f 0) := by
  have hl : f < (List.replicate n (-1 : Int)).length := by rw [List.length_replicate]; exact hf
  have hc := cneg_set (t := 0) (by omega) hl (by rw [dv_rep]; omega)
  rw [cneg_rep] at hc
  refine ⟨by rw [List.length_set, List.length_replicate], dv_set_same _ hl, fun p => ?_, fun p hp => ?_, fun p => ?_⟩
  · by_cases e : p = f
    · rw [e, dv_set_same _ hl]; omega
    · rw [dv_set_other _ e, dv_rep]; omega
  · by_cases e : p = f
    · rw [e, dv_set_same _ hl, T.2.zero]; omega
    · rw [dv_set_other _ e, dv_rep] at hp; omega
  · by_cases e : p = f
    · rw [e, dv_set_same _ hl]; omega
    · rw [dv_set_other _ e, dv_rep]; omega
end Go.Proofs.Ytbeoldklpklbfaa
