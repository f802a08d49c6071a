/-
  What a fastest route is, in plain words.
-/
import Derived.Test.YtbeoldklpklbfaaMb
import Derived.ChangeBookTie2
namespace Go.Proofs.Ytbeoldklpklbfaa
set_option linter.unusedVariables false
set_option linter.unusedSimpArgs false

def pw (es : List Ln) (x y : Int) : Int := match fd es x.toNat y.toNat with
  | some j => ((mi es j : Nat) : Int)
  | none => 0
theorem sm_cons (es : List Ln) (x : Int) (l : List Int) : ∀ i, sm es (x :: l) (i + 1) = pw es x (l.getD 0 0) + sm es l i
  | 0 => by
    unfold sm sm
    rw [Int.zero_add, Int.add_zero]
    rfl
  | i + 1 => by
    have h := sm_cons es x l i
    conv => lhs; unfold sm
    rw [h]
    conv => rhs; arg 2; unfold sm
    rw [Int.add_assoc]
    rfl
/-- What a route is. -/
structure RF (n : Nat) (es : List Ln) (L : List Int) (b a : Nat) (P : List Nat) : Prop where
  pos : 0 < P.length
  first : P[0]? = some a
  last : P[P.length - 1]? = some b
  below : ∀ x ∈ P, dv L x ≤ dv L a ∧ x < n
  nd : P.Nodup
  hops : ∀ i, i + 1 < P.length → ∃ j, hop n es (ints P) i j
  sum : sm es (ints P) (P.length - 1) = dv L a - dv L b
theorem rt_rf {n : Nat} {es : List Ln} {L : List Int} {b : Nat} (G : Wt n (wt es)) (hD : Dist (wt es) b (dv L)) {a : Nat} {P : List Nat} (h : Rt es L b a P) : 0 ≤ dv L a → a < n → RF n es L b a P := by
  induction h with
  | stop =>
    intro h0 hn
    refine ⟨by simp, rfl, rfl, fun x hx => ?_, by simp, fun i hi => by simp at hi, ?_⟩
    · simp only [List.mem_singleton] at hx
      subst hx
      exact ⟨Int.le_refl _, hn⟩
    · rw [Int.sub_self]; rfl
  | @step a q P hne hn _ ih =>
    intro h0 han
    rcases hn with ⟨e, _⟩ | ⟨q', e, ⟨m, hw, hs⟩, hl⟩
    · omega
    obtain rfl : q = q' := by omega
    have hm := (G.pos hw).1
    have hq0 := (hD.edge _ _ _ hw h0).1
    obtain ⟨j, hj, hjm⟩ := wt_some hw
    have ih := ih hq0 (G.lt hw).2
    obtain ⟨k, hk⟩ : ∃ k, P.length = k + 1 := ⟨P.length - 1, by have := ih.pos; omega⟩
    have hf := ih.first
    refine ⟨by simp, rfl, ?_, fun x hx => ?_, ?_, fun i hi => ?_, ?_⟩
    · have := ih.last
      rw [hk] at this
      rw [List.length_cons, hk]
      exact this
    · rcases List.mem_cons.1 hx with rfl | hx
      · exact ⟨Int.le_refl _, han⟩
      · have := ih.below x hx
        exact ⟨by omega, this.2⟩
    · refine List.nodup_cons.2 ⟨fun hx => ?_, ih.nd⟩
      have := (ih.below a hx).1
      omega
    · cases i with
      | zero => exact ⟨j, a, q, rfl, by show (ints P)[0]? = _; rw [ints_get, hf]; rfl, han, (G.lt hw).2, hj⟩
      | succ i =>
        obtain ⟨j', a', b', h1, h2, h3⟩ := ih.hops i (by simp only [List.length_cons] at hi; omega)
        exact ⟨j', a', b', h1, h2, h3⟩
    · rw [List.length_cons, Nat.add_sub_cancel, hk]
      show sm es ((a : Int) :: ints P) (k + 1) = _
      rw [sm_cons]
      have hs2 := ih.sum
      rw [hk, Nat.add_sub_cancel] at hs2
      have e0 : (ints P).getD 0 0 = (q : Int) := by rw [List.getD_eq_getElem?_getD, ints_get, hf]; rfl
      have e1 : pw es (a : Int) (q : Int) = (m : Int) := by
        unfold pw
        rw [Int.toNat_natCast, Int.toNat_natCast, hj]
        show ((mi es j : Nat) : Int) = _
        rw [hjm]
      rw [e0, e1, hs2]
      omega
theorem RF.le {n : Nat} {es : List Ln} {L : List Int} {b a : Nat} {P : List Nat} (h : RF n es L b a P) : P.length ≤ n := nodup_lt_length n P h.nd (fun x hx => (h.below x hx).2)
theorem RF.ne {n : Nat} {es : List Ln} {L : List Int} {b a : Nat} {P : List Nat} (h : RF n es L b a P) {i j x y : Nat} (hi : P[i]? = some x) (hj : P[j]? = some y) (hlt : j < i) : x ≠ y := by
  intro e
  subst e
  obtain ⟨i1, hi2⟩ := List.getElem?_eq_some_iff.1 hi
  obtain ⟨j1, hj2⟩ := List.getElem?_eq_some_iff.1 hj
  exact List.pairwise_iff_getElem.1 h.nd j i j1 i1 hlt (by rw [hi2, hj2])
/-- What Route and Between answer together. -/
theorem fast {ps : List Pc} {eds : List Ed} {a b E E' T : Int} {R : List Int} (h : RR ps eds a b R E) (h' : BR ps eds a b T E') :
    E' = E ∧ (E ≠ 0 → R = [] ∧ T = 0) ∧ (E = 0 → ∃ (es : List Ln) (an bn : Nat) (L : List Int) (P : List Nat), chk ps eds = 0 ∧ Val ps eds es ∧ a = (an : Int) ∧ b = (bn : Int) ∧ R = ints P ∧ RF ps.length es L bn an P ∧ dv L an = T ∧ dv L bn = 0 ∧ Tm ps.length es bn L ∧ Rt es L bn an P) := by
  rcases h with ⟨h0, h1, h2⟩ | ⟨h0, es, an, bn, L, v, e1, e2, l1, l2, t, h⟩ <;> rcases h' with ⟨g0, g1, g2⟩ | ⟨g0, es', an', bn', L', v', e1', e2', l1', l2', t', h'⟩
  · exact ⟨by rw [h1, g1], fun _ => ⟨h2, g2⟩, fun e => absurd (h1.symm.trans e) h0⟩
  · exact absurd g0 h0
  · exact absurd h0 g0
  · obtain rfl := v.one v'
    obtain rfl : an = an' := by omega
    obtain rfl : bn = bn' := by omega
    have G := wt_wt v.2.1
    have hs := dist_symm G t'.2 t.2
    rcases h with ⟨d, rfl, rfl⟩ | ⟨d, rfl, P, rfl, r⟩
    · rcases h' with ⟨d', rfl, rfl⟩ | ⟨d', rfl, rfl⟩
      · exact ⟨rfl, fun _ => ⟨rfl, rfl⟩, fun e => absurd e (by decide)⟩
      · omega
    · rcases h' with ⟨d', rfl, rfl⟩ | ⟨d', rfl, rfl⟩
      · omega
      · exact ⟨rfl, fun e => absurd rfl e, fun _ => ⟨es, an, bn, L, P, (cerr_zero h0).1, v, e1, e2, rfl, rt_rf G t.2 r d l1, hs.symm, t.2.zero, t, r⟩⟩
end Go.Proofs.Ytbeoldklpklbfaa
