/-
  What the shares of a route add up to.
-/
import Derived.Test.YtbeoldklpklbfaaRm
namespace Go.Proofs.Ytbeoldklpklbfaa
set_option linter.unusedVariables false
set_option linter.unusedSimpArgs false

/-- The kilometres of the first i lines. -/
def ksm (es : List Ln) (P : List Nat) : Nat → Nat
  | 0 => 0
  | i + 1 => ksm es P i + match rln es P i with
    | some j => (lx es j).k
    | none => 0
theorem ksm_next {es : List Ln} {P : List Nat} {i j : Nat} {x : Ln} (h : rln es P i = some j) (hx : es[j]? = some x) : ksm es P (i + 1) = ksm es P i + x.k := by
  conv => lhs; unfold ksm
  rw [h]
  show _ + (lx es j).k = _
  rw [lx_get hx]
def ktt (es : List Ln) (P : List Nat) (m : Nat) : Nat → Nat
  | 0 => 0
  | R + 1 => ktt es P m R + kmf es P R m
theorem ktt_zero (es : List Ln) (P : List Nat) : ∀ R, ktt es P 0 R = 0
  | 0 => rfl
  | R + 1 => by unfold ktt; rw [ktt_zero es P R]; rfl
theorem kmf_line {es : List Ln} {P : List Nat} {i j r : Nat} {x : Ln} (h : rln es P i = some j) (hx : es[j]? = some x) : kmf es P r (i + 1) = kmf es P r i + if x.r = r then x.k else 0 := by
  conv => lhs; unfold kmf
  rw [h]
  show _ + (if (lx es j).r = r then (lx es j).k else 0) = _
  rw [lx_get hx]
theorem ktt_next {es : List Ln} {P : List Nat} {i j : Nat} {x : Ln} (h : rln es P i = some j) (hx : es[j]? = some x) : ∀ R, ktt es P (i + 1) R = ktt es P i R + if x.r < R then x.k else 0
  | 0 => by simp [ktt]
  | R + 1 => by
    unfold ktt
    rw [ktt_next h hx R, kmf_line h hx]
    by_cases c : x.r = R
    · rw [if_pos c, if_neg (by omega), if_pos (by omega)]; omega
    · rw [if_neg c]
      by_cases d : x.r < R
      · rw [if_pos d, if_pos (by omega)]; omega
      · rw [if_neg d, if_neg (by omega)]; omega
theorem ktt_ksm {n : Nat} {es : List Ln} {P : List Nat} (hok : ∀ x ∈ es, x.ok n) : ∀ m, (∀ i, i < m → rln es P i ≠ none) → ktt es P m 16 = ksm es P m
  | 0, _ => ktt_zero es P 16
  | m + 1, h => by
    cases hr : rln es P m with
    | none => exact absurd hr (h m (by omega))
    | some j =>
      have hj : j < es.length := fd_lt (show fd es _ _ = some j from hr)
      have hx := List.getElem?_eq_getElem hj
      have ho := hok _ (List.getElem_mem hj)
      rw [ktt_next hr hx, ksm_next hr hx, ktt_ksm hok m (fun i hi => h i (by omega)), if_pos (by unfold Ln.ok at ho; omega)]
theorem usf_kmf {es : List Ln} {P : List Nat} {r : Nat} : ∀ m, usf es P r m = false → kmf es P r m = 0
  | 0, _ => rfl
  | m + 1, h => by
    unfold usf at h
    rw [Bool.or_eq_false_iff] at h
    unfold kmf
    rw [usf_kmf m h.1]
    cases hr : rln es P m with
    | none => rfl
    | some j =>
      rw [hr] at h
      have := h.2
      show 0 + (if (lx es j).r = r then _ else _) = 0
      rw [if_neg (of_decide_eq_false this)]
theorem usf_up {es : List Ln} {P : List Nat} {r i : Nat} (h : usf es P r i = true) : ∀ c, usf es P r (i + c) = true
  | 0 => h
  | c + 1 => by
    show usf es P r (i + c + 1) = true
    unfold usf
    rw [usf_up h c, Bool.true_or]
theorem usf_line {es : List Ln} {P : List Nat} {i j m : Nat} {x : Ln} (h : rln es P i = some j) (hx : es[j]? = some x) (him : i < m) : usf es P x.r m = true := by
  have h1 : usf es P x.r (i + 1) = true := by
    unfold usf
    rw [h]
    show (_ || decide ((lx es j).r = x.r)) = true
    rw [lx_get hx, decide_eq_true rfl, Bool.or_true]
  have := usf_up h1 (m - (i + 1))
  rwa [show i + 1 + (m - (i + 1)) = m by omega] at this
/-- The kilometres of shares. -/
def tot : List Sh → Int
  | [] => 0
  | s :: l => s.k + tot l
theorem tot_snoc (l : List Sh) (s : Sh) : tot (l ++ [s]) = tot l + s.k := by
  induction l with
  | nil => show s.k + 0 = 0 + s.k; omega
  | cons a l ih => show a.k + tot (l ++ [s]) = a.k + tot l + s.k; rw [ih]; omega
theorem tot_take {l : List Sh} {j : Nat} {s : Sh} (h : l[j]? = some s) : tot (l.take (j + 1)) = tot (l.take j) + s.k := by
  rw [List.take_add_one, h]
  exact tot_snoc _ _
theorem tot_shr (es : List Ln) (P : List Nat) (m : Nat) : ∀ R, tot (shr es P m R) = (ktt es P m R : Nat)
  | 0 => rfl
  | R + 1 => by
    unfold shr ktt
    by_cases c : usf es P R m = true
    · rw [if_pos c, tot_snoc, tot_shr es P m R]
      show _ + ((kmf es P R m : Nat) : Int) = _
      omega
    · rw [if_neg c, tot_shr es P m R, usf_kmf m (by simpa using c)]
      omega
theorem shr_has {es : List Ln} {P : List Nat} {m r : Nat} (h : usf es P r m = true) : ∀ R, r < R → ∃ s ∈ shr es P m R, s.r = (r : Int)
  | 0, hr => by omega
  | R + 1, hr => by
    unfold shr
    by_cases e : r = R
    · subst e
      rw [if_pos h]
      exact ⟨_, List.mem_append_right _ (List.mem_singleton.2 rfl), rfl⟩
    · obtain ⟨s, h1, h2⟩ := shr_has h R (by omega)
      by_cases c : usf es P R m = true
      · rw [if_pos c]; exact ⟨s, List.mem_append_left _ h1, h2⟩
      · rw [if_neg c]; exact ⟨s, h1, h2⟩
theorem shr_lt (es : List Ln) (P : List Nat) (m : Nat) : ∀ R, (∀ s ∈ shr es P m R, s.r < (R : Int)) ∧ (shr es P m R).Pairwise (fun s t => s.r < t.r)
  | 0 => ⟨by simp [shr], by simp [shr]⟩
  | R + 1 => by
    obtain ⟨h1, h2⟩ := shr_lt es P m R
    unfold shr
    by_cases c : usf es P R m = true
    · rw [if_pos c]
      refine ⟨fun s hs => ?_, List.pairwise_append.2 ⟨h2, by simp, fun s hs t ht => ?_⟩⟩
      · rcases List.mem_append.1 hs with hs | hs
        · have := h1 s hs; omega
        · rw [List.mem_singleton] at hs; subst hs; show ((R : Nat) : Int) < _; omega
      · rw [List.mem_singleton] at ht; subst ht; exact h1 s hs
    · rw [if_neg c]
      exact ⟨fun s hs => by have := h1 s hs; omega, h2⟩
theorem shr_none (es : List Ln) (P : List Nat) : ∀ R, shr es P 0 R = []
  | 0 => rfl
  | R + 1 => by unfold shr; rw [shr_none es P R]; rfl
theorem ksm_le {n : Nat} {es : List Ln} {P : List Nat} (hok : ∀ x ∈ es, x.ok n) : ∀ i, ksm es P i ≤ 10000 * i
  | 0 => Nat.le_refl _
  | i + 1 => by
    have ih := ksm_le (P := P) hok i
    cases hr : rln es P i with
    | none => unfold ksm; rw [hr]; show _ + 0 ≤ _; omega
    | some j =>
      have hj : j < es.length := fd_lt (show fd es _ _ = some j from hr)
      have ho := hok _ (List.getElem_mem hj)
      rw [ksm_next hr (List.getElem?_eq_getElem hj)]
      unfold Ln.ok at ho
      omega
def hasr (S : List Sh) (r : Int) (j : Nat) : Bool := (S.take j).any fun s => s.r == r
theorem hasr_next {S : List Sh} {r : Int} {j : Nat} {s : Sh} (h : S[j]? = some s) : hasr S r (j + 1) = (hasr S r j || s.r == r) := by
  unfold hasr
  rw [List.take_add_one, h, List.any_append]
  simp
theorem hasr_full {S : List Sh} {r : Int} (h : ∃ s ∈ S, s.r = r) : hasr S r S.length = true := by
  unfold hasr
  rw [List.take_length]
  obtain ⟨s, h1, h2⟩ := h
  exact List.any_eq_true.2 ⟨s, h1, by simpa using h2⟩
theorem hop_rln {n : Nat} {es : List Ln} {P : List Nat} {i j : Nat} (h : hop n es (ints P) i j) : rln es P i = some j := by
  obtain ⟨a, b, h1, h2, _, _, h3⟩ := h
  unfold rln
  rw [ints_get] at h1 h2
  have e1 : P.getD i 0 = a := by
    rw [List.getD_eq_getElem?_getD]
    cases hP : P[i]? with
    | none => rw [hP] at h1; cases h1
    | some z => rw [hP] at h1; exact Int.ofNat_inj.1 (Option.some.inj h1)
  have e2 : P.getD (i + 1) 0 = b := by
    rw [List.getD_eq_getElem?_getD]
    cases hP : P[i + 1]? with
    | none => rw [hP] at h2; cases h2
    | some z => rw [hP] at h2; exact Int.ofNat_inj.1 (Option.some.inj h2)
  rw [e1, e2, h3]
theorem rln_hop {n : Nat} {es : List Ln} {P : List Nat} {i j : Nat} (hP : ∀ p ∈ P, p < n) (hi : i + 1 < P.length) (h : rln es P i = some j) : hop n es (ints P) i j := by
  have h1 : P[i]? = some P[i] := List.getElem?_eq_getElem (by omega)
  have h2 : P[i + 1]? = some P[i + 1] := List.getElem?_eq_getElem hi
  refine ⟨P[i], P[i + 1], by rw [ints_get, h1]; rfl, by rw [ints_get, h2]; rfl, hP _ (List.getElem_mem _), hP _ (List.getElem_mem _), ?_⟩
  unfold rln at h
  rw [List.getD_eq_getElem?_getD, List.getD_eq_getElem?_getD, h1, h2] at h
  exact h
theorem addup {ps : List Pc} {eds : List Ed} {route : List Int} {S : List Sh} {E : Int} (h : HR ps eds route S E) : (E ≠ 0 → S = []) ∧ (E = 0 → ∃ (es : List Ln) (P : List Nat), chk ps eds = 0 ∧ Val ps eds es ∧ route = ints P ∧ (∀ p ∈ P, p < ps.length) ∧ (∀ i, i + 1 < P.length → rln es P i ≠ none) ∧ S = shr es P (P.length - 1) 16) := by
  rcases h with ⟨h0, h1, h2⟩ | ⟨h0, es, P, v, e, hP, ⟨_, h1, h2⟩ | ⟨hn, h1, h2⟩⟩
  · exact ⟨fun _ => h2, fun e => absurd (h1.symm.trans e) h0⟩
  · exact ⟨fun _ => h2, fun e => absurd (h1.symm.trans e) (by decide)⟩
  · exact ⟨fun e => absurd h1 e, fun _ => ⟨es, P, (cerr_zero h0).1, v, e, hP, hn, h2⟩⟩
end Go.Proofs.Ytbeoldklpklbfaa
