/-
  Plain: the text of an amount and its reading are each other's reverse. No program.
-/
import Derived.Test.YtempnbchiofghaaGreatDoorSb
import Derived.Test.YtempnbchiofghaaGreatDoorPd
namespace Go.Proofs.YtempnbchiofghaaGreatDoor
open Go.Lib
set_option linter.unusedVariables false
set_option linter.unusedSimpArgs false

theorem dig_nat {d : Nat} (h : d < 10) : (UInt8.ofNat (48 + d)).toNat = 48 + d := by
  rw [UInt8.toNat_ofNat']; omega
theorem dig_isD {d : Nat} (h : d < 10) : isD (UInt8.ofNat (48 + d)) := by unfold isD; rw [dig_nat h]; omega
theorem dgt_nat (n : Nat) : (dgt n).toNat = 48 + n % 10 := dig_nat (Nat.mod_lt _ (by decide))
theorem dgt_isD (n : Nat) : isD (dgt n) := dig_isD (Nat.mod_lt _ (by decide))
theorem dgt_of {c : UInt8} {n : Nat} (h : isD c) (hn : n % 10 = c.toNat - 48) : dgt n = c := by
  apply UInt8.toNat_inj.1
  rw [dgt_nat]
  unfold isD at h
  omega
theorem dec_step {m d : Nat} (hm : 0 < m) (hd : d < 10) : decDigits (10 * m + d) = decDigits m ++ [UInt8.ofNat (48 + d)] := by
  rw [decDigits, dif_neg (by omega)]
  rw [show (10 * m + d) / 10 = m by omega, show (10 * m + d) % 10 = d by omega]
theorem numA_one (acc : Nat) (c : UInt8) : numA acc [c] = 10 * acc + (c.toNat - 48) := rfl
theorem numA_two (acc : Nat) (c d : UInt8) : numA acc [c, d] = 10 * (10 * acc + (c.toNat - 48)) + (d.toNat - 48) := rfl
theorem num_dec (n : Nat) : numA 0 (decDigits n) = n ∧ (∀ c ∈ decDigits n, isD c) ∧ decDigits n ≠ [] ∧ ((decDigits n).head? = some 48 → (decDigits n).length = 1) := by
  induction n using Nat.strongRecOn with
  | _ n ih =>
    by_cases h : n < 10
    · rw [decDigits_one h]
      refine ⟨?_, ?_, by simp, by simp⟩
      · rw [numA_one, dig_nat h]
        omega
      · intro c hc
        simp only [List.mem_cons, List.not_mem_nil, or_false] at hc
        subst hc
        exact dig_isD h
    · obtain ⟨i1, i2, i3, i4⟩ := ih (n / 10) (by omega)
      have e : decDigits n = decDigits (n / 10) ++ [UInt8.ofNat (48 + n % 10)] := by
        have := dec_step (m := n / 10) (d := n % 10) (by omega) (by omega)
        rwa [show 10 * (n / 10) + n % 10 = n by omega] at this
      rw [e]
      refine ⟨?_, ?_, by simp, ?_⟩
      · rw [numA_app, i1]
        rw [numA_one, dig_nat (by omega)]
        omega
      · intro c hc
        rcases List.mem_append.1 hc with hc | hc
        · exact i2 c hc
        · simp only [List.mem_cons, List.not_mem_nil, or_false] at hc
          subst hc
          exact dig_isD (by omega)
      · intro hh
        exfalso
        cases hd : decDigits (n / 10) with
        | nil => exact i3 hd
        | cons x t =>
          rw [hd] at hh i4 i1
          simp only [List.cons_append, List.head?_cons, Option.some.injEq] at hh
          have := i4 (by simp [hh])
          simp only [List.length_cons] at this
          obtain rfl : t = [] := List.length_eq_zero_iff.1 (by omega)
          subst hh
          rw [numA_one] at i1
          have e48 : (48 : UInt8).toNat = 48 := rfl
          omega
theorem dec_num (k : Nat) : ∀ u : List UInt8, u.length = k + 1 → (∀ c ∈ u, isD c) → (u.head? = some 48 → u.length = 1) → decDigits (numA 0 u) = u := by
  induction k with
  | zero =>
    intro u hu hd _
    match u, hu with
    | [c], _ =>
      have h := hd c (by simp)
      unfold isD at h
      have e : numA 0 [c] = c.toNat - 48 := by rw [numA_one]; omega
      rw [e, decDigits_one (by omega)]
      congr 1
      apply UInt8.toNat_inj.1
      rw [dig_nat (by omega)]
      omega
  | succ k ih =>
    intro u hu hd hl
    have hne : u ≠ [] := by intro h; rw [h] at hu; simp at hu
    obtain ⟨t, c, rfl⟩ : ∃ t c, u = t ++ [c] := ⟨u.dropLast, u.getLast hne, (List.dropLast_concat_getLast hne).symm⟩
    have ht : t.length = k + 1 := by simpa using hu
    have hc := hd c (by simp)
    have hdt : ∀ x ∈ t, isD x := fun x hx => hd x (by simp [hx])
    have hno : t.head? ≠ some 48 := by
      intro hh
      have h1 := hl (by
        cases t with
        | nil => simp at ht
        | cons x s => simpa using hh)
      omega
    have h2 := ih t ht hdt (fun hh => absurd hh hno)
    have hpos : 0 < numA 0 t := by
      rcases Nat.eq_zero_or_pos (numA 0 t) with h0 | h0
      · exfalso
        have := (numA_zero t 0 hdt h0).2
        cases t with
        | nil => simp at ht
        | cons x s => exact hno (by rw [this x (by simp)]; rfl)
      · exact h0
    unfold isD at hc
    have e : numA 0 (t ++ [c]) = 10 * numA 0 t + (c.toNat - 48) := by rw [numA_app, numA_one]
    rw [e, dec_step hpos (by omega), h2]
    congr 2
    apply UInt8.toNat_inj.1
    rw [dig_nat (by omega)]
    omega

theorem num_txt (U : Nat) : numA 0 (decDigits (U / 100) ++ [dgt (U / 10), dgt U]) = U := by
  rw [numA_app, (num_dec _).1]
  rw [numA_two, dgt_nat, dgt_nat]
  omega
theorem fm_txt (a : Int) : Fm (decide (a < 0)) (txt a) (decDigits (a.natAbs / 100)) (dgt (a.natAbs / 10)) (dgt a.natAbs) := by
  obtain ⟨h1, h2, h3, h4⟩ := num_dec (a.natAbs / 100)
  refine ⟨?_, h3, h2, dgt_isD _, dgt_isD _, h4, ?_⟩
  · unfold txt txtN
    by_cases h : a < 0 <;> simp [h]
  · intro h
    rw [num_txt]
    simp only [decide_eq_true_eq] at h
    omega
theorem pv_txt {a C E : Int} (h : PV (txt a) C E) : (inR a → C = a ∧ E = 0) ∧ (¬ inR a → C = 0 ∧ E = 3) := by
  have e := h.good (fm_txt a)
  rw [num_txt] at e
  unfold resP at e
  unfold inR
  constructor
  · intro hi
    rw [if_pos (by omega)] at e
    simp only [Prod.mk.injEq, decide_eq_true_eq] at e
    obtain ⟨e1, e2⟩ := e
    refine ⟨?_, e2⟩
    split at e1 <;> omega
  · intro hi
    rw [if_neg (by omega)] at e
    simp only [Prod.mk.injEq] at e
    exact e
theorem pv_code {l : List UInt8} {C E : Int} (h : PV l C E) : E = 0 ∨ (C = 0 ∧ (E = 4 ∨ E = 3)) := by
  rcases h with ⟨neg, u, c1, c0, _, e⟩ | ⟨_, h1, h2⟩
  · unfold resP at e
    split at e <;> simp only [Prod.mk.injEq] at e
    · exact Or.inl e.2
    · exact Or.inr ⟨e.1, Or.inr e.2⟩
  · exact Or.inr ⟨h1, Or.inl h2⟩
theorem txt_pv {l : List UInt8} {C : Int} (h : PV l C 0) : inR C ∧ txt C = l := by
  rcases h with ⟨neg, u, c1, c0, hf, e⟩ | ⟨_, _, h2⟩
  · obtain ⟨N, hN⟩ : ∃ N, numA 0 (u ++ [c1, c0]) = N := ⟨_, rfl⟩
    rw [hN] at e
    have hz := hf.zero
    rw [hN] at hz
    rw [numA_app] at hN
    rw [numA_two] at hN
    unfold resP at e
    split at e
    · simp only [Prod.mk.injEq, and_true] at e
      have h1 := hf.d1; have h0 := hf.d0
      have hu : decDigits (numA 0 u) = u := by
        have hne := hf.ne
        have : 0 < u.length := List.length_pos_iff.2 hne
        exact dec_num (u.length - 1) u (by omega) hf.dig hf.lead
      have hA : C.natAbs = N := by
        cases neg <;> simp at e <;> omega
      have h1' := h1; have h0' := h0
      unfold isD at h1' h0'
      have q1 : N / 100 = numA 0 u := by omega
      have q2 : dgt (N / 10) = c1 := dgt_of h1 (by omega)
      have q3 : dgt N = c0 := dgt_of h0 (by omega)
      refine ⟨?_, ?_⟩
      · unfold inR
        cases neg <;> simp at e <;> omega
      · unfold txt txtN
        rw [hA, q1, q2, q3, hu, hf.eq]
        have hs : (if C < 0 then [(45 : UInt8)] else []) = if neg then [45] else [] := by
          cases neg with
          | true =>
            have := hz rfl
            simp only [if_true] at e ⊢
            rw [if_pos (by omega)]
          | false =>
            simp only [Bool.false_eq_true, if_false] at e ⊢
            rw [if_neg (by omega)]
        rw [hs]
        simp
    · simp at e
  · simp at h2
theorem txt_len (a : Int) (h : I64 a) : (txt a).length ≤ 24 := by
  unfold txt txtN I64 at *
  have := dec_len (a.natAbs / 100) (by omega)
  split <;> simp <;> omega
end Go.Proofs.YtempnbchiofghaaGreatDoor
