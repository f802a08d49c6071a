/-
  Plain: the form of the text of an amount; its number. No program.
-/
import Derived.Test.YtempnbchiofghaaGreatDoorPa
import Derived.Lib.AtoiAll
import Derived.Lib.SlTrimSet
namespace Go.Proofs.YtempnbchiofghaaGreatDoor
set_option linter.unusedVariables false
set_option linter.unusedSimpArgs false

/-- A decimal digit. -/
abbrev isD (c : UInt8) : Prop := 48 ≤ c.toNat ∧ c.toNat ≤ 57
/-- The number of a row of digits, behind acc. -/
def numA : Nat → List UInt8 → Nat
  | acc, [] => acc
  | acc, c :: r => numA (10 * acc + (c.toNat - 48)) r
theorem numA_ge : ∀ (l : List UInt8) (acc : Nat), acc ≤ numA acc l
  | [], acc => Nat.le_refl _
  | c :: r, acc => Nat.le_trans (by omega) (numA_ge r (10 * acc + (c.toNat - 48)))
theorem numA_app : ∀ (x y : List UInt8) (acc : Nat), numA acc (x ++ y) = numA (numA acc x) y
  | [], y, acc => rfl
  | c :: r, y, acc => numA_app r y _
theorem numA_zero : ∀ (l : List UInt8) (acc : Nat), (∀ c ∈ l, isD c) → numA acc l = 0 → acc = 0 ∧ ∀ c ∈ l, c = 48
  | [], acc, _, h => ⟨h, by simp⟩
  | c :: r, acc, hd, h => by
    obtain ⟨h1, h2⟩ := numA_zero r _ (fun x hx => hd x (by simp [hx])) h
    have h3 := hd c (by simp)
    refine ⟨by omega, fun x hx => ?_⟩
    rcases List.mem_cons.1 hx with rfl | hx
    · apply UInt8.toNat_inj.1
      have : (48 : UInt8).toNat = 48 := rfl
      omega
    · exact h2 x hx

/-- l is the text of an amount: neg its sign, u the digits of its units, c1 c0 of its cents. -/
structure Fm (neg : Bool) (l u : List UInt8) (c1 c0 : UInt8) : Prop where
  eq : l = (if neg then [45] else []) ++ u ++ [46, c1, c0]
  ne : u ≠ []
  dig : ∀ c ∈ u, isD c
  d1 : isD c1
  d0 : isD c0
  lead : u.head? = some 48 → u.length = 1
  zero : neg = true → numA 0 (u ++ [c1, c0]) ≠ 0
theorem dot_no {u : List UInt8} (h : ∀ c ∈ u, isD c) : (46 : UInt8) ∉ u := fun hm => by
  have := h 46 hm
  have e : (46 : UInt8).toNat = 46 := rfl
  unfold isD at this
  omega
theorem split_unique : ∀ {u u' c c' : List UInt8}, u ++ 46 :: c = u' ++ 46 :: c' → (46 : UInt8) ∉ u → (46 : UInt8) ∉ u' → u = u' ∧ c = c'
  | [], [], c, c', h, _, _ => by simp at h; exact ⟨rfl, h⟩
  | [], x :: t, c, c', h, _, h2 => by
    simp only [List.nil_append, List.cons_append, List.cons.injEq] at h
    exact absurd (by simp [h.1]) h2
  | x :: t, [], c, c', h, h1, _ => by
    simp only [List.nil_append, List.cons_append, List.cons.injEq] at h
    exact absurd (by simp [← h.1]) h1
  | x :: t, y :: s, c, c', h, h1, h2 => by
    simp only [List.cons_append, List.cons.injEq] at h
    obtain ⟨h3, h4⟩ := split_unique h.2 (fun hm => h1 (by simp [hm])) (fun hm => h2 (by simp [hm]))
    exact ⟨by rw [h.1, h3], h4⟩
theorem Fm.sign {neg : Bool} {l u : List UInt8} {c1 c0 : UInt8} (h : Fm neg l u c1 c0) : neg = decide (l.head? = some 45) := by
  rw [h.eq]
  cases neg with
  | true => simp
  | false =>
    simp only [Bool.false_eq_true, if_false, List.nil_append]
    cases hu : u with
    | nil => exact absurd hu h.ne
    | cons x t =>
      have := h.dig x (by rw [hu]; simp)
      symm
      apply decide_eq_false
      simp only [List.cons_append, List.head?_cons, Option.some.injEq]
      rintro rfl
      have e : (45 : UInt8).toNat = 45 := rfl
      unfold isD at this
      omega
theorem Fm.unique {neg neg' : Bool} {l u u' : List UInt8} {c1 c0 c1' c0' : UInt8} (h : Fm neg l u c1 c0) (h' : Fm neg' l u' c1' c0') : neg = neg' ∧ u = u' ∧ c1 = c1' ∧ c0 = c0' := by
  have hs : neg = neg' := by rw [h.sign, h'.sign]
  subst hs
  have e := h.eq.symm.trans h'.eq
  rw [List.append_assoc, List.append_assoc] at e
  have e2 := List.append_cancel_left e
  obtain ⟨e3, e4⟩ := split_unique e2 (dot_no h.dig) (dot_no h'.dig)
  simp only [List.cons.injEq, and_true] at e4
  exact ⟨rfl, e3, e4⟩

/-- What Parse returns for the number N with the sign neg. -/
def resP (neg : Bool) (N : Nat) : Int × Int := if N ≤ 9007199254740992 then (if neg then -(N : Int) else (N : Int), 0) else (0, 3)
/-- C, E are what Parse returns for l. -/
def PV (l : List UInt8) (C E : Int) : Prop := (∃ neg u c1 c0, Fm neg l u c1 c0 ∧ (C, E) = resP neg (numA 0 (u ++ [c1, c0]))) ∨ ((¬ ∃ neg u c1 c0, Fm neg l u c1 c0) ∧ C = 0 ∧ E = 4)
theorem pv_exists (l : List UInt8) : ∃ C E, PV l C E := by
  by_cases h : ∃ neg u c1 c0, Fm neg l u c1 c0
  · obtain ⟨neg, u, c1, c0, hf⟩ := h
    exact ⟨(resP neg (numA 0 (u ++ [c1, c0]))).1, (resP neg (numA 0 (u ++ [c1, c0]))).2, Or.inl ⟨neg, u, c1, c0, hf, rfl⟩⟩
  · exact ⟨0, 4, Or.inr ⟨h, rfl, rfl⟩⟩
theorem PV.good {l : List UInt8} {C E : Int} (h : PV l C E) {neg : Bool} {u : List UInt8} {c1 c0 : UInt8} (hf : Fm neg l u c1 c0) : (C, E) = resP neg (numA 0 (u ++ [c1, c0])) := by
  rcases h with ⟨neg', u', c1', c0', hf', e⟩ | ⟨hn, _⟩
  · obtain ⟨rfl, rfl, rfl, rfl⟩ := hf.unique hf'
    exact e
  · exact absurd ⟨neg, u, c1, c0, hf⟩ hn
theorem PV.bad {l : List UInt8} {C E : Int} (h : PV l C E) (hn : ¬ ∃ neg u c1 c0, Fm neg l u c1 c0) : C = 0 ∧ E = 4 := by
  rcases h with ⟨neg', u', c1', c0', hf', e⟩ | ⟨_, h⟩
  · exact absurd ⟨_, _, _, _, hf'⟩ hn
  · exact h

/-- The library's reading of a row of digits. -/
theorem parse_digits : ∀ (l : List UInt8) (acc : Nat), (∀ c ∈ l, isD c) → Lib.parseUint10 acc l = if numA acc l < 18446744073709551616 ∨ l = [] then .ok (numA acc l) else .range
  | [], acc, _ => by
    rw [if_pos (Or.inr rfl)]
    rfl
  | c :: r, acc, hd => by
    have hc := hd c (by simp)
    have ih := parse_digits r (acc * 10 + (c.toNat - 48)) (fun x hx => hd x (by simp [hx]))
    have hge := numA_ge r (10 * acc + (c.toNat - 48))
    have e1 : numA acc (c :: r) = numA (10 * acc + (c.toNat - 48)) r := rfl
    have e2 : acc * 10 + (c.toNat - 48) = 10 * acc + (c.toNat - 48) := by omega
    rw [e2] at ih
    rw [e1]
    obtain ⟨M, hM⟩ : ∃ M, numA (10 * acc + (c.toNat - 48)) r = M := ⟨_, rfl⟩
    rw [hM] at hge ih ⊢
    have nr : ∀ x : Nat, 18446744073709551616 ≤ M → ¬ (M < 18446744073709551616 ∨ c :: r = []) := fun x h k => by
      rcases k with k | k
      · omega
      · cases k
    unfold Lib.parseUint10
    rw [if_pos hc]
    by_cases h1 : 1844674407370955162 ≤ acc
    · rw [if_pos h1, if_neg (nr 0 (by omega))]
    · rw [if_neg h1]
      by_cases h2 : 18446744073709551616 ≤ acc * 10 + (c.toNat - 48)
      · rw [if_pos h2, if_neg (nr 0 (by omega))]
      · rw [if_neg h2, e2, ih]
        by_cases h3 : M < 18446744073709551616
        · rw [if_pos (Or.inl h3), if_pos (Or.inl h3)]
        · by_cases hr : r = []
          · exfalso
            rw [hr] at hM
            have hM2 : 10 * acc + (c.toNat - 48) = M := hM
            omega
          · rw [if_neg (fun k => by rcases k with k | k; exact h3 k; exact hr k), if_neg (nr 0 (by omega))]
/-- strconv.Atoi of a sign and digits. -/
theorem atoi_digits (neg : Bool) (D : List UInt8) (hne : D ≠ []) (hd : ∀ c ∈ D, isD c) :
    Lib.atoiAll ((if neg then [45] else []) ++ D) = (if (neg = true → numA 0 D ≤ 9223372036854775808) ∧ (neg = false → numA 0 D < 9223372036854775808) then .ok (if neg then -(numA 0 D : Int) else (numA 0 D : Int)) else .range) := by
  have hp0 := parse_digits D 0 hd
  obtain ⟨M, hM⟩ : ∃ M, numA 0 D = M := ⟨_, rfl⟩
  rw [hM] at hp0 ⊢
  have hp : Lib.parseMag D = if M < 18446744073709551616 then .ok M else .range := by
    unfold Lib.parseMag
    rw [if_neg hne, hp0]
    by_cases h : M < 18446744073709551616
    · rw [if_pos (Or.inl h), if_pos h]
    · rw [if_neg (fun k => by rcases k with k | k; exact h k; exact hne k), if_neg h]
  cases neg with
  | true =>
    have e : Lib.atoiAll ((if true = true then [45] else []) ++ D) = match Lib.parseMag (if (45 : UInt8).toNat = 43 ∨ (45 : UInt8).toNat = 45 then D else 45 :: D) with
      | Lib.NumEnd.syntax => Lib.NumEnd.syntax
      | .range => .range
      | .ok u => if ¬ ((45 : UInt8).toNat = 45) ∧ 9223372036854775808 ≤ u then .range else if (45 : UInt8).toNat = 45 ∧ 9223372036854775808 < u then .range else .ok (if (45 : UInt8).toNat = 45 then -(u : Int) else u) := rfl
    have e45 : (45 : UInt8).toNat = 45 := rfl
    rw [e, if_pos (show (45 : UInt8).toNat = 43 ∨ (45 : UInt8).toNat = 45 from Or.inr e45), hp]
    by_cases h : M < 18446744073709551616
    · rw [if_pos h]
      by_cases h2 : 9223372036854775808 < M
      · rw [if_neg (fun k => by have := k.1 rfl; omega)]
        show (if ¬ ((45 : UInt8).toNat = 45) ∧ 9223372036854775808 ≤ M then _ else if (45 : UInt8).toNat = 45 ∧ 9223372036854775808 < M then _ else _) = _
        rw [if_neg (show ¬ (¬ ((45 : UInt8).toNat = 45) ∧ 9223372036854775808 ≤ M) from fun k => k.1 e45), if_pos (show (45 : UInt8).toNat = 45 ∧ 9223372036854775808 < M from ⟨e45, h2⟩)]
      · rw [if_pos ⟨fun _ => by omega, fun k => by cases k⟩]
        show (if ¬ ((45 : UInt8).toNat = 45) ∧ 9223372036854775808 ≤ M then _ else if (45 : UInt8).toNat = 45 ∧ 9223372036854775808 < M then _ else _) = _
        rw [if_neg (show ¬ (¬ ((45 : UInt8).toNat = 45) ∧ 9223372036854775808 ≤ M) from fun k => k.1 e45), if_neg (show ¬ ((45 : UInt8).toNat = 45 ∧ 9223372036854775808 < M) from fun k => h2 k.2), if_pos e45]
        rfl
    · rw [if_neg h, if_neg (fun k => by have := k.1 rfl; omega)]
  | false =>
    cases D with
    | nil => exact absurd rfl hne
    | cons x t =>
      have hx := hd x (by simp)
      have h43 : ¬ (x.toNat = 43 ∨ x.toNat = 45) := by unfold isD at hx; omega
      have h45 : ¬ x.toNat = 45 := by omega
      have e : Lib.atoiAll ((if false = true then [45] else []) ++ (x :: t)) = match Lib.parseMag (if x.toNat = 43 ∨ x.toNat = 45 then t else x :: t) with
        | Lib.NumEnd.syntax => Lib.NumEnd.syntax
        | .range => .range
        | .ok u => if ¬ (x.toNat = 45) ∧ 9223372036854775808 ≤ u then .range else if x.toNat = 45 ∧ 9223372036854775808 < u then .range else .ok (if x.toNat = 45 then -(u : Int) else u) := rfl
      rw [e, if_neg h43, hp]
      by_cases h : M < 18446744073709551616
      · rw [if_pos h]
        by_cases h2 : 9223372036854775808 ≤ M
        · rw [if_neg (fun k => by have := k.2 rfl; omega)]
          show (if ¬ (x.toNat = 45) ∧ 9223372036854775808 ≤ M then _ else _) = _
          rw [if_pos ⟨h45, h2⟩]
        · rw [if_pos ⟨fun k => (by cases k), fun _ => by omega⟩]
          show (if ¬ (x.toNat = 45) ∧ 9223372036854775808 ≤ M then _ else if x.toNat = 45 ∧ 9223372036854775808 < M then _ else _) = _
          rw [if_neg (fun k => h2 k.2), if_neg (fun k => h45 k.1), if_neg h45]
          rfl
      · rw [if_neg h, if_neg (fun k => by have := k.2 rfl; omega)]
theorem dw_nil (p : UInt8 → Bool) : ∀ l : List UInt8, l.dropWhile p = [] ↔ ∀ x ∈ l, p x = true
  | [] => by simp
  | a :: t => by
    rw [List.dropWhile_cons]
    by_cases h : p a = true
    · rw [if_pos h, dw_nil p t]
      simp [h]
    · rw [if_neg h]
      simp [h]
theorem tw_mem (p : UInt8 → Bool) : ∀ (l : List UInt8), ∀ x ∈ l.takeWhile p, p x = true
  | [], x, hx => by simp at hx
  | a :: t, x, hx => by
    rw [List.takeWhile_cons] at hx
    by_cases h : p a = true
    · rw [if_pos h] at hx
      rcases List.mem_cons.1 hx with rfl | hx
      · exact h
      · exact tw_mem p t x hx
    · rw [if_neg h] at hx
      cases hx
/-- Everything is trimmed away: all of it is in the set. -/
theorem trim_nil (l cs : List UInt8) : Lib.trimS l cs = [] ↔ ∀ c ∈ l, cs.contains c = true := by
  unfold Lib.trimS Lib.trimLeftS Lib.trimRightS
  constructor
  · intro h c hc
    have h1 : ∀ x ∈ (l.reverse.dropWhile (cs.contains ·)).reverse, cs.contains x = true := by
      intro x hx
      exact (dw_nil _ _).1 h x hx
    have hc2 : c ∈ l.reverse := List.mem_reverse.2 hc
    rw [← List.takeWhile_append_dropWhile (p := (cs.contains ·)) (l := l.reverse)] at hc2
    rcases List.mem_append.1 hc2 with h2 | h2
    · exact tw_mem _ _ c h2
    · exact h1 c (List.mem_reverse.2 h2)
  · intro h
    have : l.reverse.dropWhile (cs.contains ·) = [] := (dw_nil _ _).2 fun x hx => h x (List.mem_reverse.1 hx)
    rw [this]
    rfl
theorem digits_set (c : UInt8) : ([48, 49, 50, 51, 52, 53, 54, 55, 56, 57] : List UInt8).contains c = true ↔ isD c := by
  have key : ∀ n : Fin 256, (([48, 49, 50, 51, 52, 53, 54, 55, 56, 57] : List UInt8).contains (UInt8.ofNat n.val) = true ↔ (48 ≤ n.val ∧ n.val ≤ 57)) := by decide +kernel
  have := key ⟨c.toNat, c.toNat_lt⟩
  rw [UInt8.ofNat_toNat] at this
  exact this
end Go.Proofs.YtempnbchiofghaaGreatDoor
