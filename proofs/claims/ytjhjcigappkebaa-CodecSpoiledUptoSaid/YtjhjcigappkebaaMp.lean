/-
  Plain mathematics: a proper prefix of an encoding is short, and bytes behind an encoding are refused.
-/
import Derived.Test.YtjhjcigappkebaaMc
namespace Go.Proofs.Ytjhjcigappkebaa
open Go.RowKit

theorem pInt_short (eight flip : Bool) : ∀ (k : Nat) (first : Bool) (acc v : Int) (p q : List Int), 0 ≤ v → v < 256 ^ k → (first = true → ∀ j, k = j + 1 → 256 ^ j ≤ v ∧ (eight = true → v < 128 * 256 ^ j)) →
    (digs v k).map (fl flip) = p ++ q → q ≠ [] → pInt eight flip k first acc p = .error 5
  | 0, first, acc, v, p, q, _, _, _, he, hq => by
    simp [digs] at he
    exact absurd he.2 hq
  | k + 1, first, acc, v, [], q, _, _, _, _, _ => by simp [pInt]
  | k + 1, first, acc, v, x :: p, q, h1, h2, hf, he, hq => by
    have hp : (0 : Int) < 256 ^ k := Int.pow_pos (by decide)
    have e := Int.mul_ediv_add_emod v (256 ^ k)
    have g1 := Int.emod_nonneg v (Int.ne_of_gt hp)
    have g2 := Int.emod_lt_of_pos v hp
    have g3 := Int.ediv_nonneg h1 (Int.le_of_lt hp)
    rw [Int.mul_comm] at e
    rw [Int.pow_succ] at h2
    have g4 : v / 256 ^ k < 256 := Int.ediv_lt_of_lt_mul hp (by rw [Int.mul_comm]; exact h2)
    generalize v / 256 ^ k = c at *
    generalize v % 256 ^ k = u at *
    subst e
    rw [digs_cons c u k g3 g4 g1 g2] at he
    simp only [List.map_cons, List.cons_append, List.cons.injEq] at he
    obtain ⟨rfl, he⟩ := he
    rw [pInt_cons, fl_fl]
    have hcond : (first && (c == 0 || (eight && decide (127 < c)))) = false := by
      cases first with
      | false => rfl
      | true =>
        obtain ⟨a1, a2⟩ := hf rfl k rfl
        have c0 : c ≠ 0 := by
          intro h; subst h; omega
        have c1 : eight = true → ¬ 127 < c := by
          intro he h
          have := a2 he
          have b : 128 * 256 ^ k ≤ c * 256 ^ k := Int.mul_le_mul_of_nonneg_right (by omega) (by omega)
          omega
        cases eight with
        | false => simp [c0]
        | true => have := c1 rfl; simp [c0]; omega
    rw [hcond]
    simp only [Bool.false_eq_true, if_false]
    exact pInt_short eight flip k false _ u p q g1 g2 (fun h => by cases h) he hq

theorem pBytes_short : ∀ (s p q : List Int), esc s ++ [0, 0] = p ++ q → q ≠ [] → pBytes p = .error 5
  | _, [], _, _, _ => by simp [pBytes]
  | _, [c], _, _, _ => by simp [pBytes]
  | [], c :: d :: p, q, he, hq => by
    simp [esc] at he
    exact absurd he.2.2.2 hq
  | x :: xs, c :: d :: p, q, he, hq => by
    by_cases hx : x = 0
    · subst hx
      simp only [esc, if_true, List.cons_append, List.cons.injEq] at he
      obtain ⟨rfl, rfl, he⟩ := he
      have ih := pBytes_short xs p q he hq
      simp only [pBytes, if_true]
      rw [if_neg (by decide), ih]
    · simp only [esc, if_neg hx, List.cons_append, List.cons.injEq] at he
      obtain ⟨rfl, he⟩ := he
      have ih := pBytes_short xs (d :: p) q (by rw [he]; rfl) hq
      unfold pBytes
      rw [if_neg hx, ih]

mutual
theorem short_T : ∀ (t : T), shape t = true → fitT t → ∀ (f : Nat) (p q : List Int), 2 * p.length + 1 ≤ f → enc t = p ++ q → q ≠ [] → pVal f p = .error 5
  | _, _, _, 0, _, _, hle, _, _ => by omega
  | _, _, _, f + 1, [], _, _, _, _ => by simp [pVal]
  | .mk k n b l, hs, hf, f + 1, m :: p, q, hle, he, hq => by
    unfold fitT at hf
    obtain ⟨hn, hb, hl⟩ := hf
    unfold I64 at hn
    unfold shape at hs
    unfold enc at he
    simp only [List.length_cons] at hle
    by_cases k1 : k = 1
    · subst k1
      rw [if_pos rfl] at hs he
      by_cases hneg : n < 0
      · have h8 := wid_le (-1 - n)
        rw [encInt_neg n hneg] at he
        simp only [List.cons_append, List.cons.injEq] at he
        obtain ⟨rfl, he⟩ := he
        unfold pVal
        rw [if_neg (by omega), if_pos (by omega)]
        have hk : (31 - (31 - (wid (-1 - n) : Int))).toNat = wid (-1 - n) := by omega
        rw [hk]
        have hc := pInt_short ((31 - (wid (-1 - n) : Int)) == 23) true (wid (-1 - n)) true 0 (-1 - n) p q (by omega) (wid_lt' _ (by omega) (by omega)) (fun _ j hj => ⟨wid_ge _ (by omega) j hj, fun he => by
          have : wid (-1 - n) = 8 := by simp at he; omega
          have hj7 : j = 7 := by omega
          subst hj7; omega⟩) he hq
        rw [hc]
      · have h8 := wid_le n
        rw [encInt_pos n (by omega)] at he
        simp only [List.cons_append, List.cons.injEq] at he
        obtain ⟨rfl, he⟩ := he
        unfold pVal
        by_cases hz : wid n = 0
        · rw [hz] at he
          simp [digs] at he
          exact absurd he.2 hq
        · rw [if_pos (by omega)]
          have hk : (32 + (wid n : Int) - 32).toNat = wid n := by omega
          rw [hk]
          have hc := pInt_short ((32 + (wid n : Int)) == 40) false (wid n) true 0 n p q (by omega) (wid_lt' _ (by omega) (by omega)) (fun _ j hj => ⟨wid_ge _ (by omega) j hj, fun he => by
            have : wid n = 8 := by simp at he; omega
            have hj7 : j = 7 := by omega
            subst hj7; omega⟩) he hq
          rw [hc]
    · rw [if_neg k1] at hs he
      by_cases k2 : k = 2
      · subst k2
        rw [if_pos rfl] at hs he
        unfold encB at he
        simp only [List.cons_append, List.cons.injEq] at he
        obtain ⟨rfl, he⟩ := he
        unfold pVal
        rw [if_neg (by omega), if_neg (by omega), if_pos rfl, pBytes_short b p q he hq]
      · rw [if_neg k2] at hs he
        by_cases k3 : k = 3
        · subst k3
          rw [if_pos rfl] at hs
          simp only [Bool.and_eq_true] at hs
          simp only [List.cons_append, List.cons.injEq] at he
          obtain ⟨rfl, he⟩ := he
          unfold pVal
          rw [if_neg (by omega), if_neg (by omega), if_neg (by omega), if_pos rfl, short_L l hs.1 hl f p q (by omega) he hq]
        · rw [if_neg k3] at hs; cases hs
theorem short_L : ∀ (l : List T), shapeL l = true → fitL l → ∀ (f : Nat) (p q : List Int), 2 * p.length + 2 ≤ f → encL l ++ [0] = p ++ q → q ≠ [] → pList f p = .error 5
  | _, _, _, 0, _, _, hle, _, _ => by omega
  | _, _, _, f + 1, [], _, _, _, _ => by simp [pList]
  | [], _, _, f + 1, m :: p, q, hle, he, hq => by
    simp [encL] at he
    exact absurd he.2.2 hq
  | t :: ts, hs, hf, f + 1, m :: p, q, hle, he, hq => by
    unfold shapeL at hs
    unfold fitL at hf
    simp only [Bool.and_eq_true] at hs
    simp only [List.length_cons] at hle
    obtain ⟨m', rest, hm, hm0⟩ := enc_head t hs.1
    have hmm : m = m' := by
      simp only [encL, hm, List.cons_append, List.cons.injEq] at he
      exact he.1.symm
    subst hmm
    simp only [encL, List.append_assoc] at he
    unfold pList
    rw [if_neg hm0]
    rcases List.append_eq_append_iff.1 he with ⟨a', h1, h2⟩ | ⟨c', h1, h2⟩
    · have hlen : (m :: p).length = (enc t).length + a'.length := by rw [h1, List.length_append]
      have hpos : 1 ≤ (enc t).length := by rw [hm]; simp
      simp only [List.length_cons] at hlen
      rw [h1, complete_T t hs.1 hf.1 f a' (by omega)]
      simp only
      rw [short_L ts hs.2 hf.2 f a' q (by omega) h2 hq]
    · by_cases hc : c' = []
      · subst hc
        rw [List.append_nil] at h1
        rw [List.nil_append] at h2
        have hlen : (m :: p).length = (enc t).length := by rw [h1]
        simp only [List.length_cons] at hlen
        have := complete_T t hs.1 hf.1 f [] (by omega)
        rw [List.append_nil, h1] at this
        rw [this]
        simp only
        have h3 := short_L ts hs.2 hf.2 f [] q (by simp; omega) (by rw [← h2]; rfl) hq
        rw [h3]
      · rw [short_T t hs.1 hf.1 f (m :: p) c' (by simp; omega) h1 hc]
end

/-- A proper prefix. -/
theorem dec_prefix (t : T) (hf : fitT t) (h : chk t = 0) (p q : List Int) (he : enc t = p ++ q) (hq : q ≠ []) : dec p = .error 5 := by
  have hl : (enc t).length ≤ 65536 ∧ shape t = true := by
    unfold chk at h
    split at h
    · rename_i hs
      split at h
      · omega
      · exact ⟨by omega, hs⟩
    · omega
  have hlen : p.length ≤ (enc t).length := by rw [he, List.length_append]; omega
  unfold dec
  rw [if_neg (by omega), short_T t hl.2 hf (2 * p.length + 2) p q (by omega) he hq]

/-- Bytes behind an encoding. -/
theorem dec_more (t : T) (hf : fitT t) (h : chk t = 0) (more : List Int) (hm : more ≠ []) : dec (enc t ++ more) = .error (if 65536 < (enc t).length + more.length then 2 else 4) := by
  have hs : shape t = true := by
    unfold chk at h
    split at h
    · assumption
    · omega
  unfold dec
  rw [List.length_append]
  by_cases h6 : 65536 < (enc t).length + more.length
  · rw [if_pos h6, if_pos h6]
  · rw [if_neg h6, if_neg h6, complete_T t hs hf _ more (by omega)]
    simp only
    rw [if_neg hm]

end Go.Proofs.Ytjhjcigappkebaa
