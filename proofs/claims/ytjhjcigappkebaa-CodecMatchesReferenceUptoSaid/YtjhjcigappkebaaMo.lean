/-
  Plain mathematics: the byte order of the encodings is the order of the values, and values with one encoding are equal.
-/
import Derived.Test.YtjhjcigappkebaaMc
import Derived.Test.YtjhjcigappkebaaOb
namespace Go.Proofs.Ytjhjcigappkebaa
open Go.RowKit

/-- The order is decided by x and y, whatever follows them. -/
def Dec (x y : List Int) (c : Int) : Prop := ∀ r s, cmpB (x ++ r) (y ++ s) = if c ≠ 0 then c else cmpB r s

theorem dec_len : ∀ (x y : List Int), x.length = y.length → Dec x y (cmpB x y)
  | [], [], _, r, s => by simp [cmpB]
  | [], _ :: _, h, _, _ => by simp at h
  | _ :: _, [], h, _, _ => by simp at h
  | a :: ta, b :: tb, h, r, s => by
    have ih := dec_len ta tb (by simpa using h) r s
    simp only [List.cons_append, cmpB]
    split
    · rfl
    · split
      · rfl
      · exact ih

theorem dec_head (a b : Int) (x y : List Int) (h : a ≠ b) : Dec (a :: x) (b :: y) (ordI a b) := by
  intro r s
  simp only [List.cons_append, cmpB]
  rcases ordI_spec a b with ⟨h1, h2⟩ | ⟨h1, h2⟩ | ⟨h1, h2⟩
  · rw [if_pos h1, h2]; rfl
  · exact absurd h1 h
  · rw [if_neg (by omega), if_pos h1, h2]; rfl

theorem dec_tail (a : Int) (x y : List Int) (c : Int) (h : Dec x y c) : Dec (a :: x) (a :: y) c := by
  intro r s
  simp only [List.cons_append, cmpB, Int.lt_irrefl, if_false]
  exact h r s

theorem dec_int (m n : Int) (hm : I64 m) (hn : I64 n) : Dec (encInt m) (encInt n) (ordI m n) := by
  rw [← cmpB_encInt m n hm hn]
  by_cases h : (encInt m).length = (encInt n).length
  · exact dec_len _ _ h
  · have lm := encInt_length m
    have ln := encInt_length n
    have hd : ∀ k : Int, ∃ tl, encInt k = (if k < 0 then 31 - (wid (mag k) : Int) else 32 + (wid (mag k) : Int)) :: tl := by
      intro k
      unfold encInt
      by_cases hk : k < 0
      · rw [if_pos hk, if_pos hk]; exact ⟨_, rfl⟩
      · rw [if_neg hk, if_neg hk]
        have : mag k = k := by unfold mag; rw [if_neg hk]
        rw [this]; exact ⟨_, rfl⟩
    obtain ⟨tm, em⟩ := hd m
    obtain ⟨tn, en⟩ := hd n
    have hne : (if m < 0 then 31 - (wid (mag m) : Int) else 32 + (wid (mag m) : Int)) ≠ (if n < 0 then 31 - (wid (mag n) : Int) else 32 + (wid (mag n) : Int)) := by
      split <;> split <;> omega
    rw [em, en]
    generalize (if m < 0 then 31 - (wid (mag m) : Int) else 32 + (wid (mag m) : Int)) = a at *
    generalize (if n < 0 then 31 - (wid (mag n) : Int) else 32 + (wid (mag n) : Int)) = b at *
    have e : cmpB (a :: tm) (b :: tn) = ordI a b := by
      simp only [cmpB]
      rcases ordI_spec a b with ⟨h1, h2⟩ | ⟨h1, h2⟩ | ⟨h1, h2⟩
      · rw [if_pos h1, h2]
      · exact absurd h1 hne
      · rw [if_neg (by omega), if_pos h1, h2]
    rw [e]
    exact dec_head a b tm tn hne

theorem dec_esc : ∀ (b c : List Int), (∀ u ∈ b, 0 ≤ u ∧ u ≤ 255) → (∀ u ∈ c, 0 ≤ u ∧ u ≤ 255) → Dec (esc b ++ [0, 0]) (esc c ++ [0, 0]) (cmpB b c)
  | [], [], _, _, r, s => by simp [esc, cmpB]
  | [], y :: ys, _, hc, r, s => by
    have hy := hc y (by simp)
    by_cases h : y = 0
    · subst h; simp [esc, cmpB]
    · have hp : 0 < y := by omega
      simp [esc, cmpB, h, hp]
  | x :: xs, [], hb, _, r, s => by
    have hx := hb x (by simp)
    by_cases h : x = 0
    · subst h; simp [esc, cmpB]
    · have hp : 0 < x := by omega
      have hq : ¬ x < 0 := by omega
      simp [esc, cmpB, h, hp, hq]
  | x :: xs, y :: ys, hb, hc, r, s => by
    have ih := dec_esc xs ys (fun u hu => hb u (by simp [hu])) (fun u hu => hc u (by simp [hu])) r s
    have hx := hb x (by simp)
    have hy := hc y (by simp)
    simp only [cmpB]
    by_cases h : x = 0 <;> by_cases h' : y = 0
    · subst h; subst h'
      simp only [esc, if_true, List.cons_append, cmpB, Int.lt_irrefl, if_false]
      exact ih
    · subst h
      have hp : 0 < y := by omega
      simp only [esc, if_true, if_neg h', List.cons_append, cmpB, if_pos hp]
      rfl
    · subst h'
      have hp : 0 < x := by omega
      have hq : ¬ x < 0 := by omega
      simp only [esc, if_true, if_neg h, List.cons_append, cmpB, if_pos hp, if_neg hq]
      rfl
    · simp only [esc, if_neg h, if_neg h', List.cons_append, cmpB]
      rcases Int.lt_trichotomy x y with g | g | g
      · simp only [if_pos g]; rfl
      · subst g
        simp only [Int.lt_irrefl, if_false]
        exact ih
      · have g' : ¬ x < y := by omega
        simp only [if_pos g, if_neg g']; rfl

theorem enc_int_head (n : Int) : ∃ m rest, encInt n = m :: rest ∧ 23 ≤ m ∧ m ≤ 40 := by
  unfold encInt
  have h8 := wid_le (mag n)
  have h8' := wid_le n
  split
  · exact ⟨_, _, rfl, by omega, by omega⟩
  · exact ⟨_, _, rfl, by omega, by omega⟩

/-- The first byte of an encoding. -/
theorem enc_first (k n : Int) (b : List Int) (l : List T) (hs : shape (.mk k n b l) = true) :
    (k = 1 ∧ ∃ m rest, enc (.mk k n b l) = m :: rest ∧ 23 ≤ m ∧ m ≤ 40) ∨ (k = 2 ∧ ∃ rest, enc (.mk k n b l) = 48 :: rest) ∨ (k = 3 ∧ ∃ rest, enc (.mk k n b l) = 64 :: rest) := by
  unfold shape at hs
  unfold enc
  by_cases k1 : k = 1
  · subst k1
    exact Or.inl ⟨rfl, by rw [if_pos rfl]; exact enc_int_head n⟩
  · by_cases k2 : k = 2
    · subst k2
      exact Or.inr (Or.inl ⟨rfl, by rw [if_neg k1, if_pos rfl]; exact ⟨_, rfl⟩⟩)
    · rw [if_neg k1, if_neg k2] at hs ⊢
      split at hs
      · rename_i k3
        exact Or.inr (Or.inr ⟨k3, _, rfl⟩)
      · cases hs

mutual
theorem dec_T : ∀ (t u : T), shape t = true → shape u = true → fitT t → fitT u → Dec (enc t) (enc u) (cmpT t u)
  | .mk k n b l, .mk k' n' b' l', hs, hs', hf, hf' => by
    have e1 := enc_first k n b l hs
    have e2 := enc_first k' n' b' l' hs'
    unfold fitT at hf hf'
    by_cases hk : k = k'
    · subst hk
      rw [cmpT_eq]
      unfold shape at hs hs'
      unfold enc
      by_cases k1 : k = 1
      · rw [if_pos k1, if_pos k1, if_pos k1]
        exact dec_int n n' hf.1 hf'.1
      · rw [if_neg k1] at hs hs'
        rw [if_neg k1, if_neg k1, if_neg k1]
        by_cases k2 : k = 2
        · rw [if_pos k2, if_pos k2, if_pos k2]
          unfold encB
          exact dec_tail 48 _ _ _ (dec_esc b b' hf.2.1 hf'.2.1)
        · rw [if_neg k2] at hs hs'
          rw [if_neg k2, if_neg k2, if_neg k2]
          by_cases k3 : k = 3
          · rw [if_pos k3] at hs hs' ⊢
            simp only [Bool.and_eq_true] at hs hs'
            exact dec_tail 64 _ _ _ (dec_L l l' hs.1 hs'.1 hf.2.2 hf'.2.2)
          · rw [if_neg k3] at hs; cases hs
    · rw [cmpT_ne hk]
      have o := ordI_spec k k'
      rcases e1 with ⟨h1, m, rest, em, a1, a2⟩ | ⟨h1, rest, em⟩ | ⟨h1, rest, em⟩ <;> rcases e2 with ⟨h2, m', rest', em', b1, b2⟩ | ⟨h2, rest', em'⟩ | ⟨h2, rest', em'⟩ <;> first | (exfalso; omega) | skip
      all_goals
        rw [em, em']
        subst h1
        subst h2
      · have : ordI (1 : Int) 2 = ordI m 48 := by have := ordI_spec m 48; omega
        rw [this]; exact dec_head _ _ _ _ (by omega)
      · have : ordI (1 : Int) 3 = ordI m 64 := by have := ordI_spec m 64; omega
        rw [this]; exact dec_head _ _ _ _ (by omega)
      · have : ordI (2 : Int) 1 = ordI 48 m' := by have := ordI_spec 48 m'; omega
        rw [this]; exact dec_head _ _ _ _ (by omega)
      · have : ordI (2 : Int) 3 = ordI 48 64 := by decide
        rw [this]; exact dec_head _ _ _ _ (by omega)
      · have : ordI (3 : Int) 1 = ordI 64 m' := by have := ordI_spec 64 m'; omega
        rw [this]; exact dec_head _ _ _ _ (by omega)
      · have : ordI (3 : Int) 2 = ordI 64 48 := by decide
        rw [this]; exact dec_head _ _ _ _ (by omega)
theorem dec_L : ∀ (l m : List T), shapeL l = true → shapeL m = true → fitL l → fitL m → Dec (encL l ++ [0]) (encL m ++ [0]) (cmpL l m)
  | [], [], _, _, _, _, r, s => by simp [encL, cmpL, cmpB]
  | [], u :: us, _, hs', _, _, r, s => by
    unfold shapeL at hs'
    simp only [Bool.and_eq_true] at hs'
    obtain ⟨k, n, b, l⟩ := u
    have e := enc_first k n b l hs'.1
    have hh : ∃ m rest, enc (.mk k n b l) = m :: rest ∧ 0 < m := by
      rcases e with ⟨_, m, rest, em, a1, _⟩ | ⟨_, rest, em⟩ | ⟨_, rest, em⟩
      · exact ⟨m, rest, em, by omega⟩
      · exact ⟨_, _, em, by omega⟩
      · exact ⟨_, _, em, by omega⟩
    obtain ⟨m, rest, em, hm⟩ := hh
    simp [encL, cmpL, cmpB, em, hm]
  | t :: ts, [], hs, _, _, _, r, s => by
    unfold shapeL at hs
    simp only [Bool.and_eq_true] at hs
    obtain ⟨k, n, b, l⟩ := t
    have e := enc_first k n b l hs.1
    have hh : ∃ m rest, enc (.mk k n b l) = m :: rest ∧ 0 < m := by
      rcases e with ⟨_, m, rest, em, a1, _⟩ | ⟨_, rest, em⟩ | ⟨_, rest, em⟩
      · exact ⟨m, rest, em, by omega⟩
      · exact ⟨_, _, em, by omega⟩
      · exact ⟨_, _, em, by omega⟩
    obtain ⟨m, rest, em, hm⟩ := hh
    have hq : ¬ m < 0 := by omega
    simp [encL, cmpL, cmpB, em, hm, hq]
  | t :: ts, u :: us, hs, hs', hf, hf', r, s => by
    unfold shapeL at hs hs'
    unfold fitL at hf hf'
    simp only [Bool.and_eq_true] at hs hs'
    have h1 := dec_T t u hs.1 hs'.1 hf.1 hf'.1 (encL ts ++ [0] ++ r) (encL us ++ [0] ++ s)
    have h2 := dec_L ts us hs.2 hs'.2 hf.2 hf'.2 r s
    have key : ∀ c, cmpL (t :: ts) (u :: us) = c → cmpB (encL (t :: ts) ++ [0] ++ r) (encL (u :: us) ++ [0] ++ s) = if c ≠ 0 then c else cmpB r s := by
      intro c hc
      simp only [cmpL] at hc
      simp only [encL, List.append_assoc] at h1 h2 ⊢
      rw [h1]
      by_cases h : cmpT t u = 0
      · rw [if_neg (by omega)] at hc ⊢
        subst hc
        exact h2
      · rw [if_pos h] at hc ⊢
        subst hc
        rw [if_pos h]
    exact key _ rfl
end

theorem cmp_enc (t u : T) (ht : shape t = true) (hu : shape u = true) (ft : fitT t) (fu : fitT u) : cmpB (enc t) (enc u) = cmpT t u := by
  have h := dec_T t u ht hu ft fu [] []
  simp only [List.append_nil] at h
  rw [h]
  by_cases h0 : cmpT t u = 0
  · rw [if_neg (by omega), h0]; rfl
  · rw [if_pos h0]

theorem enc_inj (t u : T) (ht : shape t = true) (hu : shape u = true) (ft : fitT t) (fu : fitT u) (h : enc t = enc u) : t = u := by
  have h1 := complete_T t ht ft (2 * (enc t).length) [] (Nat.le_refl _)
  have h2 := complete_T u hu fu (2 * (enc t).length) [] (by rw [h]; omega)
  rw [← h, h1] at h2
  cases h2
  rfl

theorem chk_shape (t : T) (h : chk t = 0) : shape t = true := by
  unfold chk at h
  split at h
  · assumption
  · omega

end Go.Proofs.Ytjhjcigappkebaa
