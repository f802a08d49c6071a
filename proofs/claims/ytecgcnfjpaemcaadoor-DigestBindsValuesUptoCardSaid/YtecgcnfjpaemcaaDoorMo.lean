/-
  Plain mathematics: the byte order of the encodings is the order of the values, and values with one encoding are equal.
-/
import Derived.Test.YtecgcnfjpaemcaaDoorVa
import Derived.Test.YtecgcnfjpaemcaaDoorOb
namespace Go.Proofs.YtecgcnfjpaemcaaDoor
open Go.RowKit

theorem cmpB_digs (a b : Int) (ha : 0 ≤ a) (hb : 0 ≤ b) : ∀ k : Nat, cmpB (digs a k) (digs b k) = ordI (a % 256 ^ k) (b % 256 ^ k)
  | 0 => by simp [digs, cmpB, ordI]
  | k + 1 => by
    have hp : (0 : Int) < 256 ^ k := Int.pow_pos (by decide)
    have ih := cmpB_digs a b ha hb k
    have e : ∀ x : Int, x % 256 ^ (k + 1) = digit x k * 256 ^ k + x % 256 ^ k := by
      intro x
      unfold digit
      rw [Int.pow_succ]
      have h1 := Int.mul_ediv_add_emod x (256 ^ k)
      have h2 := Int.mul_ediv_add_emod (x / 256 ^ k) 256
      have h3 := Int.emod_nonneg x (Int.ne_of_gt hp)
      have h4 := Int.emod_lt_of_pos x hp
      have h5 := Int.emod_nonneg (x / 256 ^ k) (show (256 : Int) ≠ 0 by decide)
      have h6 := Int.emod_lt_of_pos (x / 256 ^ k) (show (0 : Int) < 256 by decide)
      generalize (256 : Int) ^ k = P at *
      generalize x % P = r at *
      generalize x / P % 256 = d at *
      generalize x / P / 256 = q at *
      generalize x / P = u at *
      subst h2
      have h7 : x = (d * P + r) + P * 256 * q := by
        rw [← h1, Int.mul_add, Int.mul_assoc, Int.mul_comm P d]; omega
      have h8 : d * P ≤ 255 * P := Int.mul_le_mul_of_nonneg_right (by omega) (by omega)
      have h9 : 0 ≤ d * P := Int.mul_nonneg h5 (by omega)
      rw [h7, Int.add_mul_emod_self_left]
      exact Int.emod_eq_of_lt (by omega) (by omega)
    unfold digs cmpB
    rw [ih, e a, e b]
    have ra := Int.emod_nonneg a (Int.ne_of_gt hp)
    have rb := Int.emod_nonneg b (Int.ne_of_gt hp)
    have sa := Int.emod_lt_of_pos a hp
    have sb := Int.emod_lt_of_pos b hp
    generalize a % 256 ^ k = x at *
    generalize b % 256 ^ k = y at *
    generalize (256 : Int) ^ k = P at *
    generalize digit a k = c at *
    generalize digit b k = d at *
    unfold ordI
    rcases Int.lt_trichotomy c d with h | h | h
    · have h5 : (c + 1) * P ≤ d * P := Int.mul_le_mul_of_nonneg_right (by omega) (by omega)
      rw [Int.add_mul, Int.one_mul] at h5
      rw [if_pos h, if_pos (by omega)]
    · subst h
      rw [if_neg (Int.lt_irrefl c), if_neg (Int.lt_irrefl c)]
      simp only [Int.add_lt_add_iff_left]
    · have h5 : (d + 1) * P ≤ c * P := Int.mul_le_mul_of_nonneg_right (by omega) (by omega)
      rw [Int.add_mul, Int.one_mul] at h5
      rw [if_neg (by omega), if_pos h, if_neg (by omega), if_pos (by omega)]

theorem cmpB_compl : ∀ (x y : List Int), x.length = y.length → cmpB (x.map (255 - ·)) (y.map (255 - ·)) = cmpB y x
  | [], [], _ => rfl
  | [], _ :: _, h => by simp at h
  | _ :: _, [], h => by simp at h
  | a :: ta, b :: tb, h => by
    have ih := cmpB_compl ta tb (by simpa using h)
    simp only [List.map_cons, cmpB, ih]
    rcases Int.lt_trichotomy a b with h | h | h
    · rw [if_neg (by omega), if_pos (by omega), if_neg (by omega), if_pos (by omega)]
    · subst h; simp
    · rw [if_pos (by omega), if_pos (by omega)]

theorem wid_mono (a b : Int) (ha : 0 ≤ a) (hb : 0 ≤ b) (h : wid a < wid b) : a < b := by
  rcases Int.lt_or_le a b with h' | h'
  · exact h'
  · exfalso
    have h8 := wid_le b
    have hz := (wid_stop a ha (wid a) (by omega)).2 (Nat.le_refl _)
    have hp : (0 : Int) < 256 ^ wid a := Int.pow_pos (by decide)
    have hl := Int.lt_ediv_add_one_mul_self a hp
    rw [hz] at hl
    have := (wid_stop b hb (wid a) (by omega)).1 (Int.ediv_eq_zero_of_lt hb (by omega))
    omega
theorem wid_lt (a : Int) (h0 : 0 ≤ a) (h1 : a ≤ 9223372036854775807) : a < 256 ^ wid a := by
  by_cases h : wid a < 8
  · have hz := (wid_stop a h0 (wid a) h).2 (Nat.le_refl _)
    have hp : (0 : Int) < 256 ^ wid a := Int.pow_pos (by decide)
    have hl := Int.lt_ediv_add_one_mul_self a hp
    rw [hz] at hl
    omega
  · have h8 : wid a = 8 := by have := wid_le a; omega
    rw [h8]
    omega

theorem cmpB_encInt (m n : Int) (hm : I64 m) (hn : I64 n) : cmpB (encInt m) (encInt n) = ordI m n := by
  unfold I64 at hm hn
  have wm := wid_le (mag m)
  have wn := wid_le (mag n)
  have key : ∀ a b : Int, 0 ≤ a → 0 ≤ b → a ≤ 9223372036854775807 → b ≤ 9223372036854775807 → wid a = wid b → cmpB (digs a (wid a)) (digs b (wid b)) = ordI a b := by
    intro a b ha hb ha1 hb1 he
    have h1 := wid_lt a ha ha1
    have h2 := wid_lt b hb hb1
    rw [← he] at h2 ⊢
    rw [cmpB_digs a b ha hb, Int.emod_eq_of_lt ha h1, Int.emod_eq_of_lt hb h2]
  unfold encInt
  by_cases h1 : m < 0 <;> by_cases h2 : n < 0
  · rw [if_pos h1, if_pos h2]
    have em : mag m = -m - 1 := by unfold mag; rw [if_pos h1]
    have en : mag n = -n - 1 := by unfold mag; rw [if_pos h2]
    unfold cmpB
    rcases Nat.lt_trichotomy (wid (mag m)) (wid (mag n)) with h | h | h
    · have := wid_mono _ _ (by omega) (by omega) h
      rw [if_neg (by omega), if_pos (by omega)]; unfold ordI; rw [if_neg (by omega), if_pos (by omega)]
    · rw [if_neg (by omega), if_neg (by omega), cmpB_compl _ _ (by rw [digs_length, digs_length, h]), key _ _ (by omega) (by omega) (by omega) (by omega) h.symm, em, en]
      unfold ordI
      by_cases h3 : m < n
      · rw [if_pos h3, if_pos (by omega)]
      · rw [if_neg h3, if_neg (by omega)]
        by_cases h4 : n < m
        · rw [if_pos h4, if_pos (by omega)]
        · rw [if_neg h4, if_neg (by omega)]
    · have := wid_mono _ _ (by omega) (by omega) h
      rw [if_pos (by omega)]; unfold ordI; rw [if_pos (by omega)]
  · rw [if_pos h1, if_neg h2]
    have en : mag n = n := by unfold mag; rw [if_neg h2]
    unfold cmpB
    rw [if_pos (by omega)]; unfold ordI; rw [if_pos (by omega)]
  · rw [if_neg h1, if_pos h2]
    have em : mag m = m := by unfold mag; rw [if_neg h1]
    unfold cmpB
    rw [if_neg (by omega), if_pos (by omega)]; unfold ordI; rw [if_neg (by omega), if_pos (by omega)]
  · rw [if_neg h1, if_neg h2]
    unfold cmpB
    rcases Nat.lt_trichotomy (wid m) (wid n) with h | h | h
    · have := wid_mono _ _ (by omega) (by omega) h
      rw [if_pos (by omega)]; unfold ordI; rw [if_pos (by omega)]
    · rw [if_neg (by omega), if_neg (by omega), key _ _ (by omega) (by omega) (by omega) (by omega) h]
    · have := wid_mono _ _ (by omega) (by omega) h
      rw [if_neg (by omega), if_pos (by omega)]; unfold ordI; rw [if_neg (by omega), if_pos (by omega)]

mutual
/-- The numbers of a tree fit. -/
def fitT : T → Prop
  | .mk _ n b l => I64 n ∧ (∀ u ∈ b, 0 ≤ u ∧ u ≤ 255) ∧ fitL l
def fitL : List T → Prop
  | [] => True
  | t :: ts => fitT t ∧ fitL ts
end

mutual
theorem Rd.fit {F : Nat → Prop} {w : World} : ∀ (t : T) (v : Value), Rd F w t v → fitT t
  | .mk k n b l, v, h => by
    unfold Rd at h
    obtain ⟨vb, a, cap, _, _, hn, hb, _, _, hl⟩ := h
    unfold fitT
    refine ⟨hn, hb.2.1, ?_⟩
    cases l with
    | nil => unfold fitL; trivial
    | cons t ts =>
      obtain ⟨g, off, _, _, hr⟩ := hl (by simp)
      exact RdL.fit (t :: ts) g off hr
theorem RdL.fit {F : Nat → Prop} {w : World} : ∀ (l : List T) (g off : Nat), RdL F w l g off → fitL l
  | [], _, _, _ => by unfold fitL; trivial
  | t :: ts, g, off, h => by
    unfold RdL at h
    unfold fitL
    obtain ⟨⟨x0, x1, x2, x3, _, _, _, _, ht⟩, hts⟩ := h
    exact ⟨Rd.fit t _ ht, RdL.fit ts g (off + 4) hts⟩
end

theorem cmpB_eq : ∀ (a b : List Int), cmpB a b = 0 ↔ a = b
  | [], [] => by simp [cmpB]
  | [], _ :: _ => by simp [cmpB]
  | _ :: _, [] => by simp [cmpB]
  | x :: a, y :: b => by
    have ih := cmpB_eq a b
    simp only [cmpB]
    split
    · constructor
      · intro h; simp at h
      · intro h; injection h with h1 _; omega
    · split
      · constructor
        · intro h; simp at h
        · intro h; injection h with h1 _; omega
      · rw [ih]
        have : x = y := by omega
        subst this
        simp


/-- The order is decided by x and y, whatever follows them. -/
def Dec (x y : List Int) (c : Int) : Prop := ∀ r s, cmpB (x ++ r) (y ++ s) = if c ≠ 0 then c else cmpB r s

theorem dec_len : ∀ (x y : List Int), x.length = y.length → Dec x y (cmpB x y)
  | [], [], _, r, s => by simp [cmpB]
  | [], _ :: _, h, _, _ => by simp at h
  | _ :: _, [], h, _, _ => by simp at h
  | a :: ta, b :: tb, h, r, s => by
    have ih := dec_len ta tb (by simpa using h) r s
    simp only [List.cons_append, cmpB]
    split
    · rfl
    · split
      · rfl
      · exact ih

theorem dec_head (a b : Int) (x y : List Int) (h : a ≠ b) : Dec (a :: x) (b :: y) (ordI a b) := by
  intro r s
  simp only [List.cons_append, cmpB]
  rcases ordI_spec a b with ⟨h1, h2⟩ | ⟨h1, h2⟩ | ⟨h1, h2⟩
  · rw [if_pos h1, h2]; rfl
  · exact absurd h1 h
  · rw [if_neg (by omega), if_pos h1, h2]; rfl

theorem dec_tail (a : Int) (x y : List Int) (c : Int) (h : Dec x y c) : Dec (a :: x) (a :: y) c := by
  intro r s
  simp only [List.cons_append, cmpB, Int.lt_irrefl, if_false]
  exact h r s

theorem dec_int (m n : Int) (hm : I64 m) (hn : I64 n) : Dec (encInt m) (encInt n) (ordI m n) := by
  rw [← cmpB_encInt m n hm hn]
  by_cases h : (encInt m).length = (encInt n).length
  · exact dec_len _ _ h
  · have lm := encInt_length m
    have ln := encInt_length n
    have hd : ∀ k : Int, ∃ tl, encInt k = (if k < 0 then 31 - (wid (mag k) : Int) else 32 + (wid (mag k) : Int)) :: tl := by
      intro k
      unfold encInt
      by_cases hk : k < 0
      · rw [if_pos hk, if_pos hk]; exact ⟨_, rfl⟩
      · rw [if_neg hk, if_neg hk]
        have : mag k = k := by unfold mag; rw [if_neg hk]
        rw [this]; exact ⟨_, rfl⟩
    obtain ⟨tm, em⟩ := hd m
    obtain ⟨tn, en⟩ := hd n
    have hne : (if m < 0 then 31 - (wid (mag m) : Int) else 32 + (wid (mag m) : Int)) ≠ (if n < 0 then 31 - (wid (mag n) : Int) else 32 + (wid (mag n) : Int)) := by
      split <;> split <;> omega
    rw [em, en]
    generalize (if m < 0 then 31 - (wid (mag m) : Int) else 32 + (wid (mag m) : Int)) = a at *
    generalize (if n < 0 then 31 - (wid (mag n) : Int) else 32 + (wid (mag n) : Int)) = b at *
    have e : cmpB (a :: tm) (b :: tn) = ordI a b := by
      simp only [cmpB]
      rcases ordI_spec a b with ⟨h1, h2⟩ | ⟨h1, h2⟩ | ⟨h1, h2⟩
      · rw [if_pos h1, h2]
      · exact absurd h1 hne
      · rw [if_neg (by omega), if_pos h1, h2]
    rw [e]
    exact dec_head a b tm tn hne

theorem dec_esc : ∀ (b c : List Int), (∀ u ∈ b, 0 ≤ u ∧ u ≤ 255) → (∀ u ∈ c, 0 ≤ u ∧ u ≤ 255) → Dec (esc b ++ [0, 0]) (esc c ++ [0, 0]) (cmpB b c)
  | [], [], _, _, r, s => by simp [esc, cmpB]
  | [], y :: ys, _, hc, r, s => by
    have hy := hc y (by simp)
    by_cases h : y = 0
    · subst h; simp [esc, cmpB]
    · have hp : 0 < y := by omega
      simp [esc, cmpB, h, hp]
  | x :: xs, [], hb, _, r, s => by
    have hx := hb x (by simp)
    by_cases h : x = 0
    · subst h; simp [esc, cmpB]
    · have hp : 0 < x := by omega
      have hq : ¬ x < 0 := by omega
      simp [esc, cmpB, h, hp, hq]
  | x :: xs, y :: ys, hb, hc, r, s => by
    have ih := dec_esc xs ys (fun u hu => hb u (by simp [hu])) (fun u hu => hc u (by simp [hu])) r s
    have hx := hb x (by simp)
    have hy := hc y (by simp)
    simp only [cmpB]
    by_cases h : x = 0 <;> by_cases h' : y = 0
    · subst h; subst h'
      simp only [esc, if_true, List.cons_append, cmpB, Int.lt_irrefl, if_false]
      exact ih
    · subst h
      have hp : 0 < y := by omega
      simp only [esc, if_true, if_neg h', List.cons_append, cmpB, if_pos hp]
      rfl
    · subst h'
      have hp : 0 < x := by omega
      have hq : ¬ x < 0 := by omega
      simp only [esc, if_true, if_neg h, List.cons_append, cmpB, if_pos hp, if_neg hq]
      rfl
    · simp only [esc, if_neg h, if_neg h', List.cons_append, cmpB]
      rcases Int.lt_trichotomy x y with g | g | g
      · simp only [if_pos g]; rfl
      · subst g
        simp only [Int.lt_irrefl, if_false]
        exact ih
      · have g' : ¬ x < y := by omega
        simp only [if_pos g, if_neg g']; rfl

theorem enc_int_head (n : Int) : ∃ m rest, encInt n = m :: rest ∧ 23 ≤ m ∧ m ≤ 40 := by
  unfold encInt
  have h8 := wid_le (mag n)
  have h8' := wid_le n
  split
  · exact ⟨_, _, rfl, by omega, by omega⟩
  · exact ⟨_, _, rfl, by omega, by omega⟩

/-- The first byte of an encoding. -/
theorem enc_first (k n : Int) (b : List Int) (l : List T) (hs : shape (.mk k n b l) = true) :
    (k = 1 ∧ ∃ m rest, enc (.mk k n b l) = m :: rest ∧ 23 ≤ m ∧ m ≤ 40) ∨ (k = 2 ∧ ∃ rest, enc (.mk k n b l) = 48 :: rest) ∨ (k = 3 ∧ ∃ rest, enc (.mk k n b l) = 64 :: rest) := by
  unfold shape at hs
  unfold enc
  by_cases k1 : k = 1
  · subst k1
    exact Or.inl ⟨rfl, by rw [if_pos rfl]; exact enc_int_head n⟩
  · by_cases k2 : k = 2
    · subst k2
      exact Or.inr (Or.inl ⟨rfl, by rw [if_neg k1, if_pos rfl]; exact ⟨_, rfl⟩⟩)
    · rw [if_neg k1, if_neg k2] at hs ⊢
      split at hs
      · rename_i k3
        exact Or.inr (Or.inr ⟨k3, _, rfl⟩)
      · cases hs

mutual
theorem dec_T : ∀ (t u : T), shape t = true → shape u = true → fitT t → fitT u → Dec (enc t) (enc u) (cmpT t u)
  | .mk k n b l, .mk k' n' b' l', hs, hs', hf, hf' => by
    have e1 := enc_first k n b l hs
    have e2 := enc_first k' n' b' l' hs'
    unfold fitT at hf hf'
    by_cases hk : k = k'
    · subst hk
      rw [cmpT_eq]
      unfold shape at hs hs'
      unfold enc
      by_cases k1 : k = 1
      · rw [if_pos k1, if_pos k1, if_pos k1]
        exact dec_int n n' hf.1 hf'.1
      · rw [if_neg k1] at hs hs'
        rw [if_neg k1, if_neg k1, if_neg k1]
        by_cases k2 : k = 2
        · rw [if_pos k2, if_pos k2, if_pos k2]
          unfold encB
          exact dec_tail 48 _ _ _ (dec_esc b b' hf.2.1 hf'.2.1)
        · rw [if_neg k2] at hs hs'
          rw [if_neg k2, if_neg k2, if_neg k2]
          by_cases k3 : k = 3
          · rw [if_pos k3] at hs hs' ⊢
            simp only [Bool.and_eq_true] at hs hs'
            exact dec_tail 64 _ _ _ (dec_L l l' hs.1 hs'.1 hf.2.2 hf'.2.2)
          · rw [if_neg k3] at hs; cases hs
    · rw [cmpT_ne hk]
      have o := ordI_spec k k'
      rcases e1 with ⟨h1, m, rest, em, a1, a2⟩ | ⟨h1, rest, em⟩ | ⟨h1, rest, em⟩ <;> rcases e2 with ⟨h2, m', rest', em', b1, b2⟩ | ⟨h2, rest', em'⟩ | ⟨h2, rest', em'⟩ <;> first | (exfalso; omega) | skip
      all_goals
        rw [em, em']
        subst h1
        subst h2
      · have : ordI (1 : Int) 2 = ordI m 48 := by have := ordI_spec m 48; omega
        rw [this]; exact dec_head _ _ _ _ (by omega)
      · have : ordI (1 : Int) 3 = ordI m 64 := by have := ordI_spec m 64; omega
        rw [this]; exact dec_head _ _ _ _ (by omega)
      · have : ordI (2 : Int) 1 = ordI 48 m' := by have := ordI_spec 48 m'; omega
        rw [this]; exact dec_head _ _ _ _ (by omega)
      · have : ordI (2 : Int) 3 = ordI 48 64 := by decide
        rw [this]; exact dec_head _ _ _ _ (by omega)
      · have : ordI (3 : Int) 1 = ordI 64 m' := by have := ordI_spec 64 m'; omega
        rw [this]; exact dec_head _ _ _ _ (by omega)
      · have : ordI (3 : Int) 2 = ordI 64 48 := by decide
        rw [this]; exact dec_head _ _ _ _ (by omega)
theorem dec_L : ∀ (l m : List T), shapeL l = true → shapeL m = true → fitL l → fitL m → Dec (encL l ++ [0]) (encL m ++ [0]) (cmpL l m)
  | [], [], _, _, _, _, r, s => by simp [encL, cmpL, cmpB]
  | [], u :: us, _, hs', _, _, r, s => by
    unfold shapeL at hs'
    simp only [Bool.and_eq_true] at hs'
    obtain ⟨k, n, b, l⟩ := u
    have e := enc_first k n b l hs'.1
    have hh : ∃ m rest, enc (.mk k n b l) = m :: rest ∧ 0 < m := by
      rcases e with ⟨_, m, rest, em, a1, _⟩ | ⟨_, rest, em⟩ | ⟨_, rest, em⟩
      · exact ⟨m, rest, em, by omega⟩
      · exact ⟨_, _, em, by omega⟩
      · exact ⟨_, _, em, by omega⟩
    obtain ⟨m, rest, em, hm⟩ := hh
    simp [encL, cmpL, cmpB, em, hm]
  | t :: ts, [], hs, _, _, _, r, s => by
    unfold shapeL at hs
    simp only [Bool.and_eq_true] at hs
    obtain ⟨k, n, b, l⟩ := t
    have e := enc_first k n b l hs.1
    have hh : ∃ m rest, enc (.mk k n b l) = m :: rest ∧ 0 < m := by
      rcases e with ⟨_, m, rest, em, a1, _⟩ | ⟨_, rest, em⟩ | ⟨_, rest, em⟩
      · exact ⟨m, rest, em, by omega⟩
      · exact ⟨_, _, em, by omega⟩
      · exact ⟨_, _, em, by omega⟩
    obtain ⟨m, rest, em, hm⟩ := hh
    have hq : ¬ m < 0 := by omega
    simp [encL, cmpL, cmpB, em, hm, hq]
  | t :: ts, u :: us, hs, hs', hf, hf', r, s => by
    unfold shapeL at hs hs'
    unfold fitL at hf hf'
    simp only [Bool.and_eq_true] at hs hs'
    have h1 := dec_T t u hs.1 hs'.1 hf.1 hf'.1 (encL ts ++ [0] ++ r) (encL us ++ [0] ++ s)
    have h2 := dec_L ts us hs.2 hs'.2 hf.2 hf'.2 r s
    have key : ∀ c, cmpL (t :: ts) (u :: us) = c → cmpB (encL (t :: ts) ++ [0] ++ r) (encL (u :: us) ++ [0] ++ s) = if c ≠ 0 then c else cmpB r s := by
      intro c hc
      simp only [cmpL] at hc
      simp only [encL, List.append_assoc] at h1 h2 ⊢
      rw [h1]
      by_cases h : cmpT t u = 0
      · rw [if_neg (by omega)] at hc ⊢
        subst hc
        exact h2
      · rw [if_pos h] at hc ⊢
        subst hc
        rw [if_pos h]
    exact key _ rfl
end

theorem cmp_enc (t u : T) (ht : shape t = true) (hu : shape u = true) (ft : fitT t) (fu : fitT u) : cmpB (enc t) (enc u) = cmpT t u := by
  have h := dec_T t u ht hu ft fu [] []
  simp only [List.append_nil] at h
  rw [h]
  by_cases h0 : cmpT t u = 0
  · rw [if_neg (by omega), h0]; rfl
  · rw [if_pos h0]

theorem chk_shape (t : T) (h : chk t = 0) : shape t = true := by
  unfold chk at h
  split at h
  · assumption
  · omega


theorem cmpT_enc (t u : T) (ht : chk t = 0) (hu : chk u = 0) (ft : fitT t) (fu : fitT u) : cmpT t u = 0 ↔ enc t = enc u := by
  rw [← cmp_enc t u (chk_shape t ht) (chk_shape u hu) ft fu, cmpB_eq]

end Go.Proofs.YtecgcnfjpaemcaaDoor
