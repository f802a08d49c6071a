/-
  Plain mathematics: reading and encoding are inverse to each other.
-/
import Derived.Test.YtjhjcigappkebaaMa
namespace Go.Proofs.Ytjhjcigappkebaa
open Go.RowKit

mutual
/-- The numbers of a tree fit. -/
def fitT : T → Prop
  | .mk _ n b l => I64 n ∧ (∀ u ∈ b, 0 ≤ u ∧ u ≤ 255) ∧ fitL l
def fitL : List T → Prop
  | [] => True
  | t :: ts => fitT t ∧ fitL ts
end

/-- Between two powers of 256 the width is known. -/
theorem wid_eq (n : Int) (k : Nat) (hk : k ≤ 8) (h0 : 0 ≤ n) (h1 : n < 256 ^ k) (h2 : ∀ j, k = j + 1 → 256 ^ j ≤ n) : wid n = k := by
  have h8 := wid_le n
  have a : k < 8 → wid n ≤ k := fun h => (wid_stop n h0 k h).1 (Int.ediv_eq_zero_of_lt h0 h1)
  have b : ∀ j, k = j + 1 → ¬ wid n ≤ j := by
    intro j hj hle
    have hz := (wid_stop n h0 j (by omega)).2 hle
    have hp : (0 : Int) < 256 ^ j := Int.pow_pos (by decide)
    have hl := Int.lt_ediv_add_one_mul_self n hp
    rw [hz] at hl
    have := h2 j hj
    omega
  cases k with
  | zero => have := a (by omega); omega
  | succ j => have := b j rfl; by_cases h : j + 1 < 8 <;> omega

theorem wid_lt' (a : Int) (h0 : 0 ≤ a) (h1 : a ≤ 9223372036854775807) : a < 256 ^ wid a := by
  by_cases h : wid a < 8
  · have hz := (wid_stop a h0 (wid a) h).2 (Nat.le_refl _)
    have hp : (0 : Int) < 256 ^ wid a := Int.pow_pos (by decide)
    have hl := Int.lt_ediv_add_one_mul_self a hp
    rw [hz] at hl
    omega
  · have h8 : wid a = 8 := by have := wid_le a; omega
    rw [h8]
    omega
theorem wid_ge (a : Int) (h0 : 0 ≤ a) (j : Nat) (hj : wid a = j + 1) : 256 ^ j ≤ a := by
  have h8 := wid_le a
  rcases Int.lt_or_le a (256 ^ j) with h | h
  · have := (wid_stop a h0 j (by omega)).1 (Int.ediv_eq_zero_of_lt h0 h)
    omega
  · exact h

theorem map_fl_false (l : List Int) : l.map (fl false) = l := by
  induction l with
  | nil => rfl
  | cons x xs ih => rw [List.map_cons, ih]; rfl
theorem map_fl_true (l : List Int) : l.map (fl true) = l.map (255 - ·) := rfl

/-- An integer that is not negative, read back. -/
theorem encInt_pos (n : Int) (h : 0 ≤ n) : encInt n = (32 + (wid n : Int)) :: (digs n (wid n)).map (fl false) := by
  rw [map_fl_false]
  unfold encInt
  rw [if_neg (by omega)]
theorem encInt_neg (n : Int) (h : n < 0) : encInt n = (31 - (wid (-1 - n) : Int)) :: (digs (-1 - n) (wid (-1 - n))).map (fl true) := by
  have e : mag n = -1 - n := by unfold mag; rw [if_pos h]; omega
  unfold encInt
  rw [if_pos h, e, map_fl_true]

theorem read_int (m : Int) (eight flip : Bool) (k : Nat) (l : List Int) (n : Int) (r : List Int) (hk : k ≤ 8) (h8 : eight = (k == 8)) (hl : ∀ u ∈ l, 0 ≤ u ∧ u ≤ 255) (h : pInt eight flip k true 0 l = .ok (n, r)) :
    0 ≤ n ∧ n ≤ 9223372036854775807 ∧ wid n = k ∧ l = (digs n k).map (fl flip) ++ r := by
  obtain ⟨v, h1, h2, h3, h4, h5⟩ := pInt_sound eight flip k true 0 l n r hl h
  have hv : n = v := by rw [h3]; simp
  subst hv
  have hw := wid_eq n k hk h1 h2 (fun j hj => (h5 rfl j hj).1)
  refine ⟨h1, ?_, hw, h4⟩
  by_cases hk8 : k = 8
  · subst hk8
    have := (h5 rfl 7 rfl).2 (by rw [h8]; rfl)
    omega
  · have hcs : k = 0 ∨ k = 1 ∨ k = 2 ∨ k = 3 ∨ k = 4 ∨ k = 5 ∨ k = 6 ∨ k = 7 := by omega
    rcases hcs with rfl | rfl | rfl | rfl | rfl | rfl | rfl | rfl <;> omega

theorem sound_both : ∀ (f : Nat), (∀ (b : List Int) (t : T) (r : List Int), (∀ u ∈ b, 0 ≤ u ∧ u ≤ 255) → pVal f b = .ok (t, r) → b = enc t ++ r ∧ shape t = true) ∧
    (∀ (b : List Int) (l : List T) (r : List Int), (∀ u ∈ b, 0 ≤ u ∧ u ≤ 255) → pList f b = .ok (l, r) → b = encL l ++ (0 :: r) ∧ shapeL l = true) := by
  intro f
  induction f with
  | zero => exact ⟨fun b t r _ h => by simp [pVal] at h, fun b l r _ h => by simp [pList] at h⟩
  | succ f ih =>
    obtain ⟨ihv, ihl⟩ := ih
    constructor
    · intro b t r hb h
      cases b with
      | nil => simp [pVal] at h
      | cons m rest =>
        have hm := hb m (by simp)
        have hrest : ∀ u ∈ rest, 0 ≤ u ∧ u ≤ 255 := fun u hu => hb u (by simp [hu])
        simp only [pVal] at h
        split at h
        · rename_i hm1
          cases hp : pInt (m == 40) false (m - 32).toNat true 0 rest with
          | error e => rw [hp] at h; cases h
          | ok x =>
            obtain ⟨n, r'⟩ := x
            rw [hp] at h
            cases h
            obtain ⟨a1, a2, a3, a4⟩ := read_int m (m == 40) false (m - 32).toNat rest n r (by omega) (by
              by_cases h40 : m = 40
              · subst h40; rfl
              · have : ¬ (m - 32).toNat = 8 := by omega
                rw [beq_eq_false_iff_ne.2 h40, beq_eq_false_iff_ne.2 this]) hrest hp
            have em : m = 32 + ((m - 32).toNat : Int) := by omega
            constructor
            · unfold enc
              rw [if_pos rfl, encInt_pos n a1, a3, ← em, a4]
              rfl
            · unfold shape; rw [if_pos rfl]; rfl
        · split at h
          · rename_i hm1
            cases hp : pInt (m == 23) true (31 - m).toNat true 0 rest with
            | error e => rw [hp] at h; cases h
            | ok x =>
              obtain ⟨n, r'⟩ := x
              rw [hp] at h
              cases h
              obtain ⟨a1, a2, a3, a4⟩ := read_int m (m == 23) true (31 - m).toNat rest n r (by omega) (by
                by_cases h23 : m = 23
                · subst h23; rfl
                · have : ¬ (31 - m).toNat = 8 := by omega
                  rw [beq_eq_false_iff_ne.2 h23, beq_eq_false_iff_ne.2 this]) hrest hp
              have em : m = 31 - ((31 - m).toNat : Int) := by omega
              have en : -1 - (-1 - n) = n := by omega
              constructor
              · unfold enc
                rw [if_pos rfl, encInt_neg (-1 - n) (by omega), en, a3, ← em, a4]
                rfl
              · unfold shape; rw [if_pos rfl]; rfl
          · split at h
            · rename_i hm1
              subst hm1
              cases hp : pBytes rest with
              | error e => rw [hp] at h; cases h
              | ok x =>
                obtain ⟨s, r'⟩ := x
                rw [hp] at h
                cases h
                have := pBytes_sound _ _ _ _ (Nat.le_refl _) hp
                constructor
                · unfold enc
                  rw [if_neg (by decide), if_pos rfl, encB, this]
                  simp
                · unfold shape; rw [if_neg (by decide), if_pos rfl]; rfl
            · split at h
              · rename_i hm1
                subst hm1
                cases hp : pList f rest with
                | error e => rw [hp] at h; cases h
                | ok x =>
                  obtain ⟨s, r'⟩ := x
                  rw [hp] at h
                  cases h
                  obtain ⟨a1, a2⟩ := ihl _ _ _ hrest hp
                  constructor
                  · unfold enc
                    rw [if_neg (by decide), if_neg (by decide), a1]
                    simp
                  · unfold shape; rw [if_neg (by decide), if_neg (by decide), if_pos rfl, a2]; rfl
              · cases h
    · intro b l r hb h
      cases b with
      | nil => simp [pList] at h
      | cons m rest =>
        simp only [pList] at h
        split at h
        · rename_i hm
          subst hm
          cases h
          exact ⟨by simp [encL], by simp [shapeL]⟩
        · cases hp : pVal f (m :: rest) with
          | error e => rw [hp] at h; cases h
          | ok x =>
            obtain ⟨t, r1⟩ := x
            rw [hp] at h
            simp only at h
            obtain ⟨a1, a2⟩ := ihv _ _ _ hb hp
            cases hq : pList f r1 with
            | error e => rw [hq] at h; cases h
            | ok y =>
              obtain ⟨ts, r2⟩ := y
              rw [hq] at h
              cases h
              obtain ⟨c1, c2⟩ := ihl _ _ _ (fun u hu => hb u (by rw [a1]; simp [hu])) hq
              constructor
              · rw [a1, c1]; simp [encL]
              · simp [shapeL, a2, c2]

/-- What Decode accepts is the encoding of what it returns, and Check accepts that. -/
theorem dec_sound (b : List Int) (t : T) (hb : ∀ u ∈ b, 0 ≤ u ∧ u ≤ 255) (h : dec b = .ok t) : enc t = b ∧ chk t = 0 := by
  unfold dec at h
  split at h
  · cases h
  · rename_i hlen
    cases hp : pVal (2 * b.length + 2) b with
    | error e => rw [hp] at h; cases h
    | ok x =>
      obtain ⟨t', r⟩ := x
      rw [hp] at h
      simp only at h
      split at h
      · rename_i hr
        subst hr
        split at h
        · cases h
        · rename_i hn
          cases h
          obtain ⟨a1, a2⟩ := (sound_both _).1 b t [] hb hp
          rw [List.append_nil] at a1
          refine ⟨a1.symm, ?_⟩
          unfold chk
          rw [if_pos a2, if_neg]
          rw [← a1]
          omega
      · cases h

theorem enc_head (t : T) (ht : shape t = true) : ∃ m rest, enc t = m :: rest ∧ m ≠ 0 := by
  cases t with
  | mk k n b l =>
    unfold enc
    split
    · unfold encInt
      have h8 := wid_le (mag n)
      have h8' := wid_le n
      split
      · exact ⟨_, _, rfl, by omega⟩
      · exact ⟨_, _, rfl, by omega⟩
    · split
      · exact ⟨48, _, rfl, by decide⟩
      · exact ⟨64, _, rfl, by decide⟩

mutual
theorem complete_T : ∀ (t : T), shape t = true → fitT t → ∀ (f : Nat) (r : List Int), 2 * (enc t).length ≤ f → pVal f (enc t ++ r) = .ok (t, r)
  | .mk k n b l, hs, hf, f, r, hle => by
    unfold fitT at hf
    obtain ⟨hn, hb, hl⟩ := hf
    unfold I64 at hn
    unfold shape at hs
    unfold enc at hle ⊢
    by_cases k1 : k = 1
    · subst k1
      rw [if_pos rfl] at hs hle ⊢
      simp only [Bool.and_eq_true, List.isEmpty_iff] at hs
      obtain ⟨rfl, rfl⟩ := hs
      cases f with
      | zero =>
        have := encInt_length n
        omega
      | succ f =>
        by_cases hneg : n < 0
        · have h8 := wid_le (-1 - n)
          rw [encInt_neg n hneg]
          simp only [List.cons_append]
          unfold pVal
          rw [if_neg (by omega), if_pos (by omega)]
          have hk : (31 - (31 - (wid (-1 - n) : Int))).toNat = wid (-1 - n) := by omega
          rw [hk]
          have hc := pInt_complete ((31 - (wid (-1 - n) : Int)) == 23) true (wid (-1 - n)) true 0 (-1 - n) r (by omega) (wid_lt' _ (by omega) (by omega)) (fun _ j hj => ⟨wid_ge _ (by omega) j hj, fun he => by
            have : wid (-1 - n) = 8 := by simp at he; omega
            have hj7 : j = 7 := by omega
            subst hj7; omega⟩)
          rw [hc]
          simp only [Int.zero_mul, Int.zero_add]
          have : -1 - (-1 - n) = n := by omega
          rw [this]
        · have h8 := wid_le n
          rw [encInt_pos n (by omega)]
          simp only [List.cons_append]
          unfold pVal
          by_cases hz : wid n = 0
          · have : n = 0 := by
              have := wid_lt' n (by omega) (by omega)
              rw [hz] at this; omega
            subst this
            simp [digs, wid, pInt]
          · rw [if_pos (by omega)]
            have hk : (32 + (wid n : Int) - 32).toNat = wid n := by omega
            rw [hk]
            have hc := pInt_complete ((32 + (wid n : Int)) == 40) false (wid n) true 0 n r (by omega) (wid_lt' _ (by omega) (by omega)) (fun _ j hj => ⟨wid_ge _ (by omega) j hj, fun he => by
              have : wid n = 8 := by simp at he; omega
              have hj7 : j = 7 := by omega
              subst hj7; omega⟩)
            rw [hc]
            simp only [Int.zero_mul, Int.zero_add]
    · rw [if_neg k1] at hs hle ⊢
      by_cases k2 : k = 2
      · subst k2
        rw [if_pos rfl] at hs hle ⊢
        simp only [Bool.and_eq_true, beq_iff_eq, List.isEmpty_iff] at hs
        obtain ⟨rfl, rfl⟩ := hs
        cases f with
        | zero => simp [encB] at hle
        | succ f =>
          unfold encB
          simp only [List.cons_append, List.append_assoc, List.nil_append]
          unfold pVal
          rw [if_neg (by omega), if_neg (by omega), if_pos rfl, pBytes_complete]
      · rw [if_neg k2] at hs hle ⊢
        by_cases k3 : k = 3
        · subst k3
          rw [if_pos rfl] at hs
          simp only [Bool.and_eq_true, beq_iff_eq, List.isEmpty_iff] at hs
          obtain ⟨hs, rfl, rfl⟩ := hs
          cases f with
          | zero => simp at hle
          | succ f =>
            simp only [List.length_cons, List.length_append, List.length_nil] at hle
            simp only [List.cons_append, List.append_assoc, List.nil_append]
            unfold pVal
            rw [if_neg (by omega), if_neg (by omega), if_neg (by omega), if_pos rfl, complete_L l hs hl f r (by omega)]
        · rw [if_neg k3] at hs; cases hs
theorem complete_L : ∀ (l : List T), shapeL l = true → fitL l → ∀ (f : Nat) (r : List Int), 2 * (encL l).length + 1 ≤ f → pList f (encL l ++ (0 :: r)) = .ok (l, r)
  | [], _, _, f, r, hle => by
    cases f with
    | zero => omega
    | succ f => simp [encL, pList]
  | t :: ts, hs, hf, f, r, hle => by
    unfold shapeL at hs
    unfold fitL at hf
    simp only [Bool.and_eq_true] at hs
    simp only [encL, List.length_append] at hle
    obtain ⟨m, rest, hm, hm0⟩ := enc_head t hs.1
    have hlen : 1 ≤ (enc t).length := by rw [hm]; simp
    cases f with
    | zero => omega
    | succ f =>
      have h1 := complete_T t hs.1 hf.1 f (encL ts ++ (0 :: r)) (by omega)
      have h2 := complete_L ts hs.2 hf.2 f r (by omega)
      simp only [encL, List.append_assoc]
      rw [hm] at h1 ⊢
      simp only [List.cons_append] at h1 ⊢
      unfold pList
      rw [if_neg hm0, h1]
      simp only
      rw [h2]
end

/-- What Check accepts is read back. -/
theorem dec_complete (t : T) (hf : fitT t) (h : chk t = 0) : dec (enc t) = .ok t := by
  unfold chk at h
  split at h
  · rename_i hs
    split at h
    · omega
    · rename_i hn
      unfold dec
      rw [if_neg (by omega)]
      have := complete_T t hs hf (2 * (enc t).length + 2) [] (by omega)
      rw [List.append_nil] at this
      rw [this]
      simp only [if_true]
      rw [if_neg (by omega)]
  · omega

end Go.Proofs.Ytjhjcigappkebaa
