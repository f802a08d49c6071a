/-
  Plain laws of the search for a working minute (for stage 6): adv of a list that grows day by day; nothing of the program.
-/
import Derived.Test.YtciopemodfpecaaDoorCw
namespace Go.Proofs.YtciopemodfpecaaDoor
set_option linter.unusedVariables false
set_option linter.unusedSimpArgs false

theorem tot_nn : ∀ (x : List (Int × Int)) (e : Int), Nr e x → 0 ≤ tot x
  | [], _, _ => by simp [tot]
  | s :: t, e, h => by
    have := tot_nn t s.2 h.2.2.2
    have h2 := h.2.1
    simp only [tot]; omega
theorem adv_tot : ∀ (x : List (Int × Int)) (e n m : Int), Nr e x → adv x n = some m → n ≤ tot x
  | [], _, _, _, _, h => by simp [adv] at h
  | s :: t, e, n, m, hl, h => by
    simp only [adv] at h
    simp only [tot]
    have h2 := hl.2.1
    split at h
    · have := tot_nn t s.2 hl.2.2.2; omega
    · have := adv_tot t s.2 _ m hl.2.2.2 h; omega

theorem adv_append : ∀ (x y : List (Int × Int)) (e n : Int), Nr e x → adv (x ++ y) n = if n ≤ tot x ∧ x ≠ [] then adv x n else adv y (n - tot x)
  | [], y, e, n, _ => by simp [tot]
  | s :: x, y, e, n, h => by
    have ht := (tot_nn x s.2 h.2.2.2)
    have et : tot (s :: x) = s.2 - s.1 + tot x := rfl
    have ea : ∀ z, adv (s :: z) n = if n ≤ s.2 - s.1 then some (s.1 + n) else adv z (n - (s.2 - s.1)) := fun _ => rfl
    rw [List.cons_append, ea, ea]
    by_cases C : n ≤ tot (s :: x) ∧ s :: x ≠ []
    · rw [if_pos C]
      by_cases c : n ≤ s.2 - s.1
      · rw [if_pos c, if_pos c]
      · rw [if_neg c, if_neg c, adv_append x y s.2 _ h.2.2.2]
        by_cases hx : x = []
        · subst hx
          have e0 : tot [] = 0 := rfl
          rw [et, e0] at C
          omega
        · rw [if_pos ⟨by have := C.1; omega, hx⟩]
    · have hc : tot (s :: x) < n := by
        rcases (show n ≤ tot (s :: x) ∨ tot (s :: x) < n by omega) with h1 | h1
        · exact absurd ⟨h1, by simp⟩ C
        · exact h1
      rw [if_neg C, if_neg (by omega), adv_append x y s.2 _ h.2.2.2, if_neg (fun hh => by have := hh.1; omega)]
      congr 1; omega
theorem adv_found {x : List (Int × Int)} {e n : Int} (h : Nr e x) (hn : 0 < n) (ht : n ≤ tot x) : ∃ m, adv x n = some m := by
  cases ha : adv x n with
  | some m => exact ⟨m, rfl⟩
  | none => have := adv_none x e n h hn ha; omega

/-- What was found is found in a longer list. -/
theorem adv_more {x y : List (Int × Int)} {n m : Int} (h : Nr (-1) x) (hn : 0 < n) (hm : adv x n = some m) : adv (x ++ y) n = some m := by
  rw [adv_append x y (-1) n h]
  have hx : x ≠ [] := by rintro rfl; simp [adv] at hm
  have ht : n ≤ tot x := by
    have := adv_tot x (-1) n m h hm
    exact this
  rw [if_pos ⟨ht, hx⟩, hm]

theorem tot_pc (out : List (Int × Int)) (a b : Int) : tot (pc out a b) = tot out + (b - a) := by
  rcases List.eq_nil_or_concat out with rfl | ⟨y, t, rfl⟩
  · simp [pc_nil, tot]
  · rw [List.concat_eq_append, pc_snoc]
    split
    · rename_i h
      simp only [tot_append, tot]; omega
    · simp only [tot_append, tot]; omega

/-- A span behind the others: the minute that is found. -/
theorem adv_pc {out : List (Int × Int)} {a b n : Int} (h : Nr (-1) out) (hn : 0 < n) (hab : a < b) : adv (pc out a b) n = if n ≤ tot out then adv out n else if n - tot out ≤ b - a then some (a + (n - tot out)) else none := by
  rcases List.eq_nil_or_concat out with rfl | ⟨y, t, rfl⟩
  · have e0 : tot [] = 0 := rfl
    rw [pc_nil, if_neg (by rw [e0]; omega), e0, show n - 0 = n by omega]
    rfl
  · rw [List.concat_eq_append] at h ⊢
    have hy := ((nr_append y [t] (-1)).1 h).1
    have ht := ((nr_append y [t] (-1)).1 h).2
    have ht2 := ht.2.1
    have hty := tot_nn y (-1) hy
    have htt : tot (y ++ [t]) = tot y + (t.2 - t.1) := by rw [tot_append]; simp [tot]
    rw [pc_snoc]
    split
    · rename_i hta
      rw [adv_append y [(t.1, b)] (-1) n hy, adv_append y [t] (-1) n hy, htt]
      by_cases c : n ≤ tot y ∧ y ≠ []
      · rw [if_pos c, if_pos c, if_pos (by omega)]
      · rw [if_neg c, if_neg c]
        have hc : tot y < n := by
          rcases (show n ≤ tot y ∨ tot y < n by omega) with h1 | h1
          · by_cases hyn : y = []
            · subst hyn; simp only [tot] at h1; omega
            · exact absurd ⟨h1, hyn⟩ c
          · exact h1
        simp only [adv]
        by_cases c1 : n - tot y ≤ t.2 - t.1
        · rw [if_pos (by omega), if_pos (by omega), if_pos c1]
        · rw [if_neg (by omega : ¬ n ≤ tot y + (t.2 - t.1))]
          by_cases c2 : n - tot y ≤ b - t.1
          · rw [if_pos c2, if_pos (by omega)]
            congr 1; omega
          · rw [if_neg c2, if_neg (by omega)]
    · rw [adv_append (y ++ [t]) [(a, b)] (-1) n h]
      by_cases c : n ≤ tot (y ++ [t])
      · rw [if_pos ⟨c, by simp⟩, if_pos c]
      · rw [if_neg (fun hh => c hh.1), if_neg c]
        simp only [adv]

/-- A day of the search: found today. -/
theorem day_hit {op : List (Int × Int)} {hol : List Int} {f t d n : Int} {out : List (Int × Int)} (h : Nr (-1) out) (hn : tot out < n) (h0 : 0 < n) (hh : ¬ d ∈ hol) (hs : (tday op d f t).1 < (tday op d f t).2) (hk : n - tot out ≤ (tday op d f t).2 - (tday op d f t).1) :
    adv (dstep op hol f t d out) n = some ((tday op d f t).1 + (n - tot out)) := by
  unfold dstep
  rw [if_neg hh, if_pos hs, adv_pc h h0 hs, if_neg (by omega), if_pos hk]
/-- A day of the search: the minutes that have passed. -/
theorem day_tot {op : List (Int × Int)} {hol : List Int} {f t d : Int} {out : List (Int × Int)} : tot (dstep op hol f t d out) = tot out + if d ∈ hol then 0 else max 0 ((tday op d f t).2 - (tday op d f t).1) := by
  unfold dstep
  split
  · omega
  · split
    · rw [tot_pc]; omega
    · omega
/-- What was found stays found as further days come. -/
theorem day_keep {op : List (Int × Int)} {hol : List Int} {f t d n m : Int} {out : List (Int × Int)} (h : Nr (-1) out) (h0 : 0 < n) (ha : adv out n = some m) : adv (dstep op hol f t d out) n = some m := by
  unfold dstep
  split
  · exact ha
  · split
    · rename_i hs
      rw [adv_pc h h0 hs, if_pos (adv_tot out (-1) n m h ha), ha]
    · exact ha
theorem dlist_keep {op : List (Int × Int)} {hol : List Int} {f t n m : Int} (ho : opOk op) (hf : 0 ≤ f) (ht : t ≤ 1073741824) (h0 : 0 < n) (k : Nat) (ha : adv (dlist op hol f t (f / 1440) k) n = some m) (j : Nat) : adv (dlist op hol f t (f / 1440) (k + j)) n = some m := by
  induction j with
  | zero => exact ha
  | succ j ih => exact day_keep (dlist_inv ho hf ht (k + j)).1 h0 ih

/-- The search that stops at a day finds what the whole list says. -/
theorem search_hit {op : List (Int × Int)} {hol : List Int} {f t n m : Int} (ho : opOk op) (hf : 0 ≤ f) (hft : f ≤ t) (ht : t ≤ 1073741824) (h0 : 0 < n) (k : Nat) (ha : adv (dlist op hol f t (f / 1440) k) n = some m) : adv (wlist op hol f t) n = some m := by
  have h := dlist_keep ho hf ht h0 k ha (t / 1440 + 1).toNat
  rw [dlist_eq ho hf hft ht _ (by omega)] at h
  exact h
/-- The search that comes to the end finds nothing. -/
theorem search_miss {op : List (Int × Int)} {hol : List Int} {f t n : Int} (ho : opOk op) (hf : 0 ≤ f) (hft : f ≤ t) (ht : t ≤ 1073741824) (k : Nat) (hk : t ≤ 1440 * (f / 1440 + (k : Int))) (hn : tot (dlist op hol f t (f / 1440) k) < n) : adv (wlist op hol f t) n = none := by
  rw [dlist_eq ho hf hft ht k hk] at hn
  cases ha : adv (wlist op hol f t) n with
  | none => rfl
  | some m => have := adv_tot _ (-1) n m (wlist_ok (hol := hol) ho hf hft ht).1 ha; omega
end Go.Proofs.YtciopemodfpecaaDoor
