/-
  Plain laws for calendars: validity, holidays in order, the spans of the days one by one, what the search finds; nothing of the program.
-/
import Derived.Test.YtciopemodfpecaaDoorCv
namespace Go.Proofs.YtciopemodfpecaaDoor
set_option linter.unusedVariables false
set_option linter.unusedSimpArgs false

/-- The spans of the week are valid. -/
def opB : List (Int × Int) → Bool
  | [] => true
  | s :: t => decide (0 ≤ s.1) && decide (s.1 ≤ s.2) && decide (s.2 ≤ 1440) && opB t
/-- The holidays are days in order behind e. -/
def holB : Int → List Int → Bool
  | _, [] => true
  | e, h :: t => decide (e < h) && decide (h ≤ 745654) && holB h t
theorem opB_iff : ∀ l, opB l = true ↔ ∀ s ∈ l, 0 ≤ s.1 ∧ s.1 ≤ s.2 ∧ s.2 ≤ 1440
  | [] => by simp [opB]
  | s :: t => by simp [opB, opB_iff t, and_assoc]
theorem hol_lt : ∀ (l : List Int) (e : Int), holB e l = true → ∀ (i : Nat) (x : Int), l[i]? = some x → e < x ∧ x ≤ 745654
  | [], _, _, i, x, h => by simp at h
  | y :: t, e, h, i, x, hx => by
    simp only [holB, Bool.and_eq_true, decide_eq_true_eq] at h
    cases i with
    | zero => simp at hx; omega
    | succ i =>
      have := hol_lt t y h.2 i x (by simpa using hx)
      omega
theorem hol_sorted : ∀ (l : List Int) (e : Int), holB e l = true → ∀ (i j : Nat) (x y : Int), i < j → l[i]? = some x → l[j]? = some y → x < y
  | [], _, _, i, j, x, y, _, h, _ => by simp at h
  | z :: t, e, h, i, j, x, y, hij, hx, hy => by
    simp only [holB, Bool.and_eq_true, decide_eq_true_eq] at h
    cases j with
    | zero => omega
    | succ j =>
      cases i with
      | zero =>
        simp at hx
        have := hol_lt t z h.2 j y (by simpa using hy)
        omega
      | succ i => exact hol_sorted t z h.2 i j x y (by omega) (by simpa using hx) (by simpa using hy)

/-- j of the holidays lie before day d. -/
def JI (hol : List Int) (d : Int) (j : Nat) : Prop := j ≤ hol.length ∧ ∀ (i : Nat) (x : Int), hol[i]? = some x → (x < d ↔ i < j)
theorem ji_mem {hol : List Int} {d : Int} {j : Nat} (hs : holB (-1) hol = true) (h : JI hol d j) : d ∈ hol ↔ hol[j]? = some d := by
  constructor
  · intro hm
    obtain ⟨i, hi⟩ := List.getElem?_of_mem hm
    have h1 := (h.2 i d hi)
    have hij : ¬ i < j := fun h2 => by have := h1.2 h2; omega
    rcases (show i = j ∨ j < i by omega) with e | e
    · subst e; exact hi
    · have hjl : j < hol.length := by have := (List.getElem?_eq_some_iff.1 hi).1; omega
      have hj := List.getElem?_eq_getElem hjl
      have h3 := hol_sorted hol (-1) hs j i _ _ e hj hi
      have h4 := (h.2 j _ hj).1 h3
      omega
  · exact fun hj => List.mem_of_getElem? hj
theorem ji_hit {hol : List Int} {d : Int} {j : Nat} (hs : holB (-1) hol = true) (h : JI hol d j) (hj : hol[j]? = some d) : JI hol (d + 1) (j + 1) := by
  have hjl : j < hol.length := (List.getElem?_eq_some_iff.1 hj).1
  refine ⟨by omega, fun i x hx => ?_⟩
  constructor
  · intro h1
    rcases (show x < d ∨ x = d by omega) with h2 | h2
    · have := (h.2 i x hx).1 h2; omega
    · rcases Nat.lt_trichotomy i j with h3 | h3 | h3
      · omega
      · omega
      · have := hol_sorted hol (-1) hs j i _ _ h3 hj hx; omega
  · intro h1
    rcases (show i < j ∨ i = j by omega) with h2 | h2
    · have := (h.2 i x hx).2 h2; omega
    · subst h2; rw [hj] at hx; have := Option.some.inj hx; omega
theorem ji_miss {hol : List Int} {d : Int} {j : Nat} (hs : holB (-1) hol = true) (h : JI hol d j) (hj : ¬ hol[j]? = some d) : JI hol (d + 1) j := by
  refine ⟨h.1, fun i x hx => ?_⟩
  constructor
  · intro h1
    rcases (show x < d ∨ x = d by omega) with h2 | h2
    · exact (h.2 i x hx).1 h2
    · subst h2
      exact absurd ((ji_mem hs h).1 (List.mem_of_getElem? hx)) hj
  · intro h1
    have := (h.2 i x hx).2 h1; omega
theorem count_zero {d : Int} : ∀ (l : List Int) (e : Int), holB e l = true → d ≤ e → l.countP (fun y => !decide (d ≤ y)) = 0
  | [], _, _, _ => rfl
  | h :: t, e, hs, hd => by
    simp only [holB, Bool.and_eq_true, decide_eq_true_eq] at hs
    rw [List.countP_cons, count_zero t h hs.2 (by omega), decide_eq_true (by omega : d ≤ h)]
    rfl
theorem ji_count_aux {d : Int} : ∀ (l : List Int) (e : Int), holB e l = true → JI l d (l.countP (fun y => !decide (d ≤ y)))
  | [], _, _ => ⟨by simp, fun i x hx => by simp at hx⟩
  | h :: t, e, hs => by
    simp only [holB, Bool.and_eq_true, decide_eq_true_eq] at hs
    have ih := ji_count_aux (d := d) t h hs.2
    by_cases c : d ≤ h
    · rw [List.countP_cons, count_zero t h hs.2 c, decide_eq_true c]
      refine ⟨by simp, fun i x hx => ?_⟩
      have : d ≤ x := by
        cases i with
        | zero => simp at hx; omega
        | succ i => have := hol_lt t h hs.2 i x (by simpa using hx); omega
      constructor
      · intro; omega
      · intro h1; simp at h1
    · rw [List.countP_cons, decide_eq_false c]
      refine ⟨by have := ih.1; simp; omega, fun i x hx => ?_⟩
      cases i with
      | zero => simp at hx; subst hx; simp; omega
      | succ i =>
        rw [ih.2 i x (by simpa using hx)]
        simp
theorem ji_count {hol : List Int} (d : Int) (hs : holB (-1) hol = true) : JI hol d (hol.countP (fun y => !decide (d ≤ y))) := ji_count_aux hol (-1) hs

/-- What a day adds. -/
def piece (op : List (Int × Int)) (hol : List Int) (f t d : Int) : List (Int × Int) := if d ∈ hol then [] else if (tday op d f t).1 < (tday op d f t).2 then [tday op d f t] else []
/-- The spans of the first n days from day d on, one by one. -/
def rl (op : List (Int × Int)) (hol : List Int) (f t d : Int) : Nat → List (Int × Int)
  | 0 => []
  | n + 1 => rl op hol f t d n ++ piece op hol f t (d + n)
def rlist (op : List (Int × Int)) (hol : List Int) (f t : Int) : List (Int × Int) := rl op hol f t (f / 1440) (t / 1440 + 1 - f / 1440).toNat
theorem piece_len (op : List (Int × Int)) (hol : List Int) (f t d : Int) : (piece op hol f t d).length ≤ 1 := by
  unfold piece; split
  · simp
  · split <;> simp
theorem rl_len (op : List (Int × Int)) (hol : List Int) (f t d : Int) (n : Nat) : (rl op hol f t d n).length ≤ n := by
  induction n with
  | zero => simp [rl]
  | succ n ih => have := piece_len op hol f t (d + n); simp only [rl, List.length_append]; omega
theorem piece_end {op : List (Int × Int)} (hol : List Int) {f t d : Int} (ho : opOk op) (h : t ≤ 1440 * d) : piece op hol f t d = [] := by
  have hs := dsp_ok ho d
  have e1 : (tday op d f t).1 = max (1440 * d + (dsp op d).1) f := rfl
  have e2 : (tday op d f t).2 = min (1440 * d + (dsp op d).2) t := rfl
  unfold piece
  split
  · rfl
  · rw [e1, e2, if_neg (by omega)]
theorem rl_grow {op : List (Int × Int)} {hol : List Int} {f t d : Int} (ho : opOk op) (k : Nat) (hk : t ≤ 1440 * (d + (k : Int))) (j : Nat) : rl op hol f t d (k + j) = rl op hol f t d k := by
  induction j with
  | zero => rfl
  | succ j ih =>
    show rl op hol f t d (k + j) ++ piece op hol f t (d + (k + j : Nat)) = _
    rw [ih, piece_end hol ho (by omega), List.append_nil]
theorem rl_end {op : List (Int × Int)} {hol : List Int} {f t : Int} (ho : opOk op) (hft : f ≤ t) (k : Nat) (hk : t ≤ 1440 * (f / 1440 + (k : Int))) : rl op hol f t (f / 1440) k = rlist op hol f t := by
  unfold rlist
  obtain ⟨K, hK⟩ : ∃ K, K = (t / 1440 + 1 - f / 1440).toNat := ⟨_, rfl⟩
  rw [← hK]
  rcases Nat.le_total k K with h | h
  · rw [show K = k + (K - k) by omega, rl_grow ho k hk]
  · rw [show k = K + (k - K) by omega, rl_grow ho K (by omega)]
theorem rl_pre (op : List (Int × Int)) (hol : List Int) (f t d : Int) (k j : Nat) : rl op hol f t d k <+: rl op hol f t d (k + j) := by
  induction j with
  | zero => exact List.prefix_refl _
  | succ j ih => exact ih.trans (List.prefix_append _ _)
theorem rl_prefix {op : List (Int × Int)} {hol : List Int} {f t : Int} (ho : opOk op) (hft : f ≤ t) (k : Nat) : rl op hol f t (f / 1440) k <+: rlist op hol f t := by
  by_cases h : t ≤ 1440 * (f / 1440 + (k : Int))
  · rw [rl_end ho hft k h]; exact List.prefix_refl _
  · unfold rlist
    have := rl_pre op hol f t (f / 1440) k ((t / 1440 + 1 - f / 1440).toNat - k)
    rw [show k + ((t / 1440 + 1 - f / 1440).toNat - k) = (t / 1440 + 1 - f / 1440).toNat by omega] at this
    exact this
theorem rlist_len (op : List (Int × Int)) (hol : List Int) (f t : Int) (hf : 0 ≤ f) (ht : t ≤ 1073741824) : (rlist op hol f t).length ≤ 800000 := by
  have := rl_len op hol f t (f / 1440) (t / 1440 + 1 - f / 1440).toNat
  unfold rlist; omega

/-- The spans one by one and the normal list. -/
theorem rl_cov {op : List (Int × Int)} {hol : List Int} {f t : Int} (ho : opOk op) (hf : 0 ≤ f) (ht : t ≤ 1073741824) (k : Nat) (m : Int) : cov (rl op hol f t (f / 1440) k) m ↔ cov (dlist op hol f t (f / 1440) k) m := by
  induction k with
  | zero => exact Iff.rfl
  | succ k ih =>
    have hinv := dlist_inv (hol := hol) (f := f) ho hf ht k
    show cov (rl op hol f t (f / 1440) k ++ piece op hol f t (f / 1440 + k)) m ↔ cov (dstep op hol f t (f / 1440 + k) (dlist op hol f t (f / 1440) k)) m
    rw [cov_append, ih]
    unfold piece dstep
    split
    · rw [cov_nil]; simp
    · have hs := dsp_ok ho (f / 1440 + k)
      have e1 : (tday op (f / 1440 + k) f t).1 = max (1440 * (f / 1440 + k) + (dsp op (f / 1440 + k)).1) f := rfl
      have e2 : (tday op (f / 1440 + k) f t).2 = min (1440 * (f / 1440 + k) + (dsp op (f / 1440 + k)).2) t := rfl
      split
      · rename_i h
        have hl := hinv.2.1
        rw [(pc_ok _ _ _ hinv.1 (by omega) (by omega) h (by omega)).2.2, cov_cons, cov_nil]
        simp
      · rw [cov_nil]; simp
theorem tot_piece (op : List (Int × Int)) (hol : List Int) (f t d : Int) : tot (piece op hol f t d) = if d ∈ hol then 0 else max 0 ((tday op d f t).2 - (tday op d f t).1) := by
  unfold piece
  split
  · rfl
  · split
    · simp only [tot]; omega
    · simp only [tot]; omega
theorem rl_tot (op : List (Int × Int)) (hol : List Int) (f t : Int) (k : Nat) : tot (rl op hol f t (f / 1440) k) = tot (dlist op hol f t (f / 1440) k) := by
  induction k with
  | zero => rfl
  | succ k ih =>
    show tot (rl op hol f t (f / 1440) k ++ piece op hol f t (f / 1440 + k)) = tot (dstep op hol f t (f / 1440 + k) (dlist op hol f t (f / 1440) k))
    rw [tot_append, day_tot, ih, tot_piece]
theorem rl_of {op : List (Int × Int)} {hol : List Int} {f t : Int} (ho : opOk op) (hf : 0 ≤ f) (ht : t ≤ 1073741824) (k : Nat) : ∀ s ∈ rl op hol f t (f / 1440) k, 0 ≤ s.1 ∧ s.1 < s.2 ∧ s.2 ≤ 1073741824 := by
  induction k with
  | zero => intro s h; simp [rl] at h
  | succ k ih =>
    intro s h
    rcases List.mem_append.1 h with h | h
    · exact ih s h
    · unfold piece at h
      split at h
      · simp at h
      · split at h
        · rename_i hh
          simp only [List.mem_singleton] at h
          subst h
          have e1 : (tday op (f / 1440 + k) f t).1 = max (1440 * (f / 1440 + k) + (dsp op (f / 1440 + k)).1) f := rfl
          have e2 : (tday op (f / 1440 + k) f t).2 = min (1440 * (f / 1440 + k) + (dsp op (f / 1440 + k)).2) t := rfl
          exact ⟨by omega, hh, by omega⟩
        · simp at h
theorem rlist_of {op : List (Int × Int)} {hol : List Int} {f t : Int} (ho : opOk op) (hf : 0 ≤ f) (ht : t ≤ 1073741824) : ∀ s ∈ rlist op hol f t, 0 ≤ s.1 ∧ s.1 < s.2 ∧ s.2 ≤ 1073741824 := rl_of ho hf ht _
theorem rlist_tot (op : List (Int × Int)) (hol : List Int) (f t : Int) : tot (rlist op hol f t) = tot (wlist op hol f t) := rl_tot op hol f t _
theorem rlist_norm {op : List (Int × Int)} {hol : List Int} {f t : Int} (ho : opOk op) (hf : 0 ≤ f) (hft : f ≤ t) (ht : t ≤ 1073741824) : norm (rlist op hol f t) = wlist op hol f t := by
  obtain ⟨h1, h2⟩ := wlist_ok (hol := hol) ho hf hft ht
  refine norm_eq h1 (fun m => ?_)
  have h3 := rl_cov (hol := hol) ho hf ht (t / 1440 + 1 - f / 1440).toNat m
  have e : cov (rlist op hol f t) m ↔ cov (wlist op hol f t) m := h3
  unfold mem
  rw [e, h2]
  constructor
  · rintro ⟨a, b, c⟩; exact ⟨by omega, by omega, a, b, c⟩
  · rintro ⟨_, _, h⟩; exact h

theorem tot_pos : ∀ (x : List (Int × Int)), (∀ s ∈ x, s.1 < s.2) → 0 ≤ tot x
  | [], _ => by simp [tot]
  | s :: t, h => by
    have := tot_pos t (fun u hu => h u (by simp [hu]))
    have h2 := h s (by simp)
    simp only [tot]; omega
theorem adv_app : ∀ (x y : List (Int × Int)) (n : Int), 0 < n → (∀ s ∈ x, s.1 < s.2) → adv (x ++ y) n = if n ≤ tot x then adv x n else adv y (n - tot x)
  | [], y, n, hn, _ => by simp [tot]; omega
  | s :: x, y, n, hn, h => by
    have ht := tot_pos x (fun u hu => h u (by simp [hu]))
    have et : tot (s :: x) = s.2 - s.1 + tot x := rfl
    have ea : ∀ z, adv (s :: z) n = if n ≤ s.2 - s.1 then some (s.1 + n) else adv z (n - (s.2 - s.1)) := fun _ => rfl
    rw [List.cons_append, ea, ea]
    by_cases c : n ≤ s.2 - s.1
    · rw [if_pos c, if_pos (by omega), if_pos c]
    · rw [if_neg c, if_neg c, adv_app x y _ (by omega) (fun u hu => h u (by simp [hu]))]
      by_cases c2 : n ≤ tot (s :: x)
      · rw [if_pos c2, if_pos (by omega)]
      · rw [if_neg c2, if_neg (by omega)]
        congr 1; omega
theorem rl_adv {op : List (Int × Int)} {hol : List Int} {f t n : Int} (ho : opOk op) (hf : 0 ≤ f) (ht : t ≤ 1073741824) (hn : 0 < n) (k : Nat) : adv (rl op hol f t (f / 1440) k) n = adv (dlist op hol f t (f / 1440) k) n := by
  induction k with
  | zero => rfl
  | succ k ih =>
    have hinv := dlist_inv (hol := hol) (f := f) ho hf ht k
    have hp : ∀ s ∈ rl op hol f t (f / 1440) k, s.1 < s.2 := fun s hs => (rl_of ho hf ht k s hs).2.1
    show adv (rl op hol f t (f / 1440) k ++ piece op hol f t (f / 1440 + k)) n = adv (dstep op hol f t (f / 1440 + k) (dlist op hol f t (f / 1440) k)) n
    unfold piece dstep
    split
    · rw [List.append_nil, ih]
    · split
      · rename_i h
        rw [adv_app _ _ _ hn hp, adv_pc hinv.1 hn h, rl_tot, ih]
        rfl
      · rw [List.append_nil, ih]
theorem rlist_adv {op : List (Int × Int)} {hol : List Int} {f t n : Int} (ho : opOk op) (hf : 0 ≤ f) (ht : t ≤ 1073741824) (hn : 0 < n) : adv (rlist op hol f t) n = adv (wlist op hol f t) n := rl_adv ho hf ht hn _

/-- The calendar and the range are valid. -/
def okR (op : List (Int × Int)) (hol : List Int) (f t : Int) : Bool := opB op && holB (-1) hol && decide (0 ≤ f) && decide (f ≤ t) && decide (t ≤ 1073741824)
def chkC (op : List (Int × Int)) (hol : List Int) : Int := if opB op && holB (-1) hol then 0 else 1
def eR (op : List (Int × Int)) (hol : List Int) (f t : Int) : Int := if okR op hol f t then 0 else 1
/-- What Open and Working return. -/
def oV (op : List (Int × Int)) (hol : List Int) (f t : Int) : List (Int × Int) := if okR op hol f t then wlist op hol f t else []
def wV (op : List (Int × Int)) (hol : List Int) (f t : Int) : Int := if okR op hol f t then tot (wlist op hol f t) else 0
/-- What After returns. -/
def aE (op : List (Int × Int)) (hol : List Int) (f n : Int) : Int := if okR op hol f 1073741824 then (if n < 0 then 1 else if n = 0 then 0 else if (adv (wlist op hol f 1073741824) n).isSome then 0 else 2) else 1
def aV (op : List (Int × Int)) (hol : List Int) (f n : Int) : Int := if okR op hol f 1073741824 then (if n < 0 then 0 else if n = 0 then f else (adv (wlist op hol f 1073741824) n).getD 0) else 0
theorem okR_iff {op : List (Int × Int)} {hol : List Int} {f t : Int} (hl : op.length = 7) : okR op hol f t = true ↔ opOk op ∧ holB (-1) hol = true ∧ 0 ≤ f ∧ f ≤ t ∧ t ≤ 1073741824 := by
  unfold okR opOk
  simp only [Bool.and_eq_true, decide_eq_true_eq, opB_iff]
  constructor
  · rintro ⟨⟨⟨⟨a, b⟩, c⟩, d⟩, e⟩; exact ⟨⟨hl, a⟩, b, c, d, e⟩
  · rintro ⟨⟨_, a⟩, b, c, d, e⟩; exact ⟨⟨⟨⟨a, b⟩, c⟩, d⟩, e⟩

/-- CalendarAfter, plainly. -/
theorem after_law {op : List (Int × Int)} {hol : List Int} {f n m : Int} (ho : opOk op) (hf : 0 ≤ f) (hft : f ≤ 1073741824) (hn : 0 < n) (h : adv (wlist op hol f 1073741824) n = some m) :
    f < m ∧ m ≤ 1073741824 ∧ tot (wlist op hol f m) = n ∧ adv (wlist op hol f m) n = some m ∧ tot (wlist op hol f (m - 1)) = n - 1 := by
  obtain ⟨w1, w2⟩ := wlist_ok (hol := hol) ho hf hft (by omega : (1073741824 : Int) ≤ 1073741824)
  obtain ⟨_, h2, h3, l', h4, h5, h6⟩ := adv_some _ (-1) n m w1 hn h
  rw [w2] at h3
  obtain ⟨c1, c2, c3⟩ := h3
  have hfm : f < m := by omega
  obtain ⟨v1, v2⟩ := wlist_ok (hol := hol) ho hf (by omega : f ≤ m) h2
  have hl' : l' = wlist op hol f m := nr_uniq _ _ (-1) (-1) h4 v1 (fun k => by
    rw [h5, w2, v2]
    constructor
    · rintro ⟨⟨a, b, c⟩, d⟩; exact ⟨a, d, c⟩
    · rintro ⟨a, b, c⟩; exact ⟨⟨a, by omega, c⟩, b⟩)
  rw [hl'] at h6
  have hone : ∀ d, f ≤ d → d < m → works op hol (m - 1) → 0 < tot (wlist op hol d m) := by
    intro d hfd hd hw
    obtain ⟨u1, u2⟩ := wlist_ok (hol := hol) ho (by omega : 0 ≤ d) (by omega : d ≤ m) h2
    have hc := (u2 (m - 1)).2 ⟨by omega, by omega, hw⟩
    cases hx : wlist op hol d m with
    | nil => rw [hx] at hc; exact absurd hc ((cov_nil _).1)
    | cons s t =>
      rw [hx] at u1
      have := tot_nn t s.2 u1.2.2.2
      have h7 := u1.2.1
      simp only [tot]; omega
  have hadv : adv (wlist op hol f m) n = some m := by
    cases ha : adv (wlist op hol f m) n with
    | none => have := adv_none _ (-1) n v1 hn ha; omega
    | some m' =>
      obtain ⟨_, a2, a3, l2, a4, a5, a6⟩ := adv_some _ (-1) n m' v1 hn ha
      rw [v2] at a3
      obtain ⟨d1, d2, d3⟩ := a3
      rcases (show m' = m ∨ m' < m by omega) with e | e
      · rw [e]
      · exfalso
        obtain ⟨y1, y2⟩ := wlist_ok (hol := hol) ho hf (by omega : f ≤ m') (by omega)
        have hl2 : l2 = wlist op hol f m' := nr_uniq _ _ (-1) (-1) a4 y1 (fun k => by
          rw [a5, v2, y2]
          constructor
          · rintro ⟨⟨a, b, c⟩, d⟩; exact ⟨a, d, c⟩
          · rintro ⟨a, b, c⟩; exact ⟨⟨a, by omega, c⟩, b⟩)
        rw [hl2] at a6
        have hadd := (wlist_add (hol := hol) ho hf (by omega : f ≤ m') (by omega : m' ≤ m) h2).2
        have := hone m' (by omega) e c3
        omega
  refine ⟨hfm, h2, h6, hadv, ?_⟩
  have hadd := (wlist_add (hol := hol) ho hf (by omega : f ≤ m - 1) (by omega : m - 1 ≤ m) h2).2
  obtain ⟨u1, u2⟩ := wlist_ok (hol := hol) ho (by omega : 0 ≤ m - 1) (by omega : m - 1 ≤ m) h2
  have hlast : wlist op hol (m - 1) m = [(m - 1, m)] := nr_uniq _ _ (-1) (-1) u1 (show Nr (-1) [(m - 1, m)] from ⟨by simp; omega, by simp; omega, by simpa using h2, trivial⟩) (fun k => by
    rw [u2, cov_cons, cov_nil]
    constructor
    · rintro ⟨a, b, c⟩; exact .inl ⟨a, b⟩
    · rintro (⟨a, b⟩ | h)
      · simp only at a b
        have : k = m - 1 := by omega
        subst this
        exact ⟨by omega, by omega, c3⟩
      · exact h.elim)
  rw [hlast] at hadd
  simp only [tot] at hadd
  omega
end Go.Proofs.YtciopemodfpecaaDoor
