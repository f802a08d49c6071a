/-
  Plain laws of working minutes (for stage 6; it builds upon the spans' plain texts): the list day by day, its minutes; nothing of the program.
-/
import Derived.Test.YtciopemodfpecaaDoorPp
namespace Go.Proofs.YtciopemodfpecaaDoor
set_option linter.unusedVariables false
set_option linter.unusedSimpArgs false

def wday (d : Int) : Int := (d + 5) % 7
/-- The span of the day of the week of a day. -/
def dsp (op : List (Int × Int)) (d : Int) : Int × Int := op.getD (wday d).toNat (0, 0)
/-- Minute m works. -/
def works (op : List (Int × Int)) (hol : List Int) (m : Int) : Prop := ¬ (m / 1440) ∈ hol ∧ (dsp op (m / 1440)).1 ≤ m % 1440 ∧ m % 1440 < (dsp op (m / 1440)).2
/-- The calendar's seven spans are valid. -/
def opOk (op : List (Int × Int)) : Prop := op.length = 7 ∧ ∀ s ∈ op, 0 ≤ s.1 ∧ s.1 ≤ s.2 ∧ s.2 ≤ 1440
theorem dsp_ok {op : List (Int × Int)} (h : opOk op) (d : Int) : 0 ≤ (dsp op d).1 ∧ (dsp op d).1 ≤ (dsp op d).2 ∧ (dsp op d).2 ≤ 1440 := by
  unfold dsp
  have hl : (wday d).toNat < op.length := by rw [h.1]; unfold wday; omega
  rw [List.getD_eq_getElem?_getD, List.getElem?_eq_getElem hl]
  exact h.2 _ (List.getElem_mem hl)

/-- The minutes of a day that is no holiday, within a range. -/
def tday (op : List (Int × Int)) (d f t : Int) : Int × Int := (max (1440 * d + (dsp op d).1) f, min (1440 * d + (dsp op d).2) t)
/-- A day's minutes behind those of the days before. -/
def dstep (op : List (Int × Int)) (hol : List Int) (f t d : Int) (out : List (Int × Int)) : List (Int × Int) :=
  if d ∈ hol then out else if (tday op d f t).1 < (tday op d f t).2 then pc out (tday op d f t).1 (tday op d f t).2 else out
/-- The first n days from day d on. -/
def dlist (op : List (Int × Int)) (hol : List Int) (f t d : Int) : Nat → List (Int × Int)
  | 0 => []
  | n + 1 => dstep op hol f t (d + n) (dlist op hol f t d n)

/-- What the list of the days before day d is. -/
def DInv (op : List (Int × Int)) (hol : List Int) (f t d : Int) (out : List (Int × Int)) : Prop :=
  Nr (-1) out ∧ lst (-1) out ≤ 1440 * d ∧ ∀ m, cov out m ↔ f ≤ m ∧ m < t ∧ works op hol m ∧ m < 1440 * d

theorem dinv_step {op : List (Int × Int)} {hol : List Int} {f t d : Int} {out : List (Int × Int)} (ho : opOk op) (hf : 0 ≤ f) (ht : t ≤ 1073741824) (hd : 0 ≤ d) (h : DInv op hol f t d out) : DInv op hol f t (d + 1) (dstep op hol f t d out) := by
  obtain ⟨h1, h2, h3⟩ := h
  have hs := dsp_ok ho d
  have key : ∀ m, 1440 * d ≤ m → m < 1440 * (d + 1) → (works op hol m ↔ ¬ d ∈ hol ∧ 1440 * d + (dsp op d).1 ≤ m ∧ m < 1440 * d + (dsp op d).2) := by
    intro m ha hb
    have e1 : m / 1440 = d := by omega
    have e2 : m % 1440 = m - 1440 * d := by omega
    unfold works
    rw [e1, e2]
    constructor
    · rintro ⟨a, b, c⟩; exact ⟨a, by omega, by omega⟩
    · rintro ⟨a, b, c⟩; exact ⟨a, by omega, by omega⟩
  unfold dstep
  by_cases c1 : d ∈ hol
  · rw [if_pos c1]
    refine ⟨h1, by omega, fun m => ?_⟩
    rw [h3]
    constructor
    · rintro ⟨a, b, c, e⟩; exact ⟨a, b, c, by omega⟩
    · rintro ⟨a, b, c, e⟩
      refine ⟨a, b, c, ?_⟩
      rcases (show m < (1440 * d) ∨ (1440 * d) ≤ m by omega) with hm | hm
      · exact hm
      · exact absurd c1 ((key m hm e).1 c).1
  · rw [if_neg c1]
    have e1 : (tday op d f t).1 = max (1440 * d + (dsp op d).1) f := rfl
    have e2 : (tday op d f t).2 = min (1440 * d + (dsp op d).2) t := rfl
    rw [e1, e2]
    by_cases c2 : max (1440 * d + (dsp op d).1) f < min (1440 * d + (dsp op d).2) t
    · rw [if_pos c2]
      obtain ⟨p1, p2, p3⟩ := pc_ok out (max (1440 * d + (dsp op d).1) f) (min (1440 * d + (dsp op d).2) t) h1 (by omega) (by omega) c2 (by omega)
      refine ⟨p1, by rw [p2]; omega, fun m => ?_⟩
      rw [p3, h3]
      constructor
      · rintro (⟨a, b, c, e⟩ | ⟨a, b⟩)
        · exact ⟨a, b, c, by omega⟩
        · exact ⟨by omega, by omega, (key m (by omega) (by omega)).2 ⟨c1, by omega, by omega⟩, by omega⟩
      · rintro ⟨a, b, c, e⟩
        rcases (show m < (1440 * d) ∨ (1440 * d) ≤ m by omega) with hm | hm
        · exact .inl ⟨a, b, c, hm⟩
        · have := (key m hm e).1 c
          exact .inr ⟨by omega, by omega⟩
    · rw [if_neg c2]
      refine ⟨h1, by omega, fun m => ?_⟩
      rw [h3]
      constructor
      · rintro ⟨a, b, c, e⟩; exact ⟨a, b, c, by omega⟩
      · rintro ⟨a, b, c, e⟩
        refine ⟨a, b, c, ?_⟩
        rcases (show m < (1440 * d) ∨ (1440 * d) ≤ m by omega) with hm | hm
        · exact hm
        · have := (key m hm e).1 c
          omega

theorem dinv_start (op : List (Int × Int)) (hol : List Int) (f t : Int) (hf : 0 ≤ f) : DInv op hol f t (f / 1440) [] :=
  ⟨trivial, by show (-1 : Int) ≤ _; omega, fun m => ⟨fun h => absurd h ((cov_nil m).1), fun ⟨a, _, _, b⟩ => by exfalso; omega⟩⟩
theorem dlist_inv {op : List (Int × Int)} {hol : List Int} {f t : Int} (ho : opOk op) (hf : 0 ≤ f) (ht : t ≤ 1073741824) (n : Nat) : DInv op hol f t (f / 1440 + n) (dlist op hol f t (f / 1440) n) := by
  induction n with
  | zero => have h := dinv_start op hol f t hf; rw [show f / 1440 + ((0 : Nat) : Int) = f / 1440 by omega]; exact h
  | succ n ih =>
    have h := dinv_step ho hf ht (by omega) ih
    rw [show f / 1440 + ((n + 1 : Nat) : Int) = f / 1440 + (n : Int) + 1 by omega]
    exact h

/-- The working minutes of a range, as a normal list. -/
def wlist (op : List (Int × Int)) (hol : List Int) (f t : Int) : List (Int × Int) := dlist op hol f t (f / 1440) (t / 1440 + 1 - f / 1440).toNat
theorem wlist_ok {op : List (Int × Int)} {hol : List Int} {f t : Int} (ho : opOk op) (hf : 0 ≤ f) (hft : f ≤ t) (ht : t ≤ 1073741824) : Nr (-1) (wlist op hol f t) ∧ ∀ m, cov (wlist op hol f t) m ↔ f ≤ m ∧ m < t ∧ works op hol m := by
  obtain ⟨h1, _, h3⟩ := dlist_inv (op := op) (hol := hol) (f := f) (t := t) ho hf ht (t / 1440 + 1 - f / 1440).toNat
  refine ⟨h1, fun m => ?_⟩
  unfold wlist
  rw [h3]
  constructor
  · rintro ⟨a, b, c, _⟩; exact ⟨a, b, c⟩
  · rintro ⟨a, b, c⟩; exact ⟨a, b, c, by omega⟩
/-- Days behind the range change nothing. -/
theorem dlist_eq {op : List (Int × Int)} {hol : List Int} {f t : Int} (ho : opOk op) (hf : 0 ≤ f) (hft : f ≤ t) (ht : t ≤ 1073741824) (n : Nat) (hn : t ≤ 1440 * (f / 1440 + (n : Int))) : dlist op hol f t (f / 1440) n = wlist op hol f t := by
  obtain ⟨h1, _, h3⟩ := dlist_inv (op := op) (hol := hol) (f := f) (t := t) ho hf ht n
  obtain ⟨w1, w3⟩ := wlist_ok (hol := hol) ho hf hft ht
  refine nr_uniq _ _ (-1) (-1) h1 w1 (fun m => ?_)
  rw [h3, w3]
  constructor
  · rintro ⟨a, b, c, _⟩; exact ⟨a, b, c⟩
  · rintro ⟨a, b, c⟩; exact ⟨a, b, c, by omega⟩

/-- Two ranges one behind the other. -/
theorem wlist_add {op : List (Int × Int)} {hol : List Int} {a b d : Int} (ho : opOk op) (ha : 0 ≤ a) (hab : a ≤ b) (hbd : b ≤ d) (hd : d ≤ 1073741824) :
    uniL (wlist op hol a b) (wlist op hol b d) = wlist op hol a d ∧ tot (wlist op hol a b) + tot (wlist op hol b d) = tot (wlist op hol a d) := by
  obtain ⟨x1, x2⟩ := wlist_ok (hol := hol) ho ha hab (by omega : b ≤ 1073741824)
  obtain ⟨y1, y2⟩ := wlist_ok (hol := hol) ho (by omega : 0 ≤ b) hbd hd
  obtain ⟨z1, z2⟩ := wlist_ok (hol := hol) ho ha (by omega : a ≤ d) hd
  constructor
  · refine nr_uniq _ _ (-1) (-1) (uni_nr _ _) z1 (fun m => ?_)
    rw [uni_cov, mem_of_cov x1 (by omega), mem_of_cov y1 (by omega), x2, y2, z2]
    constructor
    · rintro (⟨p, q, r⟩ | ⟨p, q, r⟩)
      · exact ⟨p, by omega, r⟩
      · exact ⟨by omega, q, r⟩
    · rintro ⟨p, q, r⟩
      rcases (show m < b ∨ b ≤ m by omega) with h | h
      · exact .inl ⟨p, h, r⟩
      · exact .inr ⟨h, q, r⟩
  · have h := tot_union x1 y1 z1 (show Nr (-1) [] from trivial) (fun m => by
      rw [x2, y2, z2]
      constructor
      · rintro ⟨p, q, r⟩
        rcases (show m < b ∨ b ≤ m by omega) with h | h
        · exact .inl ⟨p, h, r⟩
        · exact .inr ⟨h, q, r⟩
      · rintro (⟨p, q, r⟩ | ⟨p, q, r⟩)
        · exact ⟨p, by omega, r⟩
        · exact ⟨by omega, q, r⟩) (fun m => by
      rw [cov_nil, x2, y2]
      constructor
      · exact fun h => h.elim
      · rintro ⟨⟨p, q, r⟩, ⟨p', q', r'⟩⟩; omega)
    have e : tot [] = 0 := rfl
    omega

/-- The calendar of both: intersected spans, holidays of both. -/
theorem wlist_meet {op op' op2 : List (Int × Int)} {hol hol' hol2 : List Int} {f t : Int} (ho : opOk op) (ho' : opOk op') (ho2 : opOk op2) (hf : 0 ≤ f) (hft : f ≤ t) (ht : t ≤ 1073741824)
    (hs : ∀ d x, (dsp op2 d).1 ≤ x ∧ x < (dsp op2 d).2 ↔ ((dsp op d).1 ≤ x ∧ x < (dsp op d).2) ∧ (dsp op' d).1 ≤ x ∧ x < (dsp op' d).2) (hh : ∀ d, d ∈ hol2 ↔ d ∈ hol ∨ d ∈ hol') :
    intL (wlist op hol f t) (wlist op' hol' f t) = wlist op2 hol2 f t := by
  obtain ⟨x1, x2⟩ := wlist_ok (hol := hol) ho hf hft ht
  obtain ⟨y1, y2⟩ := wlist_ok (hol := hol') ho' hf hft ht
  obtain ⟨z1, z2⟩ := wlist_ok (hol := hol2) ho2 hf hft ht
  refine nr_uniq _ _ (-1) (-1) (int_nr _ _) z1 (fun m => ?_)
  rw [int_cov, mem_of_cov x1 (by omega), mem_of_cov y1 (by omega), x2, y2, z2]
  unfold works
  have h1 := hs (m / 1440) (m % 1440)
  have h2 := hh (m / 1440)
  constructor
  · rintro ⟨⟨p, q, a, b⟩, ⟨_, _, a', b'⟩⟩
    exact ⟨p, q, fun h => (h2.1 h).elim a a', h1.2 ⟨b, b'⟩⟩
  · rintro ⟨p, q, a, b⟩
    have h3 := h1.1 b
    exact ⟨⟨p, q, fun h => a (h2.2 (.inl h)), h3.1⟩, ⟨p, q, fun h => a (h2.2 (.inr h)), h3.2⟩⟩
end Go.Proofs.YtciopemodfpecaaDoor
