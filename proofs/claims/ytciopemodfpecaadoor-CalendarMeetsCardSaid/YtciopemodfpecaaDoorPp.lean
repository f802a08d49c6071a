/-
  Plain: the reference's lists are the program's; Advance over the clipped list. No program.
-/
import Derived.Test.YtciopemodfpecaaDoorPo
namespace Go.Proofs.YtciopemodfpecaaDoor
set_option linter.unusedVariables false
set_option linter.unusedSimpArgs false

theorem mem_nil (m : Int) : mem [] m ↔ False := by simp [mem, cov]
theorem mem_append (a b : List (Int × Int)) (m : Int) : mem (a ++ b) m ↔ mem a m ∨ mem b m := by
  unfold mem
  rw [cov_append]
  constructor
  · rintro ⟨h1, h2, h | h⟩
    · exact .inl ⟨h1, h2, h⟩
    · exact .inr ⟨h1, h2, h⟩
  · rintro (⟨h1, h2, h⟩ | ⟨h1, h2, h⟩)
    · exact ⟨h1, h2, .inl h⟩
    · exact ⟨h1, h2, .inr h⟩
theorem mem_range {a : List (Int × Int)} {m : Int} (h : mem a m) : 0 ≤ m ∧ m < 1073741824 := ⟨h.1, h.2.1⟩

/-- The lists of the four operations. -/
def uniL (a b : List (Int × Int)) : List (Int × Int) := norm (a ++ b)
def intL (a b : List (Int × Int)) : List (Int × Int) := cmn (norm a) (norm b)
def minL (a b : List (Int × Int)) : List (Int × Int) := cmn (norm a) (gp 0 (norm b))
theorem uni_nr (a b : List (Int × Int)) : Nr (-1) (uniL a b) := norm_nr _
theorem uni_cov (a b : List (Int × Int)) (m : Int) : cov (uniL a b) m ↔ mem a m ∨ mem b m := by unfold uniL; rw [norm_cov, mem_append]
theorem int_nr (a b : List (Int × Int)) : Nr (-1) (intL a b) := cmn_nr (norm_nr a) (norm_nr b)
theorem int_cov (a b : List (Int × Int)) (m : Int) : cov (intL a b) m ↔ mem a m ∧ mem b m := by unfold intL; rw [cmn_cov (norm_nr a) (norm_nr b), norm_cov, norm_cov]
theorem min_nr (a b : List (Int × Int)) : Nr (-1) (minL a b) := cmn_nr (norm_nr a) (gp_ok (norm b) 0 (by omega) (by omega) (norm_nr b)).1
theorem min_cov (a b : List (Int × Int)) (m : Int) : cov (minL a b) m ↔ mem a m ∧ ¬ mem b m := by
  obtain ⟨g1, g2, _⟩ := gp_ok (norm b) 0 (by omega) (by omega) (norm_nr b)
  unfold minL
  rw [cmn_cov (norm_nr a) g1, norm_cov, g2, norm_cov]
  constructor
  · exact fun h => ⟨h.1, h.2.2.2⟩
  · exact fun h => ⟨h.1, h.1.1, h.1.2.1, h.2⟩
theorem uni_length (a b : List (Int × Int)) : (uniL a b).length ≤ a.length + b.length := by
  have := norm_length (a ++ b)
  rw [List.length_append] at this
  exact this
theorem int_length (a b : List (Int × Int)) : (intL a b).length ≤ a.length + b.length := by
  have h1 := cmn_length (norm_nr a) (norm_nr b)
  have h2 := norm_length a
  have h3 := norm_length b
  unfold intL
  omega
theorem min_length (a b : List (Int × Int)) : (minL a b).length ≤ a.length + b.length + 1 := by
  obtain ⟨g1, _, g3⟩ := gp_ok (norm b) 0 (by omega) (by omega) (norm_nr b)
  have h1 := cmn_length (norm_nr a) g1
  have h2 := norm_length a
  have h3 := norm_length b
  unfold minL
  omega
theorem mem_uni (a b : List (Int × Int)) (m : Int) : mem (uniL a b) m ↔ mem a m ∨ mem b m := by rw [mem_of_cov (uni_nr a b) (by omega), uni_cov]
theorem mem_int (a b : List (Int × Int)) (m : Int) : mem (intL a b) m ↔ mem a m ∧ mem b m := by rw [mem_of_cov (int_nr a b) (by omega), int_cov]
theorem mem_min (a b : List (Int × Int)) (m : Int) : mem (minL a b) m ↔ mem a m ∧ ¬ mem b m := by rw [mem_of_cov (min_nr a b) (by omega), min_cov]

def gOr (x y : Prop) : Prop := x ∨ y
def gAnd (x y : Prop) : Prop := x ∧ y
def gNot (x y : Prop) : Prop := x ∧ ¬ y
theorem cmb_norm (l : List (Int × Int)) : cmb gOr l [] = norm l := cmb_eq (fun _ _ h => h) (norm_nr l) (fun m => by rw [norm_cov, mem_nil, or_false])
theorem cmb_uni (a b : List (Int × Int)) : cmb gOr a b = uniL a b := cmb_eq (fun _ _ h => h) (uni_nr a b) (uni_cov a b)
theorem cmb_int (a b : List (Int × Int)) : cmb gAnd a b = intL a b := cmb_eq (fun _ _ h => .inl h.1) (int_nr a b) (int_cov a b)
theorem cmb_min (a b : List (Int × Int)) : cmb gNot a b = minL a b := cmb_eq (fun _ _ h => .inl h.1) (min_nr a b) (min_cov a b)

/-- The spans from f on. -/
def clip (f : Int) : List (Int × Int) → List (Int × Int)
  | [] => []
  | s :: t => if s.2 ≤ max s.1 f then clip f t else (max s.1 f, s.2) :: clip f t
theorem clip_ok (f : Int) : ∀ (l : List (Int × Int)) (e : Int), Nr e l → Nr e (clip f l) ∧ ∀ m, cov (clip f l) m ↔ cov l m ∧ f ≤ m
  | [], e, _ => ⟨trivial, fun m => by simp [clip, cov_nil]⟩
  | s :: t, e, h => by
    obtain ⟨g1, g2⟩ := clip_ok f t s.2 h.2.2.2
    have h1 := h.1; have h2 := h.2.1; have h3 := h.2.2.1
    simp only [clip]
    by_cases hc : s.2 ≤ max s.1 f
    · rw [if_pos hc]
      refine ⟨nr_mono _ _ _ (by omega) g1, fun m => ?_⟩
      rw [g2, cov_cons]
      constructor
      · exact fun h => ⟨.inr h.1, h.2⟩
      · rintro ⟨h | h, hf⟩
        · omega
        · exact ⟨h, hf⟩
    · rw [if_neg hc]
      refine ⟨⟨by simp only; omega, by simp only; omega, h3, g1⟩, fun m => ?_⟩
      rw [cov_cons, g2, cov_cons]
      constructor
      · rintro (h | h)
        · exact ⟨.inl ⟨by omega, h.2⟩, by omega⟩
        · exact ⟨.inr h.1, h.2⟩
      · rintro ⟨h | h, hf⟩
        · exact .inl ⟨by omega, h.2⟩
        · exact .inr ⟨h, hf⟩
/-- Advance as the reference walks. -/
def radv (f : Int) : List (Int × Int) → Int → Option Int
  | [], _ => none
  | s :: t, n => if s.2 ≤ max s.1 f then radv f t n else if n ≤ s.2 - max s.1 f then some (max s.1 f + n) else radv f t (n - (s.2 - max s.1 f))
theorem radv_clip (f : Int) : ∀ (l : List (Int × Int)) (n : Int), radv f l n = adv (clip f l) n
  | [], n => rfl
  | s :: t, n => by
    simp only [radv, clip]
    by_cases hc : s.2 ≤ max s.1 f
    · rw [if_pos hc, if_pos hc, radv_clip f t]
    · rw [if_neg hc, if_neg hc]
      simp only [adv]
      rw [radv_clip f t]
/-- The common parts of a normal list and all from f on. -/
def ahead (l : List (Int × Int)) (f : Int) : List (Int × Int) := cmn (norm l) (norm [(f, 1073741824)])
theorem ahead_nr (l : List (Int × Int)) (f : Int) : Nr (-1) (ahead l f) := cmn_nr (norm_nr _) (norm_nr _)
theorem ahead_cov (l : List (Int × Int)) (f m : Int) : cov (ahead l f) m ↔ mem l m ∧ f ≤ m := by
  unfold ahead
  rw [cmn_cov (norm_nr _) (norm_nr _), norm_cov, norm_cov]
  constructor
  · rintro ⟨h, h2⟩
    have := h2.2.2
    rw [cov_cons, cov_nil] at this
    simp only [or_false] at this
    exact ⟨h, this.1⟩
  · rintro ⟨h, h2⟩
    refine ⟨h, h.1, h.2.1, ?_⟩
    rw [cov_cons]
    exact .inl ⟨h2, h.2.1⟩
theorem radv_ahead (l : List (Int × Int)) (f n : Int) : radv f (norm l) n = adv (ahead l f) n := by
  rw [radv_clip]
  obtain ⟨g1, g2⟩ := clip_ok f (norm l) (-1) (norm_nr l)
  rw [nr_uniq (clip f (norm l)) (ahead l f) (-1) (-1) g1 (ahead_nr l f) (fun m => by rw [g2, norm_cov, ahead_cov])]
theorem radv_cons (f n : Int) (x y : Int) (t : List (Int × Int)) (b : Int) (hb : b = max x f) : radv f ((x, y) :: t) n = if y ≤ b then radv f t n else if n ≤ y - b then some (b + n) else radv f t (n - (y - b)) := by
  subst hb; rfl
end Go.Proofs.YtciopemodfpecaaDoor
