/-
  Plain definitions: sets of minutes as lists of spans, normal lists, what the operations yield. No program.
-/
namespace Go.Proofs.YtciopemodfpecaaDoor
set_option linter.unusedVariables false
set_option linter.unusedSimpArgs false

/-- Some span of the list holds m. -/
def cov (l : List (Int × Int)) (m : Int) : Prop := ∃ s ∈ l, s.1 ≤ m ∧ m < s.2
/-- m is in the set of the list. -/
def mem (l : List (Int × Int)) (m : Int) : Prop := 0 ≤ m ∧ m < 1073741824 ∧ cov l m

/-- Normal behind e. -/
def Nr : Int → List (Int × Int) → Prop
  | _, [] => True
  | e, s :: t => e < s.1 ∧ s.1 < s.2 ∧ s.2 ≤ 1073741824 ∧ Nr s.2 t
/-- The last end, or e. -/
def lst : Int → List (Int × Int) → Int
  | e, [] => e
  | _, s :: t => lst s.2 t

theorem cov_nil (m : Int) : cov [] m ↔ False := by simp [cov]
theorem cov_cons (s : Int × Int) (t : List (Int × Int)) (m : Int) : cov (s :: t) m ↔ (s.1 ≤ m ∧ m < s.2) ∨ cov t m := by simp [cov]
theorem cov_append (x y : List (Int × Int)) (m : Int) : cov (x ++ y) m ↔ cov x m ∨ cov y m := by
  induction x with
  | nil => simp [cov_nil]
  | cons s x ih => rw [List.cons_append, cov_cons, cov_cons, ih, or_assoc]

theorem nr_append : ∀ (x y : List (Int × Int)) (e : Int), Nr e (x ++ y) ↔ Nr e x ∧ Nr (lst e x) y
  | [], y, e => by simp [Nr, lst]
  | s :: x, y, e => by
    simp only [List.cons_append, Nr, lst, nr_append x y s.2, and_assoc]
theorem lst_append : ∀ (x y : List (Int × Int)) (e : Int), lst e (x ++ y) = lst (lst e x) y
  | [], _, _ => rfl
  | s :: x, y, _ => lst_append x y s.2
theorem nr_mono : ∀ (x : List (Int × Int)) (e e' : Int), e' ≤ e → Nr e x → Nr e' x
  | [], _, _, _, _ => trivial
  | _ :: _, _, _, h, hx => ⟨by have := hx.1; omega, hx.2⟩
theorem nr_of : ∀ (x : List (Int × Int)) (e : Int), Nr e x → ∀ s ∈ x, e < s.1 ∧ s.1 < s.2 ∧ s.2 ≤ 1073741824
  | [], _, _, _, h => by simp at h
  | t :: x, e, hx, s, h => by
    rcases List.mem_cons.1 h with rfl | h
    · exact ⟨hx.1, hx.2.1, hx.2.2.1⟩
    · have := nr_of x t.2 hx.2.2.2 s h
      have := hx.1; have := hx.2.1
      omega
theorem cov_gt {x : List (Int × Int)} {e m : Int} (h : Nr e x) (hm : cov x m) : e < m ∧ m < 1073741824 := by
  obtain ⟨s, hs, h1, h2⟩ := hm
  have := nr_of x e h s hs
  omega
theorem mem_of_cov {x : List (Int × Int)} {e m : Int} (h : Nr e x) (he : -1 ≤ e) : mem x m ↔ cov x m := by
  unfold mem
  constructor
  · exact fun h => h.2.2
  · intro hc
    have := cov_gt h hc
    exact ⟨by omega, by omega, hc⟩

theorem nr_uniq : ∀ (x y : List (Int × Int)) (e e' : Int), Nr e x → Nr e' y → (∀ m, cov x m ↔ cov y m) → x = y
  | [], [], _, _, _, _, _ => rfl
  | [], s :: y, e, e', _, hy, h => by
    exfalso
    have := (h s.1).2 (by rw [cov_cons]; exact .inl ⟨by omega, hy.2.1⟩)
    rw [cov_nil] at this; exact this
  | s :: x, [], e, e', hx, _, h => by
    exfalso
    have := (h s.1).1 (by rw [cov_cons]; exact .inl ⟨by omega, hx.2.1⟩)
    rw [cov_nil] at this; exact this
  | s :: x, t :: y, e, e', hx, hy, h => by
    have hx2 := hx.2.2.2
    have hy2 := hy.2.2.2
    have hx1 := hx.2.1
    have hy1 := hy.2.1
    have a1 : t.1 ≤ s.1 := by
      rcases (cov_cons t y s.1).1 ((h s.1).1 (by rw [cov_cons]; exact .inl ⟨by omega, by omega⟩)) with h1 | h1
      · exact h1.1
      · have := cov_gt hy2 h1; omega
    have a2 : s.1 ≤ t.1 := by
      rcases (cov_cons s x t.1).1 ((h t.1).2 (by rw [cov_cons]; exact .inl ⟨by omega, by omega⟩)) with h1 | h1
      · exact h1.1
      · have := cov_gt hx2 h1; omega
    have b1 : ¬ s.2 < t.2 := by
      intro hlt
      rcases (cov_cons s x s.2).1 ((h s.2).2 (by rw [cov_cons]; exact .inl ⟨by omega, by omega⟩)) with h1 | h1
      · omega
      · have := cov_gt hx2 h1; omega
    have b2 : ¬ t.2 < s.2 := by
      intro hlt
      rcases (cov_cons t y t.2).1 ((h t.2).1 (by rw [cov_cons]; exact .inl ⟨by omega, by omega⟩)) with h1 | h1
      · omega
      · have := cov_gt hy2 h1; omega
    have e1 : s = t := Prod.ext (by omega) (by omega)
    subst e1
    have := nr_uniq x y s.2 s.2 hx2 hy2 (fun m => by
      constructor
      · intro hm
        have hg := cov_gt hx2 hm
        rcases (cov_cons s y m).1 ((h m).1 (by rw [cov_cons]; exact .inr hm)) with h1 | h1
        · omega
        · exact h1
      · intro hm
        have hg := cov_gt hy2 hm
        rcases (cov_cons s x m).1 ((h m).2 (by rw [cov_cons]; exact .inr hm)) with h1 | h1
        · omega
        · exact h1)
    rw [this]

/-! ### Normal -/

/-- The parts within the range. -/
def cut1 (s : Int × Int) : Int × Int := (max s.1 0, min s.2 1073741824)
def cutL : List (Int × Int) → List (Int × Int)
  | [] => []
  | s :: t => if (cut1 s).1 < (cut1 s).2 then cut1 s :: cutL t else cutL t
theorem cutL_append : ∀ (x y : List (Int × Int)), cutL (x ++ y) = cutL x ++ cutL y
  | [], _ => rfl
  | s :: x, y => by
    simp only [List.cons_append, cutL, cutL_append x y]
    split <;> simp
theorem cutL_length : ∀ x : List (Int × Int), (cutL x).length ≤ x.length
  | [] => Nat.le_refl _
  | s :: x => by
    have := cutL_length x
    simp only [cutL]
    split <;> simp <;> omega
theorem cutL_of : ∀ (x : List (Int × Int)), ∀ s ∈ cutL x, 0 ≤ s.1 ∧ s.1 < s.2 ∧ s.2 ≤ 1073741824
  | [], s, h => by simp [cutL] at h
  | t :: x, s, h => by
    simp only [cutL] at h
    split at h
    · rcases List.mem_cons.1 h with rfl | h
      · refine ⟨?_, by assumption, ?_⟩ <;> simp only [cut1] <;> omega
      · exact cutL_of x s h
    · exact cutL_of x s h
theorem cov_cutL : ∀ (x : List (Int × Int)) (m : Int), cov (cutL x) m ↔ mem x m
  | [], m => by simp [cutL, mem, cov]
  | s :: x, m => by
    have ih := cov_cutL x m
    unfold mem at ih ⊢
    rw [cov_cons]
    simp only [cutL]
    split
    · rw [cov_cons, ih]
      simp only [cut1]
      constructor
      · rintro (h | h)
        · exact ⟨by omega, by omega, .inl ⟨by omega, by omega⟩⟩
        · exact ⟨h.1, h.2.1, .inr h.2.2⟩
      · rintro ⟨h1, h2, h | h⟩
        · exact .inl ⟨by omega, by omega⟩
        · exact .inr ⟨h1, h2, h⟩
    · rename_i hn
      rw [ih]
      simp only [cut1] at hn
      constructor
      · rintro ⟨h1, h2, h⟩
        exact ⟨h1, h2, .inr h⟩
      · rintro ⟨h1, h2, h | h⟩
        · omega
        · exact ⟨h1, h2, h⟩

/-- One step of the merge: the last span grows, or s is appended. -/
def stp (x : List (Int × Int)) (s : Int × Int) : List (Int × Int) :=
  match x.getLast? with
  | none => [s]
  | some t => if s.1 ≤ t.2 then x.dropLast ++ [(t.1, max t.2 s.2)] else x ++ [s]
def mrg (x d : List (Int × Int)) : List (Int × Int) := d.foldl stp x
theorem stp_nil (s : Int × Int) : stp [] s = [s] := rfl
theorem stp_snoc (x : List (Int × Int)) (t s : Int × Int) : stp (x ++ [t]) s = if s.1 ≤ t.2 then x ++ [(t.1, max t.2 s.2)] else x ++ [t] ++ [s] := by
  unfold stp
  simp
theorem stp_length (x : List (Int × Int)) (s : Int × Int) : (stp x s).length ≤ x.length + 1 := by
  rcases List.eq_nil_or_concat x with rfl | ⟨y, t, rfl⟩
  · simp [stp_nil]
  · rw [List.concat_eq_append, stp_snoc]
    split <;> simp
theorem mrg_snoc (x d : List (Int × Int)) (s : Int × Int) : mrg x (d ++ [s]) = stp (mrg x d) s := by simp [mrg]
theorem mrg_length (d : List (Int × Int)) : ∀ x, (mrg x d).length ≤ x.length + d.length := by
  induction d with
  | nil => intro x; simp [mrg]
  | cons s d ih =>
    intro x
    have h1 := ih (stp x s)
    have h2 := stp_length x s
    simp only [mrg, List.foldl_cons, List.length_cons] at *
    omega

theorem mrg_nr (d : List (Int × Int)) : ∀ (x : List (Int × Int)) (t : Int × Int), Nr (-1) (x ++ [t]) → (∀ s ∈ d, t.1 ≤ s.1 ∧ s.1 < s.2 ∧ s.2 ≤ 1073741824) → d.Pairwise (fun a b => a.1 ≤ b.1) →
    Nr (-1) (mrg (x ++ [t]) d) ∧ ∀ m, cov (mrg (x ++ [t]) d) m ↔ cov (x ++ [t]) m ∨ cov d m := by
  induction d with
  | nil =>
    intro x t h _ _
    exact ⟨h, fun m => by simp [mrg, cov_nil]⟩
  | cons s d ih =>
    intro x t h hd hp
    have hs := hd s (by simp)
    have hp' := List.pairwise_cons.1 hp
    have hn := (nr_append x [t] (-1)).1 h
    have e : mrg (x ++ [t]) (s :: d) = mrg (stp (x ++ [t]) s) d := rfl
    rw [e, stp_snoc]
    by_cases hc : s.1 ≤ t.2
    · rw [if_pos hc]
      have h1 : Nr (-1) (x ++ [(t.1, max t.2 s.2)]) := by
        rw [nr_append]
        refine ⟨hn.1, hn.2.1, ?_, ?_, trivial⟩
        · have := hn.2.2.1; simp only; omega
        · have := hn.2.2.2.1; simp only; omega
      obtain ⟨g1, g2⟩ := ih x (t.1, max t.2 s.2) h1 (fun u hu => by
        have := hd u (by simp [hu])
        simpa using this) hp'.2
      refine ⟨g1, fun m => ?_⟩
      rw [g2, cov_append, cov_append, cov_cons, cov_cons, cov_cons, cov_nil]
      have := hn.2.2.1
      simp only [or_false]
      constructor
      · rintro ((h | h) | h)
        · exact .inl (.inl h)
        · by_cases hm : m < t.2
          · exact .inl (.inr ⟨h.1, hm⟩)
          · exact .inr (.inl ⟨by omega, by omega⟩)
        · exact .inr (.inr h)
      · rintro ((h | h) | h | h)
        · exact .inl (.inl h)
        · exact .inl (.inr ⟨h.1, by omega⟩)
        · exact .inl (.inr ⟨by omega, by omega⟩)
        · exact .inr h
    · rw [if_neg hc]
      have h1 : Nr (-1) (x ++ [t] ++ [s]) := by
        rw [nr_append]
        refine ⟨h, ?_, hs.2.1, hs.2.2, trivial⟩
        rw [lst_append]
        simp only [lst]
        omega
      obtain ⟨g1, g2⟩ := ih (x ++ [t]) s h1 (fun u hu => by
        have := hd u (by simp [hu])
        have := hp'.1 u hu
        omega) hp'.2
      refine ⟨g1, fun m => ?_⟩
      rw [g2, cov_append _ [s], cov_cons, cov_cons, cov_nil]
      simp only [or_false, or_assoc]

theorem mrg_ok (d : List (Int × Int)) (hd : ∀ s ∈ d, 0 ≤ s.1 ∧ s.1 < s.2 ∧ s.2 ≤ 1073741824) (hp : d.Pairwise (fun a b => a.1 ≤ b.1)) : Nr (-1) (mrg [] d) ∧ ∀ m, cov (mrg [] d) m ↔ cov d m := by
  cases d with
  | nil => exact ⟨trivial, fun m => Iff.rfl⟩
  | cons s d =>
    have hs := hd s (by simp)
    have hp' := List.pairwise_cons.1 hp
    have e : mrg [] (s :: d) = mrg ([] ++ [s]) d := rfl
    rw [e]
    obtain ⟨g1, g2⟩ := mrg_nr d [] s ⟨by omega, hs.2.1, hs.2.2, trivial⟩ (fun u hu => by
      have := hd u (by simp [hu])
      have := hp'.1 u hu
      omega) hp'.2
    refine ⟨g1, fun m => ?_⟩
    rw [g2, cov_append, cov_cons, cov_cons, cov_nil]
    simp

/-- The normal list of the set of l. -/
def norm (l : List (Int × Int)) : List (Int × Int) := mrg [] ((cutL l).mergeSort fun a b => decide (a.1 ≤ b.1))

theorem cov_perm {x y : List (Int × Int)} (h : x.Perm y) (m : Int) : cov x m ↔ cov y m := by
  unfold cov
  constructor
  · rintro ⟨s, hs, h2⟩; exact ⟨s, h.mem_iff.1 hs, h2⟩
  · rintro ⟨s, hs, h2⟩; exact ⟨s, h.mem_iff.2 hs, h2⟩

theorem norm_ok (l : List (Int × Int)) : Nr (-1) (norm l) ∧ ∀ m, cov (norm l) m ↔ mem l m := by
  have hperm := List.mergeSort_perm (cutL l) (fun a b => decide (a.1 ≤ b.1))
  have hs := List.pairwise_mergeSort (le := fun (a b : Int × Int) => decide (a.1 ≤ b.1)) (by intro a b c; simp; omega) (by intro a b; simp; omega) (cutL l)
  obtain ⟨h1, h2⟩ := mrg_ok _ (fun s hs => cutL_of l s (hperm.mem_iff.1 hs)) (hs.imp (by intro a b; simp))
  exact ⟨h1, fun m => by rw [norm, h2, cov_perm hperm, cov_cutL]⟩
theorem norm_nr (l : List (Int × Int)) : Nr (-1) (norm l) := (norm_ok l).1
theorem norm_cov (l : List (Int × Int)) (m : Int) : cov (norm l) m ↔ mem l m := (norm_ok l).2 m

/-- Whatever sorted order the parts have, the merge is the normal list. -/
theorem mrg_norm (l d : List (Int × Int)) (h : d.Perm (cutL l)) (hp : d.Pairwise (fun a b => a.1 ≤ b.1)) : mrg [] d = norm l := by
  obtain ⟨h1, h2⟩ := mrg_ok d (fun s hs => cutL_of l s (h.mem_iff.1 hs)) hp
  exact nr_uniq _ _ _ _ h1 (norm_nr l) (fun m => by rw [h2, cov_perm h, cov_cutL, norm_cov])
/-- A normal list of the same set is the normal list. -/
theorem norm_eq {l x : List (Int × Int)} (h : Nr (-1) x) (hm : ∀ m, cov x m ↔ mem l m) : norm l = x :=
  nr_uniq _ _ _ _ (norm_nr l) h (fun m => by rw [norm_cov, hm])
theorem norm_self {x : List (Int × Int)} (h : Nr (-1) x) : norm x = x := norm_eq h (fun m => (mem_of_cov h (by omega)).symm)
theorem norm_length (l : List (Int × Int)) : (norm l).length ≤ l.length := by
  have h1 := mrg_length ((cutL l).mergeSort fun a b => decide (a.1 ≤ b.1)) []
  have h2 := cutL_length l
  simp at h1
  unfold norm
  omega
theorem mem_norm (l : List (Int × Int)) (m : Int) : mem (norm l) m ↔ mem l m := by rw [mem_of_cov (norm_nr l) (by omega), norm_cov]

/-! ### The common parts -/

def cmn : List (Int × Int) → List (Int × Int) → List (Int × Int)
  | [], _ => []
  | _ :: _, [] => []
  | s :: a, t :: b => (if max s.1 t.1 < min s.2 t.2 then [(max s.1 t.1, min s.2 t.2)] else []) ++ (if s.2 < t.2 then cmn a (t :: b) else cmn (s :: a) b)
termination_by a b => a.length + b.length
decreasing_by all_goals simp

theorem cmn_ok : ∀ (n : Nat) (a b : List (Int × Int)) (e e' : Int), a.length + b.length ≤ n → Nr e a → Nr e' b → Nr (max e e') (cmn a b) ∧ (∀ m, cov (cmn a b) m ↔ cov a m ∧ cov b m) ∧ (cmn a b).length ≤ a.length + b.length
  | _, [], b, e, e', _, _, _ => by unfold cmn; exact ⟨trivial, fun m => by simp [cov_nil], by simp⟩
  | _, s :: a, [], e, e', _, _, _ => by unfold cmn; exact ⟨trivial, fun m => by simp [cov_nil], by simp⟩
  | 0, s :: a, t :: b, e, e', h, _, _ => by simp at h
  | n + 1, s :: a, t :: b, e, e', h, ha, hb => by
    simp only [List.length_cons] at h
    have ha2 := ha.2.2.2
    have hb2 := hb.2.2.2
    have s1 := ha.1; have s2 := ha.2.1; have s3 := ha.2.2.1
    have t1 := hb.1; have t2 := hb.2.1; have t3 := hb.2.2.1
    rw [cmn]
    by_cases hlt : s.2 < t.2
    · obtain ⟨g1, g2, g3⟩ := cmn_ok n a (t :: b) s.2 e' (by simp; omega) ha2 hb
      rw [if_pos hlt]
      refine ⟨?_, fun m => ?_, ?_⟩
      · split
        · rw [nr_append]
          exact ⟨⟨by simp only; omega, by assumption, by simp only; omega, trivial⟩, nr_mono _ _ _ (by simp only [lst]; omega) g1⟩
        · exact nr_mono _ _ _ (by omega) g1
      · have e1 : cov (if max s.1 t.1 < min s.2 t.2 then [(max s.1 t.1, min s.2 t.2)] else []) m ↔ (s.1 ≤ m ∧ m < s.2) ∧ (t.1 ≤ m ∧ m < t.2) := by
          split
          · rw [cov_cons, cov_nil]; simp only [or_false]; omega
          · rw [cov_nil]; simp only [false_iff]; omega
        rw [cov_append, e1, g2, cov_cons s a, cov_cons t b]
        constructor
        · rintro (⟨h1, h2⟩ | ⟨h1, h2⟩)
          · exact ⟨.inl h1, .inl h2⟩
          · exact ⟨.inr h1, h2⟩
        · rintro ⟨h1 | h1, h2⟩
          · rcases h2 with h2 | h2
            · exact .inl ⟨h1, h2⟩
            · have := cov_gt hb2 h2; omega
          · exact .inr ⟨h1, h2⟩
      · rw [List.length_append]
        simp only [List.length_cons] at *
        split <;> simp <;> omega
    · obtain ⟨g1, g2, g3⟩ := cmn_ok n (s :: a) b e t.2 (by simp; omega) ha hb2
      rw [if_neg hlt]
      refine ⟨?_, fun m => ?_, ?_⟩
      · split
        · rw [nr_append]
          exact ⟨⟨by simp only; omega, by assumption, by simp only; omega, trivial⟩, nr_mono _ _ _ (by simp only [lst]; omega) g1⟩
        · exact nr_mono _ _ _ (by omega) g1
      · have e1 : cov (if max s.1 t.1 < min s.2 t.2 then [(max s.1 t.1, min s.2 t.2)] else []) m ↔ (s.1 ≤ m ∧ m < s.2) ∧ (t.1 ≤ m ∧ m < t.2) := by
          split
          · rw [cov_cons, cov_nil]; simp only [or_false]; omega
          · rw [cov_nil]; simp only [false_iff]; omega
        rw [cov_append, e1, g2, cov_cons s a, cov_cons t b]
        constructor
        · rintro (⟨h1, h2⟩ | ⟨h1, h2⟩)
          · exact ⟨.inl h1, .inl h2⟩
          · exact ⟨h1, .inr h2⟩
        · rintro ⟨h1, h2 | h2⟩
          · rcases h1 with h1 | h1
            · exact .inl ⟨h1, h2⟩
            · have := cov_gt ha2 h1; omega
          · exact .inr ⟨h1, h2⟩
      · rw [List.length_append]
        simp only [List.length_cons] at *
        split <;> simp <;> omega
theorem cmn_nr {a b : List (Int × Int)} (ha : Nr (-1) a) (hb : Nr (-1) b) : Nr (-1) (cmn a b) := (cmn_ok _ a b (-1) (-1) (Nat.le_refl _) ha hb).1
theorem cmn_cov {a b : List (Int × Int)} (ha : Nr (-1) a) (hb : Nr (-1) b) (m : Int) : cov (cmn a b) m ↔ cov a m ∧ cov b m := (cmn_ok _ a b (-1) (-1) (Nat.le_refl _) ha hb).2.1 m
theorem cmn_length {a b : List (Int × Int)} (ha : Nr (-1) a) (hb : Nr (-1) b) : (cmn a b).length ≤ a.length + b.length := (cmn_ok _ a b (-1) (-1) (Nat.le_refl _) ha hb).2.2

/-! ### Gaps -/

def gp : Int → List (Int × Int) → List (Int × Int)
  | f, [] => if f < 1073741824 then [(f, 1073741824)] else []
  | f, s :: t => (if f < s.1 then [(f, s.1)] else []) ++ gp s.2 t
theorem gp_ok : ∀ (l : List (Int × Int)) (f : Int), 0 ≤ f → f ≤ 1073741824 → Nr (f - 1) l → Nr (f - 1) (gp f l) ∧ (∀ m, cov (gp f l) m ↔ f ≤ m ∧ m < 1073741824 ∧ ¬ cov l m) ∧ (gp f l).length ≤ l.length + 1
  | [], f, h0, h1, _ => by
    simp only [gp]
    split
    · refine ⟨⟨by simp only; omega, by simp only; omega, by simp, trivial⟩, fun m => ?_, by simp⟩
      rw [cov_cons, cov_nil]; simp
    · refine ⟨trivial, fun m => ?_, by simp⟩
      rw [cov_nil]; simp only [false_iff]; omega
  | s :: t, f, h0, h1, h => by
    have s1 := h.1; have s2 := h.2.1; have s3 := h.2.2.1; have h2 := h.2.2.2
    obtain ⟨g1, g2, g3⟩ := gp_ok t s.2 (by omega) s3 (nr_mono _ _ _ (by omega) h2)
    simp only [gp]
    refine ⟨?_, fun m => ?_, ?_⟩
    · split
      · rw [nr_append]
        exact ⟨⟨by simp only; omega, by assumption, by simp only; omega, trivial⟩, nr_mono _ _ _ (by simp only [lst]; omega) g1⟩
      · exact nr_mono _ _ _ (by omega) g1
    · have e1 : cov (if f < s.1 then [(f, s.1)] else []) m ↔ f ≤ m ∧ m < s.1 := by
        split
        · rw [cov_cons, cov_nil]; simp
        · rw [cov_nil]; simp only [false_iff]; omega
      rw [cov_append, e1, g2, cov_cons]
      constructor
      · rintro (h | h)
        · refine ⟨h.1, by omega, ?_⟩
          rintro (h3 | h3)
          · omega
          · have := cov_gt h2 h3; omega
        · exact ⟨by omega, h.2.1, fun h3 => h3.elim (fun h3 => by omega) h.2.2⟩
      · rintro ⟨h3, h4, h5⟩
        by_cases hm : m < s.1
        · exact .inl ⟨h3, hm⟩
        · refine .inr ⟨?_, h4, fun h6 => h5 (.inr h6)⟩
          rcases Int.lt_or_le m s.2 with h7 | h7
          · exact absurd (.inl ⟨by omega, h7⟩) h5
          · exact h7
    · rw [List.length_append]
      simp only [List.length_cons]
      split <;> simp <;> omega

/-- The minutes of a list of disjoint spans. -/
def tot : List (Int × Int) → Int
  | [] => 0
  | s :: t => (s.2 - s.1) + tot t
theorem tot_append : ∀ (x y : List (Int × Int)), tot (x ++ y) = tot x + tot y
  | [], y => by simp [tot]
  | s :: x, y => by simp only [List.cons_append, tot, tot_append x y]; omega

theorem tot_bound : ∀ (x : List (Int × Int)) (e : Int), -1 ≤ e → Nr e x → 0 ≤ tot x ∧ (x ≠ [] → tot x < 1073741824 - e)
  | [], e, he, _ => by simp [tot]
  | s :: t, e, he, h => by
    have := tot_bound t s.2 (by have := h.1; have := h.2.1; omega) h.2.2.2
    have h1 := h.1; have h2 := h.2.1; have h3 := h.2.2.1
    simp only [tot]
    refine ⟨by omega, fun _ => ?_⟩
    by_cases hn : t = []
    · subst hn; simp only [tot]; omega
    · have := this.2 hn; omega
theorem tot_range {x : List (Int × Int)} (h : Nr (-1) x) : 0 ≤ tot x ∧ tot x ≤ 1073741824 := by
  have := tot_bound x (-1) (by omega) h
  refine ⟨this.1, ?_⟩
  by_cases hn : x = []
  · subst hn; simp [tot]
  · have := this.2 hn; omega

/-! ### Counting -/
open Classical in
noncomputable def ind (p : Prop) : Int := if p then 1 else 0
noncomputable def cnt (p : Int → Prop) : Nat → Int
  | 0 => 0
  | n + 1 => cnt p n + ind (p n)
theorem ind_true {p : Prop} (h : p) : ind p = 1 := by unfold ind; rw [if_pos h]
theorem ind_false {p : Prop} (h : ¬ p) : ind p = 0 := by unfold ind; rw [if_neg h]
theorem cnt_add {u v p q : Int → Prop} (h : ∀ m, ind (u m) + ind (v m) = ind (p m) + ind (q m)) : ∀ n, cnt u n + cnt v n = cnt p n + cnt q n
  | 0 => rfl
  | n + 1 => by
    have := cnt_add h n
    have := h n
    simp only [cnt]
    omega
theorem cnt_span (a b : Int) (ha : 0 ≤ a) (hab : a ≤ b) : ∀ n : Nat, cnt (fun m => a ≤ m ∧ m < b) n = max 0 ((n : Int) - a) - max 0 ((n : Int) - b)
  | 0 => by simp only [cnt]; omega
  | n + 1 => by
    have := cnt_span a b ha hab n
    simp only [cnt]
    by_cases h : a ≤ (n : Int) ∧ (n : Int) < b
    · rw [ind_true h, this]; omega
    · rw [ind_false h, this]; omega
theorem cnt_none {p : Int → Prop} (h : ∀ m, ¬ p m) : ∀ n, cnt p n = 0
  | 0 => rfl
  | n + 1 => by rw [cnt, cnt_none h n, ind_false (h _)]; rfl
theorem tot_cnt (N : Nat) (hN : (N : Int) = 1073741824) : ∀ (x : List (Int × Int)) (e : Int), -1 ≤ e → Nr e x → tot x = cnt (cov x) N
  | [], e, _, _ => by rw [cnt_none (fun m => by rw [cov_nil]; exact id)]; rfl
  | s :: t, e, he, h => by
    have h1 := h.1; have h2 := h.2.1; have h3 := h.2.2.1; have h4 := h.2.2.2
    have ih := tot_cnt N hN t s.2 (by omega) h4
    have hs := cnt_span s.1 s.2 (by omega) (by omega) N
    have hc := cnt_add (u := cov (s :: t)) (v := fun _ => False) (p := fun m => s.1 ≤ m ∧ m < s.2) (q := cov t) (fun m => by
      rw [ind_false (p := False) id]
      by_cases g : s.1 ≤ m ∧ m < s.2
      · rw [ind_true g, ind_true ((cov_cons s t m).2 (.inl g)), ind_false (p := cov t m) (fun k => by have := cov_gt h4 k; omega)]
      · by_cases k : cov t m
        · rw [ind_false g, ind_true k, ind_true ((cov_cons s t m).2 (.inr k))]; rfl
        · rw [ind_false g, ind_false k, ind_false (fun c => ((cov_cons s t m).1 c).elim g k)]) N
    rw [cnt_none (p := fun _ => False) (fun _ h => h)] at hc
    simp only [tot]
    rw [ih]
    omega

theorem tot_union {a b u i : List (Int × Int)} (ha : Nr (-1) a) (hb : Nr (-1) b) (hu : Nr (-1) u) (hi : Nr (-1) i) (h1 : ∀ m, cov u m ↔ cov a m ∨ cov b m) (h2 : ∀ m, cov i m ↔ cov a m ∧ cov b m) : tot u + tot i = tot a + tot b := by
  obtain ⟨N, hN⟩ : ∃ N : Nat, (N : Int) = 1073741824 := ⟨1073741824, rfl⟩
  rw [tot_cnt N hN u (-1) (by omega) hu, tot_cnt N hN i (-1) (by omega) hi, tot_cnt N hN a (-1) (by omega) ha, tot_cnt N hN b (-1) (by omega) hb]
  refine cnt_add (fun m => ?_) N
  have h1 := h1 m; have h2 := h2 m
  by_cases p : cov a m <;> by_cases q : cov b m
  · rw [ind_true p, ind_true q, ind_true (h1.2 (.inl p)), ind_true (h2.2 ⟨p, q⟩)]
  · rw [ind_true p, ind_false q, ind_true (h1.2 (.inl p)), ind_false (fun h => q (h2.1 h).2)]
  · rw [ind_false p, ind_true q, ind_true (h1.2 (.inr q)), ind_false (fun h => p (h2.1 h).1)]; rfl
  · rw [ind_false p, ind_false q, ind_false (fun h => (h1.1 h).elim p q), ind_false (fun h => p (h2.1 h).1)]
theorem tot_minus {a b d i : List (Int × Int)} (ha : Nr (-1) a) (hd : Nr (-1) d) (hi : Nr (-1) i) (h1 : ∀ m, cov d m ↔ cov a m ∧ ¬ cov b m) (h2 : ∀ m, cov i m ↔ cov a m ∧ cov b m) : tot d + tot i = tot a := by
  obtain ⟨N, hN⟩ : ∃ N : Nat, (N : Int) = 1073741824 := ⟨1073741824, rfl⟩
  rw [tot_cnt N hN d (-1) (by omega) hd, tot_cnt N hN i (-1) (by omega) hi, tot_cnt N hN a (-1) (by omega) ha]
  have := cnt_add (u := cov d) (v := cov i) (p := cov a) (q := fun _ => False) (fun m => by
    have h1 := h1 m; have h2 := h2 m
    rw [ind_false (p := False) id]
    by_cases p : cov a m <;> by_cases q : cov b m
    · rw [ind_true p, ind_true (h2.2 ⟨p, q⟩), ind_false (fun h => (h1.1 h).2 q)]; rfl
    · rw [ind_true p, ind_true (h1.2 ⟨p, q⟩), ind_false (fun h => q (h2.1 h).2)]
    · rw [ind_false p, ind_false (fun h => p (h1.1 h).1), ind_false (fun h => p (h2.1 h).1)]
    · rw [ind_false p, ind_false (fun h => p (h1.1 h).1), ind_false (fun h => p (h2.1 h).1)]) N
  rw [cnt_none (p := fun _ => False) (fun _ h => h)] at this
  omega

/-! ### Advance -/

def adv : List (Int × Int) → Int → Option Int
  | [], _ => none
  | s :: t, n => if n ≤ s.2 - s.1 then some (s.1 + n) else adv t (n - (s.2 - s.1))

theorem adv_none : ∀ (l : List (Int × Int)) (e n : Int), Nr e l → 0 < n → adv l n = none → tot l < n
  | [], _, n, _, h, _ => by simpa [tot] using h
  | s :: t, e, n, hl, h, ha => by
    simp only [adv] at ha
    split at ha
    · cases ha
    · have := adv_none t s.2 _ hl.2.2.2 (by omega) ha
      simp only [tot]
      omega
theorem adv_some : ∀ (l : List (Int × Int)) (e n m : Int), Nr e l → 0 < n → adv l n = some m → e < m - 1 ∧ m ≤ 1073741824 ∧ cov l (m - 1) ∧ ∃ l', Nr e l' ∧ (∀ k, cov l' k ↔ cov l k ∧ k < m) ∧ tot l' = n
  | [], _, _, _, _, _, h => by simp [adv] at h
  | s :: t, e, n, m, hl, h, ha => by
    have h1 := hl.1; have h2 := hl.2.1; have h3 := hl.2.2.1; have h4 := hl.2.2.2
    simp only [adv] at ha
    split at ha
    · rename_i hc
      simp only [Option.some.injEq] at ha
      subst ha
      refine ⟨by omega, by omega, (cov_cons _ _ _).2 (.inl ⟨by omega, by omega⟩), [(s.1, s.1 + n)], ⟨h1, by simp only; omega, by simp only; omega, trivial⟩, fun k => ?_, by simp only [tot]; omega⟩
      rw [cov_cons, cov_nil, cov_cons]
      simp only [or_false]
      constructor
      · intro h; exact ⟨.inl ⟨h.1, by omega⟩, h.2⟩
      · rintro ⟨h | h, hk⟩
        · exact ⟨h.1, hk⟩
        · have := cov_gt h4 h; omega
    · rename_i hc
      obtain ⟨g1, g2, g3, l', g4, g5, g6⟩ := adv_some t s.2 _ m h4 (by omega) ha
      refine ⟨by omega, g2, (cov_cons _ _ _).2 (.inr g3), s :: l', ⟨h1, h2, h3, g4⟩, fun k => ?_, by simp only [tot]; omega⟩
      rw [cov_cons, cov_cons, g5]
      constructor
      · rintro (h | h)
        · exact ⟨.inl h, by omega⟩
        · exact ⟨.inr h.1, h.2⟩
      · rintro ⟨h | h, hk⟩
        · exact .inl h
        · exact .inr ⟨h, hk⟩
end Go.Proofs.YtciopemodfpecaaDoor
