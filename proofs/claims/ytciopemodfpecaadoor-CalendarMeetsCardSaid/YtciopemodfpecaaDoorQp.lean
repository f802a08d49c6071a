/-
  The laws of package calendar, plainly: what the functions say together.
-/
import Derived.Test.YtciopemodfpecaaDoorPe
import Derived.Test.YtciopemodfpecaaDoorAd
import Derived.Test.YtciopemodfpecaaDoorKw
namespace Go.Proofs.YtciopemodfpecaaDoor
set_option linter.unusedVariables false
set_option linter.unusedSimpArgs false

theorem aft_cases (op : List (Int × Int)) (hol : List Int) (f n : Int) (hl : op.length = 7) :
    aE op hol f n ≠ 0 ∨ (aE op hol f n = 0 ∧ n = 0 ∧ aV op hol f n = f ∧ okR op hol f 1073741824 = true) ∨ (aE op hol f n = 0 ∧ 0 < n ∧ okR op hol f 1073741824 = true ∧ adv (wlist op hol f 1073741824) n = some (aV op hol f n)) := by
  unfold aE aV
  by_cases hok : okR op hol f 1073741824 = true
  · rw [if_pos hok, if_pos hok]
    by_cases h1 : n < 0
    · rw [if_pos h1, if_pos h1]; left; omega
    rw [if_neg h1, if_neg h1]
    by_cases h2 : n = 0
    · rw [if_pos h2, if_pos h2]; exact .inr (.inl ⟨rfl, h2, rfl, hok⟩)
    rw [if_neg h2, if_neg h2]
    cases ha : adv (wlist op hol f 1073741824) n with
    | none => left; simp
    | some m => right; right; exact ⟨by simp, by omega, hok, by simp⟩
  · rw [if_neg hok]; left; omega

theorem wlist_self {op : List (Int × Int)} {hol : List Int} {f : Int} (ho : opOk op) (hf : 0 ≤ f) (ht : f ≤ 1073741824) : wlist op hol f f = [] := by
  obtain ⟨h1, h2⟩ := wlist_ok (hol := hol) ho hf (Int.le_refl f) ht
  exact nr_uniq _ _ (-1) (-1) h1 trivial (fun m => by rw [h2, cov_nil]; constructor; (rintro ⟨a, b, _⟩; omega); exact fun h => h.elim)

theorem okR_sub {op : List (Int × Int)} {hol : List Int} {f t f' t' : Int} (hok : okR op hol f t = true) (h1 : 0 ≤ f') (h2 : f' ≤ t') (h3 : t' ≤ 1073741824) : okR op hol f' t' = true := by
  unfold okR at hok ⊢
  simp only [Bool.and_eq_true, decide_eq_true_eq] at hok ⊢
  exact ⟨⟨⟨hok.1.1.1, h1⟩, h2⟩, h3⟩

theorem zero_cases {op : List (Int × Int)} {hol : List Int} {f : Int} (hl : op.length = 7) (hok : okR op hol f 1073741824 = true) :
    0 = eR op hol f f ∧ 0 = wV op hol f f ∧ [] = oV op hol f f ∧ 0 ≤ f ∧ f ≤ 1073741824 := by
  obtain ⟨h1, h2, h3, h4, h5⟩ := (okR_iff hl).1 hok
  have k1 := okR_sub (f' := f) (t' := f) hok h3 (Int.le_refl _) h4
  refine ⟨by unfold eR; rw [if_pos k1], by unfold wV; rw [if_pos k1, wlist_self h1 h3 h4]; rfl, by unfold oV; rw [if_pos k1, wlist_self h1 h3 h4], h3, h4⟩

theorem oV_len (op : List (Int × Int)) (hol : List Int) (f t : Int) (hl : op.length = 7) (h : t - f ≤ 576000) : (oV op hol f t).length ≤ 402 := by
  unfold oV
  split
  · rename_i hok
    obtain ⟨h1, h2, h3, h4, h5⟩ := (okR_iff hl).1 hok
    rw [← rlist_norm h1 h3 h4 h5]
    have := norm_length (rlist op hol f t)
    have h6 : (rlist op hol f t).length ≤ (t / 1440 + 1 - f / 1440).toNat := rl_len op hol f t _ _
    omega
  · simp

theorem pos_cases {op : List (Int × Int)} {hol : List Int} {f n A : Int} (hl : op.length = 7) (hok : okR op hol f 1073741824 = true) (hn : 0 < n) (h : adv (wlist op hol f 1073741824) n = some A) :
    f < A ∧ 0 ≤ f ∧ 0 = eR op hol f A ∧ n = wV op hol f A ∧ A = advM (ahead (oV op hol f A) f) f n ∧ true = advB (ahead (oV op hol f A) f) n ∧ 0 = eR op hol f (A - 1) ∧ n - 1 = wV op hol f (A - 1) ∧ A ≤ 1073741824 := by
  obtain ⟨h1, h2, h3, h4, h5⟩ := (okR_iff hl).1 hok
  obtain ⟨a1, a2, a3, a4, a5⟩ := after_law h1 h3 h4 hn h
  have k1 := okR_sub (f' := f) (t' := A) hok h3 (by omega) a2
  have k2 := okR_sub (f' := f) (t' := A - 1) hok h3 (by omega) (by omega)
  obtain ⟨v1, v2⟩ := wlist_ok (hol := hol) h1 h3 (by omega : f ≤ A) a2
  have hah : ahead (oV op hol f A) f = wlist op hol f A := by
    unfold oV; rw [if_pos k1]
    exact nr_uniq _ _ (-1) (-1) (ahead_nr _ _) v1 (fun m => by
      rw [ahead_cov, mem_of_cov v1 (by omega), v2]
      constructor
      · exact fun h => h.1
      · exact fun h => ⟨h, h.1⟩)
  rw [hah]
  refine ⟨a1, h3, by unfold eR; rw [if_pos k1], by unfold wV; rw [if_pos k1, a3], ?_, ?_, by unfold eR; rw [if_pos k2], by unfold wV; rw [if_pos k2, a5], a2⟩
  · unfold advM; rw [if_neg (by omega), if_neg (by omega), a4]; rfl
  · unfold advB; rw [if_neg (by omega), if_neg (by omega), a4]; rfl
theorem few_true {hol : List Int} {f t : Int} (h : true = fewB hol f t) (hft : f ≤ t) : f < 0 ∨ 1073741824 < t ∨ t - f ≤ 576000 := by
  have h := h.symm
  unfold fewB at h
  simp only [Bool.and_eq_true, Bool.or_eq_true, decide_eq_true_eq] at h
  omega
/-- What CalendarAdds says, plainly. -/
theorem adds_cases {op : List (Int × Int)} {hol : List Int} {f m t : Int} (hl : op.length = 7) (hw : f < 0 ∨ 1073741824 < t ∨ t - f ≤ 576000) (hfm : f ≤ m) (hmt : m ≤ t) :
    (eR op hol f t = 1 ∧ wV op hol f t = 0 ∧ oV op hol f t = []) ∨
    (eR op hol f m = 0 ∧ eR op hol m t = 0 ∧ eR op hol f t = 0 ∧ wV op hol f m + wV op hol m t = wV op hol f t ∧ wV op hol f t = tot (norm (oV op hol f t)) ∧ 0 = chk (-1) (oV op hol f t) ∧
      true = decide (uniL (oV op hol f m) (oV op hol m t) = oV op hol f t) ∧ (oV op hol f m).length ≤ 402 ∧ (oV op hol m t).length ≤ 402 ∧ (oV op hol f t).length ≤ 402 ∧ 0 ≤ wV op hol f t ∧ wV op hol f t ≤ 1073741824) := by
  by_cases hok : okR op hol f t = true
  · right
    obtain ⟨h1, h2, h3, h4, h5⟩ := (okR_iff hl).1 hok
    have k1 := okR_sub (f' := f) (t' := m) hok h3 hfm (by omega)
    have k2 := okR_sub (f' := m) (t' := t) hok (by omega) hmt h5
    obtain ⟨v1, v2⟩ := wlist_ok (hol := hol) h1 h3 h4 h5
    obtain ⟨a1, a2⟩ := wlist_ok (hol := hol) h1 h3 hfm (by omega)
    obtain ⟨b1, b2⟩ := wlist_ok (hol := hol) h1 (by omega : 0 ≤ m) hmt h5
    have hadd := (wlist_add (hol := hol) h1 h3 hfm hmt h5).2
    have l1 := oV_len op hol f m hl (by omega)
    have l2 := oV_len op hol m t hl (by omega)
    have l3 := oV_len op hol f t hl (by omega)
    have hr := tot_range v1
    have o1 : oV op hol f m = wlist op hol f m := by unfold oV; rw [if_pos k1]
    have o2 : oV op hol m t = wlist op hol m t := by unfold oV; rw [if_pos k2]
    have o3 : oV op hol f t = wlist op hol f t := by unfold oV; rw [if_pos hok]
    have w1 : wV op hol f m = tot (wlist op hol f m) := by unfold wV; rw [if_pos k1]
    have w2 : wV op hol m t = tot (wlist op hol m t) := by unfold wV; rw [if_pos k2]
    have w3 : wV op hol f t = tot (wlist op hol f t) := by unfold wV; rw [if_pos hok]
    rw [o1] at l1 ⊢; rw [o2] at l2 ⊢; rw [o3] at l3 ⊢; rw [w1, w2, w3]
    refine ⟨by unfold eR; rw [if_pos k1], by unfold eR; rw [if_pos k2], by unfold eR; rw [if_pos hok], by omega, by rw [norm_self v1], (chk_ok v1).symm, ?_, l1, l2, l3, hr.1, hr.2⟩
    refine (decide_eq_true ?_).symm
    refine nr_uniq _ _ (-1) (-1) (uni_nr _ _) v1 (fun k => ?_)
    rw [uni_cov, mem_of_cov a1 (by omega), mem_of_cov b1 (by omega), a2, b2, v2]
    constructor
    · rintro (⟨x, y, z⟩ | ⟨x, y, z⟩)
      · exact ⟨x, by omega, z⟩
      · exact ⟨by omega, y, z⟩
    · rintro ⟨x, y, z⟩
      by_cases hk : k < m
      · exact .inl ⟨x, hk, z⟩
      · exact .inr ⟨by omega, y, z⟩
  · left
    exact ⟨by unfold eR; rw [if_neg hok], by unfold wV; rw [if_neg hok], by unfold oV; rw [if_neg hok]⟩
theorem mlen_not2 {Y M : Int} (h : ¬ M = 2) : 30 ≤ mlen Y M ∧ mlen Y M ≤ 31 ∧ (M = 12 → mlen Y M = 31) := by
  unfold mlen
  split
  · exact ⟨by omega, by omega, fun h12 => by omega⟩
  · exact ⟨by omega, by omega, fun _ => rfl⟩
end Go.Proofs.YtciopemodfpecaaDoor
