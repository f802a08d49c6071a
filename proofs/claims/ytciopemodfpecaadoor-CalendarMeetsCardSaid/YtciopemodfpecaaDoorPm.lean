/-
  Plain definitions of the reference: boundaries, pieces between neighbours. No program.
-/
import Derived.Test.YtciopemodfpecaaDoorPl
namespace Go.Proofs.YtciopemodfpecaaDoor
set_option linter.unusedVariables false
set_option linter.unusedSimpArgs false

/-- Strictly increasing behind e, up to the greatest minute. -/
def Up : Int → List Int → Prop
  | _, [] => True
  | e, x :: t => e < x ∧ x ≤ 1073741824 ∧ Up x t
theorem up_mono : ∀ (l : List Int) (e e' : Int), e' ≤ e → Up e l → Up e' l
  | [], _, _, _, _ => trivial
  | _ :: _, _, _, h, hx => ⟨by have := hx.1; omega, hx.2⟩
theorem up_of : ∀ (l : List Int) (e : Int), Up e l → ∀ x ∈ l, e < x ∧ x ≤ 1073741824
  | [], _, _, _, h => by simp at h
  | y :: l, e, hl, x, h => by
    rcases List.mem_cons.1 h with rfl | h
    · exact ⟨hl.1, hl.2.1⟩
    · have := up_of l y hl.2.2 x h
      have := hl.1
      omega

def ins : List Int → Int → List Int
  | [], x => [x]
  | y :: t, x => if y < x then y :: ins t x else if y = x then y :: t else x :: y :: t
theorem ins_up : ∀ (l : List Int) (x e : Int), Up e l → e < x → x ≤ 1073741824 → Up e (ins l x)
  | [], x, e, _, h1, h2 => ⟨h1, h2, trivial⟩
  | y :: t, x, e, h, h1, h2 => by
    simp only [ins]
    split
    · exact ⟨h.1, h.2.1, ins_up t x y h.2.2 (by assumption) h2⟩
    · split
      · exact h
      · exact ⟨h1, h2, by omega, h.2.1, h.2.2⟩
theorem ins_mem : ∀ (l : List Int) (x y : Int), y ∈ ins l x ↔ y ∈ l ∨ y = x
  | [], x, y => by simp [ins]
  | z :: t, x, y => by
    simp only [ins]
    split
    · rw [List.mem_cons, ins_mem t x y, List.mem_cons, or_assoc]
    · split
      · rename_i h
        subst h
        simp only [List.mem_cons]
        constructor
        · exact fun h => .inl h
        · rintro (h | h)
          · exact h
          · exact .inl h
      · simp only [List.mem_cons]
        constructor
        · rintro (h | h | h)
          · exact .inr h
          · exact .inl (.inl h)
          · exact .inl (.inr h)
        · rintro ((h | h) | h)
          · exact .inr (.inl h)
          · exact .inr (.inr h)
          · exact .inl h
theorem ins_length : ∀ (l : List Int) (x : Int), (ins l x).length ≤ l.length + 1
  | [], x => by simp [ins]
  | y :: t, x => by
    have := ins_length t x
    simp only [ins]
    split
    · simp; omega
    · split <;> simp
/-- Cut to the range. -/
def clp (x : Int) : Int := min (max x 0) 1073741824
def bnd : List Int → List (Int × Int) → List Int
  | p, [] => p
  | p, s :: t => bnd (ins (ins p (clp s.1)) (clp s.2)) t
theorem bnd_up : ∀ (l : List (Int × Int)) (p : List Int), Up (-1) p → Up (-1) (bnd p l)
  | [], _, h => h
  | s :: t, p, h => bnd_up t _ (ins_up _ _ _ (ins_up _ _ _ h (by unfold clp; omega) (by unfold clp; omega)) (by unfold clp; omega) (by unfold clp; omega))
theorem bnd_mem : ∀ (l : List (Int × Int)) (p : List Int) (y : Int), y ∈ bnd p l ↔ y ∈ p ∨ ∃ s ∈ l, y = clp s.1 ∨ y = clp s.2
  | [], p, y => by simp [bnd]
  | s :: t, p, y => by
    simp only [bnd]
    rw [bnd_mem t, ins_mem, ins_mem]
    simp only [List.mem_cons, exists_eq_or_imp, or_assoc]
theorem bnd_length : ∀ (l : List (Int × Int)) (p : List Int), (bnd p l).length ≤ p.length + 2 * l.length
  | [], p => by simp [bnd]
  | s :: t, p => by
    have h1 := bnd_length t (ins (ins p (clp s.1)) (clp s.2))
    have h2 := ins_length (ins p (clp s.1)) (clp s.2)
    have h3 := ins_length p (clp s.1)
    simp only [bnd, List.length_cons]
    omega
theorem bnd_append : ∀ (l : List (Int × Int)) (p : List Int) (s : Int × Int), bnd p (l ++ [s]) = ins (ins (bnd p l) (clp s.1)) (clp s.2)
  | [], _, _ => rfl
  | t :: l, p, s => by simp only [List.cons_append, bnd, bnd_append l]

/-- One piece: it joins the last span, or is appended. -/
def pc (out : List (Int × Int)) (a b : Int) : List (Int × Int) :=
  match out.getLast? with
  | none => [(a, b)]
  | some t => if t.2 = a then out.dropLast ++ [(t.1, b)] else out ++ [(a, b)]
theorem pc_nil (a b : Int) : pc [] a b = [(a, b)] := rfl
theorem pc_snoc (x : List (Int × Int)) (t : Int × Int) (a b : Int) : pc (x ++ [t]) a b = if t.2 = a then x ++ [(t.1, b)] else x ++ [t] ++ [(a, b)] := by
  unfold pc
  simp
theorem pc_length (x : List (Int × Int)) (a b : Int) : (pc x a b).length ≤ x.length + 1 := by
  rcases List.eq_nil_or_concat x with rfl | ⟨y, t, rfl⟩
  · simp [pc_nil]
  · rw [List.concat_eq_append, pc_snoc]
    split <;> simp
open Classical in
/-- The pieces between neighbours of p whose beginning f holds. -/
noncomputable def fld (f : Int → Prop) : List (Int × Int) → List Int → List (Int × Int)
  | out, [] => out
  | out, [_] => out
  | out, a :: b :: r => fld f (if f a then pc out a b else out) (b :: r)

/-- m lies in a piece whose beginning f holds. -/
def pcs (f : Int → Prop) : List Int → Int → Prop
  | [], _ => False
  | [_], _ => False
  | a :: b :: r, m => (a ≤ m ∧ m < b ∧ f a) ∨ pcs f (b :: r) m

theorem pc_ok (out : List (Int × Int)) (a b : Int) (h : Nr (-1) out) (hl : lst (-1) out ≤ a) (h0 : 0 ≤ a) (hab : a < b) (hb : b ≤ 1073741824) :
    Nr (-1) (pc out a b) ∧ lst (-1) (pc out a b) = b ∧ ∀ m, cov (pc out a b) m ↔ cov out m ∨ (a ≤ m ∧ m < b) := by
  rcases List.eq_nil_or_concat out with rfl | ⟨y, t, rfl⟩
  · rw [pc_nil]
    refine ⟨⟨by simp only; omega, hab, hb, trivial⟩, rfl, fun m => ?_⟩
    rw [cov_cons, cov_nil]; simp
  · rw [List.concat_eq_append] at *
    rw [pc_snoc]
    rw [lst_append] at hl
    simp only [lst] at hl
    have hn := (nr_append y [t] (-1)).1 h
    by_cases e : t.2 = a
    · rw [if_pos e]
      refine ⟨?_, by rw [lst_append]; rfl, fun m => ?_⟩
      · rw [nr_append]
        exact ⟨hn.1, hn.2.1, by have := hn.2.2.1; simp only; omega, hb, trivial⟩
      · rw [cov_append, cov_append, cov_cons, cov_cons, cov_nil]
        have := hn.2.2.1
        simp only [or_false, or_assoc]
        constructor
        · rintro (h | h)
          · exact .inl h
          · by_cases hm : m < a
            · exact .inr (.inl ⟨h.1, by omega⟩)
            · exact .inr (.inr ⟨by omega, h.2⟩)
        · rintro (h | h | h)
          · exact .inl h
          · exact .inr ⟨h.1, by omega⟩
          · exact .inr ⟨by omega, h.2⟩
    · rw [if_neg e]
      refine ⟨?_, by rw [lst_append]; rfl, fun m => ?_⟩
      · rw [nr_append]
        refine ⟨h, ?_, hab, hb, trivial⟩
        rw [lst_append]
        simp only [lst]
        omega
      · rw [cov_append _ [(a, b)], cov_cons, cov_nil]; simp

theorem fld_ok (f : Int → Prop) : ∀ (p : List Int) (out : List (Int × Int)) (e : Int), -1 ≤ e → Up e p → Nr (-1) out → (∀ a r, p = a :: r → lst (-1) out ≤ a) →
    Nr (-1) (fld f out p) ∧ (∀ m, cov (fld f out p) m ↔ cov out m ∨ pcs f p m) ∧ (fld f out p).length ≤ out.length + p.length
  | [], out, e, he, _, h, _ => ⟨h, fun m => by simp [fld, pcs], by simp [fld]⟩
  | [a], out, e, he, _, h, _ => ⟨h, fun m => by simp [fld, pcs], by simp [fld]⟩
  | a :: b :: r, out, e, he, hp, h, hl => by
    have hla := hl a _ rfl
    have h1 := hp.1
    have h2 := hp.2.2.1
    have h3 := hp.2.2.2.1
    simp only [fld]
    by_cases hf : f a
    · rw [if_pos hf]
      obtain ⟨g1, g2, g3⟩ := pc_ok out a b h hla (by omega) h2 h3
      have g4 := pc_length out a b
      obtain ⟨k1, k2, k3⟩ := fld_ok f (b :: r) (pc out a b) a (by omega) hp.2.2 g1 (fun a' r' e => by
        simp only [List.cons.injEq] at e
        omega)
      refine ⟨k1, fun m => ?_, by simp at *; omega⟩
      rw [k2, g3]
      simp only [pcs, or_assoc]
      simp only [hf, and_true]
    · rw [if_neg hf]
      obtain ⟨k1, k2, k3⟩ := fld_ok f (b :: r) out a (by omega) hp.2.2 h (fun a' r' e => by
        simp only [List.cons.injEq] at e
        omega)
      refine ⟨k1, fun m => ?_, by simp at *; omega⟩
      rw [k2]
      simp only [pcs]
      simp only [hf, and_false, false_or]

theorem pcs_iff (f : Int → Prop) : ∀ (p : List Int) (e : Int), Up e p → ∀ m, pcs f p m ↔ ∃ a ∈ p, a ≤ m ∧ f a ∧ (∀ x ∈ p, x ≤ m → x ≤ a) ∧ ∃ x ∈ p, m < x
  | [], e, _, m => by simp [pcs]
  | [a], e, _, m => by
    simp only [pcs, false_iff]
    rintro ⟨c, hc, h1, _, _, x, hx, h2⟩
    simp only [List.mem_singleton] at hc hx
    omega
  | a :: b :: r, e, hp, m => by
    have hab := hp.2.2.1
    have hbr : ∀ x ∈ b :: r, b ≤ x := fun x hx => by
      rcases List.mem_cons.1 hx with rfl | hx
      · exact Int.le_refl _
      · have := up_of _ _ hp.2.2.2.2 x hx
        omega
    simp only [pcs]
    rw [pcs_iff f (b :: r) a hp.2.2 m]
    constructor
    · rintro (⟨h1, h2, h3⟩ | ⟨c, hc, h1, h2, h3, x, hx, h4⟩)
      · refine ⟨a, by simp, h1, h3, fun x hx hxm => ?_, b, by simp, h2⟩
        rcases List.mem_cons.1 hx with rfl | hx
        · exact Int.le_refl _
        · have := hbr x hx; omega
      · refine ⟨c, List.mem_cons_of_mem _ hc, h1, h2, fun y hy hym => ?_, x, List.mem_cons_of_mem _ hx, h4⟩
        rcases List.mem_cons.1 hy with rfl | hy
        · have := hbr c hc; omega
        · exact h3 y hy hym
    · rintro ⟨c, hc, h1, h2, h3, x, hx, h4⟩
      rcases List.mem_cons.1 hc with rfl | hc
      · refine .inl ⟨h1, ?_, h2⟩
        rcases Int.lt_or_le m b with h | h
        · exact h
        · have := h3 b (by simp) h; omega
      · refine .inr ⟨c, hc, h1, h2, fun y hy hym => h3 y (List.mem_cons_of_mem _ hy) hym, ?_⟩
        rcases List.mem_cons.1 hx with e | hx
        · have := hbr c hc; omega
        · exact ⟨x, hx, h4⟩

theorem greatest (m : Int) : ∀ (p : List Int), (∃ x ∈ p, x ≤ m) → ∃ a ∈ p, a ≤ m ∧ ∀ x ∈ p, x ≤ m → x ≤ a
  | [], h => by simp at h
  | y :: p, h => by
    by_cases hp : ∃ x ∈ p, x ≤ m
    · obtain ⟨a, ha, h1, h2⟩ := greatest m p hp
      by_cases hy : y ≤ m ∧ a ≤ y
      · refine ⟨y, by simp, hy.1, fun x hx hxm => ?_⟩
        rcases List.mem_cons.1 hx with rfl | hx
        · exact Int.le_refl _
        · have := h2 x hx hxm; omega
      · refine ⟨a, List.mem_cons_of_mem _ ha, h1, fun x hx hxm => ?_⟩
        rcases List.mem_cons.1 hx with rfl | hx
        · omega
        · exact h2 x hx hxm
    · obtain ⟨x, hx, hxm⟩ := h
      rcases List.mem_cons.1 hx with rfl | hx
      · refine ⟨x, by simp, hxm, fun z hz hzm => ?_⟩
        rcases List.mem_cons.1 hz with rfl | hz
        · exact Int.le_refl _
        · exact absurd ⟨z, hz, hzm⟩ hp
      · exact absurd ⟨x, hx, hxm⟩ hp

/-- The points of two lists. -/
def pts (a b : List (Int × Int)) : List Int := bnd (bnd [] a) b
theorem pts_up (a b : List (Int × Int)) : Up (-1) (pts a b) := bnd_up _ _ (bnd_up _ _ trivial)
theorem pts_mem (a b : List (Int × Int)) (y : Int) : y ∈ pts a b ↔ (∃ s ∈ a, y = clp s.1 ∨ y = clp s.2) ∨ ∃ s ∈ b, y = clp s.1 ∨ y = clp s.2 := by
  unfold pts; rw [bnd_mem, bnd_mem]; simp
theorem pts_length (a b : List (Int × Int)) : (pts a b).length ≤ 2 * a.length + 2 * b.length := by
  have h1 := bnd_length b (bnd [] a)
  have h2 := bnd_length a []
  simp at h2
  unfold pts
  omega
/-- Membership is the same at m and at the greatest point up to m. -/
theorem mem_point {l : List (Int × Int)} {p : List Int} (hl : ∀ s ∈ l, clp s.1 ∈ p ∧ clp s.2 ∈ p) {a m : Int} (h0 : 0 ≤ a) (ham : a ≤ m) (hx : ∀ x ∈ p, x ≤ m → x ≤ a) (hm : m < 1073741824) : mem l a ↔ mem l m := by
  unfold mem cov
  constructor
  · rintro ⟨h1, h2, s, hs, h3, h4⟩
    refine ⟨by omega, hm, s, hs, by omega, ?_⟩
    have := (hl s hs).2
    rcases Int.lt_or_le m s.2 with h | h
    · exact h
    · have := hx _ this (by unfold clp; omega)
      unfold clp at this
      omega
  · rintro ⟨h1, h2, s, hs, h3, h4⟩
    refine ⟨h0, by omega, s, hs, ?_, by omega⟩
    have := hx _ (hl s hs).1 (by unfold clp; omega)
    unfold clp at this
    omega

/-- What the reference's pieces are: the set that f tells. -/
theorem pcs_set (a b : List (Int × Int)) (f : Int → Prop) (g : Prop → Prop → Prop) (hf : ∀ m, f m ↔ g (mem a m) (mem b m)) (hg : ∀ x y, g x y → x ∨ y) (m : Int) : pcs f (pts a b) m ↔ f m := by
  have hup := pts_up a b
  have ha : ∀ s ∈ a, clp s.1 ∈ pts a b ∧ clp s.2 ∈ pts a b := fun s hs => ⟨(pts_mem a b _).2 (.inl ⟨s, hs, .inl rfl⟩), (pts_mem a b _).2 (.inl ⟨s, hs, .inr rfl⟩)⟩
  have hb : ∀ s ∈ b, clp s.1 ∈ pts a b ∧ clp s.2 ∈ pts a b := fun s hs => ⟨(pts_mem a b _).2 (.inr ⟨s, hs, .inl rfl⟩), (pts_mem a b _).2 (.inr ⟨s, hs, .inr rfl⟩)⟩
  rw [pcs_iff f _ _ hup]
  constructor
  · rintro ⟨c, hc, h1, h2, h3, x, hx, h4⟩
    have hc0 := up_of _ _ hup c hc
    have hx0 := up_of _ _ hup x hx
    have e1 := mem_point ha (by omega) h1 h3 (by omega)
    have e2 := mem_point hb (by omega) h1 h3 (by omega)
    rw [hf] at h2 ⊢
    rw [← propext e1, ← propext e2]
    exact h2
  · intro h
    have hor := hg _ _ ((hf m).1 h)
    have hex : (0 ≤ m ∧ m < 1073741824) ∧ (∃ x ∈ pts a b, x ≤ m) ∧ ∃ x ∈ pts a b, m < x := by
      rcases hor with ⟨h1, h2, s, hs, h3, h4⟩ | ⟨h1, h2, s, hs, h3, h4⟩
      · exact ⟨⟨h1, h2⟩, ⟨_, (ha s hs).1, by unfold clp; omega⟩, _, (ha s hs).2, by unfold clp; omega⟩
      · exact ⟨⟨h1, h2⟩, ⟨_, (hb s hs).1, by unfold clp; omega⟩, _, (hb s hs).2, by unfold clp; omega⟩
    obtain ⟨c, hc, h1, h3⟩ := greatest m _ hex.2.1
    have hc0 := up_of _ _ hup c hc
    have e1 := mem_point ha (by omega) h1 h3 hex.1.2
    have e2 := mem_point hb (by omega) h1 h3 hex.1.2
    refine ⟨c, hc, h1, ?_, h3, hex.2.2⟩
    rw [hf] at h ⊢
    rw [propext e1, propext e2]
    exact h

/-- The reference's list for a combination. -/
noncomputable def cmb (g : Prop → Prop → Prop) (a b : List (Int × Int)) : List (Int × Int) := fld (fun m => g (mem a m) (mem b m)) [] (pts a b)
theorem cmb_ok (g : Prop → Prop → Prop) (hg : ∀ x y, g x y → x ∨ y) (a b : List (Int × Int)) : Nr (-1) (cmb g a b) ∧ (∀ m, cov (cmb g a b) m ↔ g (mem a m) (mem b m)) ∧ (cmb g a b).length ≤ 2 * a.length + 2 * b.length := by
  obtain ⟨h1, h2, h3⟩ := fld_ok (fun m => g (mem a m) (mem b m)) (pts a b) [] (-1) (by omega) (pts_up a b) trivial (fun c r e => by
    have := up_of _ _ (pts_up a b) c (by rw [e]; simp)
    simp only [lst]; omega)
  refine ⟨h1, fun m => ?_, ?_⟩
  · show cov (fld _ [] (pts a b)) m ↔ _
    rw [h2, cov_nil, false_or]
    exact pcs_set a b _ g (fun m => Iff.rfl) hg m
  · have := pts_length a b
    simp at h3
    unfold cmb
    omega
theorem cmb_eq {g : Prop → Prop → Prop} (hg : ∀ x y, g x y → x ∨ y) {a b x : List (Int × Int)} (h : Nr (-1) x) (hm : ∀ m, cov x m ↔ g (mem a m) (mem b m)) : cmb g a b = x := by
  obtain ⟨h1, h2, _⟩ := cmb_ok g hg a b
  exact nr_uniq _ _ _ _ h1 h (fun m => by rw [h2, hm])
/-- The gaps ahead of the last one. -/
def gpm : Int → List (Int × Int) → List (Int × Int)
  | _, [] => []
  | f, s :: t => (if f < s.1 then [(f, s.1)] else []) ++ gpm s.2 t
theorem gp_gpm : ∀ (l : List (Int × Int)) (f : Int), gp f l = gpm f l ++ (if lst f l < 1073741824 then [(lst f l, 1073741824)] else [])
  | [], f => rfl
  | s :: t, f => by simp only [gp, gpm, lst, gp_gpm t s.2, List.append_assoc]; rfl
theorem gpm_snoc : ∀ (l : List (Int × Int)) (f : Int) (s : Int × Int), gpm f (l ++ [s]) = gpm f l ++ (if lst f l < s.1 then [(lst f l, s.1)] else [])
  | [], f, s => by simp only [List.nil_append, gpm, lst, List.append_nil]; rfl
  | t :: l, f, s => by simp only [List.cons_append, gpm, lst, gpm_snoc l t.2 s, List.append_assoc]; rfl
theorem gpm_length : ∀ (l : List (Int × Int)) (f : Int), (gpm f l).length ≤ l.length
  | [], f => by simp [gpm]
  | t :: l, f => by
    have := gpm_length l t.2
    simp only [gpm, List.length_append, List.length_cons]
    split <;> simp <;> omega
theorem lst_snoc (x : List (Int × Int)) (e : Int) (s : Int × Int) : lst e (x ++ [s]) = s.2 := by rw [lst_append]; rfl

end Go.Proofs.YtciopemodfpecaaDoor
