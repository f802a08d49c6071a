/-
  The calendar of both, plainly: the spans and the merged holidays.
-/
import Derived.Test.YtciopemodfpecaaDoorJa
import Derived.Test.YtciopemodfpecaaDoorQp
import Derived.Test.YtciopemodfpecaaDoorKd
import Derived.Test.YtciopemodfpecaaDoorKb
namespace Go.Proofs.YtciopemodfpecaaDoor

theorem wp_appt25 {P : Program} {ops : Array Oper} {rest : List Oper} {o : Oper} {a : Act} {Q : Exit → Act → World → Prop} (hP : P = Tryd.prog) (hgd : o.guard = none) (hty : o.type = 25) (s x : Operand)
    (ho : o.op = .call { callee := .builtin .append, args := #[s, x], argTypes := #[25, 25] }) {w : World} {v u v' : Value} {w' : World} (hs : a.eval s = v) (hx : a.eval x = u)
    (hr : (Builtin.append_ #[25, 25] 25 #[v, u]).run Tryd.prog w = .ok v' w') (hk : wpList P ops Q rest (a.put o.dst v') w') : wpList P ops Q (o :: rest) a w := by
  subst hP
  refine wpList_plain hgd fun K hK => ?_
  unfold Oper.wp execOp
  simp only [ho, hty, resolve, invoke, builtin, Sem.run_bind, Sem.run_pure, Result.andThen_ok, List.map_toArray, List.map_cons, List.map_nil, hs, hx, hr]
  exact hK _ _ hk
theorem Bo.shape3 {w wr : World} {cs cs' z : Array Value} {opx : List (Int × Int)} {l : List Int} {v : Value} (h : Bo w cs cs' z opx l v wr) : ∃ a n c, v = .slice a n c := by
  obtain ⟨a, c, h⟩ := h.shape
  exact ⟨a, _, c, h⟩
/-- The span of both. -/
def cs1 (s s' : Int × Int) : Int × Int := if max s.1 s'.1 < min s.2 s'.2 then (max s.1 s'.1, min s.2 s'.2) else (0, 0)
/-- The holidays of both. -/
def mH : List Int → List Int → List Int
  | [], ys => ys
  | x :: xs, [] => x :: xs
  | x :: xs, y :: ys => if x < y then x :: mH xs (y :: ys) else if y < x then y :: mH (x :: xs) ys else x :: mH xs ys
  termination_by xs ys => xs.length + ys.length
theorem mH_nil (xs : List Int) : mH xs [] = xs := by cases xs <;> simp [mH]
theorem mH_cons (x y : Int) (xs ys : List Int) : mH (x :: xs) (y :: ys) = if x < y then x :: mH xs (y :: ys) else if y < x then y :: mH (x :: xs) ys else x :: mH xs ys := by rw [mH]
theorem mH_ok : ∀ (n : Nat) (xs ys : List Int) (e : Int), xs.length + ys.length ≤ n → holB e xs = true → holB e ys = true → holB e (mH xs ys) = true ∧ (∀ d, d ∈ mH xs ys ↔ d ∈ xs ∨ d ∈ ys) ∧ (mH xs ys).length ≤ xs.length + ys.length
  | 0, xs, ys, e, hl, h1, h2 => by
    have hx : xs = [] := List.eq_nil_of_length_eq_zero (by omega)
    have hy : ys = [] := List.eq_nil_of_length_eq_zero (by omega)
    subst hx hy
    simp [mH, h1]
  | n + 1, [], ys, e, hl, h1, h2 => by simp [mH, h2]
  | n + 1, x :: xs, [], e, hl, h1, h2 => by rw [mH_nil]; exact ⟨h1, fun d => by simp, by simp⟩
  | n + 1, x :: xs, y :: ys, e, hl, h1, h2 => by
    rw [mH_cons]
    simp only [holB, Bool.and_eq_true, decide_eq_true_eq] at h1 h2
    simp only [List.length_cons] at hl
    by_cases c1 : x < y
    · rw [if_pos c1]
      obtain ⟨i1, i2, i3⟩ := mH_ok n xs (y :: ys) x (by simp only [List.length_cons]; omega) h1.2 (by simp only [holB, Bool.and_eq_true, decide_eq_true_eq]; exact ⟨⟨c1, h2.1.2⟩, h2.2⟩)
      refine ⟨by simp only [holB, Bool.and_eq_true, decide_eq_true_eq]; exact ⟨h1.1, i1⟩, fun d => ?_, by simp only [List.length_cons] at i3 ⊢; omega⟩
      simp only [List.mem_cons, i2]
      constructor
      · rintro (h | h | h | h) <;> simp [h]
      · rintro ((h | h) | h | h) <;> simp [h]
    rw [if_neg c1]
    by_cases c2 : y < x
    · rw [if_pos c2]
      obtain ⟨i1, i2, i3⟩ := mH_ok n (x :: xs) ys y (by simp only [List.length_cons]; omega) (by simp only [holB, Bool.and_eq_true, decide_eq_true_eq]; exact ⟨⟨c2, h1.1.2⟩, h1.2⟩) h2.2
      refine ⟨by simp only [holB, Bool.and_eq_true, decide_eq_true_eq]; exact ⟨h2.1, i1⟩, fun d => ?_, by simp only [List.length_cons] at i3 ⊢; omega⟩
      simp only [List.mem_cons, i2]
      constructor
      · rintro (h | (h | h) | h) <;> simp [h]
      · rintro ((h | h) | h | h) <;> simp [h]
    rw [if_neg c2]
    have hxy : x = y := by omega
    subst hxy
    obtain ⟨i1, i2, i3⟩ := mH_ok n xs ys x (by omega) h1.2 h2.2
    refine ⟨by simp only [holB, Bool.and_eq_true, decide_eq_true_eq]; exact ⟨h1.1, i1⟩, fun d => ?_, by simp only [List.length_cons] at i3 ⊢; omega⟩
    simp only [List.mem_cons, i2]
    constructor
    · rintro (h | h | h) <;> simp [h]
    · rintro ((h | h) | h | h) <;> simp [h]
theorem next_lt {hol : List Int} (hs : holB (-1) hol = true) {a : Nat} {x : Int} (hx : hol[a]? = some x) {d : Int} (hd : d ≤ x) : ∀ z, hol[a + 1]? = some z → d < z := fun z hz => by
  have := hol_sorted hol (-1) hs a (a + 1) x z (by omega) hx hz
  omega
/-- A round of the merge. -/
theorem mstep {hol hol' l : List Int} {a b : Nat} (hs : holB (-1) hol = true) (hs' : holB (-1) hol' = true) (ha : a ≤ hol.length) (hb : b ≤ hol'.length) (hab : a < hol.length ∨ b < hol'.length) (hI : l ++ mH (hol.drop a) (hol'.drop b) = mH hol hol') :
    ∃ day a2 b2, ((b = hol'.length ∧ a < hol.length ∧ hol[a]? = some day) ∨ (a < hol.length ∧ b < hol'.length ∧ hol[a]? = some day ∧ ∃ y, hol'[b]? = some y ∧ day ≤ y) ∨ (a < hol.length ∧ b < hol'.length ∧ hol'[b]? = some day ∧ ∃ x, hol[a]? = some x ∧ day < x) ∨ (a = hol.length ∧ b < hol'.length ∧ hol'[b]? = some day)) ∧
      (a2 = a ∨ (a2 = a + 1 ∧ ∃ x, hol[a]? = some x ∧ x ≤ day)) ∧ (∀ z, hol[a2]? = some z → day < z) ∧ a2 ≤ hol.length ∧
      (b2 = b ∨ (b2 = b + 1 ∧ ∃ x, hol'[b]? = some x ∧ x ≤ day)) ∧ (∀ z, hol'[b2]? = some z → day < z) ∧ b2 ≤ hol'.length ∧
      (l ++ [day]) ++ mH (hol.drop a2) (hol'.drop b2) = mH hol hol' ∧ a + b < a2 + b2 ∧ I64 day := by
  by_cases ca : a < hol.length
  · obtain ⟨x, hx⟩ : ∃ x, hol[a]? = some x := ⟨_, List.getElem?_eq_getElem ca⟩
    have hxr := hol_lt hol (-1) hs a x hx
    by_cases cb : b < hol'.length
    · obtain ⟨y, hy⟩ : ∃ y, hol'[b]? = some y := ⟨_, List.getElem?_eq_getElem cb⟩
      have hyr := hol_lt hol' (-1) hs' b y hy
      rw [drop_consI hx, drop_consI hy, mH_cons] at hI
      by_cases c1 : x < y
      · rw [if_pos c1] at hI
        refine ⟨x, a + 1, b, .inr (.inl ⟨ca, cb, hx, y, hy, by omega⟩), .inr ⟨rfl, x, hx, Int.le_refl _⟩, next_lt hs hx (Int.le_refl _), by omega, .inl rfl, fun z hz => ?_, hb, ?_, by omega, by unfold I64; omega⟩
        · rw [hy] at hz; have := Option.some.inj hz; omega
        · rw [drop_consI hy, ← hI]; simp
      rw [if_neg c1] at hI
      by_cases c2 : y < x
      · rw [if_pos c2] at hI
        refine ⟨y, a, b + 1, .inr (.inr (.inl ⟨ca, cb, hy, x, hx, c2⟩)), .inl rfl, fun z hz => ?_, ha, .inr ⟨rfl, y, hy, Int.le_refl _⟩, next_lt hs' hy (Int.le_refl _), by omega, ?_, by omega, by unfold I64; omega⟩
        · rw [hx] at hz; have := Option.some.inj hz; omega
        · rw [drop_consI hx, ← hI]; simp
      rw [if_neg c2] at hI
      refine ⟨x, a + 1, b + 1, .inr (.inl ⟨ca, cb, hx, y, hy, by omega⟩), .inr ⟨rfl, x, hx, Int.le_refl _⟩, next_lt hs hx (Int.le_refl _), by omega, .inr ⟨rfl, y, hy, by omega⟩, next_lt hs' hy (by omega), by omega, ?_, by omega, by unfold I64; omega⟩
      rw [← hI]; simp
    · have hbn : b = hol'.length := by omega
      have hd : hol'.drop b = [] := List.drop_eq_nil_of_le (by omega)
      rw [hd, mH_nil, drop_consI hx] at hI
      refine ⟨x, a + 1, b, .inl ⟨hbn, ca, hx⟩, .inr ⟨rfl, x, hx, Int.le_refl _⟩, next_lt hs hx (Int.le_refl _), by omega, .inl rfl, fun z hz => ?_, hb, ?_, by omega, by unfold I64; omega⟩
      · have := (List.getElem?_eq_some_iff.1 hz).1; omega
      · rw [hd, mH_nil, ← hI]; simp
  · have cb : b < hol'.length := by omega
    obtain ⟨y, hy⟩ : ∃ y, hol'[b]? = some y := ⟨_, List.getElem?_eq_getElem cb⟩
    have hyr := hol_lt hol' (-1) hs' b y hy
    have han : a = hol.length := by omega
    have hd : hol.drop a = [] := List.drop_eq_nil_of_le (by omega)
    have e0 : ∀ zs, mH [] zs = zs := fun zs => by simp [mH]
    rw [hd, e0, drop_consI hy] at hI
    refine ⟨y, a, b + 1, .inr (.inr (.inr ⟨han, cb, hy⟩)), .inl rfl, fun z hz => ?_, ha, .inr ⟨rfl, y, hy, Int.le_refl _⟩, next_lt hs' hy (Int.le_refl _), by omega, ?_, by omega, by unfold I64; omega⟩
    · have := (List.getElem?_eq_some_iff.1 hz).1; omega
    · rw [hd, e0, ← hI]; simp
theorem cs1_i64 {op op' opx : List (Int × Int)} (h1 : op.length = 7) (h1' : op'.length = 7) (h0 : opx.length = 7) (ho : ∀ s ∈ op, I64 s.1 ∧ I64 s.2) (ho' : ∀ s ∈ op', I64 s.1 ∧ I64 s.2) (hx : ∀ (i : Nat) (s s' : Int × Int), op[i]? = some s → op'[i]? = some s' → opx[i]? = some (cs1 s s')) : ∀ s ∈ opx, I64 s.1 ∧ I64 s.2 := by
  intro s hs
  obtain ⟨i, hi, rfl⟩ := List.mem_iff_getElem.1 hs
  have e1 : op[i]? = some op[i] := List.getElem?_eq_getElem (by omega)
  have e2 : op'[i]? = some op'[i] := List.getElem?_eq_getElem (by omega)
  have e3 := hx i _ _ e1 e2
  rw [List.getElem?_eq_getElem hi] at e3
  have e4 := Option.some.inj e3
  rw [e4]
  have a1 := ho _ (List.getElem_mem (by omega : i < op.length))
  have a2 := ho' _ (List.getElem_mem (by omega : i < op'.length))
  unfold cs1 I64 at *
  split
  · simp only; omega
  · simp
end Go.Proofs.YtciopemodfpecaaDoor
