/-
  Plain definitions: the reference's pieces, one after the other. No program.
-/
import Derived.Test.YtciopemodfpecaaDoorPn
namespace Go.Proofs.YtciopemodfpecaaDoor
set_option linter.unusedVariables false
set_option linter.unusedSimpArgs false

theorem fld_snoc (f : Int → Prop) (a b : Int) : ∀ (n : Nat) (l : List Int) (out : List (Int × Int)), l.length ≤ n → ∀ V : Bool, (V = true ↔ f a) →
    fld f out (l ++ [a, b]) = if V = true then pc (fld f out (l ++ [a])) a b else fld f out (l ++ [a])
  | _, [], out, _, V, hV => by
    simp only [List.nil_append, fld]
    by_cases h : f a
    · rw [if_pos h, if_pos (hV.2 h)]
    · rw [if_neg h, if_neg (fun e => h (hV.1 e))]
  | n, [c], out, _, V, hV => by
    have := fld_snoc f a b 0 [] (open Classical in if f c then pc out c a else out) (by simp) V hV
    simpa only [List.cons_append, List.nil_append, fld] using this
  | 0, c :: d :: l, out, h, V, hV => by simp at h
  | n + 1, c :: d :: l, out, h, V, hV => by
    have := fld_snoc f a b n (d :: l) (open Classical in if f c then pc out c d else out) (by simpa using h) V hV
    simpa only [List.cons_append, fld] using this
theorem fld_length (f : Int → Prop) : ∀ (n : Nat) (p : List Int) (out : List (Int × Int)), p.length ≤ n → (fld f out p).length ≤ out.length + p.length
  | _, [], out, _ => by simp [fld]
  | _, [a], out, _ => by simp [fld]
  | 0, a :: b :: r, out, h => by simp at h
  | n + 1, a :: b :: r, out, h => by
    simp only [fld]
    split
    · have h1 := fld_length f n (b :: r) (pc out a b) (by simpa using h)
      have h2 := pc_length out a b
      simp only [List.length_cons] at *
      omega
    · have h1 := fld_length f n (b :: r) out (by simpa using h)
      simp only [List.length_cons] at *
      omega
theorem fld_step (f : Int → Prop) (p : List Int) (k : Nat) (P Q : Int) (hP : p[k]? = some P) (hQ : p[k + 1]? = some Q) (V : Bool) (hV : V = true ↔ f P) :
    fld f [] (p.take (k + 1 + 1)) = if V = true then pc (fld f [] (p.take (k + 1))) P Q else fld f [] (p.take (k + 1)) := by
  have e1 : p.take (k + 1) = p.take k ++ [P] := by rw [List.take_add_one, hP]; rfl
  have e2 : p.take (k + 1 + 1) = p.take k ++ [P, Q] := by rw [List.take_add_one, hQ, e1, List.append_assoc]; rfl
  rw [e1, e2]
  exact fld_snoc f P Q _ _ [] (Nat.le_refl _) V hV
theorem fld_start (f : Int → Prop) (p : List Int) : fld f [] (p.take 1) = [] := by
  cases p with
  | nil => rfl
  | cons a p => rfl
theorem fld_end (f : Int → Prop) (p : List Int) (k : Nat) (h : p.length ≤ k + 1) : fld f [] (p.take (k + 1)) = fld f [] p := by rw [List.take_of_length_le h]
end Go.Proofs.YtciopemodfpecaaDoor
