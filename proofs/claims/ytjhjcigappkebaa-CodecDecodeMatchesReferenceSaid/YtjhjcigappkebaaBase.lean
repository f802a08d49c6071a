/-
  Plain definitions: values as trees, their encodings, sizes, order; nothing of the program.
-/
namespace Go.Proofs.Ytjhjcigappkebaa

/-- A value: its kind, number, bytes, elements. -/
inductive T where
  | mk (k n : Int) (b : List Int) (l : List T)

namespace T

def kind : T → Int | .mk k _ _ _ => k
def num : T → Int | .mk _ n _ _ => n
def bs : T → List Int | .mk _ _ b _ => b
def els : T → List T | .mk _ _ _ l => l

end T

/-- The number whose digits encode n. -/
def mag (n : Int) : Int := if n < 0 then -n - 1 else n

/-- Digits in base 256 without leading zeros: how many. -/
def wid (m : Int) : Nat :=
  if m < 1 then 0 else if m < 256 then 1 else if m < 65536 then 2 else if m < 16777216 then 3 else if m < 4294967296 then 4
  else if m < 1099511627776 then 5 else if m < 281474976710656 then 6 else if m < 72057594037927936 then 7 else 8

def zeros (b : List Int) : Nat := (b.filter fun c => c == 0).length

mutual
def nest : T → Nat
  | .mk k _ _ l => if k = 3 then nestL l + 1 else 0
def nestL : List T → Nat
  | [] => 0
  | t :: ts => max (nest t) (nestL ts)
end

mutual
/-- Well-formed. -/
def shape : T → Bool
  | .mk k n b l => if k = 1 then b.isEmpty && l.isEmpty else if k = 2 then n == 0 && l.isEmpty else if k = 3 then shapeL l && (n == 0 && b.isEmpty) else false
def shapeL : List T → Bool
  | [] => true
  | t :: ts => shape t && shapeL ts
end

/-- The digit of m of weight 256^i. -/
def digit (m : Int) (i : Nat) : Int := m / 256 ^ i % 256

def digs (m : Int) : Nat → List Int
  | 0 => []
  | i + 1 => digit m i :: digs m i

def encInt (n : Int) : List Int :=
  if n < 0 then (31 - (wid (mag n) : Int)) :: (digs (mag n) (wid (mag n))).map (255 - ·)
  else (32 + (wid n : Int)) :: digs n (wid n)

def esc : List Int → List Int
  | [] => []
  | c :: cs => if c = 0 then 0 :: 255 :: esc cs else c :: esc cs

def encB (b : List Int) : List Int := 48 :: (esc b ++ [0, 0])

mutual
def enc : T → List Int
  | .mk k n b l => if k = 1 then encInt n else if k = 2 then encB b else 64 :: (encL l ++ [0])
def encL : List T → List Int
  | [] => []
  | t :: ts => enc t ++ encL ts
end


theorem nestL_append (l m : List T) : nestL (l ++ m) = max (nestL l) (nestL m) := by
  induction l with
  | nil => simp [nestL]
  | cons t ts ih => simp only [List.cons_append, nestL, ih]; omega
theorem encL_append (l m : List T) : encL (l ++ m) = encL l ++ encL m := by
  induction l with
  | nil => simp [encL]
  | cons t ts ih => simp only [List.cons_append, encL, ih, List.append_assoc]
theorem shapeL_append (l m : List T) : shapeL (l ++ m) = (shapeL l && shapeL m) := by
  induction l with
  | nil => simp [shapeL]
  | cons t ts ih => simp only [List.cons_append, shapeL, ih, Bool.and_assoc]

theorem take_next {α : Type} (l : List α) (k : Nat) (h : k < l.length) : l.take (k + 1) = l.take k ++ [l[k]] := by
  rw [List.take_succ_eq_append_getElem h]

theorem nestL_next (l : List T) (k : Nat) (h : k < l.length) : nestL (l.take (k + 1)) = max (nestL (l.take k)) (nest l[k]) := by
  rw [take_next l k h, nestL_append]; simp [nestL]
theorem encL_next (l : List T) (k : Nat) (h : k < l.length) : encL (l.take (k + 1)) = encL (l.take k) ++ enc l[k] := by
  rw [take_next l k h, encL_append]; simp [encL]
theorem shapeL_next (l : List T) (k : Nat) (h : k < l.length) : shapeL (l.take (k + 1)) = (shapeL (l.take k) && shape l[k]) := by
  rw [take_next l k h, shapeL_append]; simp [shapeL]
theorem shapeL_bad (l : List T) (k : Nat) (h : k < l.length) (hb : shape l[k] = false) : shapeL l = false := by
  have e : l = l.take (k + 1) ++ l.drop (k + 1) := (List.take_append_drop _ _).symm
  rw [e, shapeL_append, shapeL_next l k h, hb]; simp
theorem encL_take_le (l : List T) (k : Nat) : (encL (l.take k)).length ≤ (encL l).length := by
  have e : encL l = encL (l.take k) ++ encL (l.drop k) := by rw [← encL_append, List.take_append_drop]
  rw [e, List.length_append]; omega
mutual
theorem nest_le : ∀ t : T, nest t ≤ (enc t).length
  | .mk k n b l => by
    have := nestL_le l
    unfold nest enc
    split
    · rename_i h
      rw [if_neg (by omega), if_neg (by omega)]
      simp only [List.length_cons, List.length_append]
      omega
    · omega
theorem nestL_le : ∀ l : List T, nestL l ≤ (encL l).length
  | [] => by simp [nestL]
  | t :: ts => by
    have := nest_le t
    have := nestL_le ts
    unfold nestL encL
    rw [List.length_append]
    omega
end

end Go.Proofs.Ytjhjcigappkebaa
