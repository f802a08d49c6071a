/-
  Plain definitions: reading a value from the left.
-/
import Derived.Test.YtjhjcigappkebaaDep
namespace Go.Proofs.Ytjhjcigappkebaa

/-- The digits of an integer: k more, of which the first if 'first'. -/
def pInt (eight flip : Bool) : Nat → Bool → Int → List Int → Except Int (Int × List Int)
  | 0, _, acc, rest => .ok (acc, rest)
  | _ + 1, _, _, [] => .error 5
  | k + 1, first, acc, x :: rest =>
    if first && ((if flip then 255 - x else x) == 0 || (eight && decide (127 < (if flip then 255 - x else x)))) then .error 4
    else pInt eight flip k false (acc * 256 + (if flip then 255 - x else x)) rest

/-- The bytes of a byte string, behind its first byte. -/
def pBytes : List Int → Except Int (List Int × List Int)
  | [] => .error 5
  | [c] => if c = 0 then .error 5 else .error 5
  | c :: d :: ds =>
    if c = 0 then
      if d = 0 then .ok ([], ds)
      else if d = 255 then
        match pBytes ds with
        | .ok (s, r) => .ok (0 :: s, r)
        | .error e => .error e
      else .error 4
    else
      match pBytes (d :: ds) with
      | .ok (s, r) => .ok (c :: s, r)
      | .error e => .error e

mutual
def pVal : Nat → List Int → Except Int (T × List Int)
  | 0, _ => .error 0
  | _ + 1, [] => .error 5
  | f + 1, m :: rest =>
    if 31 < m ∧ m ≤ 40 then
      match pInt (m == 40) false (m - 32).toNat true 0 rest with
      | .ok (n, r) => .ok (.mk 1 n [] [], r)
      | .error e => .error e
    else if m ≤ 31 ∧ 23 ≤ m then
      match pInt (m == 23) true (31 - m).toNat true 0 rest with
      | .ok (n, r) => .ok (.mk 1 (-1 - n) [] [], r)
      | .error e => .error e
    else if m = 48 then
      match pBytes rest with
      | .ok (s, r) => .ok (.mk 2 0 s [], r)
      | .error e => .error e
    else if m = 64 then
      match pList f rest with
      | .ok (l, r) => .ok (.mk 3 0 [] l, r)
      | .error e => .error e
    else .error 4
def pList : Nat → List Int → Except Int (List T × List Int)
  | 0, _ => .error 0
  | _ + 1, [] => .error 5
  | f + 1, m :: rest =>
    if m = 0 then .ok ([], rest)
    else
      match pVal f (m :: rest) with
      | .ok (t, r) =>
        match pList f r with
        | .ok (ts, r') => .ok (t :: ts, r')
        | .error e => .error e
      | .error e => .error e
end

/-- What Decode returns: the value, or an error. -/
def dec (b : List Int) : Except Int T :=
  if 65536 < b.length then .error 2
  else
    match pVal (2 * b.length + 2) b with
    | .ok (t, r) => if r = [] then (if 16 < nest t then .error 2 else .ok t) else .error 4
    | .error e => .error e

def bnd (k : Nat) : Nat → Int
  | 0 => 1
  | 1 => if k = 8 then 128 else 256
  | i + 2 => 256 * bnd k (i + 1)
theorem bnd_le (k i : Nat) (hk : k ≤ 8) (hi : i < k) : 1 ≤ bnd k i ∧ bnd k i ≤ 36028797018963968 := by
  have h : i = 0 ∨ i = 1 ∨ i = 2 ∨ i = 3 ∨ i = 4 ∨ i = 5 ∨ i = 6 ∨ i = 7 := by omega
  rcases h with rfl | rfl | rfl | rfl | rfl | rfl | rfl | rfl <;> simp only [bnd] <;> (try split) <;> omega


end Go.Proofs.Ytjhjcigappkebaa
