/-
  Walks: the reader's value at every first byte; Decode's deferred function.
-/
import Derived.Test.YtjhjcigappkebaaRf
import Derived.Recover
namespace Go.Proofs.Ytjhjcigappkebaa
open Go.RowKit

theorem value_all (B R : Nat) (vb : Value) (b : List Int) (hlen : b.length ≤ 65536) : ∀ f, ValueC B R vb b f := by
  intro f
  induction f using Nat.strongRecOn with
  | ind f ih =>
    intro w p opn deep m h hm0 hm1 hop hdp hne
    have hple := h.le
    cases f with
    | zero => exact absurd rfl hne
    | succ f =>
      by_cases c1 : 31 < m ∧ m ≤ 40
      · refine value_pos B w R vb b p deep m opn _ h c1.1 c1.2 ?_ hdp
        simp only [pVal]
        rw [if_pos c1]
        cases pInt (m == 40) false (m - 32).toNat true 0 (b.drop p) <;> rfl
      · by_cases c2 : m ≤ 31 ∧ 23 ≤ m
        · refine value_neg B w R vb b p deep m opn _ h c2.1 c2.2 ?_ hdp
          simp only [pVal]
          rw [if_neg c1, if_pos c2]
          cases pInt (m == 23) true (31 - m).toNat true 0 (b.drop p) <;> rfl
        · by_cases c3 : m = 48
          · subst c3
            refine value_bytes B w R vb b p deep opn _ h hlen ?_ hdp
            simp only [pVal]
            rw [if_neg c1, if_neg c2]
            simp only [if_true]
            cases pBytes (b.drop p) <;> rfl
          · by_cases c4 : m = 64
            · subst c4
              have e : pVal (f + 1) (64 :: b.drop p) = (match pList f (b.drop p) with | .ok (l, r) => .ok (.mk 3 0 [] l, r) | .error e => .error e) := by
                simp only [pVal]
                rw [if_neg c1, if_neg c2, if_neg c3]
                simp only [if_true]
                cases pList f (b.drop p) <;> rfl
              rw [e] at hne ⊢
              refine value_list B w R vb b p deep opn _ h (pList f (b.drop p)) (by omega) rfl ?_
              intro w' hg
              refine list_any B R vb b f hlen (fun f' hf' => ih f' (by omega)) w' p (opn + 1) deep (h.kept hg (by simp)) hop ?_
              intro e0
              rw [e0] at hne
              exact hne rfl
            · have e : pVal (f + 1) (m :: b.drop p) = .error 4 := by
                simp only [pVal]
                rw [if_neg c1, if_neg c2, if_neg c3, if_neg c4]
              rw [e]
              exact value_bad B w R vb b deep m opn hm0 hm1 c1 c2 c3 c4

end Go.Proofs.Ytjhjcigappkebaa
