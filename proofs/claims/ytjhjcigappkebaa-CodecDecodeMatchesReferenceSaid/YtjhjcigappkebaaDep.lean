/-
  The depth of a tree.
-/
import Derived.Test.YtjhjcigappkebaaBase
namespace Go.Proofs.Ytjhjcigappkebaa

mutual
/-- The depth of a tree. -/
def dep : T → Nat
  | .mk _ _ _ l => depL l + 1
def depL : List T → Nat
  | [] => 0
  | t :: ts => max (dep t) (depL ts)
end
theorem dep_mem {t : T} {l : List T} (h : t ∈ l) : dep t ≤ depL l := by
  induction l with
  | nil => simp at h
  | cons x xs ih =>
    unfold depL
    rcases List.mem_cons.1 h with rfl | h
    · omega
    · have := ih h; omega



end Go.Proofs.Ytjhjcigappkebaa
