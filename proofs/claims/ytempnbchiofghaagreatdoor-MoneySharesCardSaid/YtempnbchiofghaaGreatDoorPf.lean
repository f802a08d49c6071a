/-
  Plain: the parts sum to the total. No program.
-/
import Derived.Test.YtempnbchiofghaaGreatDoorEe
namespace Go.Proofs.YtempnbchiofghaaGreatDoor
set_option linter.unusedVariables false
set_option linter.unusedSimpArgs false

theorem perm_sum {a b : List Int} (h : a.Perm b) : a.sum = b.sum := by
  induction h with
  | nil => rfl
  | cons x _ ih => rw [List.sum_cons, List.sum_cons, ih]
  | swap x y l => rw [List.sum_cons, List.sum_cons, List.sum_cons, List.sum_cons]; omega
  | trans _ _ h1 h2 => exact h1.trans h2
theorem sum_range (f : Nat → Int) : ∀ n, ((List.range n).map f).sum = sig f n
  | 0 => rfl
  | n + 1 => by
    rw [List.range_succ, List.map_append, List.sum_append, sum_range f n]
    simp [sig]
theorem sum_ones (f : Nat → Int) (c : Int) : ∀ l : List Nat, (∀ j ∈ l, f j = c) → (l.map f).sum = c * (l.length : Int)
  | [], _ => by simp
  | a :: r, h => by
    rw [List.map_cons, List.sum_cons, sum_ones f c r (fun j hj => h j (by simp [hj])), h a (by simp), List.length_cons, Int.natCast_add, Int.mul_add]
    simp
    omega
theorem sum_neg : ∀ l : List Int, (l.map (fun x => -x)).sum = -l.sum
  | [] => rfl
  | a :: r => by rw [List.map_cons, List.sum_cons, List.sum_cons, sum_neg r]; omega
theorem taken_sum {r : Nat → Int} {n K : Nat} {ord : List Nat} (h : IsOrd r n ord) (hK : K ≤ n) : sig (fun j => if j ∈ ord.take K then 1 else 0) n = (K : Int) := by
  rw [← sum_range, ← perm_sum (h.perm.map (fun j => if j ∈ ord.take K then (1:Int) else 0))]
  have hl := h.length
  have hnd := h.nodup
  have e : ord.map (fun j => if j ∈ ord.take K then (1:Int) else 0) = (ord.take K).map (fun j => if j ∈ ord.take K then (1:Int) else 0) ++ (ord.drop K).map (fun j => if j ∈ ord.take K then (1:Int) else 0) := by
    rw [← List.map_append, List.take_append_drop]
  rw [e, List.sum_append, sum_ones _ 1 _ (fun j hj => if_pos hj), sum_ones _ 0 _ (fun j hj => if_neg (fun hm => ?_)), List.length_take, hl]
  · rw [Nat.min_eq_left hK]
    omega
  · rw [← List.take_append_drop K ord] at hnd
    exact (List.nodup_append.1 hnd).2.2 j hm j hj rfl
theorem pts_sum {T W : Int} {ws : List Int} {ord : List Nat} (hW : WOk W ws) (ho : IsOrd (rf T W ws) ws.length ord) : (pts T W ws ord (lf T W ws ws.length).toNat).sum = T := by
  have hb := lf_bnd (t := T) hW
  obtain ⟨K, hK⟩ : ∃ K, (lf T W ws ws.length).toNat = K := ⟨_, rfl⟩
  have hK2 : (K : Int) = lf T W ws ws.length := by omega
  rw [hK]
  unfold pts
  rw [sum_range, sig_add, taken_sum ho (by omega), hK2]
  unfold lf
  omega
theorem pts_le {T W : Int} {ws : List Int} {ord : List Nat} (hW : WOk W ws) (hT : 0 ≤ T) (ho : IsOrd (rf T W ws) ws.length ord) (x : Int) (hx : x ∈ pts T W ws ord (lf T W ws ws.length).toNat) : 0 ≤ x ∧ x ≤ T := by
  have h0 := fun y hy => (pts_bnd hW hT ord (lf T W ws ws.length).toNat y hy).1
  have h1 := sum_ge _ h0 x hx
  rw [pts_sum hW ho] at h1
  exact ⟨h0 x hx, h1⟩
/-- The parts of a total in range sum to it. -/
theorem shl_sum {t : Int} {ws : List Int} {ord : List Nat} (hr : inR t) (hW : WOk ws.sum ws) (ho : IsOrd (rf (absT t) ws.sum ws) ws.length ord) : sumV (shl t ws ord) = (t, 0) := by
  have hb := absT_bnd hr
  have hs := pts_sum hW ho
  have hp := pts_le hW hb.1 ho
  have hsum : (shl t ws ord).sum = t ∧ ∀ x ∈ shl t ws ord, inR x := by
    unfold shl
    split
    · refine ⟨?_, fun x hx => ?_⟩
      · rw [sum_neg, hs]
        unfold absT
        rw [if_pos (by assumption)]
        omega
      · obtain ⟨y, hy, rfl⟩ := List.mem_map.1 hx
        have := hp y hy
        exact ⟨by omega, by omega⟩
    · refine ⟨?_, fun x hx => ?_⟩
      · rw [hs]
        unfold absT
        rw [if_neg (by assumption)]
      · have := hp x hx
        exact ⟨by omega, by omega⟩
  unfold sumV chk
  rw [if_pos hsum.2, hsum.1, if_pos hr]
theorem shl_length (t : Int) (ws : List Int) (ord : List Nat) : (shl t ws ord).length = ws.length := by
  unfold shl
  split
  · rw [List.length_map, pts_length]
  · rw [pts_length]
/-- Whether index j is rounded up. -/
def upS (t : Int) (ws : List Int) (ord : List Nat) (j : Nat) : Prop := j ∈ ord.take (lf (absT t) ws.sum ws ws.length).toNat
/-- The absolute value of part j. -/
theorem shl_get {t : Int} {ws : List Int} {ord : List Nat} (hr : inR t) (hW : WOk ws.sum ws) (ho : IsOrd (rf (absT t) ws.sum ws) ws.length ord) (j : Nat) (hj : j < ws.length) :
    ∃ p, (shl t ws ord)[j]? = some (if t < 0 then -p else p) ∧ 0 ≤ p ∧ p ≤ 9007199254740992 ∧ (upS t ws ord j → p = qf (absT t) ws.sum ws j + 1) ∧ (¬ upS t ws ord j → p = qf (absT t) ws.sum ws j) := by
  have hb := absT_bnd hr
  have hg := pts_get (absT t) ws.sum ws ord (lf (absT t) ws.sum ws ws.length).toNat j hj
  have hp := pts_le hW hb.1 ho _ (List.mem_of_getElem? hg)
  refine ⟨_, ?_, hp.1, by omega, fun h => ?_, fun h => ?_⟩
  · unfold shl
    split
    · rw [List.getElem?_map, hg]
      rfl
    · exact hg
  · unfold upS at h
    rw [if_pos h]
  · unfold upS at h
    rw [if_neg h, Int.add_zero]

/-- What the law's first loop knows: L is the remainder, A the index of somebody who is rounded up, or there is none yet. -/
def Jl (t : Int) (ws : List Int) (ord : List Nat) (k : Nat) (L A : Int) : Prop :=
  ((∀ j, j < k → ¬ upS t ws ord j) ∧ L = ws.sum ∧ A = 0) ∨ ∃ a, a < k ∧ upS t ws ord a ∧ A = (a : Int) ∧ L = rf (absT t) ws.sum ws a
theorem Jl.start (t : Int) (ws : List Int) (ord : List Nat) : Jl t ws ord 0 ws.sum 0 := Or.inl ⟨fun j hj => by omega, rfl, rfl⟩
theorem Jl.take {t : Int} {ws : List Int} {ord : List Nat} {k : Nat} (h : upS t ws ord k) : Jl t ws ord (k + 1) (rf (absT t) ws.sum ws k) (k : Int) := Or.inr ⟨k, by omega, h, rfl, rfl⟩
theorem Jl.keep {t : Int} {ws : List Int} {ord : List Nat} {k : Nat} {L A : Int} (hj : Jl t ws ord k L A) (h : ¬ upS t ws ord k ∨ ¬ rf (absT t) ws.sum ws k < L) (hW : WOk ws.sum ws) : Jl t ws ord (k + 1) L A := by
  rcases hj with ⟨h1, h2, h3⟩ | ⟨a, h1, h2, h3, h4⟩
  · have hb := rf_bnd (t := absT t) hW k
    refine Or.inl ⟨fun j hj hu => ?_, h2, h3⟩
    rcases Nat.lt_or_ge j k with hjk | hjk
    · exact h1 j hjk hu
    · obtain rfl : j = k := by omega
      rcases h with h | h
      · exact h hu
      · omega
  · exact Or.inr ⟨a, by omega, h2, h3, h4⟩
theorem Jl.last {t : Int} {ws : List Int} {ord : List Nat} {L A : Int} (hj : Jl t ws ord ws.length L A) (hW : WOk ws.sum ws) (ho : IsOrd (rf (absT t) ws.sum ws) ws.length ord) (k : Nat) (hk : k < ws.length) (hn : ¬ upS t ws ord k) :
    ¬ L < rf (absT t) ws.sum ws k ∧ (rf (absT t) ws.sum ws k = L → ¬ (k : Int) < A) := by
  have hb := rf_bnd (t := absT t) hW k
  rcases hj with ⟨h1, h2, h3⟩ | ⟨a, h1, h2, h3, h4⟩
  · omega
  · have := ho.split h2 hk hn
    unfold bef at this
    subst h3 h4
    constructor <;> omega
end Go.Proofs.YtempnbchiofghaaGreatDoor
