/-
  Facts for the law of chains: where the digests of a chain lie; what equal ends mean.
-/
import Derived.Test.YtecgcnfjpaemcaaDoorCn
import Derived.Deep.MidRow
namespace Go.Proofs.YtecgcnfjpaemcaaDoor
open Go.RowKit

theorem flat_get (ds : List (List Int)) (h : ∀ x ∈ ds, x.length = 32) : ∀ (j i : Nat) (x : List Int), ds[j]? = some x → i < 32 → ds.flatten[32 * j + i]? = x[i]? := by
  induction ds with
  | nil => intro j i x hj; simp at hj
  | cons y ys ih =>
    intro j i x hj hi
    have hy := h y (by simp)
    rw [List.flatten_cons]
    cases j with
    | zero =>
      simp at hj
      subst hj
      rw [Nat.mul_zero, Nat.zero_add, List.getElem?_append_left (by omega)]
    | succ j =>
      rw [List.getElem?_append_right (by omega), hy]
      have := ih (fun z hz => h z (by simp [hz])) j i x (by simpa using hj) hi
      rw [← this]
      congr 1
      omega

/-- The digests of a chain lie in block g. -/
def Rng (w : World) (g : Nat) (d : List Int) (ll : List (List Int)) (n : Nat) : Prop := ∀ j, j ≤ n → w.rangeAt g (j * 32) (byteVals (cur d ll j))

theorem own_rng {base : Nat} {wr : World} {v : Value} {d : List Int} {ll : List (List Int)} {n : Nat} (h : wr.ownsRow base 25 32 v (n + 1) (byteVals (dgs d ll n).flatten)) (hd : d.length = 32) :
    ∃ g cap, v = .slice (some ⟨g, 0, none⟩) (n + 1) cap ∧ n + 1 ≤ cap ∧ base ≤ g ∧ g < wr.heap.size ∧ Rng wr g d ll n := by
  rcases h.2 with ⟨_, h0⟩ | ⟨g, cap, cr, rfl, hb, hh, hn, hm, hs, ht⟩
  · omega
  · refine ⟨g, cap, rfl, hn, hb, (Array.getElem?_eq_some_iff.1 hh).1, fun j hj i v hv => ?_⟩
    have hi : i < 32 := by
      have := (List.getElem?_eq_some_iff.1 hv).1
      rw [byteVals_length, cur_length d ll hd] at this
      exact this
    have hc := cell_of_row wr g (j * 32 + i) cr 25 (0, 0) hh
    rw [hc]
    have e1 : (byteVals (dgs d ll n).flatten)[32 * j + i]? = some v := by
      unfold byteVals at hv ⊢
      rw [List.getElem?_map] at hv ⊢
      rw [flat_get (dgs d ll n) (fun x hx => by
        obtain ⟨q, _, rfl⟩ := List.mem_map.1 hx
        exact cur_length d ll hd q) j i (cur d ll j) (by unfold dgs; rw [List.getElem?_map, List.getElem?_range (by omega)]; rfl) hi]
      exact hv
    rw [← ht, List.getElem?_take] at e1
    split at e1
    · rw [Nat.mul_comm] at e1
      simpa using e1
    · cases e1

theorem Rng.below {w w' : World} {g n : Nat} {d : List Int} {ll : List (List Int)} (h : Rng w g d ll n) (hg : g < w.heap.size) (hb : Below w.heap.size w w') : Rng w' g d ll n :=
  fun j hj i v hv => (hb.cell (p := ⟨g, j * 32 + i, none⟩) hg).trans (h j hj i v hv)

/-- Equal lists have equal digests. -/
theorem cur_same (d : List Int) (l m : List (List Int)) (n : Nat) (h : ∀ j, j < n → l[j]? = m[j]?) : cur d l n = cur d m n := by
  unfold cur
  have : l.take n = m.take n := by
    apply List.ext_getElem?
    intro i
    rw [List.getElem?_take, List.getElem?_take]
    split
    · rename_i hi; exact h i hi
    · rfl
  rw [this]

/-- The load of a digest in the middle of a row, among operations that only read. -/
theorem still_load_mid {ops : Array Oper} {rest : List Oper} {o : Oper} {a : Act} {w : World} {Q : Act → Prop} (hw : Region.wanted o (yielded ops a.tmps) = true) (x : Operand) (ho : o.op = .load 25 x)
    (g off : Nat) (hx : a.eval x = .pointer (some ⟨g, off, none⟩)) (D : List Int) (hg : w.rangeAt g off (byteVals D)) (hD : D.length = 32)
    (h : wpStill Tryd.prog ops w Q rest (a.put o.dst (.agg (byteVals D).toArray))) : wpStill Tryd.prog ops w Q (o :: rest) a :=
  wpStill_step fun K hK => by
    have hi : (Tryd.prog.info? 25).map (·.size) = some (byteVals D).length := by have := size25 D hD; simpa using this
    rw [if_pos hw]
    unfold Oper.still execOp
    simp only [ho, hx, Instr.loadAt, Instr.sureAddr, Sem.run_bind, Sem.run_pure, Result.andThen_ok, run_loadVar_mid w g off 25 (byteVals D) _ hg Tryd.underlying25 rfl hi]
    exact ⟨rfl, hK _ h⟩

end Go.Proofs.YtecgcnfjpaemcaaDoor
