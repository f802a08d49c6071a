/-
  The chapter's example: what is answered.
-/
import Derived.Test.YtbeoldklpklbfaaRa
namespace Go.Proofs.Ytbeoldklpklbfaa
open Go.RowKit
set_option linter.unusedVariables false
set_option linter.unusedSimpArgs false

theorem flat_get {α : Type} {n : Nat} {f : α → List Int} (hf : ∀ x, (f x).length = n) : ∀ (l : List α) (j : Nat) (x : α), l[j]? = some x → ∀ i y, (f x)[i]? = some y → (l.flatMap f)[j * n + i]? = some y
  | [], j, x, h, _, _, _ => by simp at h
  | z :: l, 0, x, h, i, y, hi => by
    simp at h
    subst h
    rw [List.flatMap_cons, Nat.zero_mul, Nat.zero_add, List.getElem?_append_left (List.getElem?_eq_some_iff.1 hi).1]
    exact hi
  | z :: l, j + 1, x, h, i, y, hi => by
    have := flat_get hf l j x (by simpa using h) i y hi
    rw [List.flatMap_cons, List.getElem?_append_right (by rw [hf, Nat.add_mul, Nat.one_mul]; omega), hf, show (j + 1) * n + i - n = j * n + i by rw [Nat.add_mul, Nat.one_mul]; omega]
    exact this
theorem sk_block {α : Type} {n : Nat} {f : α → List Int} (hf : ∀ x, (f x).length = n) {w : World} {g len : Nat} {t : TypeId} {cs : Array Value} {l : List α} (hg : w.heap[g]? = some (.cells cs t (0, 0))) (hcs : cs.toList = (l.flatMap f).map (Value.int .i64)) (hl : len = l.length) (hlen : l.length ≤ 1000) (hI : ∀ x ∈ l, ∀ y ∈ f x, I64 y) :
    Sk n f (fun k => k < w.heap.size) w (.slice (some ⟨g, 0, none⟩) len len) l := by
  subst hl
  refine ⟨by omega, hI, _, _, rfl, Nat.le_refl _, fun _ => ⟨g, 0, rfl, blt hg, fun j x hj i y hi => ?_⟩⟩
  rw [Nat.zero_add, cell_of_row w g _ cs t (0, 0) hg, ← Array.getElem?_toList, hcs, List.getElem?_map, flat_get hf l j x hj i y hi]
  rfl

def exP : List Pc := [⟨1, 0, -1⟩, ⟨1, 0, -1⟩, ⟨1, 0, -1⟩, ⟨1, 0, -1⟩]
def exE : List Ln := [⟨0, 1, 2, 10, 5⟩, ⟨1, 2, 1, 10, 7⟩, ⟨0, 2, 2, 20, 9⟩, ⟨1, 0, 0, 10, 4⟩]
theorem ex_chk : chk exP (exE.map Ln.ed) = 0 := by decide +kernel
theorem ex_ok : ∀ x ∈ exE, x.ok exP.length := by
  intro x hx
  simp only [exE, List.mem_cons, List.not_mem_nil, or_false] at hx
  rcases hx with rfl | rfl | rfl | rfl <;> (unfold Ln.ok; simp [exP])
theorem ex_val : Val exP (exE.map Ln.ed) exE := ⟨rfl, ex_ok, by decide, by decide⟩
theorem ex_dist (f : Nat) (L : List Int) (hf : f < 4) (h1 : L.length = 4) (h0 : dv L f = 0) (hl : ∀ p : Fin 4, -1 ≤ dv L p)
    (he : ∀ p q : Fin 4, ∀ m ∈ (wt exE p q).toList, 0 ≤ dv L p → 0 ≤ dv L q ∧ dv L q ≤ dv L p + (m : Int))
    (ha : ∀ p : Fin 4, 0 ≤ dv L p → p.val = f ∨ ∃ q : Fin 4, ∃ m ∈ (wt exE q p).toList, 0 ≤ dv L q ∧ dv L q + (m : Int) = dv L p) : Tm exP.length exE f L := by
  have G := wt_wt ex_ok
  refine ⟨h1, h0, fun p => ?_, fun p q m hw h => ?_, fun p h => ?_⟩
  · by_cases hp : p < 4
    · exact hl ⟨p, hp⟩
    · rw [dv_out (by omega)]; omega
  · have hl := G.lt hw
    exact he ⟨p, hl.1⟩ ⟨q, hl.2⟩ m (by simp [hw]) h
  · have hp := dv_lt h
    rw [h1] at hp
    rcases ha ⟨p, hp⟩ h with e | ⟨q, hq⟩
    · exact Or.inl e
    · obtain ⟨m, hm, h1, h2⟩ := hq
      exact Or.inr ⟨q.val, m, by simpa using hm, h1, h2⟩
theorem ex_tm0 : Tm exP.length exE 0 [0, 10, 20, -1] := ex_dist 0 _ (by decide) rfl rfl (by decide +kernel) (by decide +kernel) (by decide +kernel)
theorem ex_tm2 : Tm exP.length exE 2 [20, 10, 0, -1] := ex_dist 2 _ (by decide) rfl rfl (by decide +kernel) (by decide +kernel) (by decide +kernel)
theorem ex_nx (a b : Nat) (L : List Int) (hb : ∃ m, wt exE a b = some m ∧ dv L b + m = dv L a) (hm : ∀ q : Fin 4, ∀ m ∈ (wt exE a q).toList, dv L q + (m : Int) = dv L a → b ≤ q.val) : NX exE L a (b : Int) := by
  refine Or.inr ⟨b, rfl, hb, fun q hq => ?_⟩
  obtain ⟨m, hw, he⟩ := hq
  have hl := (wt_wt ex_ok).lt hw
  exact hm ⟨q, hl.2⟩ m (by simp [hw]) he
theorem ex_rt : Rt exE [20, 10, 0, -1] 2 0 [0, 1, 2] :=
  .step (by decide) (ex_nx 0 1 _ ⟨10, by decide +kernel, by decide +kernel⟩ (by decide +kernel)) (.step (by decide) (ex_nx 1 2 _ ⟨10, by decide +kernel, by decide +kernel⟩ (by decide +kernel)) .stop)
theorem ex_c (l : List Int) (h : plc exP.length l = true) : cerr exP (exE.map Ln.ed) l = 0 := by unfold cerr; rw [if_pos ex_chk, if_pos h]
theorem ex_T : TR exP (exE.map Ln.ed) 0 [0, 10, 20, -1] 0 := ⟨(ex_c _ (by decide +kernel)).symm, fun h => absurd rfl h, fun _ => ⟨exE, 0, ex_val, rfl, by decide, ex_tm0⟩⟩
theorem ex_B1 : BR exP (exE.map Ln.ed) 0 2 20 0 := Or.inr ⟨ex_c _ (by decide +kernel), exE, 0, 2, _, ex_val, rfl, rfl, by decide, by decide, ex_tm0, Or.inr ⟨by decide, rfl, rfl⟩⟩
theorem ex_B2 : BR exP (exE.map Ln.ed) 0 3 0 80 := Or.inr ⟨ex_c _ (by decide +kernel), exE, 0, 3, _, ex_val, rfl, rfl, by decide, by decide, ex_tm0, Or.inl ⟨by decide, rfl, rfl⟩⟩
theorem ex_R : RR exP (exE.map Ln.ed) 0 2 [0, 1, 2] 0 := Or.inr ⟨ex_c _ (by decide +kernel), exE, 0, 2, _, ex_val, rfl, rfl, by decide, by decide, ex_tm2, Or.inr ⟨by decide, rfl, [0, 1, 2], rfl, ex_rt⟩⟩
theorem ex_E1 : ER exP (exE.map Ln.ed) 0 1 0 0 := Or.inr ⟨ex_c _ (by decide +kernel), exE, 0, 1, ex_val, rfl, rfl, by decide, by decide, Or.inr ⟨0, by decide +kernel, rfl, rfl⟩⟩
theorem ex_E2 : ER exP (exE.map Ln.ed) 1 1 0 80 := Or.inr ⟨ex_c _ (by decide +kernel), exE, 1, 1, ex_val, rfl, rfl, by decide, by decide, Or.inl ⟨by decide +kernel, rfl, rfl⟩⟩
theorem ex_E3 : ER exP (exE.map Ln.ed) 0 4 0 1 := by
  have h : cerr exP (exE.map Ln.ed) [0, 4] = 1 := by unfold cerr; rw [if_pos ex_chk]; decide +kernel
  exact Or.inl ⟨by rw [h]; decide, h.symm, rfl⟩
theorem ex_S1 : HR exP (exE.map Ln.ed) [0, 1, 2] [⟨1, 7⟩, ⟨2, 5⟩] 0 := Or.inr ⟨ex_c _ (by decide +kernel), exE, [0, 1, 2], ex_val, rfl, by decide, Or.inr ⟨fun i hi => by
  have : i = 0 ∨ i = 1 := by simp at hi; omega
  rcases this with rfl | rfl <;> decide +kernel, rfl, by decide +kernel⟩⟩
theorem ex_S2 : HR exP (exE.map Ln.ed) [2, 0, 2] [⟨2, 18⟩] 0 := Or.inr ⟨ex_c _ (by decide +kernel), exE, [2, 0, 2], ex_val, rfl, by decide, Or.inr ⟨fun i hi => by
  have : i = 0 ∨ i = 1 := by simp at hi; omega
  rcases this with rfl | rfl <;> decide +kernel, rfl, by decide +kernel⟩⟩
theorem ex_S3 : HR exP (exE.map Ln.ed) [0, 3] [] 80 := Or.inr ⟨ex_c _ (by decide +kernel), exE, [0, 3], ex_val, rfl, by decide, Or.inl ⟨⟨0, by decide, by decide +kernel⟩, rfl, rfl⟩⟩
theorem ex_bad : chk [⟨0, 0, 0⟩] [] = 1 := by decide +kernel
end Go.Proofs.Ytbeoldklpklbfaa
