/-
  Lists of byte slices in memory; an argument of that type opened.
-/
import Derived.Test.YtecgcnfjpaemcaaDoorHa
import Derived.ChangeMaps5
namespace Go.Proofs.YtecgcnfjpaemcaaDoor
open Go.Joins Go.ChangeShapes Go.WideShapes Go.ChangeAt Go.RowKit Go.Deep

theorem choose_list {α : Type} (P : Nat → α → Prop) : ∀ n : Nat, (∀ i, i < n → ∃ a, P i a) → ∃ l : List α, l.length = n ∧ ∀ i a, l[i]? = some a → P i a
  | 0, _ => ⟨[], rfl, by simp⟩
  | n + 1, h => by
    obtain ⟨l, hl, hp⟩ := choose_list P n (fun i hi => h i (by omega))
    obtain ⟨a, ha⟩ := h n (by omega)
    refine ⟨l ++ [a], by simp [hl], fun i b hb => ?_⟩
    by_cases hi : i < n
    · rw [List.getElem?_append_left (by omega)] at hb
      exact hp i b hb
    · rw [List.getElem?_append_right (by omega)] at hb
      have hi' : i = n := by
        have := (List.getElem?_eq_some_iff.1 hb).1
        simp at this
        omega
      subst hi'
      simp [hl] at hb
      subst hb
      exact ha

/-- The slice v holds the byte slices ll. -/
def Ls (F : Nat → Prop) (w : World) (v : Value) (ll : List (List Int)) : Prop :=
  ll.length ≤ 140737488355328 ∧ ∃ a cap, v = .slice a ll.length cap ∧ ll.length ≤ cap ∧
    (0 < ll.length → ∃ g off, a = some ⟨g, off, none⟩ ∧ F g ∧ ∀ (j : Nat) p, ll[j]? = some p → ∃ u, w.cell? ⟨g, off + j, none⟩ = some u ∧ Bs F w u p)

theorem Ls.up2 {w w' : World} {u : Value} {b : List (List Int)} (h : Ls (fun k => k < w.heap.size) w u b) (hw : ∀ k, k < w.heap.size → w'.heap[k]? = w.heap[k]?) (hs : w.heap.size ≤ w'.heap.size) : Ls (fun k => k < w'.heap.size) w' u b := by
  obtain ⟨h0, a, cap, h1, h2, h3⟩ := h
  refine ⟨h0, a, cap, h1, h2, fun hp => ?_⟩
  obtain ⟨g, off, ha, hg, hc⟩ := h3 hp
  refine ⟨g, off, ha, Nat.lt_of_lt_of_le hg hs, fun j p hj => ?_⟩
  obtain ⟨u, hu, hb⟩ := hc j p hj
  exact ⟨u, (World.cell?_of_block (w := w) (a := ⟨g, off + j, none⟩) (hw g hg)).trans hu, hb.up2 hw hs⟩

section
variable {H : Type} {enc : TypeId × Value → H} {w : World}
theorem weights_mem (es : List (DataW H × List MemPlace)) (z : DataW H × List MemPlace) (n : Nat) (hz : z ∈ es) (hn : n ∈ z.1.weights Tryd.prog 22) : n ∈ DataW.weightsAll Tryd.prog 22 (es.map (·.1)) := by
  induction es with
  | nil => cases hz
  | cons e es ih =>
    simp only [List.map_cons, DataW.weightsAll, List.mem_append]
    rcases List.mem_cons.1 hz with rfl | h
    · exact Or.inl hn
    · exact Or.inr (ih h)

theorem cells22 : Tryd.prog.cellsOf 22 = 1 := by kernel_rfl
theorem bytes22 : Tryd.prog.bytesOf 22 = 24 := by kernel_rfl

theorem openL {fuel : Nat} {v : Value} {x : DataW H × List MemPlace} (h : DataW.trod enc Tryd.prog w 0 (fun _ => true) true fuel 47 [v] = some x) (hw : ∀ n ∈ x.1.weights Tryd.prog 47, n ≤ reachBytes) :
    ∃ b, Ls (fun k => k < w.heap.size) w v b := by
  rcases DataW.trod_slice Tryd.underlying47 h with ⟨hv, _⟩ | ⟨a, len, cap, elems, rest, n', rfl, hv, rfl, _, hlc, _, hel, he, _, _⟩
  · simp only [List.cons.injEq, and_true] at hv
    subst hv
    exact ⟨[], by simp, none, 0, rfl, by simp, by simp⟩
  · simp only [List.cons.injEq, and_true] at hv
    subst hv
    have hr := reachBytes_lt
    have hlen64 := hw ((elems.length + rest.length) * 24) (by simp [DataW.weights, Tryd.underlying47, bytes22])
    have hall : ∀ i, i < len → ∃ t : List Int, ∃ u, w.cell? (a.add i) = some u ∧ Bs (fun k => k < w.heap.size) w u t := by
      intro i hi
      have h5 := he i hi
      rw [cells22, List.getElem?_eq_getElem (by omega)] at h5
      obtain ⟨cs', h6, h7⟩ := Option.bind_eq_some_iff.1 h5
      obtain ⟨_, h8, h9⟩ := World.cells?_some h6
      match cs', h8 with
      | [u], _ =>
        obtain ⟨t, ht⟩ := openB h7 (fun n hn => hw n (by
          have := weights_mem elems (elems[i]) n (List.getElem_mem _) hn
          simp [DataW.weights, Tryd.underlying47, this]))
        have e0 := h9 0 (by omega)
        rw [Go.Deep.add_add] at e0
        simp only [Nat.mul_one, Nat.add_zero] at e0
        exact ⟨t, u, e0, ht⟩
    obtain ⟨l, hll, hlp⟩ := choose_list _ len hall
    refine ⟨l, by omega, some a, cap, by rw [hll], by omega, fun hp => ?_⟩
    obtain ⟨t0, u0, e0, _⟩ := hall 0 (by omega)
    obtain ⟨hs, hkb⟩ := cell_spot e0
    obtain ⟨g, off, spot⟩ := a
    have hs' : spot = none := hs
    subst hs'
    refine ⟨g, off, rfl, hkb, fun j t hj => ?_⟩
    obtain ⟨u, e, ht⟩ := hlp j t hj
    rw [add_off] at e
    exact ⟨u, e, ht⟩
end

end Go.Proofs.YtecgcnfjpaemcaaDoor
