/-
  Arguments opened: what reads as data of type []byte is a byte string in memory, and what reads as data of the struct type is a tree in memory.
-/
import Derived.Test.YtjhjcigappkebaaLa
import Derived.Deep.Slices
import Derived.Lib.SmallJoins
import Derived.ChangeSlices
import Derived.SizedLaws
namespace Go.Proofs.Ytjhjcigappkebaa
open Go.Joins Go.ChangeShapes Go.WideShapes Go.ChangeAt Go.RowKit Go.Deep

theorem cells25 : Try.prog.cellsOf 25 = 4 := by kernel_rfl
theorem cells3 : Try.prog.cellsOf 3 = 1 := by kernel_rfl
theorem cells22 : Try.prog.cellsOf 22 = 1 := by kernel_rfl
theorem cells23 : Try.prog.cellsOf 23 = 1 := by kernel_rfl
theorem cells5 : Try.prog.cellsOf 5 = 1 := by kernel_rfl
theorem bytes5 : Try.prog.bytesOf 5 = 1 := by kernel_rfl
theorem bytes25 : Try.prog.bytesOf 25 = 64 := by kernel_rfl

section
variable {H : Type} {enc : TypeId × Value → H} {w : World}

theorem add_off (g off j : Nat) : (⟨g, off, none⟩ : Addr).add j = ⟨g, off + j, none⟩ := by
  unfold Addr.add
  split
  · rename_i h; rw [h]; rfl
  · rfl

theorem cell_spot {a : Addr} {v : Value} (h : w.cell? a = some v) : a.spot = none ∧ a.block < w.heap.size := by
  unfold World.cell? at h
  have hl : a.block < w.heap.size := by
    rcases Nat.lt_or_ge a.block w.heap.size with h' | h'
    · exact h'
    · rw [Array.getElem?_eq_none h'] at h; simp at h
  refine ⟨?_, hl⟩
  split at h
  · split at h
    · cases h
    · rename_i hs
      cases hx : a.spot with
      | none => rfl
      | some x => rw [hx] at hs; simp at hs
  · cases h

theorem openI {fuel : Nat} {v : Value} {x : DataW H × List MemPlace} (h : DataW.trod enc Try.prog w 0 (fun _ => true) true fuel 3 [v] = some x) : ∃ n, v = .int .i64 n ∧ I64 n := by
  obtain ⟨n, hv, _, hw⟩ := DataW.trod_int Try.underlying3 h
  simp only [List.cons.injEq, and_true] at hv
  have h1 : IntKind.i64.min = -9223372036854775808 := rfl
  have h2 : IntKind.i64.max = 9223372036854775807 := rfl
  simp only [Lit.wf, Bool.and_eq_true, decide_eq_true_eq] at hw
  exact ⟨n, hv, by unfold I64; omega⟩

theorem openB {fuel : Nat} {v : Value} {x : DataW H × List MemPlace} (h : DataW.trod enc Try.prog w 0 (fun _ => true) true fuel 22 [v] = some x) (hw : ∀ n ∈ x.1.weights Try.prog 22, n ≤ reachBytes) :
    ∃ b, Bs (fun k => k < w.heap.size) w v b := by
  rcases open_ints Try.underlying22 Try.underlying5 cells5 h with ⟨hv, rfl⟩ | ⟨a, len, cap, zs, hv, hb, hl, hm, hlen, rfl, hc, hz⟩
  · simp only [List.cons.injEq, and_true] at hv
    subst hv
    exact ⟨[], Bs.nil _ _⟩
  · simp only [List.cons.injEq, and_true] at hv
    subst hv
    simp only [if_true] at hlen
    have hwt := hw ((zs.take len).length + (zs.drop len).length) (by
      simp [DataW.weights, Try.underlying22, bytes5, lits])
    have hr := reachBytes_lt
    have hlt : (zs.take len).length = len := by rw [List.length_take]; omega
    refine ⟨zs.take len, by omega, fun u hu => ?_, some a, cap, by rw [hlt], by omega, fun hp => ?_⟩
    · have h1 := hz u (List.mem_of_mem_take hu)
      have h2 : IntKind.u8.min = 0 := rfl
      have h3 : IntKind.u8.max = 255 := rfl
      simp only [Lit.wf, Bool.and_eq_true, decide_eq_true_eq] at h1
      omega
    · have h0 := hc 0 (by omega)
      obtain ⟨hs, hk⟩ := cell_spot h0
      obtain ⟨g, off, spot⟩ := a
      have hs' : spot = none := hs
      subst hs'
      refine ⟨g, off, rfl, hk, fun j u hj => ?_⟩
      have hjl : j < (zs.take len).length := (List.getElem?_eq_some_iff.1 hj).1
      have h1 := hc j (by omega)
      rw [List.getElem?_take_of_lt (by omega)] at hj
      rw [List.getD_eq_getElem?_getD, hj] at h1
      simp only [Option.getD_some] at h1
      rw [add_off] at h1
      exact h1

theorem choose_list {α : Type} (P : Nat → α → Prop) : ∀ n : Nat, (∀ i, i < n → ∃ a, P i a) → ∃ l : List α, l.length = n ∧ ∀ i a, l[i]? = some a → P i a
  | 0, _ => ⟨[], rfl, by simp⟩
  | n + 1, h => by
    obtain ⟨l, hl, hp⟩ := choose_list P n (fun i hi => h i (by omega))
    obtain ⟨a, ha⟩ := h n (by omega)
    refine ⟨l ++ [a], by simp [hl], fun i b hb => ?_⟩
    by_cases hi : i < n
    · rw [List.getElem?_append_left (by omega)] at hb
      exact hp i b hb
    · rw [List.getElem?_append_right (by omega)] at hb
      have hi' : i = n := by
        have := (List.getElem?_eq_some_iff.1 hb).1
        simp at this
        omega
      subst hi'
      simp [hl] at hb
      subst hb
      exact ha

theorem RdL.mk {F : Nat → Prop} {g : Nat} : ∀ {l : List T} {off : Nat}, (∀ j t, l[j]? = some t → ∃ x0 x1 x2 x3, w.cell? ⟨g, off + j * 4, none⟩ = some x0 ∧ w.cell? ⟨g, off + j * 4 + 1, none⟩ = some x1 ∧ w.cell? ⟨g, off + j * 4 + 2, none⟩ = some x2 ∧ w.cell? ⟨g, off + j * 4 + 3, none⟩ = some x3 ∧ Rd F w t (.agg #[x0, x1, x2, x3])) → RdL F w l g off
  | [], _, _ => by unfold RdL; trivial
  | t :: ts, off, h => by
    unfold RdL
    refine ⟨by simpa using h 0 t rfl, RdL.mk fun j u hj => ?_⟩
    have := h (j + 1) u (by simpa using hj)
    have e : off + (j + 1) * 4 = off + 4 + j * 4 := by omega
    rw [e] at this
    exact this

theorem weights_mem (es : List (DataW H × List MemPlace)) (z : DataW H × List MemPlace) (n : Nat) (hz : z ∈ es) (hn : n ∈ z.1.weights Try.prog 25) : n ∈ DataW.weightsAll Try.prog 25 (es.map (·.1)) := by
  induction es with
  | nil => cases hz
  | cons e es ih =>
    simp only [List.map_cons, DataW.weightsAll, List.mem_append]
    rcases List.mem_cons.1 hz with rfl | h
    · exact Or.inl hn
    · exact Or.inr (ih h)

theorem openV : ∀ (fuel : Nat) (cs : List Value) (x : DataW H × List MemPlace), DataW.trod enc Try.prog w 0 (fun _ => true) true fuel 25 cs = some x → (∀ n ∈ x.1.weights Try.prog 25, n ≤ reachBytes) →
    ∃ t, Rd (fun k => k < w.heap.size) w t (.agg cs.toArray) := by
  intro fuel
  induction fuel using Nat.strongRecOn with
  | _ fuel ih =>
  intro cs x h hw
  obtain ⟨xs, n, rfl, rfl, hl, hlen, hf⟩ := DataW.trod_struct Try.underlying25 h
  rw [cells25] at hl
  match xs, hlen, cs, hl with
  | [y0, y1, y2, y3], _, [c0, c1, c2, c3], _ =>
    have g0 : DataW.trod enc Try.prog w 0 (fun _ => true) true n 3 (List.take (Try.prog.cellsOf 3) (List.drop 0 [c0, c1, c2, c3])) = some y0 := hf 0 _ rfl
    have g1 : DataW.trod enc Try.prog w 0 (fun _ => true) true n 3 (List.take (Try.prog.cellsOf 3) (List.drop 1 [c0, c1, c2, c3])) = some y1 := hf 1 _ rfl
    have g2 : DataW.trod enc Try.prog w 0 (fun _ => true) true n 22 (List.take (Try.prog.cellsOf 22) (List.drop 2 [c0, c1, c2, c3])) = some y2 := hf 2 _ rfl
    have g3 : DataW.trod enc Try.prog w 0 (fun _ => true) true n 23 (List.take (Try.prog.cellsOf 23) (List.drop 3 [c0, c1, c2, c3])) = some y3 := hf 3 _ rfl
    rw [cells3] at g0 g1
    rw [cells22] at g2
    rw [cells23] at g3
    have h0 : DataW.trod enc Try.prog w 0 (fun _ => true) true n 3 [c0] = some y0 := g0
    have h1 : DataW.trod enc Try.prog w 0 (fun _ => true) true n 3 [c1] = some y1 := g1
    have h2 : DataW.trod enc Try.prog w 0 (fun _ => true) true n 22 [c2] = some y2 := g2
    have h3 : DataW.trod enc Try.prog w 0 (fun _ => true) true n 23 [c3] = some y3 := g3
    clear g0 g1 g2 g3 hf
    obtain ⟨k, rfl, hk⟩ := openI h0
    obtain ⟨m, rfl, hm⟩ := openI h1
    have hw2 : ∀ n ∈ y2.1.weights Try.prog 22, n ≤ reachBytes := fun n hn => hw n (by simp [DataW.weights, DataW.weightsEach, Try.underlying25, hn])
    have hw3 : ∀ n ∈ y3.1.weights Try.prog 23, n ≤ reachBytes := fun n hn => hw n (by simp [DataW.weights, DataW.weightsEach, Try.underlying25, hn])
    obtain ⟨b, hb⟩ := openB h2 hw2
    rcases DataW.trod_slice Try.underlying23 h3 with ⟨hv, _⟩ | ⟨a, len, cap, elems, rest, n', rfl, hv, rfl, _, hlc, _, hel, he, _, _⟩
    · simp only [List.cons.injEq, and_true] at hv
      subst hv
      refine ⟨.mk k m b [], ?_⟩
      unfold Rd
      exact ⟨c2, none, 0, rfl, hk, hm, hb, by simp, by simp, by simp⟩
    · simp only [List.cons.injEq, and_true] at hv
      subst hv
      have hr := reachBytes_lt
      have hlen64 := hw3 ((elems.length + rest.length) * 64) (by simp [DataW.weights, Try.underlying23, bytes25])
      have hall : ∀ i, i < len → ∃ t, ∃ x0 x1 x2 x3, w.cell? (a.add (i * 4)) = some x0 ∧ w.cell? (a.add (i * 4 + 1)) = some x1 ∧ w.cell? (a.add (i * 4 + 2)) = some x2 ∧ w.cell? (a.add (i * 4 + 3)) = some x3 ∧ Rd (fun k => k < w.heap.size) w t (.agg #[x0, x1, x2, x3]) := by
        intro i hi
        have h5 := he i hi
        rw [cells25, List.getElem?_eq_getElem (by omega)] at h5
        obtain ⟨cs', h6, h7⟩ := Option.bind_eq_some_iff.1 h5
        obtain ⟨_, h8, h9⟩ := World.cells?_some h6
        obtain ⟨t, ht⟩ := ih n' (by omega) cs' _ h7 (fun n hn => hw3 n (by
          have := weights_mem elems (elems[i]) n (List.getElem_mem _) hn
          simp [DataW.weights, Try.underlying23, this]))
        match cs', h8 with
        | [x0, x1, x2, x3], _ =>
          have e0 := h9 0 (by omega)
          have e1 := h9 1 (by omega)
          have e2 := h9 2 (by omega)
          have e3 := h9 3 (by omega)
          rw [Go.Deep.add_add] at e0 e1 e2 e3
          exact ⟨t, x0, x1, x2, x3, e0, e1, e2, e3, ht⟩
      obtain ⟨l, hll, hlp⟩ := choose_list _ len hall
      refine ⟨.mk k m b l, ?_⟩
      unfold Rd
      refine ⟨c2, some a, cap, by rw [hll], hk, hm, hb, by omega, by omega, fun hp => ?_⟩
      obtain ⟨t0, x0, _, _, _, e0, _⟩ := hall 0 (by omega)
      obtain ⟨hs, hkb⟩ := cell_spot e0
      obtain ⟨g, off, spot⟩ := a
      have hs' : spot = none := hs
      subst hs'
      refine ⟨g, off, rfl, hkb, RdL.mk fun j t hj => ?_⟩
      obtain ⟨x0, x1, x2, x3, e0, e1, e2, e3, ht⟩ := hlp j t hj
      rw [add_off] at e0 e1 e2 e3
      exact ⟨x0, x1, x2, x3, e0, e1, e2, e3, ht⟩

theorem openVal {r : Reach} {b0 : Nat} {v : Value} {d : DataW H} {p : List MemPlace} (hv : Value.okWide Try.prog w r b0 25 v) (h : DataW.Trod enc Try.prog w 0 (fun _ => true) true 25 v d p) (hw : ∀ n ∈ d.weights Try.prog 25, n ≤ reachBytes) :
    ∃ t, Rd (fun k => k < w.heap.size) w t v := by
  obtain ⟨cs, rfl, hsz⟩ := okWide_struct Try.underlying25 hv
  obtain ⟨fuel, hf⟩ := h
  exact openV fuel cs.toList _ hf hw

end
end Go.Proofs.Ytjhjcigappkebaa
