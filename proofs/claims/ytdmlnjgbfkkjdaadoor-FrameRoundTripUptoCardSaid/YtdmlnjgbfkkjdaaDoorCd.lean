/-
  Walks: duplicate; begun. Equality of four bytes.
-/
import Derived.Test.YtdmlnjgbfkkjdaaDoorCc
import Derived.Laws.CopyOwn
import Derived.Laws.StructEq
namespace Go.Proofs.YtdmlnjgbfkkjdaaDoor
open Go.RowKit
set_option linter.unusedVariables false
set_option linter.unusedSimpArgs false

theorem made_u8 (n : Nat) : madeCells #[.int .u8 0] n = (byteVals (List.replicate n 0)).toArray := by
  unfold madeCells byteVals
  apply Array.ext
  · simp
  · intro i h1 h2
    simp only [Array.getElem_map, Array.getElem_range, List.size_toArray, Array.size_range, List.getElem_toArray, List.getElem_map, List.getElem_replicate]
    simp [Nat.mod_one]
theorem run_make22 (n : Nat) (h : n ≤ 140737488355328) (w : World) : (Instr.makeSlice 22 (.int .i64 (n : Int)) (.int .i64 (n : Int))).run Tryd.prog w = .ok (.slice (some ⟨w.heap.size, 0, none⟩) n n) (w.alloc (.cells (byteVals (List.replicate n 0)).toArray 5)) := by
  obtain ⟨i0, hi, hz0, hz1, hz2⟩ := info_parts Tryd.info5
  have hr := run_make (P := Tryd.prog) w 22 5 i0 (.int .u8 0) Tryd.underlying22 hi hz0 .i64 .i64 n n (by omega) (by omega) (by rw [hz2]; omega) (by omega)
  rw [← made_u8]
  simpa [hz1, Value.cells] using hr
def DupOf (w : World) (b : List Int) (e : Ending) (w' : World) : Prop := ∃ v, e = .returned v ∧ Below w.heap.size w w' ∧ w'.ownsRow w.heap.size 5 1 v b.length (byteVals b)
theorem sz5 : (Tryd.prog.info? 5).map (·.size) = some 1 := by kernel_rfl
set_option maxHeartbeats 1000000 in
theorem dup_any (b : List Int) (v : Value) (w : World) (hv : Bs (fun k => k < w.heap.size) w v b) : Calls Tryd.prog 25 #[v] w (DupOf w b) := by
  have hl := hv.1
  obtain ⟨a, c, rfl⟩ := hv.shape
  have HV := Lib.hid hv; clear hv
  have hm := run_make22 b.length hl w
  obtain ⟨n, hn⟩ : ∃ n, n = b.length := ⟨_, rfl⟩
  rw [← hn] at hl HV hm ⊢
  have HN := Lib.hid hn; clear hn
  go_enter Tryd.func25, Tryd.ntmps25
  have h0 : (w.alloc (.cells (byteVals (List.replicate n 0)).toArray 5)).heap[w.heap.size]? = some (.cells (byteVals (List.replicate n 0)).toArray 5 (0, 0)) := bnew w _
  have H0 := Lib.hid h0; clear h0
  have HS : Hid (∀ j v, (byteVals b)[j]? = some v → ∃ g off, a = some ⟨g, off, none⟩ ∧ (w.alloc (.cells (byteVals (List.replicate n 0)).toArray 5)).cell? ⟨g, off + j, none⟩ = some v) := Lib.hid (by
    intro j v hj
    have hjl : j < b.length := by have := (List.getElem?_eq_some_iff.1 hj).1; rwa [byteVals_length] at this
    obtain ⟨_, _, a', c', e, _, hp⟩ := HV.out
    simp only [Value.slice.injEq] at e
    obtain ⟨rfl, _, _⟩ := e
    obtain ⟨g, off, rfl, hg, hc⟩ := hp (by omega)
    refine ⟨g, off, rfl, ?_⟩
    have := hc j b[j] (List.getElem?_eq_getElem hjl)
    rw [World.cell?_of_block (w := w) (heap_alloc_old w _ hg), this]
    unfold byteVals at hj
    rw [List.getElem?_map, List.getElem?_eq_getElem hjl] at hj
    exact hj)
  have HP : Hid (0 < (byteVals b).length → some (⟨w.heap.size, 0, none⟩ : Addr) = some ⟨w.heap.size, 0, none⟩ ∧ ∃ ad, a = some ad ∧ ∀ j v, (byteVals b)[j]? = some v → (w.alloc (.cells (byteVals (List.replicate n 0)).toArray 5)).cell? (ad.add j) = some v) := Lib.hid (by
    intro hp
    refine ⟨rfl, ?_⟩
    obtain ⟨g, off, rfl, _⟩ := HS.out 0 ((byteVals b)[0]) (List.getElem?_eq_getElem hp)
    refine ⟨_, rfl, fun j v hj => ?_⟩
    obtain ⟨g', off', e, h⟩ := HS.out j v hj
    cases e
    rw [add_off]; exact h)
  have HL := Lib.hid (show (byteVals b).length = Nat.min n n by rw [byteVals_length, HN.out]; simp)
  have HFit := Lib.hid (show 0 + (byteVals b).length ≤ (byteVals (List.replicate n 0)).length by rw [byteVals_length, byteVals_length, HN.out]; simp)
  have H1 := Lib.hid (show ∀ v ∈ byteVals b, v.oneCell' = true by intro v hv; obtain ⟨x, _, rfl⟩ := List.mem_map.1 hv; rfl)
  have HB := Lib.hid (ball (Below.refl w.heap.size w) (.cells (byteVals (List.replicate n 0)).toArray 5))
  go_wp2_with (with_reducible refine wpList_copy_splice rfl (.tmp 7) (.tmp 8) 22 22 rfl 5 Tryd.underlying22 sz5 (some ⟨w.heap.size, 0, none⟩) a n n n c rfl rfl w.heap.size 0 _ 5 H0.out _ HL.out HP.out HFit.out H1.out w.heap.size w HB.out (Nat.le_refl _) ?_; intro w2 hg2 hb2; have HB2 := Lib.hid hb2; clear hb2)
  go_ret
  refine ⟨_, rfl, HB2.out, ?_⟩
  have e : splice (byteVals (List.replicate n 0)) 0 (byteVals b) = byteVals b := by
    unfold splice
    have h := HN.out
    simp only [List.take_zero, List.nil_append, Nat.zero_add]
    rw [List.drop_eq_nil_of_le (by rw [byteVals_length, byteVals_length]; simp; omega), List.append_nil]
  have h2 := hg2.out
  rw [e] at h2
  have hN := HN.out
  refine ⟨by rw [byteVals_length, Nat.mul_one], Or.inr ⟨w.heap.size, n, (byteVals b).toArray, by rw [hN]; rfl, Nat.le_refl _, h2, by omega, by unfold maxLen; omega, by simp [byteVals_length, hN], ?_⟩⟩
  rw [Nat.mul_one, ← byteVals_length b]
  simp

/-- The value v reads as the state s. -/
def SV (F : Nat → Prop) (w : World) (v : Value) (s : St) : Prop := ∃ a c, v = .agg #[.slice a s.rest.length c, .bool s.inn, .bool s.esc, .bool s.bad] ∧ Bs F w (.slice a s.rest.length c) s.rest
theorem SV.kept {F F' : Nat → Prop} {w w' : World} {v : Value} {s : St} (h : SV F w v s) (hw : ∀ k, F k → w'.heap[k]? = w.heap[k]?) (hF : ∀ k, F k → F' k) : SV F' w' v s := by
  obtain ⟨a, c, e, hb⟩ := h
  exact ⟨a, c, e, hb.kept hw hF⟩
theorem SV.on {w w' : World} {v : Value} {s : St} (h : SV (fun k => k < w.heap.size) w v s) (hb : Below w.heap.size w w') : SV (fun k => k < w'.heap.size) w' v s :=
  h.kept (fun k hk => hb.block k hk) (fun k hk => Nat.lt_of_lt_of_le hk hb.size)

set_option maxHeartbeats 1000000 in
theorem begun_any (s : St) (a : Option Addr) (n c : Nat) (w : World) (hn : n = s.rest.length) :
    Calls Tryd.prog 27 #[.agg #[.slice a n c, .bool s.inn, .bool s.esc, .bool s.bad]] w fun e w' => e = .returned (.bool (begun s)) ∧ Below w.heap.size w w' := by
  obtain ⟨R, hR⟩ : ∃ R, R = begun s := ⟨_, rfl⟩
  rw [← hR]
  unfold begun at hR
  rw [← hn] at hR
  clear hn
  obtain ⟨r, i, x, y⟩ := s
  simp only at hR ⊢
  clear r
  by_cases h0 : 0 < n
  · have h0' : 0 < (n : Int) := by omega
    rw [decide_eq_true h0] at hR
    cases i <;> cases x <;> cases y <;> simp only [Bool.true_and, Bool.false_and, Bool.or_true, Bool.or_false, Bool.true_or] at hR <;> subst hR
    all_goals
      go_enter Tryd.func27, Tryd.ntmps27
      go_wp2
      go_ret
      exact ⟨rfl, ball (Below.refl _ _) _⟩
  · obtain rfl : n = 0 := by omega
    rw [decide_eq_false h0] at hR
    clear h0
    cases i <;> cases x <;> cases y <;> simp only [Bool.true_and, Bool.false_and, Bool.or_true, Bool.or_false, Bool.true_or] at hR <;> subst hR
    all_goals
      go_enter Tryd.func27, Tryd.ntmps27
      go_wp2
      go_ret
      exact ⟨rfl, ball (Below.refl _ _) _⟩

theorem part_byte (D : List Int) (i : Nat) (h : i < D.length) (w : World) : (part 5 (byteVals D).toArray i).run Tryd.prog w = .ok (.int .u8 D[i]) w := by
  have hi : (byteVals D)[i]? = some (.int .u8 D[i]) := by unfold byteVals; rw [List.getElem?_map, List.getElem?_eq_getElem h]; rfl
  have a5 := Tryd.isAgg5
  unfold part
  go_simp

theorem eq_loop (D E : List Int) (hD : D.length = 4) (hE : E.length = 4) (w : World) : ∀ (n s : Nat), s + n = 4 →
    (forIn (List.range' s n) ((none, ()) : Option Bool × Unit) fun i _ => (do
              let x ← part 5 (byteVals D).toArray (i * 1)
              let y ← part 5 (byteVals E).toArray (i * 1)
              let b ← Op.equalIn 9999 5 x y
              if (!b) = true then pure (ForInStep.done (some false, ())) else pure (ForInStep.yield (none, ())) : Sem (ForInStep (Option Bool × Unit)))).run Tryd.prog w = .ok (if D.drop s = E.drop s then (none, ()) else (some false, ())) w := by
  intro n
  induction n with
  | zero =>
    intro s hs
    rw [List.drop_eq_nil_of_le (by omega), List.drop_eq_nil_of_le (by omega)]
    simp
  | succ n ih =>
    intro s hs
    have h1 : s < D.length := by omega
    have h2 : s < E.length := by omega
    rw [List.range'_succ, List.forIn_cons]
    simp only [Sem.run_bind, Nat.mul_one, part_byte D s h1, part_byte E s h2, Result.andThen_ok]
    rw [show (9999 : Nat) = 9998 + 1 from rfl, run_equalIn_int w 9998 5 .u8 .u8 _ _ Tryd.underlying5]
    simp only [Result.andThen_ok]
    have hiff : D.drop s = E.drop s ↔ D[s] = E[s] ∧ D.drop (s + 1) = E.drop (s + 1) := by rw [List.drop_eq_getElem_cons h1, List.drop_eq_getElem_cons h2, List.cons.injEq]
    by_cases h : D[s] = E[s]
    · have e : (D[s] == E[s]) = true := by simpa using h
      rw [e]
      have := ih (s + 1) (by omega)
      simp only [Nat.mul_one] at this
      simp only [Bool.not_true, Bool.false_eq_true, if_false, Sem.run_pure, Result.andThen_ok]
      rw [show (9999 : Nat) = 9998 + 1 from rfl] at this
      rw [this]
      simp [hiff, h]
    · have e : (D[s] == E[s]) = false := by simpa using h
      rw [e]
      simp [hiff, h]

theorem eq4 (D E : List Int) (hD : D.length = 4) (hE : E.length = 4) (w : World) : (Op.equalIn 10000 42 (.agg (byteVals D).toArray) (.agg (byteVals E).toArray)).run Tryd.prog w = .ok (decide (D = E)) w := by
  have z5 := Tryd.sizeOf5
  rw [show (10000 : Nat) = 9999 + 1 from rfl, Op.equalIn]
  simp only [Sem.run_bind, run_underlying Tryd.underlying42, Result.andThen_ok]
  simp only [Std.Legacy.Range.forIn_eq_forIn_range', Std.Legacy.Range.size, Nat.sub_zero, Nat.add_sub_cancel, Nat.div_one]
  rw [z5]
  simp only [Result.andThen_ok]
  rw [eq_loop D E hD hE w 4 0 rfl]
  simp only [List.drop_zero, Result.andThen_ok]
  by_cases h : D = E
  · simp [h]
  · simp [h]
end Go.Proofs.YtdmlnjgbfkkjdaaDoor
