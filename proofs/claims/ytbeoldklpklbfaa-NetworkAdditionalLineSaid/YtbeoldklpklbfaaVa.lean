/-
  The functions at a valid network.
-/
import Derived.Test.YtbeoldklpklbfaaSb
namespace Go.Proofs.Ytbeoldklpklbfaa
open Go.RowKit
set_option linter.unusedVariables false
set_option linter.unusedSimpArgs false

theorem val_chk {ps : List Pc} {eds : List Ed} {es : List Ln} (hc : chk ps eds = 0) (l : List Int) (hl : ∀ p ∈ l, ∃ q : Nat, p = (q : Int) ∧ q < ps.length) : cerr ps eds l = 0 := by
  unfold cerr
  rw [if_pos hc, if_pos]
  unfold plc
  refine List.all_eq_true.2 fun p hp => ?_
  obtain ⟨q, rfl, hq⟩ := hl p hp
  exact rng_true ⟨by omega, by omega⟩
section
variable {w : World} {V : Value} {ps : List Pc} {eds : List Ed} {es : List Ln}
theorem vT (h : Nw w V ps eds) (hv : Val ps eds es) (hc : chk ps eds = 0) {f : Nat} (hf : f < ps.length) : Calls Try.prog 15 #[V, .int .i64 (f : Int)] w fun e w' => ∃ a c L, e = .returned (.tuple #[.slice a ps.length c, .int .i64 0]) ∧ Below w.heap.size w w' ∧ Hl (fun k => k < w'.heap.size) w' (.slice a ps.length c) L ∧ Tm ps.length es f L ∧ (∀ p, -1 ≤ dv L p ∧ dv L p ≤ 60000000) := by
  refine (timesP_any h f ⟨by omega, by have := hv.2.2.1; omega⟩).mono ?_
  rintro e w' ⟨a, k, c, L, E, rfl, hb, hl, ⟨h1, _, h3⟩, hd⟩
  have hE : E = 0 := by rw [h1]; exact val_chk (es := es) hc _ (fun p hp => by simp only [List.mem_singleton] at hp; exact ⟨f, hp, hf⟩)
  subst hE
  obtain ⟨es', fn, v', e1, l1, t⟩ := h3 rfl
  obtain rfl := hv.one v'
  obtain rfl : f = fn := by omega
  obtain ⟨_, _, e⟩ := hl.shape
  simp only [Value.slice.injEq] at e
  obtain ⟨rfl, rfl, rfl⟩ := e
  rw [t.1] at hl ⊢
  exact ⟨_, _, L, rfl, hb, hl, t, hd⟩
theorem vE (h : Nw w V ps eds) (hv : Val ps eds es) (hc : chk ps eds = 0) {a b : Nat} (ha : a < ps.length) (hb : b < ps.length) : Calls Try.prog 18 #[V, .int .i64 (a : Int), .int .i64 (b : Int)] w fun e w' => ∃ I E : Int, e = .returned (.tuple #[.int .i64 I, .int .i64 E]) ∧ Below w.heap.size w w' ∧ (fd es a b = none ∧ E = 80 ∧ I = 0 ∨ ∃ i : Nat, fd es a b = some i ∧ E = 0 ∧ I = (i : Int)) := by
  refine (edgeP_any h a b ⟨by omega, by have := hv.2.2.1; omega⟩ ⟨by omega, by have := hv.2.2.1; omega⟩).mono ?_
  rintro e w' ⟨I, E, rfl, hbl, hr⟩
  have h0 : cerr ps eds [(a : Int), (b : Int)] = 0 := val_chk (es := es) hc _ (fun p hp => by
    simp only [List.mem_cons, List.not_mem_nil, or_false] at hp
    rcases hp with rfl | rfl
    · exact ⟨a, rfl, ha⟩
    · exact ⟨b, rfl, hb⟩)
  rcases hr with ⟨g, _⟩ | ⟨_, es', an, bn, v', e1, e2, _, _, hr⟩
  · exact absurd h0 g
  obtain rfl := hv.one v'
  obtain rfl : a = an := by omega
  obtain rfl : b = bn := by omega
  exact ⟨I, E, rfl, hbl, hr⟩
end
/-- What a valid call means. -/
theorem val_arg {n : Nat} {a : Int} (h : rng 0 a ((n : Int) - 1) = true) : ∃ q : Nat, a = (q : Int) ∧ q < n := by
  have := rng_iff.1 h
  exact ⟨a.toNat, by omega, by omega⟩
end Go.Proofs.Ytbeoldklpklbfaa
