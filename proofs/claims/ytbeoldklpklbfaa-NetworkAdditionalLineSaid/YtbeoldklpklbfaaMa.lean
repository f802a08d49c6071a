/-
  The map of the lines: keyed by pairs of places.
-/
import Derived.Test.YtbeoldklpklbfaaCd
import Derived.Maps.OwnSet
import Derived.DeepKeys4
namespace Go.Proofs.Ytbeoldklpklbfaa
open Go.RowKit Go.Maps
set_option linter.unusedVariables false
set_option linter.unusedSimpArgs false

theorem laidOut : laidOutB Try.prog = true := by kernel_rfl
theorem law68 : Keyed Try.prog 68 := Keyed.of_law (deep_law_laid laidOut (m := Try.prog.types.size + 1) (by decide +kernel) (by decide +kernel) (by kernel_rfl) (by kernel_rfl))
theorem zero3 (w : World) : (zeroValue 3).run Try.prog w = .ok (.int .i64 0) w := by kernel_rfl
/-- A pair of places as a value. -/
def pv (a b : Int) : Value := .agg #[.int .i64 a, .int .i64 b]
theorem wf64 {a : Int} (h : I64 a) : (Lit.int .i64 a).wf = true := by
  unfold I64 at h
  have h1 : IntKind.i64.min = -9223372036854775808 := rfl
  have h2 : IntKind.i64.max = 9223372036854775807 := rfl
  simp only [Lit.wf, Bool.and_eq_true, decide_eq_true_eq]
  omega
theorem cells67 : Try.prog.cellsOf 68 = 2 := by kernel_rfl
theorem cells3 : Try.prog.cellsOf 3 = 1 := by kernel_rfl
theorem keytype68 : Try.prog.keyType 68 = true := by kernel_rfl
theorem key_lits (d : Nat) (a b : Int) (ha : I64 a) (hb : I64 b) : Try.prog.keyLits (d + 2) 68 [.int .i64 a, .int .i64 b] = some [.int .i64 a, .int .i64 b] := by
  have e1 : ∀ n, I64 n → Try.prog.keyLits (d + 1) 3 [.int .i64 n] = some [.int .i64 n] := by
    intro n hn
    unfold Program.keyLits
    rw [Try.underlying3]
    simp [wf64 hn]
  unfold Program.keyLits
  rw [Try.underlying68]
  simp [cells67, cells3, List.range, List.range.loop, e1 a ha, e1 b hb]
theorem key_some (a b : Int) (ha : I64 a) (hb : I64 b) : keyOf Try.prog 68 (pv a b) = some (.string (keyBytes [.int .i64 a, .int .i64 b])) := by
  unfold keyOf pv
  rw [Try.underlying68]
  have hs : Try.prog.types.size + 1 = (Try.prog.types.size - 1) + 2 := by
    have : 1 ≤ Try.prog.types.size := by decide +kernel
    omega
  have hf : (Value.agg #[.int .i64 a, .int .i64 b]).formed Try.prog 68 = true := by
    unfold Value.formed
    rw [Try.underlying68]
    simp [cells67]
  simp only [keytype68, hf, Bool.and_self, if_true]
  rw [hs]
  have := key_lits (Try.prog.types.size - 1) a b ha hb
  simp only [Value.cells] at *
  rw [this]
  rfl
def KL (a b : Int) : Lit := .string (keyBytes [.int .i64 a, .int .i64 b])
theorem KL_inj {a b c d : Int} (ha : I64 a) (hb : I64 b) (hc : I64 c) (hd : I64 d) (h : KL a b = KL c d) : a = c ∧ b = d := by
  have h1 := key_some a b ha hb
  have h2 := key_some c d hc hd
  have := law68.inj h1 (by rw [h2]; exact congrArg some h.symm)
  unfold pv at this
  simp at this
  exact this
theorem i64n {p : Nat} (h : p < 100000) : I64 (p : Int) := ⟨by omega, by omega⟩

/-- Block B is a map that holds f. -/
def Mp (w : World) (B N : Nat) (f : Nat → Nat → Option Nat) : Prop :=
  ∃ D : DataW Unit, w.ownsMap Try.prog 68 (plainElem Try.prog 3) B N D ∧ ∀ p q : Nat, p < 100000 → q < 100000 → Maps.has D (KL p q) = (f p q).isSome ∧ ∀ i, f p q = some i → D.atKey (KL p q) (.lit (.int .i64 0)) = .lit (.int .i64 i)
theorem mp_new (w : World) : Mp (w.alloc (.map #[] 0)) w.heap.size 0 (fun _ _ => none) :=
  ⟨.map [], World.ownsMap_made w _ _ _, fun p q _ _ => ⟨rfl, fun i h => by cases h⟩⟩
theorem Mp.kept {w w' : World} {B N : Nat} {f : Nat → Nat → Option Nat} (h : Mp w B N f) {row : Option Nat} (hg : w.grownBy w' row) (hne : some B ≠ row) : Mp w' B N f := by
  obtain ⟨D, h1, h2⟩ := h
  exact ⟨D, h1.kept hg hne, h2⟩
theorem Mp.lt {w : World} {B N : Nat} {f : Nat → Nat → Option Nat} (h : Mp w B N f) : B < w.heap.size := by
  obtain ⟨D, h1, _⟩ := h
  exact h1.lt
theorem Mp.on {w w' : World} {B N : Nat} {f : Nat → Nat → Option Nat} (h : Mp w B N f) (hb : Below w.heap.size w w') : Mp w' B N f :=
  h.kept (row := none) ⟨hb.os, hb.tape, hb.output, hb.size, fun i hi _ => hb.block i hi⟩ (by simp)
theorem Mp.mono {w : World} {B N M : Nat} {f : Nat → Nat → Option Nat} (h : Mp w B N f) (hn : N ≤ M) : Mp w B M f := by
  obtain ⟨D, h1, h2⟩ := h
  exact ⟨D, h1.mono hn, h2⟩
/-- 'v, ok := m[k]' -/
theorem Mp.ok {w : World} {B N : Nat} {f : Nat → Nat → Option Nat} (h : Mp w B N f) {p q : Nat} (hp : p < 100000) (hq : q < 100000) :
    ∃ c : Int, (Instr.lookup 60 (.map (some B)) (pv p q) true).run Try.prog w = .ok (.tuple #[.int .i64 c, .bool (f p q).isSome]) w ∧ ∀ i, f p q = some i → c = i := by
  obtain ⟨D, h1, h2⟩ := h
  have hk := key_some p q (i64n hp) (i64n hq)
  obtain ⟨v, ps, hr, hv⟩ := h1.look_ok law68 Try.underlying60 (zero3 w) (plainElem_int Try.underlying3 (by decide)) hk
  obtain ⟨c, rfl, hc, hwc⟩ := plainElem_int_inv Try.underlying3 hv
  simp only [Prod.mk.injEq] at hc
  have e := h2 p q hp hq
  unfold KL at e
  rw [e.1] at hr
  refine ⟨c, hr, fun i hi => ?_⟩
  have h3 := e.2 i hi
  rw [hc.1] at h3
  simpa using h3
/-- 'm[k]' -/
theorem Mp.look {w : World} {B N : Nat} {f : Nat → Nat → Option Nat} (h : Mp w B N f) {p q i : Nat} (hp : p < 100000) (hq : q < 100000) (hi : f p q = some i) :
    (Instr.lookup 60 (.map (some B)) (pv p q) false).run Try.prog w = .ok (.int .i64 i) w := by
  obtain ⟨D, h1, h2⟩ := h
  have hk := key_some p q (i64n hp) (i64n hq)
  obtain ⟨c, hr, hc, hwc⟩ := h1.lookup_int law68 Try.underlying60 Try.underlying3 (zero3 w) hk
  have e := (h2 p q hp hq).2 i hi
  unfold KL at e
  rw [e] at hc
  have : (i : Int) = c := by simpa using hc
  rw [this]
  exact hr
/-- f, but i at p, q. -/
def upd (f : Nat → Nat → Option Nat) (p q i : Nat) : Nat → Nat → Option Nat := fun a b => if a = p ∧ b = q then some i else f a b
/-- 'm[k] = v' -/
theorem Mp.put {w : World} {B N : Nat} {f : Nat → Nat → Option Nat} (h : Mp w B N f) {p q i : Nat} (hp : p < 100000) (hq : q < 100000) (hi : i < 100000) (hN : N < 100000) :
    ∃ w', (Instr.mapUpdate 60 (.map (some B)) (pv p q) (.int .i64 i)).run Try.prog w = .ok () w' ∧ Mp w' B (N + 1) (upd f p q i) ∧ w.grownBy w' (some B) := by
  obtain ⟨D, h1, h2⟩ := h
  have hk := key_some p q (i64n hp) (i64n hq)
  obtain ⟨w', hr, ho, hg⟩ := h1.update law68 Try.underlying60 (by unfold maxLen; omega) hk (plainElem_int (H := Unit) Try.underlying3 (wf64 (i64n hi)))
  refine ⟨w', hr, ⟨_, ho, fun a b ha hb => ?_⟩, hg⟩
  have hm := h1.isMap
  have hkk := law68.key hk
  unfold upd
  by_cases e : a = p ∧ b = q
  · obtain ⟨rfl, rfl⟩ := e
    rw [if_pos ⟨rfl, rfl⟩]
    refine ⟨?_, fun j hj => ?_⟩
    · unfold KL; rw [has_put_same hm hkk]; rfl
    · cases hj
      unfold KL; rw [atKey_put_same hm hkk]
  · rw [if_neg e]
    have hne : KL a b ≠ KL p q := by
      intro h
      have := KL_inj (i64n ha) (i64n hb) (i64n hp) (i64n hq) h
      omega
    have hne' : KL (a : Int) b ≠ .string (keyBytes [.int .i64 (p : Int), .int .i64 q]) := hne
    rw [has_put_other hne', atKey_put_other hne']
    exact h2 a b ha hb
/-- The same map, said otherwise. -/
theorem Mp.same {w : World} {B N : Nat} {f g : Nat → Nat → Option Nat} (h : Mp w B N f) (e : ∀ p q, p < 100000 → q < 100000 → f p q = g p q) : Mp w B N g := by
  obtain ⟨D, h1, h2⟩ := h
  exact ⟨D, h1, fun p q hp hq => by rw [← e p q hp hq]; exact h2 p q hp hq⟩
end Go.Proofs.Ytbeoldklpklbfaa
