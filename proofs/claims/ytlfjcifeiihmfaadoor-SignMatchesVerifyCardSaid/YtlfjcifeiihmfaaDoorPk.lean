/-
  Appends of known bytes to slices of the call's own; the challenge as the laws spell it.
-/
import Derived.Test.YtlfjcifeiihmfaaDoorNv
namespace Go.Proofs.YtlfjcifeiihmfaaDoor
open Go.RowKit

theorem Below.grown0 {w w' : World} (hb : Below w.heap.size w w') : w.grownBy w' none := ⟨hb.os, hb.tape, hb.output, hb.size, fun i hi _ => hb.block i hi⟩

theorem PdS.next {w wk w' : World} {v : Value} {l : List Int} (h : PdS w v l wk) (hb : Below wk.heap.size wk w') : PdS w v l w' :=
  ⟨h.1.kept (row := none) (Below.grown0 hb) (by cases hx : v.ownBlock <;> simp), h.2.trans (hb.mono h.2.size)⟩

theorem PdS.new (w : World) : PdS w (.slice (some ⟨w.heap.size, 0, none⟩) 0 0) ([] : List Int) (w.alloc (.cells #[] 5)) :=
  ⟨World.ownsRow_made w #[] 0 (Nat.le_refl _) (by unfold maxLen; omega) (by simp), ball (Below.refl _ _) _⟩

/-- 'append(v, u..)': the equation. -/
theorem app_pds {w wk : World} {v u : Value} {l b : List Int} (h : PdS w v l wk) (hu : Bs (fun k => k < wk.heap.size) wk u b) (hl : l.length + b.length ≤ 1000000) :
    ∃ v' w', (Builtin.append_ #[22, 22] 22 #[v, u]).run Tryd.prog wk = .ok v' w' ∧ PdS w v' (l ++ b) w' := by
  obtain ⟨v', w', hr, hA⟩ := append_run _ w.heap.size wk v u l b 22 h.1 hu (by omega) h.2.size
  exact ⟨v', w', hr, hA.own, h.2.grown hA.grown h.2.size (by intro k hk; exact (h.1.lt k hk).1)⟩

theorem Kq.drew {w w' : World} {a b : Int} (h : Kq w a b w') : Kq w a b w'.drew := h.next (Below.drew (Below.refl _ _))
theorem Kq.all {w w' : World} {a b : Int} (h : Kq w a b w') : w'.cell? ⟨w.heap.size, 0, none⟩ = some (.int .u64 a) ∧ w'.cell? ⟨w.heap.size, 1, none⟩ = some (.int .u64 b) ∧ Kq w a b w' := ⟨h.c0, h.c1, h⟩

theorem head_range (r p : Int) : ∀ x ∈ nb r ++ nb p, 0 ≤ x ∧ x ≤ 255 := by
  intro x hx
  rcases List.mem_append.1 hx with hx | hx
  · exact nb_range r x hx
  · exact nb_range p x hx

theorem chal_head (r p : Int) (m : List Int) : chal r p m = dg chaS ((nb r ++ nb p) ++ m) % 1152921504606845399 := by
  unfold chal; rw [List.append_assoc]

end Go.Proofs.YtlfjcifeiihmfaaDoor
