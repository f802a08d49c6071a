/-
  What CalendarOpens says, plainly.
-/
import Derived.Test.YtciopemodfpecaaDoorQp
import Derived.Test.YtciopemodfpecaaDoorKd
import Derived.Deep.CutRange
namespace Go.Proofs.YtciopemodfpecaaDoor
set_option linter.unusedVariables false
set_option linter.unusedSimpArgs false

theorem inB_out {l : List (Int × Int)} {m : Int} (h : m < 0 ∨ 1073741824 < m) : false = inB l m :=
  (inB_false (fun hm => by have := hm.1; have := hm.2.1; omega)).symm
theorem opens_plain {op : List (Int × Int)} {hol : List Int} {f t m d r x y : Int} {k : Nat} (hl : op.length = 7) (hok : okR op hol f t = true) (hd : d = m / 1440) (hr : r = m % 1440) (hk : op[k]? = some (x, y)) (hw : wday d = (k : Int)) :
    ∀ B : Bool, (B = true ↔ (f ≤ m ∧ m < t ∧ x ≤ r ∧ r < y) ∧ ¬ d ∈ hol) → B = inB (oV op hol f t) m := by
  intro B hB
  obtain ⟨h1, h2, h3, h4, h5⟩ := (okR_iff hl).1 hok
  obtain ⟨v1, v2⟩ := wlist_ok (hol := hol) h1 h3 h4 h5
  have ho : oV op hol f t = wlist op hol f t := by unfold oV; rw [if_pos hok]
  have hds : dsp op d = (x, y) := dsp_get (by rw [hw, Int.toNat_natCast]; exact hk)
  have key : B = true ↔ inB (oV op hol f t) m = true := by
    rw [hB, inB_iff, ho, mem_of_cov v1 (by omega), v2]
    unfold works
    rw [← hd, ← hr, hds]
    constructor
    · rintro ⟨⟨a, b, c, e⟩, g⟩; exact ⟨a, b, g, c, e⟩
    · rintro ⟨a, b, g, c, e⟩; exact ⟨⟨a, b, c, e⟩, g⟩
  cases B <;> cases hI : inB (oV op hol f t) m <;> simp_all
theorem take_next {hol : List Int} {k : Nat} {x d : Int} (h : hol[k]? = some x) : d ∈ hol.take (k + 1) ↔ d ∈ hol.take k ∨ d = x := by
  rw [List.take_add_one, h]; simp
end Go.Proofs.YtciopemodfpecaaDoor
