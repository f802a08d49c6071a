/-
  Walks: the minutes of the line of two neighbours.
-/
import Derived.Test.YtbeoldklpklbfaaMa
import Derived.Test.YtbeoldklpklbfaaPm
namespace Go.Proofs.Ytbeoldklpklbfaa
open Go.RowKit
set_option linter.unusedVariables false
set_option linter.unusedSimpArgs false

set_option maxRecDepth 100000 in
set_option maxHeartbeats 4000000 in
theorem minutes_any {w : World} {ea na : Option Addr} {en ec nn nc B N : Nat} {eds : List Ed} {f : Nat → Nat → Option Nat} (hE : Es (fun k => k < w.heap.size) w (.slice ea en ec) eds) (hM : Mp w B N f)
    {p q i : Nat} {x : Ed} (hp : p < 100000) (hq : q < 100000) (hi : f p q = some i) (hx : eds[i]? = some x) :
    Calls Try.prog 47 #[.agg #[.slice ea en ec, .map (some B), .slice na nn nc], .int .i64 p, .int .i64 q] w fun e w' => e = .returned (.int .i64 x.m) ∧ Below w.heap.size w w' := by
  have hil : i < eds.length := (List.getElem?_eq_some_iff.1 hx).1
  obtain ⟨W, hW⟩ : ∃ W, W = w.alloc (.cells #[.slice ea en ec, .map (some B), .slice na nn nc] 63) := ⟨_, rfl⟩
  have hB : Below w.heap.size w W := by rw [hW]; exact ball (Below.refl w.heap.size w) _
  have e0 : W.heap[w.heap.size]? = some (.cells #[.slice ea en ec, .map (some B), .slice na nn nc] 63 (0, 0)) := by rw [hW]; exact bnew _ _
  obtain ⟨g, off, y, rfl, hg, hy, c0, c1, c2, c3, c4, hcap⟩ := Es.cells (hE.on hB) i hil
  rw [hx] at hy
  cases hy
  have hlk : (Instr.lookup 60 (.map (some B)) (.agg #[.int .i64 p, .int .i64 q]) false).run Try.prog W.drew = .ok (.int .i64 i) W.drew := (hM.on (hB.drew)).look hp hq hi
  obtain ⟨b0, b1, b2⟩ := box3 e0
  have hen : en = eds.length := by obtain ⟨a, c, e⟩ := hE.shape; simp only [Value.slice.injEq] at e; exact e.2.1
  have hi2 : (i : Int) < (en : Int) := by omega
  have hi3 : i < en := by omega
  have HB := Lib.hid hB
  clear hE hM hB hp hq hi hx hil c0 c1 c2 c4 hen e0 b2 hcap
  go_enter Try.func47, Try.ntmps47
  go_wp2_with fail
  rw [← hW]
  clear hW
  refine wp_region_still_lit (by kernel_rfl) (by kernel_rfl) ?_
  repeat still_step
  refine wpStill_nil ?_
  go_wp2
  go_ret
  exact ⟨rfl, HB.out.drew⟩
end Go.Proofs.Ytbeoldklpklbfaa
