/-
  Walks of the reference: With.
-/
import Derived.Test.YthmpeeipbclhkaaDoorSp
import Derived.Deep.CutRange
namespace Go.Proofs.YthmpeeipbclhkaaDoor
set_option linter.unusedSimpArgs false
set_option linter.unusedVariables false
open Go.RowKit

/-- A slice of digests under way, of the call's own. -/
theorem ApS.new (w : World) : ApS w [] (.slice (some ⟨w.heap.size, 0, none⟩) 0 0) (w.alloc (.cells #[] 26)) :=
  ⟨World.ownsRow_made w #[] 0 (Nat.le_refl _) (by unfold maxLen; omega) (by simp), ball (Below.refl _ _) _⟩

/-- The list with another element. -/
def setD (l : List (List Int)) (i : Nat) (d : List Int) : List (List Int) := l.set i d

set_option maxRecDepth 100000 in
set_option maxHeartbeats 2000000 in
theorem with_any (l : List (List Int)) (oa : Option Addr) (oc i : Nat) (d : List Int) (w : World) (hv : Dl (fun k => k < w.heap.size) w (.slice oa l.length oc) l) (hd : Dg d) (hl : l.length ≤ 900) (hi : i < l.length) :
    Calls Tryd.prog 34 #[.slice oa l.length oc, .int .i64 (i : Int), .agg (byteVals d).toArray] w fun e w' => ∃ a c, e = .returned (.slice a l.length c) ∧ Below w.heap.size w w' ∧ Dl (fun k => w.heap.size ≤ k ∧ k < w'.heap.size) w' (.slice a l.length c) (l.set i d) := by
  have hdl := hd.1
  have hrD : RowB (w.alloc (.cells (byteVals d).toArray 26)) w.heap.size 26 d := RowB.new w 26 d
  have hbW : Below w.heap.size w (w.alloc (.cells (byteVals d).toArray 26)) := ball (Below.refl _ _) _
  have hsW : (w.alloc (.cells (byteVals d).toArray 26)).heap.size = w.heap.size + 1 := by simp
  have hdg : ∀ x ∈ l.set i d, Dg x := by
    intro x hx
    rcases List.mem_or_eq_of_mem_set hx with h | h
    · exact hv.2.1 x h
    · rw [h]; exact hd
  have hsl : (l.set i d).length = l.length := by simp
  have hget : ∀ k, k < l.length → (l.set i d)[k]? = if k = i then some d else l[k]? := by
    intro k hk
    rw [List.getElem?_set]
    by_cases h : i = k
    · subst h; rw [if_pos rfl, if_pos rfl, if_pos hk]
    · rw [if_neg h, if_neg (fun e => h e.symm)]
  obtain ⟨m, hm⟩ : ∃ m, m = l.set i d := ⟨_, rfl⟩
  rw [← hm] at hdg hsl hget ⊢
  have HM := Lib.hid hdg; have HL := Lib.hid hsl; have HG := Lib.hid hget
  have HD := Lib.hid hrD; have HW := Lib.hid hbW; have HV := Lib.hid (hv.on hbW)
  obtain ⟨n, hn⟩ : ∃ n, n = l.length := ⟨_, rfl⟩
  have HN := Lib.hid hn
  rw [← hn] at hl hi ⊢
  clear hrD hbW hv hd hdg hsl hget hm hn
  go_enter Tryd.func34, Tryd.ntmps34
  go_wp2_with fail
  generalize (w.alloc (.cells (byteVals d).toArray 26)) = W at *
  have hP0 : Hid (ApS W [] (.slice (some ⟨W.heap.size, 0, none⟩) 0 0) (W.alloc (.cells #[] 26))) := Lib.hid (ApS.new W)
  go_loopw [7, 8] (fun x i wr => ∃ k : Nat, k ≤ n ∧ i = .int .i64 k ∧ Hid (ApS W (m.take k) x wr)) (fun _ i _ => n - (intOf i).toNat)
  case atStart => exact ⟨0, by omega, rfl, by rw [← hsW]; exact hP0⟩
  case round =>
    obtain ⟨k, hk, rfl, H⟩ := hrel
    by_cases hlt : k < n
    · have hlt2 : (k : Int) < (n : Int) := by omega
      have hx := HG.out k (by rw [← HN.out]; exact hlt)
      have hmk : (m.take k).length ≤ 1000 := by rw [List.length_take]; omega
      by_cases hki : k = i
      · subst hki
        rw [if_pos rfl] at hx
        have htk : m.take (k + 1) = m.take k ++ [d] := by rw [List.take_add_one, hx]; rfl
        obtain ⟨v6, w6, hr6, h6⟩ := H.out.push d hdl hmk
        rw [← htk] at h6
        have hf := fold_zero d hdl
        have hbl : (byteVals d).length = 32 := by rw [byteVals_length, hdl]
        have hrg : wr.rangeAt w.heap.size 0 (byteVals d) := by
          intro t u hu
          have hb : wr.heap[w.heap.size]? = W.heap[w.heap.size]? := H.out.below.block _ (by omega)
          rw [Nat.zero_add, cell_of_row wr w.heap.size t _ 26 (0, 0) (hb.trans HD.out)]
          simpa using hu
        have H6 := Lib.hid h6; have R6 := Lib.hid hr6; have HRG := Lib.hid hrg
        clear h6 hr6 hx htk hrg
        go_wp2_with (first | (refine wpList_loadG (by rfl) (.tmp 5) rfl w.heap.size rfl d HRG.out hdl ?_) | (at_builtin; refine wp_appd rfl rfl rfl (.tmp 19) (.tmp 21) rfl rfl rfl R6.out ?_))
        go_roundw
        case rel => exact ⟨k + 1, by omega, by go_num, H6⟩
        case measure => simp [intOf]; omega
      · have hki2 : ¬ ((k : Int) = (i : Int)) := by omega
        have hki3 : ((k : Int) == (i : Int)) = false := by simp; omega
        rw [if_neg hki] at hx
        have hnl := HN.out
        subst hnl
        obtain ⟨g, off, X, rfl, hg, hx2, hxl, hr, hc⟩ := HV.out.pick k hlt
        rw [hx2] at hx
        have htk : m.take (k + 1) = m.take k ++ [X] := by rw [List.take_add_one, hx]; rfl
        obtain ⟨v6, w6, hr6, h6⟩ := H.out.push X hxl hmk
        rw [← htk] at h6
        have hf := fold_zero X hxl
        have hbl : (byteVals X).length = 32 := by rw [byteVals_length, hxl]
        have hrg : wr.rangeAt g (off + k * 32) (byteVals X) := rangeAt_kept hr (H.out.below.block _ hg)
        have H6 := Lib.hid h6; have R6 := Lib.hid hr6; have HRG := Lib.hid hrg
        clear h6 hr6 hx hx2 htk hrg hr
        go_wp2_with (first | (refine wpList_load_mid rfl 26 (.tmp 26) rfl g (off + k * 32) rfl (byteVals X) _ HRG.out Tryd.underlying26 rfl (size26 _ hxl) ?_) | (at_builtin; refine wp_appd rfl rfl rfl (.tmp 23) (.tmp 28) rfl rfl rfl R6.out ?_))
        go_roundw
        case rel => exact ⟨k + 1, by omega, by go_num, H6⟩
        case measure => simp [intOf]; omega
    · have hk2 : k = n := by omega
      subst hk2
      have hT : m.take k = m := List.take_of_length_le (by rw [HL.out, ← HN.out]; exact Nat.le_refl _)
      rw [hT] at H
      have hlt2 : ¬ ((k : Int) < (k : Int)) := by omega
      have hmn : m.length = k := by rw [HL.out, ← HN.out]
      have hdl2 := own_dl H.out.own HM.out (by omega)
      obtain ⟨a, c, hac⟩ := hdl2.shape
      rw [hmn] at hac
      subst hac
      have HB := Lib.hid (HW.out.trans (H.out.below.mono (by omega)))
      have HDL := Lib.hid (hdl2.kept (F' := fun k => w.heap.size ≤ k ∧ k < wr.heap.size) (fun _ _ => rfl) (fun k hk => ⟨by have := hk.1; omega, hk.2⟩))
      clear hdl2 H
      go_wp2
      go_ret
      exact ⟨a, c, rfl, HB.out, HDL.out⟩
end Go.Proofs.YthmpeeipbclhkaaDoor
