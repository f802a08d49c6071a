/-
  Walks: cut.
-/
import Derived.Test.YtciopemodfpecaaDoorBb
namespace Go.Proofs.YtciopemodfpecaaDoor
open Go.RowKit
set_option linter.unusedVariables false
set_option linter.unusedSimpArgs false

/-- The walk's step of an append of spans. -/
theorem wp_appt {P : Program} {ops : Array Oper} {rest : List Oper} {o : Oper} {a : Act} {Q : Exit → Act → World → Prop} (hP : P = Tryd.prog) (hgd : o.guard = none) (hty : o.type = 30) (s x : Operand)
    (ho : o.op = .call { callee := .builtin .append, args := #[s, x], argTypes := #[30, 30] }) {w : World} {v u v' : Value} {w' : World} (hs : a.eval s = v) (hx : a.eval x = u)
    (hr : (Builtin.append_ #[30, 30] 30 #[v, u]).run Tryd.prog w = .ok v' w') (hk : wpList P ops Q rest (a.put o.dst v') w') : wpList P ops Q (o :: rest) a w := by
  subst hP
  refine wpList_plain hgd fun K hK => ?_
  unfold Oper.wp execOp
  simp only [ho, hty, resolve, invoke, builtin, Sem.run_bind, Sem.run_pure, Result.andThen_ok, List.map_toArray, List.map_cons, List.map_nil, hs, hx, hr]
  exact hK _ _ hk

theorem cell_new2 (w : World) (x y : Value) (t : TypeId) (B : Nat) (hB : B = w.heap.size) : (w.alloc (.cells #[x, y] t)).cell? ⟨B, 0, none⟩ = some x ∧ (w.alloc (.cells #[x, y] t)).cell? ⟨B, 1, none⟩ = some y := by
  subst hB
  rw [cell_of_row _ w.heap.size 0 _ t (0, 0) (heap_alloc_new w _), cell_of_row _ w.heap.size 1 _ t (0, 0) (heap_alloc_new w _)]
  exact ⟨rfl, rfl⟩

set_option maxRecDepth 100000 in
set_option maxHeartbeats 1000000 in
theorem cut_any (l : List (Int × Int)) (a : Option Addr) (cap : Nat) (w : World) (hv : Sl (fun k => k < w.heap.size) w (.slice a l.length cap) l) (hl : l.length ≤ 2000000) :
    Calls Tryd.prog 57 #[.slice a l.length cap] w fun e w' => ∃ v, e = .returned v ∧ ApT w (cutL l) v w' := by
  have HV := Lib.hid hv
  clear hv
  obtain ⟨n, hn⟩ : ∃ n, n = l.length := ⟨_, rfl⟩
  have HN := Lib.hid hn
  rw [← hn] at hl
  go_enter Tryd.func57, Tryd.ntmps57
  rw [← hn]
  clear hn
  go_wp2
  go_loopw [2, 8] (fun v t wr => ∃ k : Nat, k ≤ n ∧ t = .int .i64 k ∧ Hid (ApT w (cutL (l.take k)) v wr)) (fun _ t _ => n - (intOf t).toNat)
  case atStart => exact ⟨0, by omega, rfl, Lib.hid (ApT.nil w)⟩
  case round =>
    obtain ⟨k, hk, rfl, H⟩ := hrel
    by_cases hlt : k < n
    · have hlt2 : (k : Int) < (n : Int) := by omega
      obtain ⟨g, off, x, y, rfl, hg, hx, hxi, hyi, c0, c1, hcap⟩ := HV.out.pick k (by have := HN.out; omega)
      have d0 : wr.cell? ⟨g, off + k * 2, none⟩ = some (.int .i64 x) := (H.out.below.cell (p := ⟨g, off + k * 2, none⟩) hg).trans c0
      have d1 : wr.cell? ⟨g, off + k * 2 + 1, none⟩ = some (.int .i64 y) := (H.out.below.cell (p := ⟨g, off + k * 2 + 1, none⟩) hg).trans c1
      have htk : l.take (k + 1) = l.take k ++ [(x, y)] := by rw [List.take_add_one, hx]; rfl
      have hcut : cutL (l.take (k + 1)) = cutL (l.take k) ++ (if max x 0 < min y 1073741824 then [(max x 0, min y 1073741824)] else []) := by
        rw [htk, cutL_append]
        rfl
      obtain ⟨X, hX⟩ : ∃ X, X = max x 0 := ⟨_, rfl⟩
      obtain ⟨Y, hY⟩ : ∃ Y, Y = min y 1073741824 := ⟨_, rfl⟩
      have hcl : (cutL (l.take k)).length ≤ 4000000 := by
        have := cutL_length (l.take k)
        rw [List.length_take] at this
        omega
      have hboth := both_any x y 0 1073741824
      rw [← hX, ← hY] at hcut hboth
      have HB := Lib.hid hboth; have HC := Lib.hid hcut
      clear hboth hcut htk hX hY hx c0 c1
      go_wp2_with fail
      refine (HB.out _).mono ?_
      rintro e w1 ⟨rfl, hb1⟩
      have H1 := (H.out.alloc (.cells #[.int .i64 x, .int .i64 y] 23)).call hb1
      have H2 := Lib.hid (H1.alloc (.cells #[.int .i64 X, .int .i64 Y] 23))
      clear H H1 hb1 HB d0 d1
      have hc2 := cell_new2 w1 (.int .i64 X) (.int .i64 Y) 23 _ rfl
      go_wp2_with fail
      refine (empty_any X Y _).mono ?_
      rintro e w2 ⟨rfl, hb2⟩
      have e0 := (hb2.cell (p := ⟨w1.heap.size, 0, none⟩) (by simp)).trans hc2.1
      have e1 := (hb2.cell (p := ⟨w1.heap.size, 1, none⟩) (by simp)).trans hc2.2
      have H3 := Lib.hid (H2.out.call hb2)
      clear H2 hb2 hc2
      by_cases hxy : X < Y
      · rw [if_pos hxy] at HC
        have g1 : decide (Y ≤ X) = false := decide_eq_false (by omega)
        rw [g1]
        clear g1 hxy
        obtain ⟨v', w', hr, hA, _⟩ := H3.out.push X Y hcl
        rw [← HC.out] at hA
        have HR := Lib.hid hr; have HA := Lib.hid hA
        clear hr hA
        go_wp2_with (first | (at_builtin; refine wp_appt rfl rfl rfl (.tmp 18) (.tmp 20) rfl rfl rfl HR.out ?_))
        go_roundw
        case rel => exact ⟨k + 1, by omega, by go_num, HA⟩
        case measure => simp [intOf]; omega
      · rw [if_neg hxy, List.append_nil] at HC
        have g1 : decide (Y ≤ X) = true := decide_eq_true (by omega)
        rw [g1]
        clear g1 hxy
        go_wp2
        go_roundw
        case rel => exact ⟨k + 1, by omega, by go_num, by rw [HC.out]; exact H3⟩
        case measure => simp [intOf]; omega
    · have hk2 : k = n := by omega
      subst hk2
      have hT : l.take k = l := List.take_of_length_le (by rw [HN.out]; exact Nat.le_refl _)
      rw [hT] at H
      have hlt2 : ¬ ((k : Int) < (k : Int)) := by omega
      go_wp2
      go_ret
      exact ⟨_, rfl, H.out⟩
end Go.Proofs.YtciopemodfpecaaDoor
