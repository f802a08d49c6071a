/-
  Walks: Normal.
-/
import Derived.Test.YtciopemodfpecaaDoorNa
namespace Go.Proofs.YtciopemodfpecaaDoor
open Go.RowKit
set_option linter.unusedVariables false
set_option linter.unusedSimpArgs false

theorem mrg_take_snoc {d : List (Int × Int)} {k : Nat} {s : Int × Int} (h : d[k]? = some s) : mrg [] (d.take (k + 1)) = stp (mrg [] (d.take k)) s := by
  rw [List.take_add_one, h]
  exact mrg_snoc [] (d.take k) s

set_option maxRecDepth 100000 in
set_option maxHeartbeats 4000000 in
theorem normal_any (l : List (Int × Int)) (a : Option Addr) (cap : Nat) (w : World) (hv : Sl (fun k => k < w.heap.size) w (.slice a l.length cap) l) (hl : l.length ≤ 2000000) :
    Calls Tryd.prog 41 #[.slice a l.length cap] w fun e w' => ∃ v, e = .returned v ∧ ApT w (norm l) v w' := by
  have hcut := cut_any l a cap w hv hl
  have hcl := cutL_length l
  have hco := cutL_of l
  have hsort : ∀ v w1, ApT w (cutL l) v w1 → _ := fun v w1 h => sort_any (cutL l) v w w1 h (fun s hs => by have := hco s hs; unfold I64; omega) (by omega)
  have hno := mrg_norm l
  have HC := Lib.hid hcut; have HS := Lib.hid hsort; have HNO := Lib.hid hno
  clear hcut hsort hno hv hco
  go_enter Tryd.func41, Tryd.ntmps41
  go_wp2_with fail
  refine HC.out.mono ?_
  rintro e w1 ⟨v1, rfl, hA1⟩
  have HS1 := Lib.hid (HS.out v1 w1 hA1)
  clear hA1 HS HC
  go_wp2_with fail
  refine HS1.out.mono ?_
  rintro e w2 ⟨rfl, hb2, d, hp, hpw, hd⟩
  have hnorm := HNO.out d hp hpw
  have hdl : d.length ≤ 2000000 := by have := hp.length_eq; omega
  obtain ⟨od, cd, rfl⟩ := hd.shape
  have HD := Lib.hid hd; have HB2 := Lib.hid hb2; have HNM := Lib.hid hnorm
  obtain ⟨n, hn⟩ : ∃ n, n = d.length := ⟨_, rfl⟩
  have HN := Lib.hid hn
  rw [← hn] at HD hdl ⊢
  clear hd hb2 hnorm hn hp hpw HS1 HNO hcl
  go_wp2
  go_loopw [2, 13] (fun v t wr => ∃ (k : Nat), k ≤ n ∧ t = .int .i64 k ∧ Hid (ApT w2 (mrg [] (d.take k)) v wr)) (fun _ t _ => n - (intOf t).toNat)
  case atStart => exact ⟨0, by omega, rfl, Lib.hid (ApT.nil w2)⟩
  case round =>
    obtain ⟨k, hk, rfl, H⟩ := hrel
    obtain ⟨ao, co, rfl, hco⟩ := H.out.shape
    by_cases hlt : k < n
    · have hlt2 : (k : Int) < (n : Int) := by omega
      obtain ⟨g, off, x, y, rfl, hg, hx, hxi, hyi, c0, c1, hcap⟩ := HD.out.pick k (by have := HN.out; omega)
      have d0 : wr.cell? ⟨g, off + k * 2, none⟩ = some (.int .i64 x) := (H.out.below.cell (p := ⟨g, off + k * 2, none⟩) hg).trans c0
      have d1 : wr.cell? ⟨g, off + k * 2 + 1, none⟩ = some (.int .i64 y) := (H.out.below.cell (p := ⟨g, off + k * 2 + 1, none⟩) hg).trans c1
      have hstep := mrg_take_snoc hx
      have hml := mrg_length (d.take k) []
      have hml2 : (mrg [] (d.take k)).length ≤ 2000000 := by
        rw [List.length_take] at hml
        simp at hml
        omega
      have H2 := Lib.hid (H.out.alloc (.cells #[.int .i64 x, .int .i64 y] 23))
      have hne := H.out.ne wr.heap.size (Nat.le_refl _)
      have hc2 := cell_new2 wr (.int .i64 x) (.int .i64 y) 23 _ rfl
      obtain ⟨L, hL⟩ : ∃ L, L = mrg [] (d.take k) := ⟨_, rfl⟩
      rw [← hL] at hstep hml2 H2 hco ⊢
      obtain ⟨N, hNN⟩ : ∃ N, N = L.length := ⟨_, rfl⟩
      have HST := Lib.hid hstep; have HNL := Lib.hid hNN; have HFL := Lib.hid hml2
      rw [← hL, ← hNN] at hne
      rw [← hNN] at H2 hco ⊢
      have HNE := Lib.hid hne
      clear hstep hml hml2 hL hNN hx hxi hyi c0 c1 H hne
      rcases List.eq_nil_or_concat L with rfl | ⟨M, t, rfl⟩
      · have hn0 : N = 0 := HNL.out
        subst hn0
        rw [stp_nil] at HST
        have gn : decide ((0 : Int) ≤ -1) = false := by decide
        go_wp2_with fail
        go_quiet (fail)
        have HH3 := Lib.hid (H2.out.drewN nq)
        replace hc2 : ((wr.alloc (Obj.cells #[Value.int IntKind.i64 x, Value.int IntKind.i64 y] 23)).drewN nq).cell? ⟨wr.heap.size, 0, none⟩ = some (.int .i64 x) ∧ ((wr.alloc (Obj.cells #[Value.int IntKind.i64 x, Value.int IntKind.i64 y] 23)).drewN nq).cell? ⟨wr.heap.size, 1, none⟩ = some (.int .i64 y) := hc2
        clear H2 d0 d1
        generalize (wr.alloc (Obj.cells #[Value.int IntKind.i64 x, Value.int IntKind.i64 y] 23)).drewN nq = w3 at *
        obtain ⟨v', w', hr, hA, _⟩ := HH3.out.push x y (by have := HFL.out; omega)
        have HR := Lib.hid hr; have HA := Lib.hid hA
        clear hr hA HH3
        obtain ⟨f0, f1⟩ := hc2
        go_wp2_with (first | (at_builtin; refine wp_appt rfl rfl rfl (.tmp 44) (.tmp 46) rfl rfl rfl HR.out ?_))
        go_roundw
        case rel => exact ⟨k + 1, by omega, by go_num, by rw [HST.out]; exact HA⟩
        case measure => simp [intOf]; omega
      · rw [List.concat_eq_append] at *
        obtain ⟨p, q⟩ := t
        rw [stp_snoc] at HST
        obtain ⟨gv, rfl, hgv, hnn, e0, e1, e2, e3, e4⟩ := H2.out.last
        obtain ⟨m, hm⟩ : ∃ m, m = M.length := ⟨_, rfl⟩
        rw [← hm] at e0 e1 e2 e4 hnn
        subst hnn
        have hk0 : (((m + 1 : Nat) : Int)) - 1 = (m : Int) := by omega
        have hk1 : IntKind.i64.wrap (m : Int) = (m : Int) := by rw [IntKind.wrap_i64]; have := HFL.out; simp only [List.length_append, List.length_cons, List.length_nil] at this; omega
        have gn : decide ((0 : Int) ≤ (m : Int)) = true := decide_eq_true (by omega)
        clear e4 hm e0
        by_cases hxq : x ≤ q
        · simp only [if_pos hxq] at HST
          go_wp2_with fail
          go_quiet (fail)
          have HH3 := Lib.hid (H2.out.drewN nq)
          replace hc2 : ((wr.alloc (Obj.cells #[Value.int IntKind.i64 x, Value.int IntKind.i64 y] 23)).drewN nq).cell? ⟨wr.heap.size, 0, none⟩ = some (.int .i64 x) ∧ ((wr.alloc (Obj.cells #[Value.int IntKind.i64 x, Value.int IntKind.i64 y] 23)).drewN nq).cell? ⟨wr.heap.size, 1, none⟩ = some (.int .i64 y) := hc2
          clear H2 d0 d1 e1 e2
          generalize (wr.alloc (Obj.cells #[Value.int IntKind.i64 x, Value.int IntKind.i64 y] 23)).drewN nq = w3 at *
          obtain ⟨gv2, hgv2, _, hm2, e0, e1, e2, e3, e4⟩ := HH3.out.last
          simp only [Option.some.injEq, Addr.mk.injEq, and_true] at hgv2
          subst hgv2
          have hm3 : M.length = m := by omega
          rw [hm3] at e1
          have HH4 := Lib.hid HH3.out.drew
          have HM := Lib.hid hm3
          clear e0 e2 e4 hm2 hm3 HH3
          obtain ⟨f0, f1⟩ := hc2
          have hm1 : (m : Int) < (m : Int) + 1 := by omega
          go_wp2_with fail
          go_still_tail 12, (by kernel_rfl)
          change wpList _ _ _ _ _ w3.drew
          clear e1 f0 f1
          generalize w3.drew = w4 at *
          obtain ⟨gv2, hgv2, _, hm2, e0, e1, e2, e3, e4⟩ := HH4.out.last
          simp only [Option.some.injEq, Addr.mk.injEq, and_true] at hgv2
          subst hgv2
          rw [HM.out] at e1 e2 e4
          have E4 := Lib.hid (e4 (max q y))
          clear e0 e4 hm2 HM HH4
          go_wp2
          go_roundw
          case rel => exact ⟨k + 1, by omega, by go_num, by rw [HST.out]; exact E4⟩
          case measure => simp [intOf]; omega
        · simp only [if_neg hxq] at HST
          have gx : decide (x ≤ q) = false := decide_eq_false hxq
          clear hxq
          go_wp2_with fail
          go_quiet (fail)
          clear e1 e2
          have HH3 := Lib.hid (H2.out.drewN nq)
          replace hc2 : ((wr.alloc (Obj.cells #[Value.int IntKind.i64 x, Value.int IntKind.i64 y] 23)).drewN nq).cell? ⟨wr.heap.size, 0, none⟩ = some (.int .i64 x) ∧ ((wr.alloc (Obj.cells #[Value.int IntKind.i64 x, Value.int IntKind.i64 y] 23)).drewN nq).cell? ⟨wr.heap.size, 1, none⟩ = some (.int .i64 y) := hc2
          clear H2 d0 d1
          generalize (wr.alloc (Obj.cells #[Value.int IntKind.i64 x, Value.int IntKind.i64 y] 23)).drewN nq = w3 at *
          obtain ⟨v', w', hr, hA, _⟩ := HH3.out.push x y (by have := HFL.out; omega)
          have HR := Lib.hid hr; have HA := Lib.hid hA
          clear hr hA HH3
          obtain ⟨f0, f1⟩ := hc2
          go_wp2_with (first | (at_builtin; refine wp_appt rfl rfl rfl (.tmp 44) (.tmp 46) rfl rfl rfl HR.out ?_))
          go_roundw
          case rel => exact ⟨k + 1, by omega, by go_num, by rw [HST.out]; exact HA⟩
          case measure => simp [intOf]; omega
    · have hk2 : k = n := by omega
      subst hk2
      have hT : d.take k = d := List.take_of_length_le (by rw [HN.out]; exact Nat.le_refl _)
      rw [hT] at H
      have hlt2 : ¬ ((k : Int) < (k : Int)) := by omega
      go_wp2
      go_ret
      exact ⟨_, rfl, by rw [← HNM.out]; exact H.out.weaken HB2.out⟩
end Go.Proofs.YtciopemodfpecaaDoor
