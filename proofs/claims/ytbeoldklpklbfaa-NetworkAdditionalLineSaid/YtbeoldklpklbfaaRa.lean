/-
  Walks: equal lists.
-/
import Derived.Test.YtbeoldklpklbfaaOd
import Derived.Laws.StructEq
namespace Go.Proofs.Ytbeoldklpklbfaa
open Go.RowKit
set_option linter.unusedVariables false
set_option linter.unusedSimpArgs false

theorem Try.fields51 : (Try.prog.fieldsOf 51).toList = [{ name := "Railway", type := 3, offset := 0, embedded := false, tag := "", pkgPath := "", byteOffset := 0 }, { name := "Km", type := 3, offset := 1, embedded := false, tag := "", pkgPath := "", byteOffset := 8 }] := by kernel_rfl
theorem Try.stood51 : Try.prog.stoodInHeld 51 = false := by kernel_rfl
theorem Try.guard51 : Try.prog.eqGuardType Try.prog.depth 51 = false := by kernel_rfl
theorem Try.struct51 : Try.prog.underlying 51 = some (.struct (Try.prog.fieldsOf 51)) := by kernel_rfl
theorem eqS (x1 y1 x2 y2 : Int) (w : World) : (Op.equalIn 10000 51 (.agg #[.int .i64 x1, .int .i64 y1]) (.agg #[.int .i64 x2, .int .i64 y2])).run Try.prog w = .ok (decide (x1 = x2 ∧ y1 = y2)) w := by
  rw [show (10000 : Nat) = 9999 + 1 from rfl, run_equalIn_struct w 9999 51 _ _ Try.struct51 Try.stood51, Try.fields51]
  have a3 := Try.isAgg3
  unfold Op.eqFields
  go_simp
  by_cases h1 : x1 = x2 <;> by_cases h2 : y1 = y2 <;> simp [h1, h2]

set_option maxRecDepth 100000 in
set_option maxHeartbeats 4000000 in
theorem sameI_any {w : World} {u v : Value} {l m : List Int} (hu : Hl (fun k => k < w.heap.size) w u l) (hv : Hl (fun k => k < w.heap.size) w v m) (R : Bool) (hR : R = decide (l = m)) :
    Calls Try.prog 25 #[u, v] w fun e w' => e = .returned (.bool R) ∧ Below w.heap.size w w' := by
  obtain ⟨ua, uc, rfl⟩ := hu.shape
  obtain ⟨va, vc, rfl⟩ := hv.shape
  have hul := hu.1
  have hvl := hv.1
  obtain ⟨n, hn⟩ : ∃ n, n = l.length := ⟨_, rfl⟩
  obtain ⟨k2, hm⟩ : ∃ n, n = m.length := ⟨_, rfl⟩
  rw [← hn] at hu hul ⊢
  rw [← hm] at hv hvl ⊢
  have HN := Lib.hid hn; have HM := Lib.hid hm; have HU := Lib.hid hu; have HV := Lib.hid hv; have HR := Lib.hid hR
  clear hn hm hu hv hR
  by_cases he : n = k2
  · subst he
    have dne : ((n : Int) != (n : Int)) = false := by simp
    go_enter Try.func25, Try.ntmps25
    go_wp2
    clear dne
    go_loopw [5] (fun s wr => ∃ k : Nat, k ≤ n ∧ s = .int .i64 (k : Int) ∧ Hid (∀ j, j < k → l[j]? = m[j]?) ∧ Hid (Below w.heap.size w wr)) (fun s _ => n - (intOf s).toNat)
    case atStart => exact ⟨0, by omega, rfl, Lib.hid (fun j hj => by omega), Lib.hid (Below.refl _ _)⟩
    case round =>
      obtain ⟨k, hk, rfl, HK, HW⟩ := hrel
      by_cases hlt : k < n
      · have hlt2 : (k : Int) < (n : Int) := by omega
        obtain ⟨g, off, x, rfl, hg, hx, hxi, c0, hcap⟩ := HU.out.pick k (by rw [← HN.out]; exact hlt)
        obtain ⟨g2, off2, y, rfl, hg2, hy, hyi, c1, hcap2⟩ := HV.out.pick k (by rw [← HM.out]; exact hlt)
        have f0 : wr.cell? ⟨g, off + k, none⟩ = some (.int .i64 x) := (HW.out.cell (p := ⟨g, off + k, none⟩) hg).trans c0
        have f1 : wr.cell? ⟨g2, off2 + k, none⟩ = some (.int .i64 y) := (HW.out.cell (p := ⟨g2, off2 + k, none⟩) hg2).trans c1
        by_cases hc : x = y
        · have HK2 : Hid (∀ j, j < k + 1 → l[j]? = m[j]?) := Lib.hid (by
            intro j hj
            by_cases e : j = k
            · rw [e, hx, hy, hc]
            · exact HK.out j (by omega))
          have d0 : (x != y) = false := by simpa using hc
          clear hg hx hxi c0 hcap hg2 hy hyi c1 hcap2 HK hc
          go_wp2_with fail
          go_quiet (fail)
          have HW2 := Lib.hid (bdrewN HW.out nq)
          clear f0 f1
          generalize wr.drewN nq = w7 at *
          go_wp2
          go_roundw
          case rel => exact ⟨k + 1, by omega, by go_num, HK2, HW2⟩
          case measure => simp [intOf]; omega
        · have hr : R = false := by
            rw [HR.out]
            refine decide_eq_false fun e => hc ?_
            rw [e, hy] at hx
            exact (Option.some.inj hx).symm
          subst hr
          have d0 : (x != y) = true := by simpa using hc
          clear hg hx hxi c0 hcap hg2 hy hyi c1 hcap2 HK hc
          go_wp2_with fail
          go_quiet (fail)
          have HW2 := Lib.hid (bdrewN HW.out nq)
          clear f0 f1
          generalize wr.drewN nq = w7 at *
          go_wp2
          go_ret
          exact ⟨rfl, HW2.out⟩
      · obtain rfl : k = n := by omega
        have hlt2 : ¬ ((k : Int) < (k : Int)) := by omega
        have hr : R = true := by
          rw [HR.out]
          refine decide_eq_true (List.ext_getElem? fun j => ?_)
          rcases Nat.lt_or_ge j k with hj | hj
          · exact HK.out j hj
          · rw [List.getElem?_eq_none (by rw [← HN.out]; exact hj), List.getElem?_eq_none (by rw [← HM.out]; exact hj)]
        subst hr
        clear HK
        go_wp2
        go_ret
        exact ⟨rfl, HW.out⟩
  · have dne : ((n : Int) != (k2 : Int)) = true := by simp; omega
    have hr : R = false := by
      rw [HR.out]
      refine decide_eq_false fun e => he ?_
      rw [HN.out, HM.out, e]
    subst hr
    go_enter Try.func25, Try.ntmps25
    go_wp2
    go_ret
    exact ⟨rfl, Below.refl _ _⟩

set_option maxRecDepth 100000 in
set_option maxHeartbeats 4000000 in
theorem sameS_any {w : World} {u v : Value} {l m : List Sh} (hu : Ss (fun k => k < w.heap.size) w u l) (hv : Ss (fun k => k < w.heap.size) w v m) (R : Bool) (hR : R = decide (l = m)) :
    Calls Try.prog 27 #[u, v] w fun e w' => e = .returned (.bool R) ∧ Below w.heap.size w w' := by
  obtain ⟨ua, uc, rfl⟩ := hu.shape
  obtain ⟨va, vc, rfl⟩ := hv.shape
  have hul := hu.1
  have hvl := hv.1
  obtain ⟨n, hn⟩ : ∃ n, n = l.length := ⟨_, rfl⟩
  obtain ⟨k2, hm⟩ : ∃ n, n = m.length := ⟨_, rfl⟩
  rw [← hn] at hu hul ⊢
  rw [← hm] at hv hvl ⊢
  have HN := Lib.hid hn; have HM := Lib.hid hm; have HU := Lib.hid hu; have HV := Lib.hid hv; have HR := Lib.hid hR
  clear hn hm hu hv hR
  by_cases he : n = k2
  · subst he
    have dne : ((n : Int) != (n : Int)) = false := by simp
    go_enter Try.func27, Try.ntmps27
    go_wp2
    clear dne
    go_loopw [5] (fun s wr => ∃ k : Nat, k ≤ n ∧ s = .int .i64 (k : Int) ∧ Hid (∀ j, j < k → l[j]? = m[j]?) ∧ Hid (Below w.heap.size w wr)) (fun s _ => n - (intOf s).toNat)
    case atStart => exact ⟨0, by omega, rfl, Lib.hid (fun j hj => by omega), Lib.hid (Below.refl _ _)⟩
    case round =>
      obtain ⟨k, hk, rfl, HK, HW⟩ := hrel
      by_cases hlt : k < n
      · have hlt2 : (k : Int) < (n : Int) := by omega
        obtain ⟨g, off, x, rfl, hg, hx, hxi, hxj, c0, c1, hcap⟩ := Ss.cells HU.out k (by rw [← HN.out]; exact hlt)
        obtain ⟨g2, off2, y, rfl, hg2, hy, hyi, hyj, c2, c3, hcap2⟩ := Ss.cells HV.out k (by rw [← HM.out]; exact hlt)
        obtain ⟨xr, xk⟩ := x
        obtain ⟨yr, yk⟩ := y
        have f0 : wr.cell? ⟨g, off + k * 2, none⟩ = some (.int .i64 xr) := (HW.out.cell (p := ⟨g, off + k * 2, none⟩) hg).trans c0
        have f1 : wr.cell? ⟨g, off + k * 2 + 1, none⟩ = some (.int .i64 xk) := (HW.out.cell (p := ⟨g, off + k * 2 + 1, none⟩) hg).trans c1
        have f2 : wr.cell? ⟨g2, off2 + k * 2, none⟩ = some (.int .i64 yr) := (HW.out.cell (p := ⟨g2, off2 + k * 2, none⟩) hg2).trans c2
        have f3 : wr.cell? ⟨g2, off2 + k * 2 + 1, none⟩ = some (.int .i64 yk) := (HW.out.cell (p := ⟨g2, off2 + k * 2 + 1, none⟩) hg2).trans c3
        by_cases hc : (⟨xr, xk⟩ : Sh) = (⟨yr, yk⟩ : Sh)
        · have HK2 : Hid (∀ j, j < k + 1 → l[j]? = m[j]?) := Lib.hid (by
            intro j hj
            by_cases e : j = k
            · rw [e, hx, hy, hc]
            · exact HK.out j (by omega))
          have hc2 : xr = yr ∧ xk = yk := by simpa using hc
          have dd := eqS xr xk yr yk
          rw [decide_eq_true hc2] at dd
          have dg := Try.guard51
          clear hc2
          clear hg hx hxi hxj c0 c1 hcap hg2 hy hyi hyj c2 c3 hcap2 HK hc
          go_wp2_with fail
          go_quiet (fail)
          have HW2 := Lib.hid (bdrewN HW.out nq)
          clear f0 f1 f2 f3
          generalize wr.drewN nq = w7 at *
          go_wp2
          go_roundw
          case rel => exact ⟨k + 1, by omega, by go_num, HK2, HW2⟩
          case measure => simp [intOf]; omega
        · have hr : R = false := by
            rw [HR.out]
            refine decide_eq_false fun e => hc ?_
            rw [e, hy] at hx
            exact (Option.some.inj hx).symm
          subst hr
          have hc2 : ¬ (xr = yr ∧ xk = yk) := by simpa using hc
          have dd := eqS xr xk yr yk
          rw [decide_eq_false hc2] at dd
          have dg := Try.guard51
          clear hc2
          clear hg hx hxi hxj c0 c1 hcap hg2 hy hyi hyj c2 c3 hcap2 HK hc
          go_wp2_with fail
          go_quiet (fail)
          have HW2 := Lib.hid (bdrewN HW.out nq)
          clear f0 f1 f2 f3
          generalize wr.drewN nq = w7 at *
          go_wp2
          go_ret
          exact ⟨rfl, HW2.out⟩
      · obtain rfl : k = n := by omega
        have hlt2 : ¬ ((k : Int) < (k : Int)) := by omega
        have hr : R = true := by
          rw [HR.out]
          refine decide_eq_true (List.ext_getElem? fun j => ?_)
          rcases Nat.lt_or_ge j k with hj | hj
          · exact HK.out j hj
          · rw [List.getElem?_eq_none (by rw [← HN.out]; exact hj), List.getElem?_eq_none (by rw [← HM.out]; exact hj)]
        subst hr
        clear HK
        go_wp2
        go_ret
        exact ⟨rfl, HW.out⟩
  · have dne : ((n : Int) != (k2 : Int)) = true := by simp; omega
    have hr : R = false := by
      rw [HR.out]
      refine decide_eq_false fun e => he ?_
      rw [HN.out, HM.out, e]
    subst hr
    go_enter Try.func27, Try.ntmps27
    go_wp2
    go_ret
    exact ⟨rfl, Below.refl _ _⟩
end Go.Proofs.Ytbeoldklpklbfaa
