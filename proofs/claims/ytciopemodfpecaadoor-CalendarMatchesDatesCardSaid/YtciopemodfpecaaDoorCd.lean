/-
  Walks: Same of the reference.
-/
import Derived.Test.YtciopemodfpecaaDoorPn
import Derived.Test.YtciopemodfpecaaDoorCa
import Derived.Laws.StructEq
namespace Go.Proofs.YtciopemodfpecaaDoor
open Go.RowKit
set_option linter.unusedVariables false
set_option linter.unusedSimpArgs false

theorem Tryd.fields36 : (Tryd.prog.fieldsOf 23).toList = [{ name := "From", type := 3, offset := 0, embedded := false, tag := "", pkgPath := "", byteOffset := 0 }, { name := "To", type := 3, offset := 1, embedded := false, tag := "", pkgPath := "", byteOffset := 8 }] := by kernel_rfl
theorem Tryd.stood36 : Tryd.prog.stoodInHeld 23 = false := by kernel_rfl
theorem Tryd.guard36 : Tryd.prog.eqGuardType Tryd.prog.depth 23 = false := by kernel_rfl
theorem Tryd.struct36 : Tryd.prog.underlying 23 = some (.struct (Tryd.prog.fieldsOf 23)) := by kernel_rfl

theorem eqSp (x1 y1 x2 y2 : Int) (w : World) : (Op.equalIn 10000 23 (.agg #[.int .i64 x1, .int .i64 y1]) (.agg #[.int .i64 x2, .int .i64 y2])).run Tryd.prog w = .ok (decide (x1 = x2 ∧ y1 = y2)) w := by
  rw [show (10000 : Nat) = 9999 + 1 from rfl, run_equalIn_struct w 9999 23 _ _ Tryd.struct36 Tryd.stood36, Tryd.fields36]
  have a3 := Tryd.isAgg3
  unfold Op.eqFields
  go_simp
  by_cases h1 : x1 = x2 <;> by_cases h2 : y1 = y2 <;> simp [h1, h2]

set_option maxRecDepth 100000 in
set_option maxHeartbeats 1000000 in
theorem same_any (a b : List (Int × Int)) (oa ob : Option Addr) (ca cb : Nat) (w : World) (hv : Sl (fun k => k < w.heap.size) w (.slice oa a.length ca) a) (hv2 : Sl (fun k => k < w.heap.size) w (.slice ob b.length cb) b) :
    Calls Tryd.prog 21 #[.slice oa a.length ca, .slice ob b.length cb] w fun e w' => e = .returned (.bool (decide (a = b))) ∧ Below w.heap.size w w' := by
  have hla := hv.1; have hlb := hv2.1
  have HV := Lib.hid hv; have HV2 := Lib.hid hv2
  clear hv hv2
  by_cases hab : a.length = b.length
  · obtain ⟨n, hn⟩ : ∃ n, n = a.length := ⟨_, rfl⟩
    have hnb : b.length = n := by omega
    have e0 : ((n : Int) != (n : Int)) = false := by simp
    obtain ⟨R, hR⟩ : ∃ R, R = decide (a = b) := ⟨_, rfl⟩
    rw [← hR]
    have HN := Lib.hid hn; have HNB := Lib.hid hnb; have HR := Lib.hid hR
    have hl1 : n ≤ 70368744177664 := by omega
    rw [hnb, ← hn]
    clear hn hnb hab hR hla hlb
    go_enter Tryd.func21, Tryd.ntmps21
    go_wp2
    go_loopw [5] (fun i wr => ∃ k : Nat, k ≤ n ∧ i = .int .i64 k ∧ Hid (Below w.heap.size w wr) ∧ Hid (∀ j, j < k → a[j]? = b[j]?)) (fun i _ => n - (intOf i).toNat)
    case atStart => exact ⟨0, by omega, rfl, Lib.hid (Below.refl _ _), Lib.hid (fun j hj => by omega)⟩
    case round =>
      obtain ⟨k, hk, rfl, H, HE⟩ := hrel
      by_cases hlt : k < n
      · have hlt2 : (k : Int) < (n : Int) := by omega
        obtain ⟨g1, o1, x1, y1, rfl, hg1, hx, _, _, c0, c1, hc1⟩ := HV.out.pick k (by have := HN.out; omega)
        obtain ⟨g2, o2, x2, y2, rfl, hg2, hy, _, _, c2, c3, hc2⟩ := HV2.out.pick k (by have := HNB.out; omega)
        have d0 : wr.cell? ⟨g1, o1 + k * 2, none⟩ = some (.int .i64 x1) := (H.out.cell (p := ⟨g1, o1 + k * 2, none⟩) hg1).trans c0
        have d1 : wr.cell? ⟨g1, o1 + k * 2 + 1, none⟩ = some (.int .i64 y1) := (H.out.cell (p := ⟨g1, o1 + k * 2 + 1, none⟩) hg1).trans c1
        have d2 : wr.cell? ⟨g2, o2 + k * 2, none⟩ = some (.int .i64 x2) := (H.out.cell (p := ⟨g2, o2 + k * 2, none⟩) hg2).trans c2
        have d3 : wr.cell? ⟨g2, o2 + k * 2 + 1, none⟩ = some (.int .i64 y2) := (H.out.cell (p := ⟨g2, o2 + k * 2 + 1, none⟩) hg2).trans c3
        clear c0 c1 c2 c3
        have hstep : ∀ j, j < k + 1 → (x1 = x2 ∧ y1 = y2) → a[j]? = b[j]? := by
          intro j hj hxy
          rcases Nat.lt_or_ge j k with h | h
          · exact HE.out j h
          · have : j = k := by omega
            subst this
            rw [hx, hy, hxy.1, hxy.2]
        have hneq : ¬ (x1 = x2 ∧ y1 = y2) → R = false := by
          intro h
          rw [HR.out]
          refine decide_eq_false (fun he => h ?_)
          rw [he, hy] at hx
          simp only [Option.some.injEq, Prod.mk.injEq] at hx
          exact ⟨hx.1.symm, hx.2.symm⟩
        have e1 := eqSp x1 y1 x2 y2
        have gd := Tryd.guard36
        have HST := Lib.hid hstep; have HNE := Lib.hid hneq
        clear hstep hneq hx hy HE
        by_cases hxy : x1 = x2 ∧ y1 = y2
        · have HE2 : Hid (∀ j, j < k + 1 → a[j]? = b[j]?) := Lib.hid (fun j hj => HST.out j hj hxy)
          rw [decide_eq_true hxy] at e1
          clear hxy HST HNE
          go_wp2_with fail
          go_quiet (fail)
          have HD : Hid (Below w.heap.size w (wr.drewN nq)) := Lib.hid (bdrewN H.out nq)
          clear H e1 d0 d1 d2 d3
          generalize wr.drewN nq = w7 at *
          go_wp2
          go_roundw
          case rel => exact ⟨k + 1, by omega, by go_num, HD, HE2⟩
          case measure => simp [intOf]; omega
        · have hRf := HNE.out hxy
          subst hRf
          rw [decide_eq_false hxy] at e1
          clear hxy HST HNE
          go_wp2_with fail
          go_quiet (fail)
          have HD : Hid (Below w.heap.size w (wr.drewN nq)) := Lib.hid (bdrewN H.out nq)
          clear H e1 d0 d1 d2 d3
          generalize wr.drewN nq = w7 at *
          go_wp2
          go_ret
          exact ⟨rfl, HD.out⟩
      · have hk2 : k = n := by omega
        subst hk2
        have hRt : R = true := by
          rw [HR.out]
          refine decide_eq_true (List.ext_getElem? fun j => ?_)
          rcases Nat.lt_or_ge j k with h | h
          · exact HE.out j h
          · rw [List.getElem?_eq_none (by have := HN.out; omega), List.getElem?_eq_none (by have := HNB.out; omega)]
        subst hRt
        have hlt2 : ¬ ((k : Int) < (k : Int)) := by omega
        clear hlt HE
        go_wp2
        go_ret
        exact ⟨rfl, H.out⟩
  · have e0 : ((a.length : Int) != (b.length : Int)) = true := by simp; omega
    have hR : decide (a = b) = false := decide_eq_false (fun h => hab (by rw [h]))
    rw [hR]
    clear hab hR
    go_enter Tryd.func21, Tryd.ntmps21
    go_wp2
    go_ret
    exact ⟨rfl, Below.refl _ _⟩
end Go.Proofs.YtciopemodfpecaaDoor
