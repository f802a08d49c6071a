/-
  Walks: the reference's line between two places.
-/
import Derived.Test.YtbeoldklpklbfaaVa
namespace Go.Proofs.Ytbeoldklpklbfaa
open Go.RowKit
set_option linter.unusedVariables false
set_option linter.unusedSimpArgs false

/-- The index, or -1. -/
def av : Option Nat → Int
  | some j => (j : Int)
  | none => -1
set_option maxRecDepth 100000 in
set_option maxHeartbeats 8000000 in
theorem find_any {w : World} {V : Value} {ps : List Pc} {es : List Ln} (h : Nw w V ps (es.map Ln.ed)) (hok : ∀ x ∈ es, x.ok ps.length) (hel : es.length ≤ 2048) (a b : Nat) :
    Calls Try.prog 41 #[V, .int .i64 (a : Int), .int .i64 (b : Int)] w fun e w' => e = .returned (.int .i64 (av (fd es a b))) ∧ Below w.heap.size w w' := by
  obtain ⟨va, vc, vb, vd, rfl, h1, h2⟩ := h.shape
  obtain ⟨n, hnn⟩ : ∃ n, n = ps.length := ⟨_, rfl⟩
  obtain ⟨m, hm⟩ : ∃ m, m = (es.map Ln.ed).length := ⟨_, rfl⟩
  rw [← hnn] at h hok ⊢
  rw [← hm] at h h2 ⊢
  have hml : m = es.length := by rw [hm, List.length_map]
  obtain ⟨W, hW⟩ : ∃ W, W = w.alloc (.cells #[.slice va n vc, .slice vb m vd] 25) := ⟨_, rfl⟩
  have hB : Below w.heap.size w W := by rw [hW]; exact ball (Below.refl w.heap.size w) _
  have e0 : W.heap[w.heap.size]? = some (.cells #[.slice va n vc, .slice vb m vd] 25 (0, 0)) := by rw [hW]; exact bnew _ _
  obtain ⟨b0, b1⟩ := box2 e0
  have hmb : m ≤ 2048 := by omega
  have HB := Lib.hid hB; have HE := Lib.hid e0; have HES := Lib.hid (h2.on hB); have HOK := Lib.hid hok; have HML := Lib.hid hml
  clear h h1 h2 hm hml hB e0 hok hnn hel
  go_enter Try.func41, Try.ntmps41
  go_wp2_with fail
  rw [← hW]
  clear hW b0 b1
  go_loopw [7, 8] (fun s t wr => ∃ k : Nat, k ≤ m ∧ s = .int .i64 (av (fnd es a b k)) ∧ t = .int .i64 (k : Int) ∧ Hid (Below W.heap.size W wr)) (fun _ t _ => m - (intOf t).toNat)
  case atStart => exact ⟨0, by omega, rfl, rfl, Lib.hid (Below.refl _ _)⟩
  case round =>
    obtain ⟨k, hk, rfl, rfl, HW⟩ := hrel
    obtain ⟨b0, b1⟩ := box2 (bon HE.out HW.out)
    by_cases hlt : k < m
    · have hlt2 : (k : Int) < (m : Int) := by omega
      obtain ⟨x, hx⟩ : ∃ x, es[k]? = some x := ⟨_, List.getElem?_eq_getElem (by have := HML.out; omega)⟩
      have hxo := HOK.out x (List.mem_of_getElem? hx)
      obtain ⟨g, off, y, rfl, hg, hy, c0, c1, c2, c3, c4, hcap⟩ := Es.cells HES.out k (by rw [List.length_map]; have := HML.out; omega)
      rw [List.getElem?_map, hx] at hy
      obtain rfl : x.ed = y := Option.some.inj hy
      obtain ⟨xa, hxa⟩ : ∃ z, z = x.a := ⟨_, rfl⟩
      obtain ⟨xb, hxb⟩ : ∃ z, z = x.b := ⟨_, rfl⟩
      obtain ⟨xm, hxm⟩ : ∃ z, z = x.m := ⟨_, rfl⟩
      obtain ⟨xr, hxr⟩ : ∃ z, z = x.r := ⟨_, rfl⟩
      obtain ⟨xk, hxk⟩ : ∃ z, z = x.k := ⟨_, rfl⟩
      have f0 : wr.cell? ⟨g, off + k * 5, none⟩ = some (.int .i64 (xa : Int)) := by rw [hxa]; exact (HW.out.cell (p := ⟨g, off + k * 5, none⟩) hg).trans c0
      have f1 : wr.cell? ⟨g, off + k * 5 + 1, none⟩ = some (.int .i64 (xb : Int)) := by rw [hxb]; exact (HW.out.cell (p := ⟨g, off + k * 5 + 1, none⟩) hg).trans c1
      have f2 : wr.cell? ⟨g, off + k * 5 + 2, none⟩ = some (.int .i64 (xr : Int)) := by rw [hxr]; exact (HW.out.cell (p := ⟨g, off + k * 5 + 2, none⟩) hg).trans c2
      have f3 : wr.cell? ⟨g, off + k * 5 + 3, none⟩ = some (.int .i64 (xm : Int)) := by rw [hxm]; exact (HW.out.cell (p := ⟨g, off + k * 5 + 3, none⟩) hg).trans c3
      have f4 : wr.cell? ⟨g, off + k * 5 + 4, none⟩ = some (.int .i64 (xk : Int)) := by rw [hxk]; exact (HW.out.cell (p := ⟨g, off + k * 5 + 4, none⟩) hg).trans c4
      obtain ⟨o1, o2, o3, o4, o5, o6, o7⟩ := hxo
      have hjn : jn x a b ↔ xa = a ∧ xb = b ∨ xa = b ∧ xb = a := by unfold jn; rw [← hxa, ← hxb]
      have hb2 := ball HW.out (.cells #[.int .i64 (xa : Int), .int .i64 (xb : Int), .int .i64 (xr : Int), .int .i64 (xm : Int), .int .i64 (xk : Int)] 45)
      obtain ⟨q0, q1⟩ := box2 (bon HE.out hb2)
      have HX := Lib.hid hx; have HJN := Lib.hid hjn; have HB2 := Lib.hid hb2; have HG := Lib.hid hg; have HXM := Lib.hid hxm
      clear hx hy hg c0 c1 c2 c3 c4 hcap hxa hxb hxm hxr hxk o1 o2 o3 o4 o5 o6 o7 hjn hb2
      by_cases ca : xa = a
      · have d1 : ((xa : Int) == (a : Int)) = true := by simp; omega
        by_cases cb : xb = b
        · have d2 : ((xb : Int) == (b : Int)) = true := by simp; omega
          have hj : jn x a b := by rw [HJN.out]; omega
          have HJ := Lib.hid hj
          clear hj ca cb
          cases hf : fnd es a b k with
          | none =>
            have HF := Lib.hid (fnd_new HX.out HJ.out hf)
            clear hf
            have ha1 : av none = -1 := rfl
            rw [ha1]
            clear ha1
            go_wp2_with fail
            go_quiet (fail)
            have HW2 := Lib.hid (bdrewN HB2.out nq)
            clear q0 q1 b0 b1 f0 f1 f2 f3 f4
            generalize (wr.alloc (.cells #[.int .i64 (xa : Int), .int .i64 (xb : Int), .int .i64 (xr : Int), .int .i64 (xm : Int), .int .i64 (xk : Int)] 45)).drewN nq = w7 at *
            go_wp2
            go_roundw
            case rel => exact ⟨k + 1, by omega, by rw [HF.out]; rfl, by go_num, HW2⟩
            case measure => simp [intOf]; omega
          | some j =>
            obtain ⟨hjk, ⟨z, hz, _⟩, _⟩ := fnd_some hf
            have hjm : j < m := by omega
            have hjm2 : (j : Int) < (m : Int) := by omega
            have ha1 : av (some j) = (j : Int) := rfl
            rw [ha1]
            have dj : decide ((j : Int) < 0) = false := decide_eq_false (by omega)
            obtain ⟨g', off', z2, e9, hg', hz2, _, _, _, z3, _, _⟩ := Es.cells HES.out j (by rw [List.length_map]; have := HML.out; omega)
            simp only [Option.some.injEq, Addr.mk.injEq, and_true] at e9
            obtain ⟨rfl, rfl⟩ := e9
            rw [List.getElem?_map, hz] at hz2
            obtain rfl : z.ed = z2 := Option.some.inj hz2
            obtain ⟨zm, hzm⟩ : ∃ zm, zm = z.m := ⟨_, rfl⟩
            have r3 : (wr.alloc (.cells #[.int .i64 (xa : Int), .int .i64 (xb : Int), .int .i64 (xr : Int), .int .i64 (xm : Int), .int .i64 (xk : Int)] 45)).cell? ⟨g, off + j * 5 + 3, none⟩ = some (.int .i64 (zm : Int)) := by rw [hzm]; exact (HB2.out.cell (p := ⟨g, off + j * 5 + 3, none⟩) HG.out).trans z3
            have hmi : mi es j = zm := by rw [mi_get hz, hzm]
            by_cases hlz : xm < zm
            · have d9 : decide ((xm : Int) < (zm : Int)) = true := decide_eq_true (by omega)
              have d9b : (xm : Int) < (zm : Int) := by omega
              have HF := Lib.hid (fnd_less HX.out HJ.out hf (by rw [hmi, ← HXM.out]; exact hlz))
              clear hf hjk hz hg' hz2 z3 hzm hmi ha1
              go_wp2_with fail
              go_quiet (fail)
              have HW2 := Lib.hid (bdrewN HB2.out nq)
              clear q0 q1 b0 b1 f0 f1 f2 f3 f4 r3
              generalize (wr.alloc (.cells #[.int .i64 (xa : Int), .int .i64 (xb : Int), .int .i64 (xr : Int), .int .i64 (xm : Int), .int .i64 (xk : Int)] 45)).drewN nq = w7 at *
              go_wp2
              go_roundw
              case rel => exact ⟨k + 1, by omega, by rw [HF.out]; rfl, by go_num, HW2⟩
              case measure => simp [intOf]; omega
            · have d9 : decide ((xm : Int) < (zm : Int)) = false := decide_eq_false (by omega)
              have d9b : ¬ ((xm : Int) < (zm : Int)) := by omega
              have HF := Lib.hid (fnd_keep HX.out HJ.out hf (by rw [hmi, ← HXM.out]; exact hlz))
              clear hf hjk hz hg' hz2 z3 hzm hmi ha1
              go_wp2_with fail
              go_quiet (fail)
              have HW2 := Lib.hid (bdrewN HB2.out nq)
              clear q0 q1 b0 b1 f0 f1 f2 f3 f4 r3
              generalize (wr.alloc (.cells #[.int .i64 (xa : Int), .int .i64 (xb : Int), .int .i64 (xr : Int), .int .i64 (xm : Int), .int .i64 (xk : Int)] 45)).drewN nq = w7 at *
              go_wp2
              go_roundw
              case rel => exact ⟨k + 1, by omega, by rw [HF.out]; rfl, by go_num, HW2⟩
              case measure => simp [intOf]; omega
        · have d2 : ((xb : Int) == (b : Int)) = false := by simp; omega
          by_cases cc : xa = b
          · have d3 : ((xa : Int) == (b : Int)) = true := by simp; omega
            have d4 : ((xb : Int) == (a : Int)) = false := by simp; omega
            have hj : ¬ jn x a b := by rw [HJN.out]; omega
            have HF := Lib.hid (fnd_out HX.out hj)
            obtain ⟨A, hA⟩ : ∃ A, A = av (fnd es a b k) := ⟨_, rfl⟩
            rw [← hA]
            have HA := Lib.hid hA
            clear hA hj ca cb cc
            go_wp2_with fail
            go_quiet (fail)
            have HW2 := Lib.hid (bdrewN HB2.out nq)
            clear q0 q1 b0 b1 f0 f1 f2 f3 f4
            generalize (wr.alloc (.cells #[.int .i64 (xa : Int), .int .i64 (xb : Int), .int .i64 (xr : Int), .int .i64 (xm : Int), .int .i64 (xk : Int)] 45)).drewN nq = w7 at *
            go_wp2
            go_roundw
            case rel => exact ⟨k + 1, by omega, by rw [HF.out, HA.out], by go_num, HW2⟩
            case measure => simp [intOf]; omega
          · have d3 : ((xa : Int) == (b : Int)) = false := by simp; omega
            have hj : ¬ jn x a b := by rw [HJN.out]; omega
            have HF := Lib.hid (fnd_out HX.out hj)
            obtain ⟨A, hA⟩ : ∃ A, A = av (fnd es a b k) := ⟨_, rfl⟩
            rw [← hA]
            have HA := Lib.hid hA
            clear hA hj ca cb cc
            go_wp2_with fail
            go_quiet (fail)
            have HW2 := Lib.hid (bdrewN HB2.out nq)
            clear q0 q1 b0 b1 f0 f1 f2 f3 f4
            generalize (wr.alloc (.cells #[.int .i64 (xa : Int), .int .i64 (xb : Int), .int .i64 (xr : Int), .int .i64 (xm : Int), .int .i64 (xk : Int)] 45)).drewN nq = w7 at *
            go_wp2
            go_roundw
            case rel => exact ⟨k + 1, by omega, by rw [HF.out, HA.out], by go_num, HW2⟩
            case measure => simp [intOf]; omega
      · have d1 : ((xa : Int) == (a : Int)) = false := by simp; omega
        by_cases cc : xa = b
        · have d3 : ((xa : Int) == (b : Int)) = true := by simp; omega
          by_cases cd : xb = a
          · have d4 : ((xb : Int) == (a : Int)) = true := by simp; omega
            have hj : jn x a b := by rw [HJN.out]; omega
            have HJ := Lib.hid hj
            clear hj ca cc cd
            cases hf : fnd es a b k with
            | none =>
              have HF := Lib.hid (fnd_new HX.out HJ.out hf)
              clear hf
              have ha1 : av none = -1 := rfl
              rw [ha1]
              clear ha1
              go_wp2_with fail
              go_quiet (fail)
              have HW2 := Lib.hid (bdrewN HB2.out nq)
              clear q0 q1 b0 b1 f0 f1 f2 f3 f4
              generalize (wr.alloc (.cells #[.int .i64 (xa : Int), .int .i64 (xb : Int), .int .i64 (xr : Int), .int .i64 (xm : Int), .int .i64 (xk : Int)] 45)).drewN nq = w7 at *
              go_wp2
              go_roundw
              case rel => exact ⟨k + 1, by omega, by rw [HF.out]; rfl, by go_num, HW2⟩
              case measure => simp [intOf]; omega
            | some j =>
              obtain ⟨hjk, ⟨z, hz, _⟩, _⟩ := fnd_some hf
              have hjm : j < m := by omega
              have hjm2 : (j : Int) < (m : Int) := by omega
              have ha1 : av (some j) = (j : Int) := rfl
              rw [ha1]
              have dj : decide ((j : Int) < 0) = false := decide_eq_false (by omega)
              obtain ⟨g', off', z2, e9, hg', hz2, _, _, _, z3, _, _⟩ := Es.cells HES.out j (by rw [List.length_map]; have := HML.out; omega)
              simp only [Option.some.injEq, Addr.mk.injEq, and_true] at e9
              obtain ⟨rfl, rfl⟩ := e9
              rw [List.getElem?_map, hz] at hz2
              obtain rfl : z.ed = z2 := Option.some.inj hz2
              obtain ⟨zm, hzm⟩ : ∃ zm, zm = z.m := ⟨_, rfl⟩
              have r3 : (wr.alloc (.cells #[.int .i64 (xa : Int), .int .i64 (xb : Int), .int .i64 (xr : Int), .int .i64 (xm : Int), .int .i64 (xk : Int)] 45)).cell? ⟨g, off + j * 5 + 3, none⟩ = some (.int .i64 (zm : Int)) := by rw [hzm]; exact (HB2.out.cell (p := ⟨g, off + j * 5 + 3, none⟩) HG.out).trans z3
              have hmi : mi es j = zm := by rw [mi_get hz, hzm]
              by_cases hlz : xm < zm
              · have d9 : decide ((xm : Int) < (zm : Int)) = true := decide_eq_true (by omega)
                have d9b : (xm : Int) < (zm : Int) := by omega
                have HF := Lib.hid (fnd_less HX.out HJ.out hf (by rw [hmi, ← HXM.out]; exact hlz))
                clear hf hjk hz hg' hz2 z3 hzm hmi ha1
                go_wp2_with fail
                go_quiet (fail)
                have HW2 := Lib.hid (bdrewN HB2.out nq)
                clear q0 q1 b0 b1 f0 f1 f2 f3 f4 r3
                generalize (wr.alloc (.cells #[.int .i64 (xa : Int), .int .i64 (xb : Int), .int .i64 (xr : Int), .int .i64 (xm : Int), .int .i64 (xk : Int)] 45)).drewN nq = w7 at *
                go_wp2
                go_roundw
                case rel => exact ⟨k + 1, by omega, by rw [HF.out]; rfl, by go_num, HW2⟩
                case measure => simp [intOf]; omega
              · have d9 : decide ((xm : Int) < (zm : Int)) = false := decide_eq_false (by omega)
                have d9b : ¬ ((xm : Int) < (zm : Int)) := by omega
                have HF := Lib.hid (fnd_keep HX.out HJ.out hf (by rw [hmi, ← HXM.out]; exact hlz))
                clear hf hjk hz hg' hz2 z3 hzm hmi ha1
                go_wp2_with fail
                go_quiet (fail)
                have HW2 := Lib.hid (bdrewN HB2.out nq)
                clear q0 q1 b0 b1 f0 f1 f2 f3 f4 r3
                generalize (wr.alloc (.cells #[.int .i64 (xa : Int), .int .i64 (xb : Int), .int .i64 (xr : Int), .int .i64 (xm : Int), .int .i64 (xk : Int)] 45)).drewN nq = w7 at *
                go_wp2
                go_roundw
                case rel => exact ⟨k + 1, by omega, by rw [HF.out]; rfl, by go_num, HW2⟩
                case measure => simp [intOf]; omega
          · have d4 : ((xb : Int) == (a : Int)) = false := by simp; omega
            have hj : ¬ jn x a b := by rw [HJN.out]; omega
            have HF := Lib.hid (fnd_out HX.out hj)
            obtain ⟨A, hA⟩ : ∃ A, A = av (fnd es a b k) := ⟨_, rfl⟩
            rw [← hA]
            have HA := Lib.hid hA
            clear hA hj ca cc cd
            go_wp2_with fail
            go_quiet (fail)
            have HW2 := Lib.hid (bdrewN HB2.out nq)
            clear q0 q1 b0 b1 f0 f1 f2 f3 f4
            generalize (wr.alloc (.cells #[.int .i64 (xa : Int), .int .i64 (xb : Int), .int .i64 (xr : Int), .int .i64 (xm : Int), .int .i64 (xk : Int)] 45)).drewN nq = w7 at *
            go_wp2
            go_roundw
            case rel => exact ⟨k + 1, by omega, by rw [HF.out, HA.out], by go_num, HW2⟩
            case measure => simp [intOf]; omega
        · have d3 : ((xa : Int) == (b : Int)) = false := by simp; omega
          have hj : ¬ jn x a b := by rw [HJN.out]; omega
          have HF := Lib.hid (fnd_out HX.out hj)
          obtain ⟨A, hA⟩ : ∃ A, A = av (fnd es a b k) := ⟨_, rfl⟩
          rw [← hA]
          have HA := Lib.hid hA
          clear hA hj ca cc
          go_wp2_with fail
          go_quiet (fail)
          have HW2 := Lib.hid (bdrewN HB2.out nq)
          clear q0 q1 b0 b1 f0 f1 f2 f3 f4
          generalize (wr.alloc (.cells #[.int .i64 (xa : Int), .int .i64 (xb : Int), .int .i64 (xr : Int), .int .i64 (xm : Int), .int .i64 (xk : Int)] 45)).drewN nq = w7 at *
          go_wp2
          go_roundw
          case rel => exact ⟨k + 1, by omega, by rw [HF.out, HA.out], by go_num, HW2⟩
          case measure => simp [intOf]; omega
    · obtain rfl : k = m := by omega
      have hlt2 : ¬ ((k : Int) < (k : Int)) := by omega
      have HF : Hid (fd es a b = fnd es a b k) := Lib.hid (by unfold fd; rw [← HML.out])
      obtain ⟨A, hA⟩ : ∃ A, A = av (fnd es a b k) := ⟨_, rfl⟩
      rw [← hA]
      have HA := Lib.hid hA
      clear hA
      go_wp2
      go_ret
      exact ⟨by rw [HF.out, ← HA.out]; rfl, btrans HB.out HW.out⟩
end Go.Proofs.Ytbeoldklpklbfaa
