/-
  Walks: Same of the reference, few.
-/
import Derived.Test.YthmpeeipbclhkaaDoorSl
namespace Go.Proofs.YthmpeeipbclhkaaDoor
open Go.RowKit

theorem Dl.pick {w : World} {a : Option Addr} {c : Nat} {l : List (List Int)} (h : Dl (fun k => k < w.heap.size) w (.slice a l.length c) l) (k : Nat) (hk : k < l.length) :
    ∃ g off x, a = some ⟨g, off, none⟩ ∧ g < w.heap.size ∧ l[k]? = some x ∧ x.length = 32 ∧ w.rangeAt g (off + k * 32) (byteVals x) ∧ l.length ≤ c := by
  obtain ⟨_, h1, a', c', h2, h3, h4⟩ := h
  simp only [Value.slice.injEq] at h2
  obtain ⟨rfl, _, rfl⟩ := h2
  obtain ⟨g, off, rfl, hg, hc⟩ := h4 (by omega)
  exact ⟨g, off, _, rfl, hg, List.getElem?_eq_getElem hk, (h1 _ (List.getElem_mem hk)).1, hc k _ (List.getElem?_eq_getElem hk), h3⟩

theorem Dl.shape {F : Nat → Prop} {w : World} {v : Value} {l : List (List Int)} (h : Dl F w v l) : ∃ a c, v = .slice a l.length c := by
  obtain ⟨_, _, a, c, rfl, _⟩ := h
  exact ⟨a, c, rfl⟩

set_option maxRecDepth 100000 in
set_option maxHeartbeats 2000000 in
theorem same_any (a b : List (List Int)) (oa ob : Option Addr) (ca cb : Nat) (w : World) (hv : Dl (fun k => k < w.heap.size) w (.slice oa a.length ca) a) (hv2 : Dl (fun k => k < w.heap.size) w (.slice ob b.length cb) b) :
    Calls Tryd.prog 19 #[.slice oa a.length ca, .slice ob b.length cb] w fun e w' => e = .returned (.bool (decide (a = b))) ∧ Below w.heap.size w w' := by
  have hla := hv.1; have hlb := hv2.1
  have HV := Lib.hid hv; have HV2 := Lib.hid hv2
  clear hv hv2
  by_cases hab : a.length = b.length
  · obtain ⟨n, hn⟩ : ∃ n, n = a.length := ⟨_, rfl⟩
    have hnb : b.length = n := by omega
    have e0 : ((n : Int) != (n : Int)) = false := by simp
    obtain ⟨R, hR⟩ : ∃ R, R = decide (a = b) := ⟨_, rfl⟩
    rw [← hR]
    have HN := Lib.hid hn; have HNB := Lib.hid hnb; have HR := Lib.hid hR
    have hl1 : n ≤ 4398046511104 := by omega
    rw [hnb, ← hn]
    clear hn hnb hab hR hla hlb
    go_enter Tryd.func19, Tryd.ntmps19
    go_wp2
    go_loopw [5] (fun i wr => ∃ k : Nat, k ≤ n ∧ i = .int .i64 k ∧ Hid (Below w.heap.size w wr) ∧ Hid (∀ j, j < k → a[j]? = b[j]?)) (fun i _ => n - (intOf i).toNat)
    case atStart => exact ⟨0, by omega, rfl, Lib.hid (Below.refl _ _), Lib.hid (fun j hj => by omega)⟩
    case round =>
      obtain ⟨k, hk, rfl, H, HE⟩ := hrel
      by_cases hlt : k < n
      · have hlt2 : (k : Int) < (n : Int) := by omega
        obtain ⟨g1, o1, X, rfl, hg1, hx, hxl, hr1, hc1⟩ := HV.out.pick k (by have := HN.out; omega)
        obtain ⟨g2, o2, Y, rfl, hg2, hy, hyl, hr2, hc2⟩ := HV2.out.pick k (by have := HNB.out; omega)
        have e1 := eqDig X Y hxl hyl
        have HR1 := Lib.hid (show wr.drew.rangeAt g1 (o1 + k * 32) (byteVals X) from rangeAt_kept hr1 (H.out.drew.block _ hg1)); have HR2 := Lib.hid (show wr.drew.rangeAt g2 (o2 + k * 32) (byteVals Y) from rangeAt_kept hr2 (H.out.drew.block _ hg2))
        have hstep : ∀ j, j < k + 1 → X = Y → a[j]? = b[j]? := by
          intro j hj hxy
          rcases Nat.lt_or_ge j k with h | h
          · exact HE.out j h
          · have : j = k := by omega
            subst this
            rw [hx, hy, hxy]
        have hneq : X ≠ Y → R = false := by
          intro h
          rw [HR.out]
          exact decide_eq_false (fun he => h (by rw [he, hy] at hx; exact (Option.some.inj hx).symm))
        have HST := Lib.hid hstep; have HNE := Lib.hid hneq
        clear hr1 hr2 hx hy hstep hneq hc1 hc2
        by_cases hxy : X = Y
        · have HE2 : Hid (∀ j, j < k + 1 → a[j]? = b[j]?) := Lib.hid (fun j hj => HST.out j hj hxy)
          rw [decide_eq_true hxy] at e1
          clear hxy HST HNE HE
          go_wp2_with fail
          have HD : Hid (Below w.heap.size w wr.drew) := Lib.hid H.out.drew
          refine wp_region_still_lit (by kernel_rfl) (by kernel_rfl) ?_
          change wpStill _ _ wr.drew _ _ _
          iterate 3 still_step
          refine still_load_mid (by rfl) (.tmp 19) rfl g1 (o1 + k * 32) rfl X HR1.out hxl ?_
          iterate 3 still_step
          refine still_load_mid (by rfl) (.tmp 23) rfl g2 (o2 + k * 32) rfl Y HR2.out hyl ?_
          still_step
          refine wpStill_nil ?_
          change Exit.then _ _ _ _ wr.drew
          clear H e1 HR1 HR2
          generalize wr.drew = w7 at *
          go_wp2
          go_roundw
          case rel => exact ⟨k + 1, by omega, by go_num, HD, HE2⟩
          case measure => simp [intOf]; omega
        · have hRf := HNE.out hxy
          subst hRf
          rw [decide_eq_false hxy] at e1
          clear hxy HST HNE HE
          go_wp2_with fail
          have HD : Hid (Below w.heap.size w wr.drew) := Lib.hid H.out.drew
          refine wp_region_still_lit (by kernel_rfl) (by kernel_rfl) ?_
          change wpStill _ _ wr.drew _ _ _
          iterate 3 still_step
          refine still_load_mid (by rfl) (.tmp 19) rfl g1 (o1 + k * 32) rfl X HR1.out hxl ?_
          iterate 3 still_step
          refine still_load_mid (by rfl) (.tmp 23) rfl g2 (o2 + k * 32) rfl Y HR2.out hyl ?_
          still_step
          refine wpStill_nil ?_
          change Exit.then _ _ _ _ wr.drew
          clear H e1 HR1 HR2
          generalize wr.drew = w7 at *
          go_wp2
          go_ret
          exact ⟨rfl, HD.out⟩
      · have hk2 : k = n := by omega
        subst hk2
        have hRt : R = true := by
          rw [HR.out]
          refine decide_eq_true (List.ext_getElem? fun j => ?_)
          rcases Nat.lt_or_ge j k with h | h
          · exact HE.out j h
          · rw [List.getElem?_eq_none (by have := HN.out; omega), List.getElem?_eq_none (by have := HNB.out; omega)]
        subst hRt
        have hlt2 : ¬ ((k : Int) < (k : Int)) := by omega
        clear hlt HE
        go_wp2
        go_ret
        exact ⟨rfl, H.out⟩
  · have e0 : ((a.length : Int) != (b.length : Int)) = true := by simp; omega
    have hR : decide (a = b) = false := decide_eq_false (fun h => hab (by rw [h]))
    rw [hR]
    clear hab hR
    go_enter Tryd.func19, Tryd.ntmps19
    go_wp2
    go_ret
    exact ⟨rfl, Below.refl _ _⟩

theorem few_any (a : List (List Int)) (oa : Option Addr) (ca : Nat) (w : World) :
    Calls Tryd.prog 12 #[.slice oa a.length ca] w fun e w' => e = .returned (.bool (decide (a.length ≤ 64))) ∧ w' = w := by
  have e1 : decide ((a.length : Int) ≤ 64) = decide (a.length ≤ 64) := by
    by_cases h : a.length ≤ 64
    · rw [decide_eq_true h, decide_eq_true (by omega)]
    · rw [decide_eq_false h, decide_eq_false (by omega)]
  go_enter Tryd.func12, Tryd.ntmps12
  go_wp2
  go_ret
  exact ⟨rfl, rfl⟩
end Go.Proofs.YthmpeeipbclhkaaDoor
