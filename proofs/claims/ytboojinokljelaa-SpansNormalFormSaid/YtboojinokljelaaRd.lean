/-
  Walks: boundaries, Boundaries of the reference.
-/
import Derived.Test.YtboojinokljelaaRc
namespace Go.Proofs.Ytboojinokljelaa
open Go.RowKit

theorem Iv.shape {F : Nat → Prop} {w : World} {v : Value} {l : List Int} (h : Iv F w v l) : ∃ g off cap, v = .slice (some ⟨g, off, none⟩) l.length cap ∧ l.length ≤ cap ∧ F g := by
  obtain ⟨_, _, g, off, cap, rfl, hc, hg, _⟩ := h
  exact ⟨g, off, cap, rfl, hc, hg⟩

/-- insert at a slice of which the contract is all that is known. -/
theorem insert_at (l : List Int) (x : Int) (v : Value) (w : World) (hv : Iv (fun k => k < w.heap.size) w v l) (hl : l.length ≤ 5000) (hx : I64 x) :
    Calls Try.prog 68 #[v, .int .i64 x] w fun e w' => ∃ v, e = .returned v ∧ Below w.heap.size w w' ∧ Iv (fun k => k < w'.heap.size) w' v (ins l x) := by
  obtain ⟨g, off, cap, rfl, hc, hg⟩ := hv.shape
  exact insert_any l x g off cap w hv hl hx hc hg

theorem clp_i64 (x : Int) : I64 (clp x) := by unfold I64 clp; omega

set_option maxRecDepth 100000 in
set_option maxHeartbeats 2000000 in
theorem bounds_any (p : List Int) (l : List (Int × Int)) (v : Value) (a : Option Addr) (cap : Nat) (w : World) (hp : Iv (fun k => k < w.heap.size) w v p) (hv : Sl (fun k => k < w.heap.size) w (.slice a l.length cap) l) (hl : p.length + 2 * l.length ≤ 4000) :
    Calls Try.prog 62 #[v, .slice a l.length cap] w fun e w' => ∃ v', e = .returned v' ∧ Below w.heap.size w w' ∧ Iv (fun k => k < w'.heap.size) w' v' (bnd p l) := by
  have HV := Lib.hid hv; have HP := Lib.hid hp
  clear hv hp
  obtain ⟨n, hn⟩ : ∃ n, n = l.length := ⟨_, rfl⟩
  have HN := Lib.hid hn
  rw [← hn] at hl
  go_enter Try.func62, Try.ntmps62
  rw [← hn]
  clear hn
  go_wp2
  go_loopw [0, 5] (fun u t wr => ∃ (k : Nat), k ≤ n ∧ t = .int .i64 k ∧ Hid (Iv (fun k => k < wr.heap.size) wr u (bnd p (l.take k))) ∧ Hid (Below w.heap.size w wr)) (fun _ t _ => n - (intOf t).toNat)
  case atStart => exact ⟨0, by omega, rfl, HP, Lib.hid (Below.refl _ _)⟩
  case round =>
    obtain ⟨k, hk, rfl, HI, H⟩ := hrel
    by_cases hlt : k < n
    · have hlt2 : (k : Int) < (n : Int) := by omega
      obtain ⟨g, off, x, y, rfl, hg, hx, hxi, hyi, c0, c1, hcap⟩ := HV.out.pick k (by have := HN.out; omega)
      have d0 : wr.cell? ⟨g, off + k * 2, none⟩ = some (.int .i64 x) := (H.out.cell (p := ⟨g, off + k * 2, none⟩) hg).trans c0
      have htk : l.take (k + 1) = l.take k ++ [(x, y)] := by rw [List.take_add_one, hx]; rfl
      have hbn : bnd p (l.take (k + 1)) = ins (ins (bnd p (l.take k)) (clp x)) (clp y) := by rw [htk, bnd_append]
      have hlen : (bnd p (l.take k)).length ≤ 4000 := by
        have := bnd_length (l.take k) p
        rw [List.length_take] at this
        omega
      have hlen2 : (ins (bnd p (l.take k)) (clp x)).length ≤ 5000 := by
        have := ins_length (bnd p (l.take k)) (clp x)
        omega
      have hc : ∀ z, z = min (max x 0) 1073741824 → Calls Try.prog 68 #[u0, .int .i64 z] wr fun e w' => ∃ v, e = .returned v ∧ Below wr.heap.size wr w' ∧ Iv (fun k => k < w'.heap.size) w' v (ins (bnd p (l.take k)) (clp x)) := by
        intro z hz
        have : z = clp x := by rw [hz]; rfl
        rw [this]
        exact insert_at _ _ _ wr HI.out (by omega) (clp_i64 x)
      have HC := Lib.hid hc; have HB := Lib.hid hbn; have HL := Lib.hid hlen2; have C1 := Lib.hid c1
      clear hx c0 c1 htk hbn hlen hlen2 hc HI
      go_wp2_with fail
      all_goals
        refine (HC.out _ (by omega)).mono ?_
        rintro e w1 ⟨v1, rfl, hb1, hI1⟩
        have hc2 : ∀ z, z = min (max y 0) 1073741824 → Calls Try.prog 68 #[v1, .int .i64 z] w1 fun e w' => ∃ v, e = .returned v ∧ Below w1.heap.size w1 w' ∧ Iv (fun k => k < w'.heap.size) w' v (ins (ins (bnd p (l.take k)) (clp x)) (clp y)) := by
          intro z hz
          have : z = clp y := by rw [hz]; rfl
          rw [this]
          exact insert_at _ _ _ w1 hI1 HL.out (clp_i64 y)
        have hb2 := H.out.trans (hb1.mono H.out.size)
        have d1 : w1.cell? ⟨g, off + k * 2 + 1, none⟩ = some (.int .i64 y) := (hb2.cell (p := ⟨g, off + k * 2 + 1, none⟩) hg).trans C1.out
        have HC2 := Lib.hid hc2; have HB2 := Lib.hid hb2
        clear hc2 hb1 hb2 hI1 d0 HC H
        go_wp2_with fail
        all_goals
          refine (HC2.out _ (by omega)).mono ?_
          rintro e w2 ⟨v2, rfl, hb3, hI2⟩
          rw [← HB.out] at hI2
          have HI2 := Lib.hid hI2
          have HB3 := Lib.hid (HB2.out.trans (hb3.mono HB2.out.size))
          clear hb3 hI2 HC2 HB2 d1
          go_wp2
          go_roundw
          case rel => exact ⟨k + 1, by omega, by go_num, HI2, HB3⟩
          case measure => simp [intOf]; omega
    · have hk2 : k = n := by omega
      subst hk2
      have hT : l.take k = l := List.take_of_length_le (by rw [HN.out]; exact Nat.le_refl _)
      rw [hT] at HI
      have hlt2 : ¬ ((k : Int) < (k : Int)) := by omega
      go_wp2
      go_ret
      exact ⟨_, rfl, H.out, HI.out⟩

set_option maxRecDepth 100000 in
set_option maxHeartbeats 2000000 in
theorem points_any (a b : List (Int × Int)) (oa ob : Option Addr) (ca cb : Nat) (w : World) (ha : Sl (fun k => k < w.heap.size) w (.slice oa a.length ca) a) (hb : Sl (fun k => k < w.heap.size) w (.slice ob b.length cb) b) (hl : a.length + b.length ≤ 1000) :
    Calls Try.prog 46 #[.slice oa a.length ca, .slice ob b.length cb] w fun e w' => ∃ v', e = .returned v' ∧ Below w.heap.size w w' ∧ Iv (fun k => k < w'.heap.size) w' v' (pts a b) := by
  have h1 := bounds_any [] a (.slice (some ⟨w.heap.size, 0, none⟩) 0 0) oa ca (w.alloc (.cells #[] 3)) ⟨by simp, by simp, w.heap.size, 0, 0, rfl, Nat.le_refl _, by simp, fun j s h => by simp at h⟩ (ha.on (ball (Below.refl _ _) _)) (by simp; omega)
  have hbl := bnd_length a []
  have h2 : ∀ w1 v, Below w.heap.size w w1 → Iv (fun k => k < w1.heap.size) w1 v (bnd [] a) → Calls Try.prog 62 #[v, .slice ob b.length cb] w1 fun e w' => ∃ v', e = .returned v' ∧ Below w1.heap.size w1 w' ∧ Iv (fun k => k < w'.heap.size) w' v' (pts a b) :=
    fun w1 v hbw hi => bounds_any _ b v ob cb w1 hi (hb.on hbw) (by simp at hbl; omega)
  have H1 := Lib.hid h1; have H2 := Lib.hid h2
  clear h1 h2 hbl ha hb
  go_enter Try.func46, Try.ntmps46
  go_wp2_with fail
  refine H1.out.mono ?_
  rintro e w1 ⟨v1, rfl, hb1, hI1⟩
  have hb2 : Below w.heap.size w w1 := (ball (Below.refl _ w) (.cells #[] 3)).trans (hb1.mono (by simp))
  have H3 := Lib.hid (H2.out w1 v1 hb2 hI1)
  have HB := Lib.hid hb2
  clear hb1 hb2 hI1 H1 H2
  go_wp2_with fail
  refine H3.out.mono ?_
  rintro e w2 ⟨v2, rfl, hb3, hI2⟩
  have HI2 := Lib.hid hI2
  have HB3 := Lib.hid (HB.out.trans (hb3.mono HB.out.size))
  clear hb3 hI2 H3 HB
  go_wp2
  go_ret
  exact ⟨_, rfl, HB3.out, HI2.out⟩
end Go.Proofs.Ytboojinokljelaa
