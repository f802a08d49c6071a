/-
  Walks: Normal, Union, Intersect, Minus, Minutes, Advance of the reference.
-/
import Derived.Test.YtboojinokljelaaPp
import Derived.Test.YtboojinokljelaaRe
import Derived.Test.YtboojinokljelaaMa
namespace Go.Proofs.Ytboojinokljelaa
open Go.RowKit

theorem gOr_ok (a b : List (Int × Int)) (m : Int) : (inB a m || inB b m) = true ↔ gOr (mem a m) (mem b m) := by rw [Bool.or_eq_true, inB_iff, inB_iff]; rfl
theorem gAnd_ok (a b : List (Int × Int)) (m : Int) : (inB a m && inB b m) = true ↔ gAnd (mem a m) (mem b m) := by rw [Bool.and_eq_true, inB_iff, inB_iff]; rfl
theorem gNot_ok (a b : List (Int × Int)) (m : Int) : (inB a m && !inB b m) = true ↔ gNot (mem a m) (mem b m) := by
  rw [Bool.and_eq_true, inB_iff, Bool.not_eq_true', ← Bool.not_eq_true, inB_iff]; rfl

set_option maxHeartbeats 1000000 in
theorem rnormal_any (a : List (Int × Int)) (oa : Option Addr) (ca : Nat) (w : World) (ha : Sl (fun k => k < w.heap.size) w (.slice oa a.length ca) a) (hl : a.length ≤ 400) :
    Calls Try.prog 14 #[.slice oa a.length ca] w fun e w' => ∃ v, e = .returned v ∧ ApT w (norm a) v w' := by
  have h := combine_any gOr (fun x y => x || y) gOr_ok 0 holds0_any a [] oa none ca 0 w ha (sl_nil _ _) (by simp; omega)
  rw [cmb_norm] at h
  have H := Lib.hid h
  clear h ha
  go_enter Try.func14, Try.ntmps14
  go_wp2_with fail
  refine H.out.mono ?_
  rintro e w1 ⟨v, rfl, h1⟩
  have H1 := Lib.hid h1
  clear h1 H
  go_wp2
  go_ret
  exact ⟨_, rfl, H1.out⟩
set_option maxHeartbeats 1000000 in
theorem runion_any (a b : List (Int × Int)) (oa ob : Option Addr) (ca cb : Nat) (w : World) (ha : Sl (fun k => k < w.heap.size) w (.slice oa a.length ca) a) (hb : Sl (fun k => k < w.heap.size) w (.slice ob b.length cb) b) (hl : a.length + b.length ≤ 400) :
    Calls Try.prog 16 #[.slice oa a.length ca, .slice ob b.length cb] w fun e w' => ∃ v, e = .returned v ∧ ApT w (uniL a b) v w' := by
  have h := combine_any gOr (fun x y => x || y) gOr_ok 0 holds0_any a b oa ob ca cb w ha hb hl
  rw [cmb_uni] at h
  have H := Lib.hid h
  clear h ha hb
  go_enter Try.func16, Try.ntmps16
  go_wp2_with fail
  refine H.out.mono ?_
  rintro e w1 ⟨v, rfl, h1⟩
  have H1 := Lib.hid h1
  clear h1 H
  go_wp2
  go_ret
  exact ⟨_, rfl, H1.out⟩
set_option maxHeartbeats 1000000 in
theorem rintersect_any (a b : List (Int × Int)) (oa ob : Option Addr) (ca cb : Nat) (w : World) (ha : Sl (fun k => k < w.heap.size) w (.slice oa a.length ca) a) (hb : Sl (fun k => k < w.heap.size) w (.slice ob b.length cb) b) (hl : a.length + b.length ≤ 400) :
    Calls Try.prog 18 #[.slice oa a.length ca, .slice ob b.length cb] w fun e w' => ∃ v, e = .returned v ∧ ApT w (intL a b) v w' := by
  have h := combine_any gAnd (fun x y => x && y) gAnd_ok 1 holds1_any a b oa ob ca cb w ha hb hl
  rw [cmb_int] at h
  have H := Lib.hid h
  clear h ha hb
  go_enter Try.func18, Try.ntmps18
  go_wp2_with fail
  refine H.out.mono ?_
  rintro e w1 ⟨v, rfl, h1⟩
  have H1 := Lib.hid h1
  clear h1 H
  go_wp2
  go_ret
  exact ⟨_, rfl, H1.out⟩
set_option maxHeartbeats 1000000 in
theorem rminus_any (a b : List (Int × Int)) (oa ob : Option Addr) (ca cb : Nat) (w : World) (ha : Sl (fun k => k < w.heap.size) w (.slice oa a.length ca) a) (hb : Sl (fun k => k < w.heap.size) w (.slice ob b.length cb) b) (hl : a.length + b.length ≤ 400) :
    Calls Try.prog 20 #[.slice oa a.length ca, .slice ob b.length cb] w fun e w' => ∃ v, e = .returned v ∧ ApT w (minL a b) v w' := by
  have h := combine_any gNot (fun x y => x && !y) gNot_ok 2 holds2_any a b oa ob ca cb w ha hb hl
  rw [cmb_min] at h
  have H := Lib.hid h
  clear h ha hb
  go_enter Try.func20, Try.ntmps20
  go_wp2_with fail
  refine H.out.mono ?_
  rintro e w1 ⟨v, rfl, h1⟩
  have H1 := Lib.hid h1
  clear h1 H
  go_wp2
  go_ret
  exact ⟨_, rfl, H1.out⟩

set_option maxRecDepth 100000 in
set_option maxHeartbeats 1000000 in
theorem rminutes_any (l : List (Int × Int)) (a : Option Addr) (cap : Nat) (w : World) (hv : Sl (fun k => k < w.heap.size) w (.slice a l.length cap) l) (hl : l.length ≤ 400) :
    Calls Try.prog 24 #[.slice a l.length cap] w fun e w' => e = .returned (.int .i64 (tot (norm l))) ∧ Below w.heap.size w w' := by
  have h1 := rnormal_any l a cap w hv hl
  have hnl := norm_length l
  have hnr := norm_nr l
  have H1 := Lib.hid h1
  obtain ⟨x, hx⟩ : ∃ x, x = norm l := ⟨_, rfl⟩
  rw [← hx] at H1 hnl hnr ⊢
  have HNR := Lib.hid hnr
  clear h1 hv hnr hx
  go_enter Try.func24, Try.ntmps24
  go_wp2_with fail
  refine H1.out.mono ?_
  rintro e w1 ⟨v1, rfl, hA1⟩
  have hs1 := hA1.sl2 (nr_i64' HNR.out) (by omega)
  obtain ⟨o1, c1, rfl⟩ := hs1.shape
  obtain ⟨n, hn⟩ : ∃ n, n = x.length := ⟨_, rfl⟩
  have HN := Lib.hid hn
  rw [← hn] at hs1 ⊢
  have HS := Lib.hid hs1; have HB1 := Lib.hid hA1.below
  have hn5 : n ≤ 500 := by omega
  clear hA1 hs1 hn H1 hnl
  go_wp2
  go_loopw [4, 5] (fun f t wr => ∃ (k : Nat) (S : Int), k ≤ n ∧ t = .int .i64 k ∧ f = .int .i64 S ∧ Hid (S = tot (x.take k)) ∧ Hid (Below w1.heap.size w1 wr)) (fun _ t _ => n - (intOf t).toNat)
  case atStart => exact ⟨0, 0, by omega, rfl, rfl, Lib.hid rfl, Lib.hid (Below.refl _ _)⟩
  case round =>
    obtain ⟨k, S, hk, rfl, rfl, HF, H⟩ := hrel
    by_cases hlt : k < n
    · have hlt2 : (k : Int) < (n : Int) := by omega
      obtain ⟨g, off, p, q, rfl, hg, hpq, hpi, hqi, c0, c1', hcap⟩ := HS.out.pick k (by have := HN.out; omega)
      have d0 : wr.cell? ⟨g, off + k * 2, none⟩ = some (.int .i64 p) := (H.out.cell (p := ⟨g, off + k * 2, none⟩) hg).trans c0
      have d1 : wr.cell? ⟨g, off + k * 2 + 1, none⟩ = some (.int .i64 q) := (H.out.cell (p := ⟨g, off + k * 2 + 1, none⟩) hg).trans c1'
      have ht := tot_take_snoc hpq
      rw [← HF.out] at ht
      have hr1 := tot_range (nr_take HNR.out k)
      rw [← HF.out] at hr1
      have hm := nr_of x (-1) HNR.out (p, q) (List.mem_of_getElem? hpq)
      simp only at hm
      have b1 : 0 ≤ p := by omega
      have b2 : p < q := hm.2.1
      have b3 : q ≤ 1073741824 := hm.2.2
      have b4 : 0 ≤ S := hr1.1
      have b5 : S ≤ 1073741824 := hr1.2
      have w1' : IntKind.i64.wrap (S + q) = S + q := by rw [IntKind.wrap_i64]; omega
      have w2' : IntKind.i64.wrap (S + q - p) = S + q - p := by rw [IntKind.wrap_i64]; omega
      have hT : S + q - p = tot (x.take (k + 1)) := by rw [ht]; omega
      have HT := Lib.hid hT
      clear hpq c0 c1' ht hr1 hm HF hT
      go_wp2_with fail
      go_quiet (fail)
      have HD : Hid (Below w1.heap.size w1 (wr.drewN nq)) := Lib.hid (bdrewN H.out nq)
      clear H d0 d1 w1' w2'
      generalize wr.drewN nq = w7 at *
      go_wp2
      go_roundw
      case rel => exact ⟨k + 1, S + q - p, by omega, by go_num, rfl, HT, HD⟩
      case measure => simp [intOf]; omega
    · have hk2 : k = n := by omega
      subst hk2
      have hT : x.take k = x := List.take_of_length_le (by rw [HN.out]; exact Nat.le_refl _)
      rw [hT] at HF
      have hR := HF.out
      have hlt2 : ¬ ((k : Int) < (k : Int)) := by omega
      have HR := Lib.hid hR
      clear HF hT hR
      go_wp2
      go_ret
      exact ⟨by rw [HR.out]; rfl, HB1.out.trans (H.out.mono HB1.out.size)⟩
end Go.Proofs.Ytboojinokljelaa
