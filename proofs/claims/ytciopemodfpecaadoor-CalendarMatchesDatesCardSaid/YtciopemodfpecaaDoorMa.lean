/-
  Walks: Minutes, Contains.
-/
import Derived.Test.YtciopemodfpecaaDoorPn
import Derived.Test.YtciopemodfpecaaDoorNb
namespace Go.Proofs.YtciopemodfpecaaDoor
open Go.RowKit
set_option linter.unusedVariables false
set_option linter.unusedSimpArgs false

theorem nr_take {l : List (Int × Int)} {e : Int} (h : Nr e l) (k : Nat) : Nr e (l.take k) := by
  rw [← List.take_append_drop k l, nr_append] at h
  exact h.1
theorem tot_take_snoc {l : List (Int × Int)} {k : Nat} {x y : Int} (h : l[k]? = some (x, y)) : tot (l.take (k + 1)) = tot (l.take k) + (y - x) := by
  rw [List.take_add_one, h, tot_append]
  simp [tot]
theorem nr_i64' {x : List (Int × Int)} (h : Nr (-1) x) : ∀ s ∈ x, I64 s.1 ∧ I64 s.2 := by
  intro s hs
  have := nr_of x (-1) h s hs
  unfold I64
  omega

set_option maxRecDepth 100000 in
set_option maxHeartbeats 1000000 in
theorem minutes_any (l : List (Int × Int)) (a : Option Addr) (cap : Nat) (w : World) (hv : Sl (fun k => k < w.heap.size) w (.slice a l.length cap) l) (hl : l.length ≤ 2000000) :
    Calls Tryd.prog 33 #[.slice a l.length cap] w fun e w' => e = .returned (.int .i64 (tot (norm l))) ∧ Below w.heap.size w w' := by
  have h1 := normal_any l a cap w hv hl
  have hnl := norm_length l
  have hnr := norm_nr l
  have H1 := Lib.hid h1
  obtain ⟨x, hx⟩ : ∃ x, x = norm l := ⟨_, rfl⟩
  rw [← hx] at H1 hnl hnr ⊢
  have HNR := Lib.hid hnr
  clear h1 hv hnr hx
  go_enter Tryd.func33, Tryd.ntmps33
  go_wp2_with fail
  refine H1.out.mono ?_
  rintro e w1 ⟨v1, rfl, hA1⟩
  have hs1 := hA1.sl2 (nr_i64' HNR.out) (by omega)
  obtain ⟨o1, c1, rfl⟩ := hs1.shape
  obtain ⟨n, hn⟩ : ∃ n, n = x.length := ⟨_, rfl⟩
  have HN := Lib.hid hn
  rw [← hn] at hs1 ⊢
  have HS := Lib.hid hs1; have HB1 := Lib.hid hA1.below
  have hn5 : n ≤ 2000000 := by omega
  clear hA1 hs1 hn H1 hnl
  go_wp2
  go_loopw [2, 8] (fun f t wr => ∃ (k : Nat) (S : Int), k ≤ n ∧ t = .int .i64 k ∧ f = .int .i64 S ∧ Hid (S = tot (x.take k)) ∧ Hid (Below w1.heap.size w1 wr)) (fun _ t _ => n - (intOf t).toNat)
  case atStart => exact ⟨0, 0, by omega, rfl, rfl, Lib.hid rfl, Lib.hid (Below.refl _ _)⟩
  case round =>
    obtain ⟨k, S, hk, rfl, rfl, HF, H⟩ := hrel
    by_cases hlt : k < n
    · have hlt2 : (k : Int) < (n : Int) := by omega
      obtain ⟨g, off, p, q, rfl, hg, hpq, hpi, hqi, c0, c1', hcap⟩ := HS.out.pick k (by have := HN.out; omega)
      have d0 : wr.cell? ⟨g, off + k * 2, none⟩ = some (.int .i64 p) := (H.out.cell (p := ⟨g, off + k * 2, none⟩) hg).trans c0
      have d1 : wr.cell? ⟨g, off + k * 2 + 1, none⟩ = some (.int .i64 q) := (H.out.cell (p := ⟨g, off + k * 2 + 1, none⟩) hg).trans c1'
      have ht := tot_take_snoc hpq
      rw [← HF.out] at ht
      have hr1 := tot_range (nr_take HNR.out k)
      have hr2 := tot_range (nr_take HNR.out (k + 1))
      rw [← HF.out] at hr1
      have hm := nr_of x (-1) HNR.out (p, q) (List.mem_of_getElem? hpq)
      simp only at hm
      have HB := Lib.hid (ball H.out (.cells #[.int .i64 p, .int .i64 q] 23))
      have b1 : 0 ≤ p := by omega
      have b2 : p < q := hm.2.1
      have b3 : q ≤ 1073741824 := hm.2.2
      have b4 : 0 ≤ S := hr1.1
      have b5 : S ≤ 1073741824 := hr1.2
      have hT := ht.symm
      have HT := Lib.hid hT
      clear hpq c0 c1' ht hr1 hr2 hm HF hT
      go_wp2
      go_roundw
      case rel => exact ⟨k + 1, S + (q - p), by omega, by go_num, by go_num, HT, HB⟩
      case measure => simp [intOf]; omega
    · have hk2 : k = n := by omega
      subst hk2
      have hT : x.take k = x := List.take_of_length_le (by rw [HN.out]; exact Nat.le_refl _)
      rw [hT] at HF
      have hR := HF.out
      have hlt2 : ¬ ((k : Int) < (k : Int)) := by omega
      have HR := Lib.hid hR
      clear HF hT hR
      go_wp2
      go_ret
      exact ⟨by rw [HR.out]; rfl, HB1.out.trans (H.out.mono HB1.out.size)⟩

set_option maxRecDepth 100000 in
set_option maxHeartbeats 1000000 in
theorem index_any (l : List (Int × Int)) (m : Int) (B : Nat) (a : Option Addr) (cap : Nat) (w : World) (hv : Sl (fun k => k < w.heap.size) w (.slice a l.length cap) l) (hB : w.cell? ⟨B, 0, none⟩ = some (.int .i64 m)) :
    Calls Tryd.prog 70 #[.slice a l.length cap, .func (.func 56) #[] #[.pointer (some ⟨B, 0, none⟩)]] w fun e w' => ∃ r : Int, e = .returned (.int .i64 r) ∧ (0 ≤ r ↔ cov l m) ∧ Below w.heap.size w w' := by
  have HV := Lib.hid hv
  have hl := hv.1
  have hBl : B < w.heap.size := by
    have := (World.block_lt_of_cell? w _ hB)
    exact this
  clear hv
  obtain ⟨n, hn⟩ : ∃ n, n = l.length := ⟨_, rfl⟩
  have HN := Lib.hid hn
  rw [← hn] at hl
  go_enter Tryd.func70, Tryd.ntmps70
  rw [← hn]
  clear hn
  go_wp2
  go_loopw [8] (fun t wr => ∃ (k : Nat), k ≤ n ∧ t = .int .i64 k ∧ Hid (∀ (j : Nat) (s : Int × Int), j < k → l[j]? = some s → ¬ (s.1 ≤ m ∧ m < s.2)) ∧ Hid (Below w.heap.size w wr)) (fun t _ => n - (intOf t).toNat)
  case atStart => exact ⟨0, by omega, rfl, Lib.hid (fun j s hj => by omega), Lib.hid (Below.refl _ _)⟩
  case round =>
    obtain ⟨k, hk, rfl, HF, H⟩ := hrel
    by_cases hlt : k < n
    · have hlt2 : (k : Int) < (n : Int) := by omega
      obtain ⟨g, off, x, y, rfl, hg, hx, hxi, hyi, c0, c1, hcap⟩ := HV.out.pick k (by have := HN.out; omega)
      have d0 : wr.cell? ⟨g, off + k * 2, none⟩ = some (.int .i64 x) := (H.out.cell (p := ⟨g, off + k * 2, none⟩) hg).trans c0
      have d1 : wr.cell? ⟨g, off + k * 2 + 1, none⟩ = some (.int .i64 y) := (H.out.cell (p := ⟨g, off + k * 2 + 1, none⟩) hg).trans c1
      have hc := within_any x y m B wr ((H.out.cell (p := ⟨B, 0, none⟩) hBl).trans hB)
      have HX := Lib.hid hx
      by_cases hin : x ≤ m ∧ m < y
      · rw [decide_eq_true hin] at hc
        have HC := Lib.hid hc; have HI := Lib.hid hin
        clear hc c0 c1 hx hin HF hB
        go_wp2_with fail
        refine HC.out.mono ?_
        rintro e w2 ⟨rfl, hb2⟩
        have HB2 := Lib.hid (H.out.trans (hb2.mono H.out.size))
        clear hb2 HC
        go_wp2
        go_ret
        exact ⟨(k : Int), rfl, ⟨fun _ => ⟨(x, y), List.mem_of_getElem? HX.out, HI.out⟩, fun _ => by omega⟩, HB2.out⟩
      · rw [decide_eq_false hin] at hc
        have HF2 : Hid (∀ (j : Nat) (s : Int × Int), j < k + 1 → l[j]? = some s → ¬ (s.1 ≤ m ∧ m < s.2)) := Lib.hid (by
          intro j s hj hs
          rcases Nat.lt_or_ge j k with h1 | h1
          · exact HF.out j s h1 hs
          · have : j = k := by omega
            subst this
            rw [hx] at hs
            obtain rfl := Option.some.inj hs
            exact hin)
        have HC := Lib.hid hc
        clear hc c0 c1 hx hin HF hB
        go_wp2_with fail
        refine HC.out.mono ?_
        rintro e w2 ⟨rfl, hb2⟩
        have HB2 := Lib.hid (H.out.trans (hb2.mono H.out.size))
        clear hb2 HC
        go_wp2
        go_roundw
        case rel => exact ⟨k + 1, by omega, by go_num, HF2, HB2⟩
        case measure => simp [intOf]; omega
    · have hk2 : k = n := by omega
      subst hk2
      have hno : ¬ cov l m := by
        rintro ⟨s, hs, h1⟩
        obtain ⟨j, hj⟩ := List.getElem?_of_mem hs
        have := (List.getElem?_eq_some_iff.1 hj).1
        exact HF.out j s (by have := HN.out; omega) hj h1
      have HNO := Lib.hid hno
      have hlt2 : ¬ ((k : Int) < (k : Int)) := by omega
      clear HF hno
      go_wp2
      go_ret
      exact ⟨-1, rfl, ⟨fun h => by omega, fun h => absurd h HNO.out⟩, H.out⟩

set_option maxHeartbeats 1000000 in
theorem containsFunc_any (l : List (Int × Int)) (m : Int) (B : Nat) (a : Option Addr) (cap : Nat) (w : World) (hv : Sl (fun k => k < w.heap.size) w (.slice a l.length cap) l) (hB : w.cell? ⟨B, 0, none⟩ = some (.int .i64 m)) :
    Calls Tryd.prog 55 #[.slice a l.length cap, .func (.func 56) #[] #[.pointer (some ⟨B, 0, none⟩)]] w fun e w' => ∃ r : Bool, e = .returned (.bool r) ∧ (r = true ↔ cov l m) ∧ Below w.heap.size w w' := by
  have h1 := index_any l m B a cap w hv hB
  have H1 := Lib.hid h1
  clear h1 hv hB
  go_enter Tryd.func55, Tryd.ntmps55
  go_wp2_with fail
  refine H1.out.mono ?_
  rintro e w1 ⟨r, rfl, hr, hb⟩
  have HR := Lib.hid hr; have HB := Lib.hid hb
  clear hr hb H1
  go_wp2
  go_ret
  exact ⟨_, rfl, by rw [← HR.out]; simp, HB.out⟩

set_option maxRecDepth 100000 in
set_option maxHeartbeats 1000000 in
theorem contains_any (l : List (Int × Int)) (m : Int) (a : Option Addr) (cap : Nat) (w : World) (hv : Sl (fun k => k < w.heap.size) w (.slice a l.length cap) l) :
    Calls Tryd.prog 36 #[.slice a l.length cap, .int .i64 m] w fun e w' => e = .returned (.bool (inB l m)) ∧ Below w.heap.size w w' := by
  have hb1 : Below w.heap.size w (w.alloc (.cells #[.int .i64 m] 3)) := ball (Below.refl _ _) _
  have hcell : (w.alloc (.cells #[.int .i64 m] 3)).cell? ⟨w.heap.size, 0, none⟩ = some (.int .i64 m) := by
    rw [cell_of_row _ w.heap.size 0 _ 3 (0, 0) (heap_alloc_new w _)]; rfl
  have h1 := containsFunc_any l m w.heap.size a cap (w.alloc (.cells #[.int .i64 m] 3)) (hv.on hb1) hcell
  have hin : ∀ r : Bool, (r = true ↔ cov l m) → 0 ≤ m → m < 1073741824 → r = inB l m := by
    intro r hr h0 h1
    by_cases hc : cov l m
    · rw [hr.2 hc, inB_true ⟨h0, h1, hc⟩]
    · rw [inB_false (fun h => hc h.2.2)]
      cases r with
      | true => exact absurd (hr.1 rfl) hc
      | false => rfl
  have hout : ¬ (0 ≤ m ∧ m < 1073741824) → inB l m = false := fun h => inB_false (fun hm => h ⟨hm.1, hm.2.1⟩)
  obtain ⟨R, hR⟩ : ∃ R, R = inB l m := ⟨_, rfl⟩
  rw [← hR] at hin hout ⊢
  have H1 := Lib.hid h1; have HI := Lib.hid hin; have HO := Lib.hid hout
  clear h1 hin hout hR hv
  by_cases c1 : 0 ≤ m
  · by_cases c2 : m < 1073741824
    · go_enter Tryd.func36, Tryd.ntmps36
      go_wp2_with fail
      refine H1.out.mono ?_
      rintro e w1 ⟨r, rfl, hr, hb⟩
      have hrR := HI.out r hr c1 c2
      subst hrR
      have HB := Lib.hid (hb1.trans (hb.mono hb1.size))
      clear hr hb H1 HI HO
      go_wp2
      go_ret
      exact ⟨rfl, HB.out⟩
    · have hr := HO.out (fun h => c2 h.2)
      subst hr
      clear H1 HI HO
      go_enter Tryd.func36, Tryd.ntmps36
      go_wp2
      go_ret
      exact ⟨rfl, hb1⟩
  · have hr := HO.out (fun h => c1 h.1)
    subst hr
    clear H1 HI HO
    go_enter Tryd.func36, Tryd.ntmps36
    go_wp2
    go_ret
    exact ⟨rfl, hb1⟩
end Go.Proofs.YtciopemodfpecaaDoor
