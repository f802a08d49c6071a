/-
  Walks: the reference's After.
-/
import Derived.Test.YtciopemodfpecaaDoorKf
namespace Go.Proofs.YtciopemodfpecaaDoor
open Go.RowKit
set_option linter.unusedVariables false
set_option linter.unusedSimpArgs false

theorem aft_bad {op : List (Int × Int)} {hol : List Int} {f n : Int} (h : okR op hol f 1073741824 = false ∨ n < 0) : aV op hol f n = 0 ∧ aE op hol f n = 1 := by
  unfold aV aE
  rcases h with h | h
  · rw [h]; exact ⟨rfl, rfl⟩
  · rw [if_pos h, if_pos h]
    split <;> exact ⟨rfl, rfl⟩
theorem aft_zero {op : List (Int × Int)} {hol : List Int} {f : Int} (h : okR op hol f 1073741824 = true) : aV op hol f 0 = f ∧ aE op hol f 0 = 0 := by
  unfold aV aE
  rw [h]; exact ⟨rfl, rfl⟩
theorem aft_pos {op : List (Int × Int)} {hol : List Int} {f n : Int} (h : okR op hol f 1073741824 = true) (hn : 0 < n) : aV op hol f n = (adv (wlist op hol f 1073741824) n).getD 0 ∧ aE op hol f n = if (adv (wlist op hol f 1073741824) n).isSome then 0 else 2 := by
  unfold aV aE
  rw [h, if_pos rfl, if_pos rfl, if_neg (by omega), if_neg (by omega), if_neg (by omega), if_neg (by omega)]
  exact ⟨rfl, rfl⟩

theorem tday_range2 {op : List (Int × Int)} {hol : List Int} {f t d P Q : Int} (ho : opOk op) (hd : 0 ≤ d) (hd1 : d ≤ 745654) (hf : 0 ≤ f) (hf1 : f ≤ 1073741824) (ht : t ≤ 1073741824) (ht0 : 0 ≤ t) (hP : P = if d ∈ hol then 0 else (tday op d f t).1) (hQ : Q = if d ∈ hol then 0 else (tday op d f t).2) : 0 ≤ P ∧ P ≤ 2000000000 ∧ 0 ≤ Q ∧ Q ≤ 1073741824 := by
  have hs := dsp_ok ho d
  have e1 : (tday op d f t).1 = max (1440 * d + (dsp op d).1) f := rfl
  have e2 : (tday op d f t).2 = min (1440 * d + (dsp op d).2) t := rfl
  split at hP
  · rename_i c; rw [if_pos c] at hQ; exact ⟨by omega, by omega, by omega, by omega⟩
  · rename_i c; rw [if_neg c] at hQ; exact ⟨by omega, by omega, by omega, by omega⟩

set_option maxRecDepth 100000 in
set_option maxHeartbeats 8000000 in
theorem rafter_pos (cs : Array Value) (op : List (Int × Int)) (hol : List Int) (f n : Int) (w : World) (h : Cal (fun k => k < w.heap.size) w cs op hol) (hc0 : chkC op hol = 0) (hf : 0 ≤ f) (hft : f ≤ 1073741824) (hn64 : I64 n) (hn : 0 < n) (A E : Int)
    (hA : A = (adv (wlist op hol f 1073741824) n).getD 0) (hE : E = if (adv (wlist op hol f 1073741824) n).isSome then 0 else 2) :
    Calls Tryd.prog 18 #[.agg cs, .int .i64 f, .int .i64 n] w fun e w' => e = .returned (.tuple #[.int .i64 A, .int .i64 E]) ∧ Below w.heap.size w w' := by
  obtain ⟨hob, hhb⟩ := (chkC_zero op hol).1 hc0
  have ho : opOk op := ⟨h.len, (opB_iff op).1 hob⟩
  have hW : Below w.heap.size w (w.alloc (.cells cs 27)) := ball (Below.refl _ _) _
  have hbox := heap_alloc_new w (.cells cs 27)
  have hc := rccheck_any cs op hol _ (h.on hW) 0 hc0.symm
  have HC := Lib.hid hc; have HB := Lib.hid hbox; have HS := Lib.hid h.size; have HW := Lib.hid hW; have HO := Lib.hid ho; have HHB := Lib.hid hhb; have HCAL := Lib.hid h; have HA := Lib.hid hA; have HE := Lib.hid hE
  have d1 : decide (f < 0) = false := decide_eq_false (by omega)
  have d2 : decide (1073741824 < f) = false := decide_eq_false (by omega)
  have d3 : decide (n < 0) = false := decide_eq_false (by omega)
  have d4 : (n == 0) = false := by simp; omega
  have hsB : w.heap.size < (w.alloc (.cells cs 27)).heap.size := by simp
  have hn2 : n ≤ 9223372036854775807 := hn64.2
  clear hc hW hbox ho hob hhb hc0 h hA hE
  generalize hWW : w.alloc (.cells cs 27) = W at *
  go_enter Tryd.func18, Tryd.ntmps18
  go_wp2_with (first | (refine wpList_load_row rfl 27 (.tmp 3) rfl w.heap.size rfl 27 cs (0, 0) _ HB.out Tryd.underlying27 rfl (size27 HS.out) ?_) | (go_at_call 20; refine HC.out.mono ?_; rintro e w1 ⟨rfl, hb1⟩))
  have HB1 := Lib.hid ((hb1.block w.heap.size hsB).trans HB.out)
  have HW1 := Lib.hid (HW.out.trans (hb1.mono HW.out.size))
  have hsB1 : w.heap.size < w1.heap.size := Nat.lt_of_lt_of_le hsB hb1.size
  clear hb1 HB HW HC hWW d4
  go_loopw [2, 8] (fun v s wr => ∃ (k : Nat) (D V : Int), 0 ≤ D ∧ D ≤ 745655 ∧ 0 < V ∧ V ≤ 9223372036854775807 ∧ v = .int .i64 V ∧ s = .int .i64 D ∧ Hid (D = f / 1440 + (k : Int) ∧ V = n - tot (dlist op hol f 1073741824 (f / 1440) k) ∧ Below w1.heap.size w1 wr)) (fun _ s _ => 745700 - (intOf s).toNat)
  case atStart => exact ⟨0, f / 1440, n, by omega, by omega, hn, hn2, rfl, rfl, Lib.hid ⟨by omega, by simp [dlist, tot], Below.refl _ _⟩⟩
  case round =>
    obtain ⟨k, D, V, hD0, hD1, hV0, hV1, rfl, rfl, H⟩ := hrel
    by_cases hlt : D ≤ 745654
    · obtain ⟨P, hP⟩ : ∃ P, P = if D ∈ hol then 0 else (tday op D f 1073741824).1 := ⟨_, rfl⟩
      obtain ⟨Q, hQ⟩ : ∃ Q, Q = if D ∈ hol then 0 else (tday op D f 1073741824).2 := ⟨_, rfl⟩
      have hBr : Below w.heap.size w wr := HW1.out.trans (H.out.2.2.mono HW1.out.size)
      have hcal := HCAL.out.on hBr
      have htd := today_any cs op hol D f 1073741824 wr hcal HO.out HHB.out ⟨hD0, hlt⟩ ⟨hf, by omega⟩ ⟨by omega, by omega⟩ P Q hP hQ
      have hBx : wr.heap[w.heap.size]? = some (.cells cs 27 (0, 0)) := (H.out.2.2.block w.heap.size hsB1).trans HB1.out
      have hrg := tday_range2 HO.out hD0 hlt hf hft (by omega) (by omega) hP hQ
      obtain ⟨r1, r2, r3, r4⟩ := hrg
      have hinv := dlist_inv (hol := hol) (f := f) (t := 1073741824) HO.out hf (by omega) k
      have hDk := H.out.1
      have htot : tot (dlist op hol f 1073741824 (f / 1440) (k + 1)) = tot (dlist op hol f 1073741824 (f / 1440) k) + max 0 (Q - P) := by
        show tot (dstep op hol f 1073741824 (f / 1440 + (k : Int)) (dlist op hol f 1073741824 (f / 1440) k)) = _
        rw [day_tot, ← hDk, hP, hQ]
        split <;> simp
      by_cases hhit : V ≤ max (Q - P) 0
      · have hPQ : P < Q := by omega
        have hnm : ¬ D ∈ hol := fun hm => by rw [if_pos hm] at hP hQ; omega
        rw [if_neg hnm] at hP hQ
        have hh := day_hit (n := n) (op := op) (hol := hol) (f := f) (t := 1073741824) (d := D) hinv.1 (by have := H.out.2.1; omega) hn hnm (by rw [← hP, ← hQ]; exact hPQ) (by rw [← hP, ← hQ]; have := H.out.2.1; omega)
        have hs := search_hit (hol := hol) HO.out hf hft (by omega : (1073741824 : Int) ≤ 1073741824) hn (k + 1) (m := P + V) (by
          show adv (dstep op hol f 1073741824 (f / 1440 + (k : Int)) (dlist op hol f 1073741824 (f / 1440) k)) n = _
          rw [← hDk, hh, ← hP, H.out.2.1])
        have hAv : A = P + V := by rw [HA.out, hs]; rfl
        have hEv : E = 0 := by rw [HE.out, hs]; rfl
        subst hAv hEv
        have hQP : max (Q - P) 0 = Q - P := by omega
        have hle : V ≤ Q - P := by omega
        have HTD := Lib.hid htd; have HBX := Lib.hid hBx; have HBR := Lib.hid hBr
        have hlt0 : ¬ (Q - P < 0) := by omega
        clear htd hBx hBr hcal hP hQ hh hs hinv htot H hDk HA HE hhit hQP
        go_wp2_with (first | (refine wpList_load_row rfl 27 (.tmp 3) rfl w.heap.size rfl 27 cs (0, 0) _ HBX.out Tryd.underlying27 rfl (size27 HS.out) ?_) | (go_at_call 44; refine HTD.out.mono ?_; rintro e w2 ⟨rfl, hb2⟩))
        go_ret2
        exact ⟨rfl, (HBR.out.trans (hb2.mono HBR.out.size)).alloc (Nat.le_trans HBR.out.size hb2.size) _⟩
      · have hV2 : 0 < V - max (Q - P) 0 := by omega
        have hV3 : V - max (Q - P) 0 ≤ 9223372036854775807 := by omega
        have HST := Lib.hid (show D + 1 = f / 1440 + ((k + 1 : Nat) : Int) ∧ V - max (Q - P) 0 = n - tot (dlist op hol f 1073741824 (f / 1440) (k + 1)) from ⟨by omega, by rw [htot]; have := H.out.2.1; omega⟩)
        have HTD := Lib.hid htd; have HBX := Lib.hid hBx; have HBD := Lib.hid H.out.2.2
        clear htd hBx hBr hcal hP hQ hinv htot H hDk HA HE
        go_wp2_with (first | (refine wpList_load_row rfl 27 (.tmp 3) rfl w.heap.size rfl 27 cs (0, 0) _ HBX.out Tryd.underlying27 rfl (size27 HS.out) ?_) | (go_at_call 44; refine HTD.out.mono ?_; rintro e w2 ⟨rfl, hb2⟩))
        go_roundw
        case rel => exact ⟨k + 1, D + 1, V - max (Q - P) 0, by omega, by omega, hV2, hV3, rfl, rfl, Lib.hid ⟨HST.out.1, HST.out.2, (HBD.out.trans (hb2.mono HBD.out.size)).alloc (Nat.le_trans HBD.out.size hb2.size) _⟩⟩
        case measure => simp [intOf]; omega
    · have hmiss := search_miss (hol := hol) (n := n) HO.out hf hft (by omega : (1073741824 : Int) ≤ 1073741824) k (by have := H.out.1; omega) (by have := H.out.2.1; omega)
      have hAv : A = 0 := by rw [HA.out, hmiss]; rfl
      have hEv : E = 2 := by rw [HE.out, hmiss]; rfl
      subst hAv hEv
      clear hmiss HA HE
      go_wp2
      go_ret2
      exact ⟨rfl, HW1.out.trans (H.out.2.2.mono HW1.out.size)⟩

set_option maxRecDepth 100000 in
set_option maxHeartbeats 4000000 in
theorem rafter_any (cs : Array Value) (op : List (Int × Int)) (hol : List Int) (f n : Int) (w : World) (h : Cal (fun k => k < w.heap.size) w cs op hol) (hf : I64 f) (hn : I64 n) (A E : Int) (hA : A = aV op hol f n) (hE : E = aE op hol f n) :
    Calls Tryd.prog 18 #[.agg cs, .int .i64 f, .int .i64 n] w fun e w' => e = .returned (.tuple #[.int .i64 A, .int .i64 E]) ∧ Below w.heap.size w w' := by
  have hW : Below w.heap.size w (w.alloc (.cells cs 27)) := ball (Below.refl _ _) _
  have hbox := heap_alloc_new w (.cells cs 27)
  obtain ⟨R, hR⟩ : ∃ R, R = chkC op hol := ⟨_, rfl⟩
  have hc := rccheck_any cs op hol _ (h.on hW) R hR
  rcases okR_split op hol f 1073741824 with ⟨hok, hc0, h1, h2, _⟩ | ⟨hok, hbad⟩
  · rcases Int.lt_trichotomy n 0 with hneg | rfl | hpos
    · obtain ⟨e1, e2⟩ := aft_bad (op := op) (hol := hol) (f := f) (n := n) (.inr hneg)
      obtain rfl : A = 0 := by rw [hA, e1]
      obtain rfl : E = 1 := by rw [hE, e2]
      obtain rfl : R = 0 := by rw [hR, hc0]
      have HC := Lib.hid hc; have HB := Lib.hid hbox; have HS := Lib.hid h.size; have HW := Lib.hid hW
      have d2 : ¬ (1073741824 < f) := by omega
      have d1 : ¬ (f < 0) := by omega
      clear hc hbox hW hE hA hR h hf hn hok hc0 e1 e2
      generalize hWW : w.alloc (.cells cs 27) = W at *
      go_enter Tryd.func18, Tryd.ntmps18
      go_wp2_with (first | (refine wpList_load_row rfl 27 (.tmp 3) rfl w.heap.size rfl 27 cs (0, 0) _ HB.out Tryd.underlying27 rfl (size27 HS.out) ?_) | (go_at_call 20; refine HC.out.mono ?_; rintro e w1 ⟨rfl, hb1⟩))
      go_ret2
      exact ⟨rfl, HW.out.trans (hb1.mono HW.out.size)⟩
    · obtain ⟨e1, e2⟩ := aft_zero hok
      obtain rfl : A = f := by rw [hA, e1]
      obtain rfl : E = 0 := by rw [hE, e2]
      obtain rfl : R = 0 := by rw [hR, hc0]
      have HC := Lib.hid hc; have HB := Lib.hid hbox; have HS := Lib.hid h.size; have HW := Lib.hid hW
      have d2 : ¬ (1073741824 < A) := by omega
      have d1 : ¬ (A < 0) := by omega
      clear hc hbox hW hE hA hR h hf hn hok hc0 e1 e2
      generalize hWW : w.alloc (.cells cs 27) = W at *
      go_enter Tryd.func18, Tryd.ntmps18
      go_wp2_with (first | (refine wpList_load_row rfl 27 (.tmp 3) rfl w.heap.size rfl 27 cs (0, 0) _ HB.out Tryd.underlying27 rfl (size27 HS.out) ?_) | (go_at_call 20; refine HC.out.mono ?_; rintro e w1 ⟨rfl, hb1⟩))
      go_ret2
      exact ⟨rfl, HW.out.trans (hb1.mono HW.out.size)⟩
    · obtain ⟨e1, e2⟩ := aft_pos hok hpos
      exact rafter_pos cs op hol f n w h hc0 h1 h2 hn hpos A E (by rw [hA, e1]) (by rw [hE, e2])
  · obtain ⟨e1, e2⟩ := aft_bad (op := op) (hol := hol) (f := f) (n := n) (.inl hok)
    obtain rfl : A = 0 := by rw [hA, e1]
    obtain rfl : E = 1 := by rw [hE, e2]
    rw [← hR] at hbad
    have HC := Lib.hid hc; have HB := Lib.hid hbox; have HS := Lib.hid h.size; have HW := Lib.hid hW
    have hbad2 : R = 1 ∨ (R = 0 ∧ f < 0) ∨ (R = 0 ∧ 0 ≤ f ∧ 1073741824 < f) := by
      rcases hbad with h | h | h | h
      · exact .inl h
      · exact .inr (.inl h)
      · exact .inr (.inr h)
      · omega
    clear hc hbox hW hE hA hR h hf hn hok e1 e2 hbad
    generalize hWW : w.alloc (.cells cs 27) = W at *
    rcases hbad2 with rfl | ⟨rfl, c1⟩ | ⟨rfl, c1, c2⟩
    all_goals
      go_enter Tryd.func18, Tryd.ntmps18
      go_wp2_with (first | (refine wpList_load_row rfl 27 (.tmp 3) rfl w.heap.size rfl 27 cs (0, 0) _ HB.out Tryd.underlying27 rfl (size27 HS.out) ?_) | (go_at_call 20; refine HC.out.mono ?_; rintro e w1 ⟨rfl, hb1⟩))
      go_ret2
      exact ⟨rfl, HW.out.trans (hb1.mono HW.out.size)⟩
end Go.Proofs.YtciopemodfpecaaDoor
