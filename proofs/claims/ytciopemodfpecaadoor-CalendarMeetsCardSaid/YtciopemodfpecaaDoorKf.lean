/-
  Walks: the reference's Open, Working, After, with their errors.
-/
import Derived.Test.YtciopemodfpecaaDoorKe
namespace Go.Proofs.YtciopemodfpecaaDoor
open Go.RowKit
set_option linter.unusedVariables false
set_option linter.unusedSimpArgs false

abbrev SW (w : World) (v : Value) (l : List (Int × Int)) : Prop := Sl (fun k => k < w.heap.size) w v l
theorem ApT.out {w w' : World} {l : List (Int × Int)} {v : Value} (h : ApT w l v w') (hn : Nr (-1) l) (hl : l.length ≤ 1000000) : Below w.heap.size w w' ∧ SW w' v l := ⟨h.below, h.sl2 (nr_i64 hn) (by omega)⟩

theorem okR_split (op : List (Int × Int)) (hol : List Int) (f t : Int) : (okR op hol f t = true ∧ chkC op hol = 0 ∧ 0 ≤ f ∧ f ≤ t ∧ t ≤ 1073741824) ∨ (okR op hol f t = false ∧ (chkC op hol = 1 ∨ (chkC op hol = 0 ∧ f < 0) ∨ (chkC op hol = 0 ∧ 0 ≤ f ∧ t < f) ∨ (chkC op hol = 0 ∧ 0 ≤ f ∧ f ≤ t ∧ 1073741824 < t))) := by
  rcases chkC_two op hol with h | h
  · obtain ⟨a, b⟩ := (chkC_zero op hol).1 h
    unfold okR
    rw [a, b]
    by_cases c1 : 0 ≤ f
    · by_cases c2 : f ≤ t
      · by_cases c3 : t ≤ 1073741824
        · exact .inl ⟨by simp [c1, c2, c3], h, c1, c2, c3⟩
        · exact .inr ⟨by simp [c3], .inr (.inr (.inr ⟨h, c1, c2, by omega⟩))⟩
      · exact .inr ⟨by simp [c2], .inr (.inr (.inl ⟨h, c1, by omega⟩))⟩
    · exact .inr ⟨by simp [c1], .inr (.inl ⟨h, by omega⟩)⟩
  · refine .inr ⟨?_, .inl h⟩
    unfold okR
    have : (opB op && holB (-1) hol) = false := by
      cases hc : (opB op && holB (-1) hol) with
      | false => rfl
      | true => unfold chkC at h; rw [hc] at h; simp at h
    rw [this]; rfl

set_option maxRecDepth 100000 in
set_option maxHeartbeats 4000000 in
theorem ropen_any (cs : Array Value) (op : List (Int × Int)) (hol : List Int) (f t : Int) (w : World) (h : Cal (fun k => k < w.heap.size) w cs op hol) (hf : I64 f) (ht : I64 t) (E : Int) (L : List (Int × Int)) (hE : E = eR op hol f t) (hL : L = oV op hol f t) :
    Calls Tryd.prog 14 #[.agg cs, .int .i64 f, .int .i64 t] w fun e w' => ∃ v, e = .returned (.tuple #[v, .int .i64 E]) ∧ Below w.heap.size w w' ∧ SW w' v L := by
  rcases okR_split op hol f t with ⟨hok, hc, h1, h2, h3⟩ | ⟨hok, hbad⟩
  · have hE0 : E = 0 := by rw [hE]; unfold eR; rw [if_pos hok]
    have hL0 : L = wlist op hol f t := by rw [hL]; unfold oV; rw [if_pos hok]
    subst hE0 hL0
    obtain ⟨hob, hhb⟩ := (chkC_zero op hol).1 hc
    have ho : opOk op := ⟨h.len, (opB_iff op).1 hob⟩
    exact (ropen_ok cs op hol f t w h hc h1 h2 h3).mono fun e w' ⟨v, he, ha⟩ => ⟨v, he, ha.out (wlist_ok ho h1 h2 h3).1 (by have := wlist_len op hol f t h1 h3; omega)⟩
  · have hE0 : E = 1 := by rw [hE]; unfold eR; rw [if_neg (by rw [hok]; simp)]
    have hL0 : L = [] := by rw [hL]; unfold oV; rw [if_neg (by rw [hok]; simp)]
    subst hE0 hL0
    have hW : Below w.heap.size w (w.alloc (.cells cs 27)) := ball (Below.refl _ _) _
    have hbox := heap_alloc_new w (.cells cs 27)
    obtain ⟨R, hR⟩ : ∃ R, R = chkC op hol := ⟨_, rfl⟩
    have hc := rccheck_any cs op hol _ (h.on hW) R hR
    rw [← hR] at hbad
    have HC := Lib.hid hc; have HB := Lib.hid hbox; have HS := Lib.hid h.size; have HW := Lib.hid hW
    clear hc hbox hW hE hL hR h hf ht hok
    generalize hWW : w.alloc (.cells cs 27) = W at *
    rcases hbad with rfl | ⟨rfl, c1⟩ | ⟨rfl, c1, c2⟩ | ⟨rfl, c1, c2, c3⟩
    all_goals
      go_enter Tryd.func14, Tryd.ntmps14
      go_wp2_with (first | (refine wpList_load_row rfl 27 (.tmp 3) rfl w.heap.size rfl 27 cs (0, 0) _ HB.out Tryd.underlying27 rfl (size27 HS.out) ?_) | (go_at_call 20; refine HC.out.mono ?_; rintro e w1 ⟨rfl, hb1⟩))
      go_ret2
      exact ⟨_, rfl, HW.out.trans (hb1.mono HW.out.size), sl_nil _ _⟩

theorem tot_take_snoc2 {l : List (Int × Int)} {k : Nat} {s : Int × Int} (h : l[k]? = some s) : tot (l.take (k + 1)) = tot (l.take k) + (s.2 - s.1) := by
  rw [List.take_add_one, h, tot_append]
  simp [tot]
theorem tot_take_range {l : List (Int × Int)} (h : Nr (-1) l) (k : Nat) : 0 ≤ tot (l.take k) ∧ tot (l.take k) ≤ 1073741824 := by
  have h2 : Nr (-1) (l.take k ++ l.drop k) := by rw [List.take_append_drop]; exact h
  exact tot_range ((nr_append _ _ _).1 h2).1
theorem oV_nr {op : List (Int × Int)} (hlen : op.length = 7) (hol : List Int) (f t : Int) : Nr (-1) (oV op hol f t) ∧ tot (oV op hol f t) = wV op hol f t ∧ (oV op hol f t).length ≤ 800000 := by
  unfold oV wV
  by_cases hc : okR op hol f t = true
  · rw [if_pos hc, if_pos hc]
    obtain ⟨ho, hh, h1, h2, h3⟩ := (okR_iff hlen).1 hc
    exact ⟨(wlist_ok ho h1 h2 h3).1, rfl, wlist_len op hol f t h1 h3⟩
  · rw [if_neg hc, if_neg hc]
    exact ⟨trivial, rfl, by simp⟩

set_option maxRecDepth 100000 in
set_option maxHeartbeats 4000000 in
theorem rworking_any (cs : Array Value) (op : List (Int × Int)) (hol : List Int) (f t : Int) (w : World) (h : Cal (fun k => k < w.heap.size) w cs op hol) (hf : I64 f) (ht : I64 t) (E N : Int) (hE : E = eR op hol f t) (hN : N = wV op hol f t) :
    Calls Tryd.prog 16 #[.agg cs, .int .i64 f, .int .i64 t] w fun e w' => e = .returned (.tuple #[.int .i64 N, .int .i64 E]) ∧ Below w.heap.size w w' := by
  obtain ⟨L, hL⟩ : ∃ L, L = oV op hol f t := ⟨_, rfl⟩
  obtain ⟨hnr, htot, hlen⟩ := oV_nr h.len hol f t
  rw [← hL] at hnr htot hlen
  rw [← hN] at htot
  have hW : Below w.heap.size w (w.alloc (.cells cs 27)) := ball (Below.refl _ _) _
  have hbox := heap_alloc_new w (.cells cs 27)
  have hc := ropen_any cs op hol f t _ (h.on hW) hf ht E L hE hL
  have hE2 : E = 0 ∨ E = 1 := by rw [hE]; unfold eR; split <;> simp
  have HC := Lib.hid hc; have HB := Lib.hid hbox; have HS := Lib.hid h.size; have HW := Lib.hid hW; have HNR := Lib.hid hnr; have HT := Lib.hid htot; have HLL := Lib.hid hlen
  clear hc hbox hW hE hN hL h hf ht hnr htot hlen
  generalize hWW : w.alloc (.cells cs 27) = W at *
  go_enter Tryd.func16, Tryd.ntmps16
  go_wp2_with (first | (refine wpList_load_row rfl 27 (.tmp 3) rfl w.heap.size rfl 27 cs (0, 0) _ HB.out Tryd.underlying27 rfl (size27 HS.out) ?_) | (go_at_call 14; refine HC.out.mono ?_; rintro e w1 ⟨v, rfl, hb1, hs1⟩; obtain ⟨oa, ca, rfl⟩ := hs1.shape))
  have HW1 := Lib.hid (HW.out.trans (hb1.mono HW.out.size))
  have HS1 := Lib.hid hs1
  obtain ⟨n, hn⟩ : ∃ n, n = L.length := ⟨_, rfl⟩
  have HN := Lib.hid hn
  have hnb : n ≤ 800000 := by have := HLL.out; omega
  rw [← hn] at HS1 ⊢
  clear hs1 hb1 hn HC HB HW hWW
  go_loopw [10, 11] (fun s i wr => ∃ (k : Nat) (V : Int), k ≤ n ∧ 0 ≤ V ∧ V ≤ 1073741824 ∧ s = .int .i64 V ∧ i = .int .i64 (k : Int) ∧ Hid (V = tot (L.take k) ∧ Below w1.heap.size w1 wr)) (fun _ i _ => n - (intOf i).toNat)
  case atStart => exact ⟨0, 0, by omega, by omega, by omega, rfl, rfl, Lib.hid ⟨by simp [tot], Below.refl _ _⟩⟩
  case round =>
    obtain ⟨k, V, hk, hV0, hV1, rfl, rfl, H⟩ := hrel
    by_cases hlt : k < n
    · have hlt2 : (k : Int) < (n : Int) := by omega
      obtain ⟨g, off, x, y, rfl, hg, hx, _, _, c0, c1, hcap⟩ := HS1.out.pick k (by have := HN.out; omega)
      have e0 : wr.cell? ⟨g, off + k * 2, none⟩ = some (.int .i64 x) := (H.out.2.cell (p := ⟨g, off + k * 2, none⟩) hg).trans c0
      have e1 : wr.cell? ⟨g, off + k * 2 + 1, none⟩ = some (.int .i64 y) := (H.out.2.cell (p := ⟨g, off + k * 2 + 1, none⟩) hg).trans c1
      have hm := nr_of L (-1) HNR.out (x, y) (List.mem_of_getElem? hx)
      obtain ⟨m1, m2, m3⟩ := hm
      simp only at m1 m2 m3
      have hst := tot_take_snoc2 hx
      rw [← H.out.1] at hst
      have hrg := tot_take_range HNR.out (k + 1)
      rw [hst] at hrg
      simp only at hst hrg
      obtain ⟨g1, g2⟩ := hrg
      have HST := Lib.hid (show V + y - x = tot (L.take (k + 1)) by omega)
      clear hst hx c0 c1
      go_wp2
      go_quiet (fail)
      have HD : Hid (Below w1.heap.size w1 (wr.drewN nq)) := Lib.hid (bdrewN H.out.2 nq)
      clear H e0 e1
      generalize wr.drewN nq = w7 at *
      go_wp2
      go_roundw
      case rel => exact ⟨k + 1, V + y - x, by omega, by omega, by omega, rfl, by go_num, Lib.hid ⟨HST.out, HD.out⟩⟩
      case measure => simp [intOf]; omega
    · obtain rfl : k = n := by omega
      have hlt2 : ¬ ((k : Int) < (k : Int)) := by omega
      have hVN : V = N := by rw [H.out.1, List.take_of_length_le (by rw [HN.out]; exact Nat.le_refl _)]; exact HT.out
      subst hVN
      clear hlt
      go_wp2
      go_ret2
      exact ⟨rfl, HW1.out.trans (H.out.2.mono HW1.out.size)⟩
end Go.Proofs.YtciopemodfpecaaDoor
