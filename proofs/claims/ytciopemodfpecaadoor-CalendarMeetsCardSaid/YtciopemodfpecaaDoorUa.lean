/-
  Walks: Grow and Concat of the library, Union.
-/
import Derived.Test.YtciopemodfpecaaDoorNb
import Derived.Lib.AppendZeros
import Derived.Laws.MakeOwn
import Derived.Deep.AppendSrc
import Derived.Deep.Upon
namespace Go.Proofs.YtciopemodfpecaaDoor
open Go.RowKit
set_option linter.unusedVariables false
set_option linter.unusedSimpArgs false

/-- append(v, u..): the elements of a known list. -/
theorem ApT.app {F : Nat → Prop} {w wr : World} {l b : List (Int × Int)} {v u : Value} (h : ApT w l v wr) (hu : Sl F wr u b) (hn : l.length + b.length ≤ 2000) :
    ∃ v' w', (Builtin.append_ #[30, 30] 30 #[v, u]).run Tryd.prog wr = .ok v' w' ∧ ApT w (l ++ b) v' w' := by
  obtain ⟨i0, hi, hz0, hz1, hz2⟩ := info_parts Tryd.info23
  obtain ⟨hbl, hrg, a, cap, rfl, hcap, hp⟩ := hu
  cases a with
  | none =>
    have h0 : b.length = 0 := by
      rcases Nat.eq_zero_or_pos b.length with h | h
      · exact h
      · obtain ⟨g, off, e, _⟩ := hp h
        cases e
    have hb : b = [] := List.length_eq_zero_iff.1 h0
    subst hb
    obtain ⟨sa, sc, rfl, hle⟩ := h.shape
    refine ⟨.slice sa l.length sc, wr, ?_, ?_⟩
    · have hs : Src Tryd.prog i0.size 30 (.slice none 0 cap) 0 [] wr := Src.ofNil wr Tryd.underlying30 cap
      exact run_append_nothing wr 30 30 30 23 i0 Tryd.underlying30 hi sa _ sc hle _ hs
    · rw [List.append_nil]
      exact h
  | some ad =>
    have hnews : ∀ j x, (cells b)[j]? = some x → wr.cell? (ad.add j) = some x := by
      intro j x hj
      have hjl : j < (cells b).length := (List.getElem?_eq_some_iff.1 hj).1
      rw [cells_length] at hjl
      obtain ⟨g, off, e, _, hc⟩ := hp (by omega)
      cases e
      rw [Addr.add_lit]
      have hk : j / 2 < b.length := by omega
      have hget : b[j / 2]? = some b[j / 2] := List.getElem?_eq_getElem hk
      obtain ⟨c0, c1⟩ := hc _ _ hget
      obtain ⟨f0, f1⟩ := cells_get b _ _ hget
      rcases Nat.mod_two_eq_zero_or_one j with hm0 | hm0
      · have e : j / 2 * 2 = j := by omega
        rw [e] at c0 f0
        rw [c0, ← hj, f0]
      · have e : j / 2 * 2 + 1 = j := by omega
        have e' : off + j / 2 * 2 + 1 = off + j := by omega
        rw [e] at f1
        rw [e'] at c1
        rw [c1, ← hj, f1]
    obtain ⟨v', w', hr, h2, h3, _⟩ := run_append_own (P := Tryd.prog) wr w.heap.size 30 30 23 i0 _ 2 16 Tryd.underlying30 hi hz0 hz1 hz2 rfl (by decide) v l.length (cells l) h.own ad b.length cap (cells b)
      (cells_length b) hnews (cells_one _) (by unfold maxLen; omega) (by omega) h.below.size
    refine ⟨v', w', hr, ?_, h.below.grown h3 h.below.size (fun k hk => (h.own.lt k hk).1)⟩
    rw [List.length_append, cells_append]; exact h2

set_option maxRecDepth 100000 in
set_option maxHeartbeats 4000000 in
theorem grow_any (n : Nat) (w : World) (h : n ≤ 2000) :
    Calls Tryd.prog 69 #[.slice none 0 0, .int .i64 (n : Int)] w fun e w' => ∃ v, e = .returned v ∧ ApT w [] v w' := by
  by_cases h0 : n = 0
  · subst h0
    go_enter Tryd.func69, Tryd.ntmps69
    go_wp2
    go_ret
    exact ⟨_, rfl, ApT.nil w⟩
  · obtain ⟨i0, hi, hz0, hz1, hz2⟩ := info_parts Tryd.info23
    have hr := Lib.run_append_nil_zeros (P := Tryd.prog) w 30 3 30 23 i0 _ .i64 .i64 Tryd.underlying30 Tryd.underlying3 hi hz0 n (by omega) (by omega) (by omega) (by rw [hz2]; omega)
    have hge := grownCap_ge w n 0 23
    have hle := grownCap_le_maxLen w n 0 23 (by unfold maxLen; omega)
    generalize grownCap w n 0 23 = c at *
    go_enter Tryd.func69, Tryd.ntmps69
    go_wp2_with (at_builtin; refine Lib.wpList_append_run _ rfl _ _ _ _ rfl _ _ rfl rfl _ _ hr ?_)
    go_ret
    refine ⟨_, rfl, ApT.drew ⟨World.ownsRow_made w _ c (Nat.le_refl _) hle ?_, ball (Below.refl _ _) _⟩⟩
    simp only [Array.size_append, size_zeroCells]
    simp [Value.cells]
    omega

/-- v holds the lists ps. -/
def Parts (w : World) (v : Value) (ps : List (List (Int × Int))) : Prop :=
  ∃ g cap, v = .slice (some ⟨g, 0, none⟩) ps.length cap ∧ ps.length ≤ cap ∧ ps.length ≤ 1000 ∧ g < w.heap.size ∧ ∀ (j : Nat) (p : List (Int × Int)), ps[j]? = some p → ∃ u, w.cell? ⟨g, j, none⟩ = some u ∧ Sl (fun k => k < w.heap.size) w u p

def total (ps : List (List (Int × Int))) : Nat := ps.flatten.length
theorem flatten_take (ps : List (List (Int × Int))) (k : Nat) (h : k < ps.length) : (ps.take (k + 1)).flatten = (ps.take k).flatten ++ ps[k] := by
  rw [List.take_succ_eq_append_getElem h, List.flatten_append]
  simp only [List.flatten_cons, List.flatten_nil, List.append_nil]
theorem total_take (ps : List (List (Int × Int))) (k : Nat) (h : k < ps.length) : total (ps.take (k + 1)) = total (ps.take k) + ps[k].length := by
  unfold total
  rw [flatten_take ps k h, List.length_append]
theorem total_le (ps : List (List (Int × Int))) (k : Nat) : total (ps.take k) ≤ total ps := by
  have := congrArg List.length (List.flatten_append (L₁ := ps.take k) (L₂ := ps.drop k))
  rw [List.take_append_drop, List.length_append] at this
  unfold total
  omega

set_option maxHeartbeats 1000000 in
theorem concat_any (ps : List (List (Int × Int))) (v : Value) (w : World) (hp : Parts w v ps) (ht : total ps ≤ 2000) :
    Calls Tryd.prog 54 #[v] w fun e w' => ∃ u, e = .returned u ∧ ApT w ps.flatten u w' := by
  obtain ⟨g, cap, rfl, hcap, hn, hg, hcell⟩ := hp
  have HC := Lib.hid hcell; clear hcell
  go_enter Tryd.func54, Tryd.ntmps54
  go_wp2
  go_loop [3, 11] (fun t i => ∃ k : Nat, k ≤ ps.length ∧ i = .int .i64 k ∧ t = .int .i64 (total (ps.take k))) (fun _ i => ps.length - (intOf i).toNat)
  case atStart => exact ⟨0, by omega, rfl, rfl⟩
  case round =>
    obtain ⟨k, hk, rfl, rfl⟩ := hrel
    by_cases hlt : k < ps.length
    · obtain ⟨u, hu, hb⟩ := HC.out k ps[k] (List.getElem?_eq_getElem hlt)
      obtain ⟨hbl, _, a, c, rfl, hc1, _⟩ := hb
      have e1 := total_take ps k hlt
      have e2 := total_le ps (k + 1)
      have hrel : Value.int .i64 ((total (ps.take k) : Int) + (ps[k].length : Int)) = .int .i64 (total (ps.take (k + 1)) : Int) := by rw [e1]; simp
      have Hrel := Lib.hid hrel; clear hrel
      generalize ps[k].length = m at *
      generalize total (ps.take k) = t0 at *
      generalize ht1 : total (ps.take (k + 1)) = t1 at *
      have e4 : ¬ ((t0 : Int) + (m : Int) < 0) := by omega
      have e5 : (t0 : Int) + (m : Int) ≤ 140737488355328 := by omega
      go_wp2
      go_round
      case rel => exact ⟨k + 1, by omega, by go_num, by rw [ht1]; exact Hrel.out⟩
      case measure => simp [intOf]; omega
    · have hk' : k = ps.length := by omega
      subst hk'
      rw [List.take_length]
      have hcall := fun w' => grow_any (total ps) w' ht
      have Hg := Lib.hid hcall; clear hcall
      go_wp2_with (go_at_call 69; refine (Hg.out _).mono ?_; rintro e w1 ⟨v1, rfl, ha1⟩; have HA1 := Lib.hid ha1; clear ha1)
      go_loopw [6, 27] (fun u i wr => ∃ k : Nat, k ≤ ps.length ∧ i = .int .i64 k ∧ Hid (ApT w (ps.take k).flatten u wr)) (fun _ i _ => ps.length - (intOf i).toNat)
      case atStart => exact ⟨0, by omega, rfl, by simpa using HA1⟩
      case round =>
        obtain ⟨k, hk, rfl, HA⟩ := hrel
        by_cases hlt : k < ps.length
        · obtain ⟨u, hu, hb⟩ := HC.out k ps[k] (List.getElem?_eq_getElem hlt)
          have hu2 : wr.cell? ⟨g, k, none⟩ = some u := (HA.out.below.cell (p := ⟨g, k, none⟩) hg).trans hu
          have hb2 := hb.on HA.out.below
          have hln : (ps.take k).flatten.length + ps[k].length ≤ 2000 := by
            have e1 := total_take ps k hlt
            have e2 := total_le ps (k + 1)
            unfold total at e1 e2 ht
            omega
          obtain ⟨u', w2, hr, hA2⟩ := HA.out.app hb2 hln
          rw [← flatten_take ps k hlt] at hA2
          have HR := Lib.hid hr; have HA2 := Lib.hid hA2
          clear hb hb2 hr hA2 hu HA
          go_wp2_with (at_builtin; refine wp_appt rfl rfl rfl (.tmp 31) (.tmp 32) rfl rfl rfl HR.out ?_)
          go_roundw
          case rel => exact ⟨k + 1, by omega, by go_num, HA2⟩
          case measure => simp [intOf]; omega
        · have hk' : k = ps.length := by omega
          subst hk'
          rw [List.take_length] at HA
          go_wp2
          go_ret
          exact ⟨_, rfl, HA.out⟩

set_option maxRecDepth 100000 in
set_option maxHeartbeats 1000000 in
theorem union_any (a b : List (Int × Int)) (oa ob : Option Addr) (ca cb : Nat) (w : World) (ha : Sl (fun k => k < w.heap.size) w (.slice oa a.length ca) a) (hb : Sl (fun k => k < w.heap.size) w (.slice ob b.length cb) b) (hl : a.length + b.length ≤ 1900) :
    Calls Tryd.prog 35 #[.slice oa a.length ca, .slice ob b.length cb] w fun e w' => ∃ v, e = .returned v ∧ ApT w (norm (a ++ b)) v w' := by
  have hP : Parts (w.alloc (.cells #[.slice oa a.length ca, .slice ob b.length cb] 30)) (.slice (some ⟨w.heap.size, 0, none⟩) 2 2) [a, b] := by
    refine ⟨w.heap.size, 2, rfl, by simp, by simp, by simp, fun j p hj => ?_⟩
    have hbw : Below w.heap.size w (w.alloc (.cells #[.slice oa a.length ca, .slice ob b.length cb] 30)) := ball (Below.refl _ _) _
    rw [cell_of_row _ w.heap.size j _ 30 (0, 0) (heap_alloc_new w _)]
    match j, hj with
    | 0, hj =>
      simp at hj
      subst hj
      exact ⟨_, rfl, ha.on hbw⟩
    | 1, hj =>
      simp at hj
      subst hj
      exact ⟨_, rfl, hb.on hbw⟩
    | j + 2, hj => simp at hj
  have hcon := concat_any [a, b] _ _ hP (by simp [total]; omega)
  rw [show [a, b].flatten = a ++ b from by simp] at hcon
  have hnm : ∀ v w1, ApT (w.alloc (.cells #[.slice oa a.length ca, .slice ob b.length cb] 30)) (a ++ b) v w1 → Calls Tryd.prog 41 #[v] w1 fun e w' => ∃ v', e = .returned v' ∧ ApT w1 (norm (a ++ b)) v' w' := by
    intro v w1 h
    have hsl := h.sl2 (fun s hs => by
      rcases List.mem_append.1 hs with h | h
      · exact ha.2.1 s h
      · exact hb.2.1 s h) (by simp; omega)
    obtain ⟨sa, sc, rfl⟩ := hsl.shape
    exact normal_any (a ++ b) sa sc w1 hsl (by simp; omega)
  have HC := Lib.hid hcon; have HN := Lib.hid hnm
  clear hcon hnm hP ha hb
  go_enter Tryd.func35, Tryd.ntmps35
  go_wp2_with fail
  refine HC.out.mono ?_
  rintro e w1 ⟨v1, rfl, h1⟩
  have hb1 : Below w.heap.size w w1 := (ball (Below.refl _ w) _).trans (h1.below.mono (by simp))
  have H1 := Lib.hid (HN.out v1 w1 h1); have HB1 := Lib.hid hb1
  clear h1 hb1 HC HN
  go_wp2_with fail
  refine H1.out.mono ?_
  rintro e w2 ⟨v2, rfl, h2⟩
  have H2 := Lib.hid (h2.weaken HB1.out)
  clear h2 H1 HB1
  go_wp2
  go_ret
  exact ⟨_, rfl, H2.out⟩
end Go.Proofs.YtciopemodfpecaaDoor
