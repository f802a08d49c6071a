/-
  Walks: the reference's list of working minutes.
-/
import Derived.Test.YtciopemodfpecaaDoorKd
import Derived.Test.YtciopemodfpecaaDoorIb
namespace Go.Proofs.YtciopemodfpecaaDoor
open Go.RowKit
set_option linter.unusedVariables false
set_option linter.unusedSimpArgs false

theorem dstep_hit {op : List (Int × Int)} {hol : List Int} {f t d P Q : Int} {out : List (Int × Int)} (hP : P = if d ∈ hol then 0 else (tday op d f t).1) (hQ : Q = if d ∈ hol then 0 else (tday op d f t).2) (h : P < Q) : dstep op hol f t d out = pc out P Q := by
  unfold dstep
  by_cases c : d ∈ hol
  · rw [if_pos c] at hP hQ; omega
  · rw [if_neg c] at hP hQ ⊢
    rw [← hP, ← hQ, if_pos h]
theorem dstep_miss {op : List (Int × Int)} {hol : List Int} {f t d P Q : Int} {out : List (Int × Int)} (hP : P = if d ∈ hol then 0 else (tday op d f t).1) (hQ : Q = if d ∈ hol then 0 else (tday op d f t).2) (h : ¬ P < Q) : dstep op hol f t d out = out := by
  unfold dstep
  by_cases c : d ∈ hol
  · rw [if_pos c]
  · rw [if_neg c] at hP hQ ⊢
    rw [← hP, ← hQ, if_neg h]
theorem tday_range {op : List (Int × Int)} {hol : List Int} {f t d P Q : Int} (ho : opOk op) (hd : 0 ≤ d) (hf : 0 ≤ f) (ht : t ≤ 1073741824) (hP : P = if d ∈ hol then 0 else (tday op d f t).1) (hQ : Q = if d ∈ hol then 0 else (tday op d f t).2) : 0 ≤ P ∧ Q ≤ 1073741824 ∧ True := by
  have hs := dsp_ok ho d
  have e1 : (tday op d f t).1 = max (1440 * d + (dsp op d).1) f := rfl
  have e2 : (tday op d f t).2 = min (1440 * d + (dsp op d).2) t := rfl
  split at hP
  · rename_i c; rw [if_pos c] at hQ; exact ⟨by omega, by omega, trivial⟩
  · rename_i c; rw [if_neg c] at hQ; exact ⟨by omega, by omega, trivial⟩
theorem dlist_len (op : List (Int × Int)) (hol : List Int) (f t d : Int) (n : Nat) : (dlist op hol f t d n).length ≤ n := by
  induction n with
  | zero => simp [dlist]
  | succ n ih =>
    show (dstep op hol f t (d + n) (dlist op hol f t d n)).length ≤ n + 1
    unfold dstep
    split
    · omega
    · split
      · have := pc_length (dlist op hol f t d n) (tday op (d + n) f t).1 (tday op (d + n) f t).2; omega
      · omega
theorem wlist_len (op : List (Int × Int)) (hol : List Int) (f t : Int) (hf : 0 ≤ f) (ht : t ≤ 1073741824) : (wlist op hol f t).length ≤ 800000 := by
  have := dlist_len op hol f t (f / 1440) (t / 1440 + 1 - f / 1440).toNat
  unfold wlist; omega

set_option maxRecDepth 100000 in
set_option maxHeartbeats 8000000 in
theorem ropen_ok (cs : Array Value) (op : List (Int × Int)) (hol : List Int) (f t : Int) (w : World) (h : Cal (fun k => k < w.heap.size) w cs op hol) (hc0 : chkC op hol = 0) (hf : 0 ≤ f) (hft : f ≤ t) (ht : t ≤ 1073741824) :
    Calls Tryd.prog 14 #[.agg cs, .int .i64 f, .int .i64 t] w fun e w' => ∃ v, e = .returned (.tuple #[v, .int .i64 0]) ∧ ApT w (wlist op hol f t) v w' := by
  obtain ⟨hob, hhb⟩ := (chkC_zero op hol).1 hc0
  have ho : opOk op := ⟨h.len, (opB_iff op).1 hob⟩
  have hW : Below w.heap.size w (w.alloc (.cells cs 27)) := ball (Below.refl _ _) _
  have hbox := heap_alloc_new w (.cells cs 27)
  have hc := rccheck_any cs op hol _ (h.on hW) 0 hc0.symm
  have HC := Lib.hid hc; have HB := Lib.hid hbox; have HS := Lib.hid h.size; have HW := Lib.hid hW; have HO := Lib.hid ho; have HHB := Lib.hid hhb; have HCAL := Lib.hid h
  have d1 : decide (f < 0) = false := decide_eq_false (by omega)
  have d2 : decide (t < f) = false := decide_eq_false (by omega)
  have d3 : decide (1073741824 < t) = false := decide_eq_false (by omega)
  have hsB : w.heap.size < (w.alloc (.cells cs 27)).heap.size := by simp
  clear hc hW hbox ho hob hhb hc0 h
  generalize hWW : w.alloc (.cells cs 27) = W at *
  go_enter Tryd.func14, Tryd.ntmps14
  go_wp2_with (first | (refine wpList_load_row rfl 27 (.tmp 3) rfl w.heap.size rfl 27 cs (0, 0) _ HB.out Tryd.underlying27 rfl (size27 HS.out) ?_) | (go_at_call 20; refine HC.out.mono ?_; rintro e w1 ⟨rfl, hb1⟩))
  have HB1 := Lib.hid ((hb1.block w.heap.size hsB).trans HB.out)
  have HW1 := Lib.hid (HW.out.trans (hb1.mono HW.out.size))
  have hsB1 : w.heap.size < w1.heap.size := Nat.lt_of_lt_of_le hsB hb1.size
  clear hb1 HB HW HC hWW
  go_loopw [8, 9] (fun v s wr => ∃ (k : Nat) (D : Int), 0 ≤ D ∧ D ≤ 745655 ∧ s = .int .i64 D ∧ Hid (D = f / 1440 + (k : Int) ∧ ApT w1 (dlist op hol f t (f / 1440) k) v wr)) (fun _ s _ => 745700 - (intOf s).toNat)
  case atStart => exact ⟨0, f / 1440, by omega, by omega, rfl, Lib.hid ⟨by omega, ApT.nil w1⟩⟩
  case round =>
    obtain ⟨k, D, hD0, hD1, rfl, H⟩ := hrel
    obtain ⟨ao, co, rfl, hco⟩ := H.out.2.shape
    by_cases hlt : 1440 * D < t
    · have hD2 : D ≤ 745654 := by omega
      obtain ⟨P, hP⟩ : ∃ P, P = if D ∈ hol then 0 else (tday op D f t).1 := ⟨_, rfl⟩
      obtain ⟨Q, hQ⟩ : ∃ Q, Q = if D ∈ hol then 0 else (tday op D f t).2 := ⟨_, rfl⟩
      have hBr : Below w.heap.size w wr := HW1.out.trans (H.out.2.below.mono HW1.out.size)
      have hcal := HCAL.out.on hBr
      have htd := today_any cs op hol D f t wr hcal HO.out HHB.out ⟨hD0, hD2⟩ ⟨hf, by omega⟩ ⟨by omega, ht⟩ P Q hP hQ
      have hBx : wr.heap[w.heap.size]? = some (.cells cs 27 (0, 0)) := (H.out.2.below.block w.heap.size hsB1).trans HB1.out
      have hrg := tday_range HO.out hD0 hf ht hP hQ
      obtain ⟨r1, r2, r3⟩ := hrg
      obtain ⟨L, hL⟩ : ∃ L, L = dlist op hol f t (f / 1440) k := ⟨_, rfl⟩
      have hLl := dlist_len op hol f t (f / 1440) k
      have hnext : dlist op hol f t (f / 1440) (k + 1) = dstep op hol f t D L := by
        rw [hL, H.out.1]; rfl
      have hkD := H.out.1
      have hA := H.out.2
      rw [← hL] at hLl hA hco ⊢
      have hLb : L.length ≤ 800000 := by omega
      obtain ⟨N, hN⟩ : ∃ N, N = L.length := ⟨_, rfl⟩
      rw [← hN] at hA hco hLb ⊢
      have HTD := Lib.hid htd; have HBX := Lib.hid hBx; have HNX := Lib.hid hnext; have HA := Lib.hid hA; have HKD := Lib.hid hkD; have HP := Lib.hid hP; have HQ := Lib.hid hQ; have HN := Lib.hid hN
      clear htd hBx hnext hA hkD hP hQ hN H hcal hBr hL hLl
      by_cases hPQ : P < Q
      · have dq : decide (Q ≤ P) = false := decide_eq_false (by omega)
        have hst := dstep_hit HP.out HQ.out hPQ (out := L)
        rw [hst] at HNX
        clear hst HP HQ
        go_wp2_with (first | (refine wpList_load_row rfl 27 (.tmp 3) rfl w.heap.size rfl 27 cs (0, 0) _ HBX.out Tryd.underlying27 rfl (size27 HS.out) ?_) | (go_at_call 44; refine HTD.out.mono ?_; rintro e w2 ⟨rfl, hb2⟩))
        have H2 := Lib.hid ((HA.out.call hb2).alloc (.cells #[.int .i64 P, .int .i64 Q] 23))
        have hne := (HA.out.call hb2).ne w2.heap.size (Nat.le_refl _)
        have HNE := Lib.hid hne
        have hc2 := cell_new2 w2 (.int .i64 P) (.int .i64 Q) 23 _ rfl
        have hlN : N = L.length := HN.out
        have HFL := Lib.hid (show L.length ≤ 800000 by omega)
        have HNL := Lib.hid hlN
        clear hne hb2 HA HBX HTD hlN HN
        rcases List.eq_nil_or_concat L with rfl | ⟨M, t0, rfl⟩
        · have hn0 : N = 0 := HNL.out
          subst hn0
          rw [pc_nil] at HNX
          go_wp2_with fail
          go_quiet (fail)
          have HH3 := Lib.hid (H2.out.drewN nq)
          replace hc2 : ((w2.alloc (Obj.cells #[Value.int IntKind.i64 P, Value.int IntKind.i64 Q] 23)).drewN nq).cell? ⟨w2.heap.size, 0, none⟩ = some (.int .i64 P) ∧ ((w2.alloc (Obj.cells #[Value.int IntKind.i64 P, Value.int IntKind.i64 Q] 23)).drewN nq).cell? ⟨w2.heap.size, 1, none⟩ = some (.int .i64 Q) := hc2
          clear H2
          generalize (w2.alloc (Obj.cells #[Value.int IntKind.i64 P, Value.int IntKind.i64 Q] 23)).drewN nq = w3 at *
          obtain ⟨v', w', hr, hA, _⟩ := HH3.out.push P Q (by have := HFL.out; omega)
          have HR := Lib.hid hr; have HA := Lib.hid hA
          clear hr hA HH3
          obtain ⟨f0, f1⟩ := hc2
          go_wp2_with (first | (at_builtin; refine wp_appt rfl rfl rfl (.tmp 68) (.tmp 70) rfl rfl rfl HR.out ?_))
          go_roundw
          case rel => exact ⟨k + 1, D + 1, by omega, by omega, rfl, Lib.hid ⟨by rw [HKD.out]; simp; omega, by rw [HNX.out]; exact HA.out⟩⟩
          case measure => simp [intOf]; omega
        · rw [List.concat_eq_append] at *
          obtain ⟨p, q⟩ := t0
          rw [pc_snoc] at HNX
          obtain ⟨gv, rfl, hgv, hnn, e0, e1, e2, e3, e4⟩ := H2.out.last
          obtain ⟨m, hm⟩ : ∃ m, m = M.length := ⟨_, rfl⟩
          rw [← hm] at e0 e1 e2 e4 hnn
          subst hnn
          have gn : decide (0 < m + 1) = true := decide_eq_true (by omega)
          have gn2 : decide ((0 : Int) < ((m + 1 : Nat) : Int)) = true := decide_eq_true (by omega)
          have hk1 : IntKind.i64.wrap (m : Int) = (m : Int) := by rw [IntKind.wrap_i64]; have := HFL.out; simp only [List.length_append, List.length_cons, List.length_nil] at this; omega
          clear e4 hm e0
          by_cases hqP : q = P
          · subst hqP
            simp only [if_pos] at HNX
            have heq2 : (q == q) = true := by simp
            go_wp2_with fail
            go_quiet (fail)
            have HH3 := Lib.hid (H2.out.drewN nq)
            replace hc2 : ((w2.alloc (Obj.cells #[Value.int IntKind.i64 q, Value.int IntKind.i64 Q] 23)).drewN nq).cell? ⟨w2.heap.size, 0, none⟩ = some (.int .i64 q) ∧ ((w2.alloc (Obj.cells #[Value.int IntKind.i64 q, Value.int IntKind.i64 Q] 23)).drewN nq).cell? ⟨w2.heap.size, 1, none⟩ = some (.int .i64 Q) := hc2
            clear H2 e1 e2 gn gn2
            generalize (w2.alloc (Obj.cells #[Value.int IntKind.i64 q, Value.int IntKind.i64 Q] 23)).drewN nq = w3 at *
            obtain ⟨gv2, hgv2, _, hm2, e0, e1, e2, e3, e4⟩ := HH3.out.last
            simp only [Option.some.injEq, Addr.mk.injEq, and_true] at hgv2
            subst hgv2
            have hm3 : M.length = m := by omega
            rw [hm3] at e0 e1 e2 e4
            have E4 := Lib.hid (e4 Q)
            clear e4 hm2 hm3 HH3 e0 heq2
            obtain ⟨f0, f1⟩ := hc2
            go_wp2
            go_roundw
            case rel => exact ⟨k + 1, D + 1, by omega, by omega, rfl, Lib.hid ⟨by rw [HKD.out]; simp; omega, by rw [HNX.out]; exact E4.out⟩⟩
            case measure => simp [intOf]; omega
          · simp only [if_neg hqP] at HNX
            have heq2 : (q == P) = false := by simpa using hqP
            go_wp2_with fail
            go_quiet (fail)
            have HH3 := Lib.hid (H2.out.drewN nq)
            replace hc2 : ((w2.alloc (Obj.cells #[Value.int IntKind.i64 P, Value.int IntKind.i64 Q] 23)).drewN nq).cell? ⟨w2.heap.size, 0, none⟩ = some (.int .i64 P) ∧ ((w2.alloc (Obj.cells #[Value.int IntKind.i64 P, Value.int IntKind.i64 Q] 23)).drewN nq).cell? ⟨w2.heap.size, 1, none⟩ = some (.int .i64 Q) := hc2
            clear H2 e1 e2 gn gn2
            generalize (w2.alloc (Obj.cells #[Value.int IntKind.i64 P, Value.int IntKind.i64 Q] 23)).drewN nq = w3 at *
            obtain ⟨v', w', hr, hA, _⟩ := HH3.out.push P Q (by have := HFL.out; omega)
            have HR := Lib.hid hr; have HA := Lib.hid hA
            clear hr hA HH3
            obtain ⟨f0, f1⟩ := hc2
            go_wp2_with (first | (at_builtin; refine wp_appt rfl rfl rfl (.tmp 68) (.tmp 70) rfl rfl rfl HR.out ?_))
            go_roundw
            case rel => exact ⟨k + 1, D + 1, by omega, by omega, rfl, Lib.hid ⟨by rw [HKD.out]; simp; omega, by rw [HNX.out]; exact HA.out⟩⟩
            case measure => simp [intOf]; omega
      · have dq : decide (Q ≤ P) = true := decide_eq_true (by omega)
        have hst := dstep_miss HP.out HQ.out hPQ (out := L)
        rw [hst] at HNX
        clear hst HP HQ
        go_wp2_with (first | (refine wpList_load_row rfl 27 (.tmp 3) rfl w.heap.size rfl 27 cs (0, 0) _ HBX.out Tryd.underlying27 rfl (size27 HS.out) ?_) | (go_at_call 44; refine HTD.out.mono ?_; rintro e w2 ⟨rfl, hb2⟩))
        go_roundw
        case rel => exact ⟨k + 1, D + 1, by omega, by omega, rfl, Lib.hid ⟨by rw [HKD.out]; simp; omega, by rw [HNX.out]; exact (HA.out.call hb2).alloc _⟩⟩
        case measure => simp [intOf]; omega
    · have hend := dlist_eq (hol := hol) HO.out hf hft ht k (by have := H.out.1; omega)
      have HE := Lib.hid hend
      clear hend
      go_wp2
      go_ret2
      exact ⟨_, rfl, by rw [← HE.out]; exact H.out.2.weaken HW1.out⟩
end Go.Proofs.YtciopemodfpecaaDoor
