/-
  Walks: the iterator over the days' working minutes.
-/
import Derived.Test.YtciopemodfpecaaDoorLa
import Derived.Test.YtciopemodfpecaaDoorIa
namespace Go.Proofs.YtciopemodfpecaaDoor
open Go.RowKit Go.Shelf
set_option linter.unusedVariables false
set_option linter.unusedSimpArgs false
attribute [local go_sem] Oper.semAt_some

/-- The slice behind its first j elements. -/
theorem Hl.tail {F : Nat → Prop} {w : World} {a : Option Addr} {cap : Nat} {l : List Int} (h : Hl F w (.slice a l.length cap) l) (j : Nat) (hj : j ≤ l.length) :
    Hl F w (sliced a j l.length cap 1) (l.drop j) := by
  obtain ⟨h1, h2, a', c', h3, h4, h5⟩ := h
  simp only [Value.slice.injEq, true_and] at h3
  obtain ⟨rfl, rfl⟩ := h3
  refine ⟨by rw [List.length_drop]; omega, fun x hx => h2 x (List.mem_of_mem_drop hx), (if cap = j then a else a.map (·.add (j * 1))), cap - j, ?_, by rw [List.length_drop]; omega, fun hp => ?_⟩
  · unfold sliced; rw [List.length_drop]
  · rw [List.length_drop] at hp
    obtain ⟨g, off, rfl, hg, hc⟩ := h5 (by omega)
    refine ⟨g, off + j, ?_, hg, fun i x hx => ?_⟩
    · rw [if_neg (by omega)]
      simp only [Option.map_some, Addr.add_lit, Nat.mul_one]
    · rw [List.getElem?_drop] at hx
      have := hc _ _ hx
      rw [show off + j + i = off + (j + i) by omega]
      exact this

set_option maxRecDepth 100000 in
set_option maxHeartbeats 8000000 in
theorem shift_in (P : Nat → Prop) (l Fb Cb Tb : Nat) (cs : Array Value) (op : List (Int × Int)) (hol : List Int) (f t : Int) (J Jx : List (Int × Int) → World → Prop)
    (hJ : ∀ pre W W', J pre W → Below W.heap.size W W' → J pre W')
    (hY : ∀ pre x W, J pre W → pre.length < (rlist op hol f t).length → YieldAt Fence.wide 2 Tryd.prog l (encY x) W fun e W' =>
      (e = .returned (.bool true) ∧ J (pre ++ [x]) W' ∧ Kept P W W') ∨ (e = .returned (.bool false) ∧ Jx (pre ++ [x]) W'))
    (W : World) (hF : P Fb) (hC : P Cb) (hT : P Tb) (hn : ∀ k, P k → k < W.heap.size) (hcF : W.cell? ⟨Fb, 0, none⟩ = some (.int .i64 f)) (hcT : W.cell? ⟨Tb, 0, none⟩ = some (.int .i64 t)) (hcC : W.heap[Cb]? = some (.cells cs 27 (0, 0)))
    (hcal : Cal P W cs op hol) (ho : opOk op) (hs : holB (-1) hol = true) (hf : 0 ≤ f) (hft : f ≤ t) (ht : t ≤ 1073741824) (h0 : J [] W) :
    CallsIn Fence.wide 3 Tryd.prog 62 #[.func (.yield l) #[] #[], .pointer (some ⟨Fb, 0, none⟩), .pointer (some ⟨Cb, 0, none⟩), .pointer (some ⟨Tb, 0, none⟩)] W fun e W' => (∃ v, e = .returned v) ∧
      ((∃ ys, ys = rlist op hol f t ∧ J ys W') ∨ (∃ pre, pre <+: rlist op hol f t ∧ Jx pre W')) := by
  obtain ⟨_, hcell, a, cap, hc14, hhl⟩ := hcal.box hcC
  obtain ⟨n, hnn⟩ : ∃ n, n = hol.length := ⟨_, rfl⟩
  have hn64 := hhl.1
  have hncap : hol.length ≤ cap := by
    obtain ⟨_, _, a', c', e, h4, _⟩ := hhl
    simp only [Value.slice.injEq, true_and] at e
    rw [e.2]; exact h4
  have HHL := Lib.hid hhl; have HNN := Lib.hid hnn; have HCELL := Lib.hid hcell
  rw [← hnn] at hc14 hncap hn64
  have HJ := Lib.hid hJ; have HY := Lib.hid hY; have HO := Lib.hid ho; have HS := Lib.hid hs; have HN := Lib.hid hn
  clear hhl hnn hcell hJ hY ho hs hcal hcC
  refine callsIn_of_wp Tryd.func62 rfl trivial ?_ rfl
  simp only [Tryd.ntmps62, List.size_toArray, List.length_cons, List.length_nil, Nat.reduceAdd, Nat.reduceSub, Array.replicate_succ, Array.replicate_zero, List.push_toArray, List.append_toArray, List.nil_append, List.cons_append]
  gi_wp2
  refine wpIn_wide.2 ?_
  have hSd : Below W.heap.size W W.drew := (Below.refl _ W).drew
  obtain ⟨D0, hD0⟩ : ∃ D0, D0 = f / 1440 := ⟨_, rfl⟩
  have hD1 : 0 ≤ D0 ∧ D0 ≤ 745654 := by omega
  obtain ⟨hD2, hD3⟩ := hD1
  have HD0 := Lib.hid hD0
  rw [← hD0]
  clear hD0
  have hsC : Cb < W.heap.size := HN.out Cb hC
  have hsr : ∀ w', Below W.heap.size W w' → Calls Tryd.prog 63 #[.slice a n cap, .int .i64 D0] w' fun e w2 => ∃ j : Nat, e = .returned (.int .i64 (j : Int)) ∧ JI hol D0 j ∧ Below w'.heap.size w' w2 := by
    intro w' hb
    have hh := HHL.out.kept (F' := fun k => k < w'.heap.size) (fun k hk => hb.block k (HN.out k hk)) (fun k hk => Nat.lt_of_lt_of_le (HN.out k hk) hb.size)
    rw [HNN.out]
    exact search_any hol a cap D0 w' hh (fun k hk => hk) HS.out
  refine wp_region_held_drew (S := fun w' => Below W.heap.size W w') (by kernel_rfl) hSd (fun hHeld => ?_)
  change wpAnyH _ _ _ _ _ 8 #[false, false, false, false, false, false, false, false] _ _
  generalize W.drew = W1 at *
  clear hSd
  refine wpAnyH_take (i := 0) (oi := _) (v := .pointer (some ⟨Cb, 14, none⟩)) rfl (by kernel_rfl) (by kernel_rfl) (by kernel_rfl) (fun _ _ _ h => h) (Or.inl ⟨by rfl, fun wx hSw => ?_⟩) (by assumption) ?_
  · go_simp
    try (first | omega | (rw [IntKind.wrap_i64]; omega))
  (try simp only [Act.put, List.setIfInBounds_toArray, List.set_cons_zero, List.set_cons_succ, List.getElem_toArray, List.getElem_cons_zero, List.getElem_cons_succ])
  refine wpAnyH_take (i := 1) (oi := _) (v := .slice a n cap) rfl (by kernel_rfl) (by kernel_rfl) (by kernel_rfl) (fun _ _ _ h => h) (Or.inl ⟨by rfl, fun wx hSw => ?_⟩) (by assumption) ?_
  · have hc := (hSw.cell (p := ⟨Cb, 14, none⟩) hsC).trans hc14
    go_simp
    try (first | omega | (rw [IntKind.wrap_i64]; omega))
  (try simp only [Act.put, List.setIfInBounds_toArray, List.set_cons_zero, List.set_cons_succ, List.getElem_toArray, List.getElem_cons_zero, List.getElem_cons_succ])
  refine wpAnyH_take (i := 2) (oi := _) (v := .pointer (some ⟨Cb, 14, none⟩)) rfl (by kernel_rfl) (by kernel_rfl) (by kernel_rfl) (fun _ _ _ h => h) (Or.inl ⟨by rfl, fun wx hSw => ?_⟩) (by assumption) ?_
  · go_simp
    try (first | omega | (rw [IntKind.wrap_i64]; omega))
  (try simp only [Act.put, List.setIfInBounds_toArray, List.set_cons_zero, List.set_cons_succ, List.getElem_toArray, List.getElem_cons_zero, List.getElem_cons_succ])
  refine wpAnyH_take (i := 3) (oi := _) (v := .slice a n cap) rfl (by kernel_rfl) (by kernel_rfl) (by kernel_rfl) (fun _ _ _ h => h) (Or.inl ⟨by rfl, fun wx hSw => ?_⟩) (by assumption) ?_
  · have hc := (hSw.cell (p := ⟨Cb, 14, none⟩) hsC).trans hc14
    go_simp
    try (first | omega | (rw [IntKind.wrap_i64]; omega))
  (try simp only [Act.put, List.setIfInBounds_toArray, List.set_cons_zero, List.set_cons_succ, List.getElem_toArray, List.getElem_cons_zero, List.getElem_cons_succ])
  refine wpAnyH_take (i := 4) (oi := _) (v := .int .i64 D0) rfl (by kernel_rfl) (by kernel_rfl) (by kernel_rfl) (fun _ _ _ h => h) (Or.inl ⟨by rfl, fun wx hSw => ?_⟩) (by assumption) ?_
  · go_simp
    try (first | omega | (rw [IntKind.wrap_i64]; omega))
  (try simp only [Act.put, List.setIfInBounds_toArray, List.set_cons_zero, List.set_cons_succ, List.getElem_toArray, List.getElem_cons_zero, List.getElem_cons_succ])
  refine wpAnyH_ready (rs := [5]) (by kernel_rfl) (by simp) ?_
  refine AllReadyH.cons (o := _) rfl (fun K hK => ?_) AllReadyH.nil
  go_simp
  refine (hsr _ hHeld).mono ?_
  rintro e w2 ⟨jj, rfl, hji, hb⟩
  have h5 : Below W.heap.size W w2 := hHeld.trans (hb.mono hHeld.size)
  clear hb hHeld
  go_wp2_with fail
  refine hK.out _ _ (h5) (fun hHeld => ?_)
  clear hK K
  (try simp only [Act.put, List.setIfInBounds_toArray, List.set_cons_zero, List.set_cons_succ, List.getElem_toArray, List.getElem_cons_zero, List.getElem_cons_succ])
  have hjn : jj ≤ n := by rw [HNN.out]; exact hji.1
  obtain ⟨v6, hv6⟩ : ∃ v6, v6 = sliced a jj n cap 1 := ⟨_, rfl⟩
  have HV6 := Lib.hid hv6; have HJI := Lib.hid hji
  clear hji
  refine wpAnyH_take (i := 6) (oi := _) (v := v6) rfl (by kernel_rfl) (by kernel_rfl) (by kernel_rfl) (fun _ _ _ h => h) (Or.inl ⟨by rfl, fun wx hSw => ?_⟩) (by assumption) ?_
  · rw [hv6]
    go_simp
    try (first | omega | (rw [IntKind.wrap_i64]; omega))
  (try simp only [Act.put, List.setIfInBounds_toArray, List.set_cons_zero, List.set_cons_succ, List.getElem_toArray, List.getElem_cons_zero, List.getElem_cons_succ])
  clear hv6
  refine wpAnyH_take (i := 7) (oi := _) (v := v6) rfl (by kernel_rfl) (by kernel_rfl) (by kernel_rfl) (fun _ _ _ h => h) (Or.inl ⟨by rfl, fun wx hSw => ?_⟩) (by assumption) ?_
  · go_simp
    try (first | omega | (rw [IntKind.wrap_i64]; omega))
  (try simp only [Act.put, List.setIfInBounds_toArray, List.set_cons_zero, List.set_cons_succ, List.getElem_toArray, List.getElem_cons_zero, List.getElem_cons_succ])
  refine wpAnyH_done (by kernel_rfl) ?_ _
  have hcap6 : (hol.drop jj).length = n - jj := by rw [List.length_drop, HNN.out]
  have ht6 := HHL.out.tail jj HJI.out.1
  rw [← HNN.out] at ht6
  have H5 := Lib.hid hHeld
  have htl := ht6.kept (F' := P) (fun k hk => H5.out.block k (HN.out k hk)) (fun _ h => h)
  rw [← HV6.out] at htl
  obtain ⟨a6, c6, hv6⟩ : ∃ a6 c6, v6 = .slice a6 (n - jj) c6 := by rw [HV6.out]; exact ⟨_, _, rfl⟩
  rw [hv6] at htl ⊢
  have HTL := Lib.hid htl
  have hJ0 := HJ.out _ _ _ h0 H5.out
  have HJ0 := Lib.hid hJ0
  clear ht6 htl hHeld hv6 HV6 h0 hJ0 hc14 hjn hcap6 hsr
  gi_wp2
  gi_loopw [5, 6] (fun s u wr => ∃ (k j : Nat) (D : Int) (a7 : Option Addr) (n7 c7 : Nat), 0 ≤ D ∧ D ≤ 745655 ∧ n7 ≤ 70368744177664 ∧ s = .int .i64 D ∧ u = .slice a7 n7 c7 ∧ Hid (D = D0 + (k : Int) ∧ JI hol D j ∧ n7 = (hol.drop j).length ∧ Hl P wr (.slice a7 n7 c7) (hol.drop j) ∧ J (rl op hol f t D0 k) wr ∧ Kept P W wr)) (fun s u _ => 745700 - (intOf s).toNat)
  case atStart => exact ⟨0, jj, D0, a6, n - jj, c6, hD2, by omega, by omega, rfl, rfl, Lib.hid ⟨by omega, HJI.out, by rw [List.length_drop, HNN.out], HTL.out, HJ0.out, Kept.below H5.out HN.out⟩⟩
  case round =>
    clear HTL HJ0 HJI
    obtain ⟨k, j, D, a7, n7, c7, hD4, hD5, hn7, rfl, rfl, H⟩ := hrel
    have dF : wr.cell? ⟨Fb, 0, none⟩ = some (.int .i64 f) := (H.out.2.2.2.2.2.cell (p := ⟨Fb, 0, none⟩) hF).trans hcF
    have dT : wr.cell? ⟨Tb, 0, none⟩ = some (.int .i64 t) := (H.out.2.2.2.2.2.cell (p := ⟨Tb, 0, none⟩) hT).trans hcT
    by_cases hlt : D * 1440 < t
    · have hD6 : D ≤ 745654 := by omega
      obtain ⟨s, hss⟩ : ∃ s, op[(wday D).toNat]? = some s := ⟨_, List.getElem?_eq_getElem (by rw [HO.out.1]; unfold wday; omega)⟩
      obtain ⟨xo, yo⟩ := s
      obtain ⟨e0, e1⟩ := HCELL.out _ _ hss
      have hsr := dsp_ok HO.out D
      rw [dsp_get hss] at hsr
      simp only at e0 e1 hsr
      obtain ⟨hx0, hxy, hy1⟩ := hsr
      obtain ⟨kw, hkw⟩ : ∃ kw, kw = (wday D).toNat := ⟨_, rfl⟩
      have hk7 : kw < 7 := by rw [hkw]; unfold wday; omega
      have hwr : IntKind.i64.wrap (D * 1440) = D * 1440 := by rw [IntKind.wrap_i64]; omega
      have hki0 : (0 : Int) ≤ (kw : Int) := by omega
      have hki1 : (kw : Int) < 7 := by omega
      have hkw2 : wday D = (kw : Int) := by rw [hkw]; unfold wday; omega
      have hwd := fun w => weekday_any D (by unfold I64; omega) (wday D) (by unfold wkd wday; rw [if_pos ⟨hD4, hD6⟩]) w
      rw [hkw2] at hwd
      rw [← hkw] at e0 e1
      have o0 : wr.cell? ⟨Cb, kw * 2, none⟩ = some (.int .i64 xo) := (H.out.2.2.2.2.2.cell (p := ⟨Cb, kw * 2, none⟩) hC).trans e0
      have o1 : wr.cell? ⟨Cb, kw * 2 + 1, none⟩ = some (.int .i64 yo) := (H.out.2.2.2.2.2.cell (p := ⟨Cb, kw * 2 + 1, none⟩) hC).trans e1
      have hdsp := dsp_get hss
      have HDS := Lib.hid hdsp; have HWD := Lib.hid hwd
      clear hss e0 e1 hkw hkw2 hwd hdsp
      by_cases hz : n7 = 0
      · have hz2 := hz.symm
        subst hz2
        have hnj : ¬ hol[j]? = some D := fun hh => by
          have h1 := (List.getElem?_eq_some_iff.1 hh).1
          have h2 := H.out.2.2.1
          rw [List.length_drop] at h2
          omega
        clear hz
        gi_wp2
        refine wpIn_wide.2 ?_
        refine Code.wp_mono (Q := fun e a' w' => e = .normal ∧ a' = { tmps := #[.func (.yield l) #[] #[], .pointer (some ⟨Fb, 0, none⟩), .pointer (some ⟨Cb, 0, none⟩), .pointer (some ⟨Tb, 0, none⟩), undef, .int .i64 D, .slice a7 0 c7, .int .i64 (D * 1440), .pointer (some ⟨wr.heap.size, 0, none⟩), u9, .int .i64 f, .int .i64 D0, .pointer (some ⟨Cb, 14, none⟩), .slice a n cap, .pointer (some ⟨Cb, 14, none⟩), .slice a n cap, .int .i64 D0, .int .i64 (jj : Int), .slice a6 (n - jj) c6, .int .i64 D, .int .i64 (D * 1440), .int .i64 t, .bool true, u23, u24, .slice a7 0 c7, .int .i64 0, .bool false, .bool false, undef, undef, undef, undef, undef, .bool false, u35, u36, .int .i64 D, .int .i64 (D * 1440), .int .i64 D, .int .i64 (kw : Int), .pointer (some ⟨Cb, 0, none⟩), .pointer (some ⟨Cb, kw * 2, none⟩), .agg #[.int .i64 xo, .int .i64 yo], u44, u45, u46, u47, u48, u49, u50, u51, u52, u53, u54, u55, u56, u57, u58, u59, u60, u61, u62, u63, u64, u65, u66, u67], defers := [] } ∧ w'.cell? ⟨wr.heap.size, 0, none⟩ = some (.int .i64 xo) ∧ w'.cell? ⟨wr.heap.size, 1, none⟩ = some (.int .i64 yo) ∧ Below wr.heap.size wr w' ∧ wr.heap.size < w'.heap.size) ?_ ?_
        rotate_left
        · clear H 
          go_region_held3 (fun w' => w'.cell? ⟨Cb, kw * 2, none⟩ = some (.int .i64 xo) ∧ w'.cell? ⟨Cb, kw * 2 + 1, none⟩ = some (.int .i64 yo)) (first | (go_keep; done) | (refine ⟨?_, ?_⟩ <;> (repeat (first | with_reducible assumption | with_reducible apply cellDrew | with_reducible apply cellAlloc)))) ((go_at_call 30; refine (HWD.out _).mono ?_; rintro e w5 ⟨rfl, rfl⟩))
          all_goals exact ⟨rfl, rfl, (cell_new2 wr _ _ 23 _ rfl).1, (cell_new2 wr _ _ 23 _ rfl).2, (ball (Below.refl _ _) _).drew, by simp⟩
        rintro e a' w2 ⟨rfl, rfl, b0, b1, hb2, hlt2⟩
        have gF := (hb2.cell (p := ⟨Fb, 0, none⟩) (by have := H.out.2.2.2.2.2.size; have := hn Fb hF; simp only; omega)).trans dF
        have gT := (hb2.cell (p := ⟨Tb, 0, none⟩) (by have := H.out.2.2.2.2.2.size; have := hn Tb hT; simp only; omega)).trans dT
        have hmiss := ji_miss HS.out H.out.2.1 hnj
        have hndm : ¬ D ∈ hol := fun hm => hnj ((ji_mem HS.out H.out.2.1).1 hm)
        have hlen7 := H.out.2.2.1
        have HH7 := H.out.2.2.2.1
        have hkD := H.out.1
        have HM := Lib.hid hmiss; have HND := Lib.hid hndm; have HB2 := Lib.hid hb2; have HL7 := Lib.hid hlen7; have HKD := Lib.hid hkD; have HH7 := Lib.hid HH7
        have HJ2 := Lib.hid (HJ.out _ _ _ H.out.2.2.2.2.1 hb2)
        have HK2 := Lib.hid (H.out.2.2.2.2.2.step HN.out hb2)
        have HKr := Lib.hid (Kept.below hb2 (P := P) (fun k hk => Nat.lt_of_lt_of_le (HN.out k hk) H.out.2.2.2.2.2.size))
        clear hmiss hndm hb2 hlen7 hkD H o0 o1 dF dT hnj
        have htd : tday op D f t = ((max (D * 1440 + xo) f), (min (D * 1440 + yo) t)) := by
          unfold tday
          rw [HDS.out]
          exact Prod.ext (by simp only; omega) (by simp only; omega)
        have hb3 : Below w2.heap.size w2 (w2.alloc (.cells #[.int .i64 (max (D * 1440 + xo) f), .int .i64 (min (D * 1440 + yo) t)] 23)) := ball (Below.refl _ _) _
        by_cases hAB : (max (D * 1440 + xo) f) < (min (D * 1440 + yo) t)
        · have hpc : piece op hol f t D = [((max (D * 1440 + xo) f), (min (D * 1440 + yo) t))] := by unfold piece; rw [if_neg HND.out, htd, if_pos hAB]
          have hrl : rl op hol f t D0 (k + 1) = rl op hol f t D0 k ++ [((max (D * 1440 + xo) f), (min (D * 1440 + yo) t))] := by
            show rl op hol f t D0 k ++ piece op hol f t (D0 + (k : Int)) = _
            rw [← HKD.out, hpc]
          have hpf : rl op hol f t D0 (k + 1) <+: rlist op hol f t := by rw [HD0.out]; exact rl_prefix HO.out hft (k + 1)
          rw [hrl] at hpf
          have hplen : (rl op hol f t D0 k).length < (rlist op hol f t).length := by
            have := hpf.length_le
            simp at this; omega
          have hJ3 := HJ.out _ _ _ HJ2.out hb3
          have HB3 := Lib.hid (HK2.out.step HN.out hb3)
          obtain ⟨fn, tmps, assign, body, hy, hR⟩ := HY.out (rl op hol f t D0 k) ((max (D * 1440 + xo) f), (min (D * 1440 + yo) t)) _ hJ3 hplen
          dsimp only [encY] at hy
          have HRL := Lib.hid hrl; have HPF := Lib.hid hpf
          clear hJ3 hplen hrl hpf hpc htd hb3 HJ2 HND
          gi_wp2
          refine hR.mono ?_
          rintro e V3 (⟨rfl, hJ4, hk4⟩ | ⟨rfl, hJx4⟩)
          · have HF4 := Lib.hid (show D + 1 = D0 + ((k + 1 : Nat) : Int) ∧ JI hol (D + 1) j ∧ 0 = (hol.drop j).length ∧ Hl P V3 (.slice a7 0 c7) (hol.drop j) ∧ J (rl op hol f t D0 (k + 1)) V3 ∧ Kept P W V3 from ⟨by have := HKD.out; omega, HM.out, HL7.out, ((HH7.out.kept (fun i hi => HKr.out.same i hi) (fun _ h => h)).kept (fun i hi => (ball (Below.refl w2.heap.size w2) (.cells #[.int .i64 (max (D * 1440 + xo) f), .int .i64 (min (D * 1440 + yo) t)] 23)).block i (Nat.lt_of_lt_of_le (HN.out i hi) HK2.out.size)) (fun _ h => h)).kept (fun i hi => hk4.same i hi) (fun _ h => h), by rw [HRL.out]; exact hJ4, HB3.out.trans hk4⟩)
            clear hJ4 hk4 hy hR HRL HPF HB3 HM HL7 HH7 HK2 HKr b0 b1 gF gT
            gi_wp2
            go_roundw
            case rel => exact ⟨k + 1, j, D + 1, a7, 0, c7, by omega, by omega, by omega, rfl, rfl, HF4⟩
            case measure => simp [intOf]; omega
          · clear hy hR
            gi_wp2
            refine bodyPost_ret (results_none rfl _ _ _) rfl ?_
            exact ⟨⟨_, rfl⟩, .inr ⟨_, HPF.out, hJx4⟩⟩
        · have hpc : piece op hol f t D = [] := by unfold piece; rw [if_neg HND.out, htd, if_neg hAB]
          have hrl : rl op hol f t D0 (k + 1) = rl op hol f t D0 k := by
            show rl op hol f t D0 k ++ piece op hol f t (D0 + (k : Int)) = _
            rw [← HKD.out, hpc, List.append_nil]
          have HF4 := Lib.hid (show D + 1 = D0 + ((k + 1 : Nat) : Int) ∧ JI hol (D + 1) j ∧ 0 = (hol.drop j).length ∧ Hl P (w2.alloc (.cells #[.int .i64 (max (D * 1440 + xo) f), .int .i64 (min (D * 1440 + yo) t)] 23)) (.slice a7 0 c7) (hol.drop j) ∧ J (rl op hol f t D0 (k + 1)) (w2.alloc (.cells #[.int .i64 (max (D * 1440 + xo) f), .int .i64 (min (D * 1440 + yo) t)] 23)) ∧ Kept P W (w2.alloc (.cells #[.int .i64 (max (D * 1440 + xo) f), .int .i64 (min (D * 1440 + yo) t)] 23)) from ⟨by have := HKD.out; omega, HM.out, HL7.out, (HH7.out.kept (fun i hi => HKr.out.same i hi) (fun _ h => h)).kept (fun i hi => hb3.block i (Nat.lt_of_lt_of_le (HN.out i hi) HK2.out.size)) (fun _ h => h), by rw [hrl]; exact HJ.out _ _ _ HJ2.out hb3, HK2.out.step HN.out hb3⟩)
          clear hrl hpc htd hb3 HJ2 HND HM HL7 HH7 HK2 HKr
          gi_wp2_with fail
          refine ⟨fun _ h => (by cases h), ?_⟩
          gi_wp2
          go_roundw
          case rel => exact ⟨k + 1, j, D + 1, a7, 0, c7, by omega, by omega, by omega, rfl, rfl, HF4⟩
          case measure => simp [intOf]; omega
      · obtain ⟨g, off, x, ha7, hg, hx, hxi, q0, hc7⟩ := H.out.2.2.2.1.pick 0 (by have := H.out.2.2.1; omega)
        subst ha7
        have hxj : hol[j]? = some x := by rw [List.getElem?_drop] at hx; exact hx
        rw [Nat.add_zero] at q0
        have hc71 : n7 ≤ c7 := by have := H.out.2.2.1; omega
        have hn1 : (0 : Int) < (n7 : Int) := by omega
        clear hx hc7
        by_cases hxD : x = D
        · have hxx := hxD.symm
          subst hxx
          have e3 : (D == D) = true := by simp
          have hin : D ∈ hol := List.mem_of_getElem? hxj
          have hit := ji_hit HS.out H.out.2.1 hxj
          have hrl : rl op hol f t D0 (k + 1) = rl op hol f t D0 k := by
            show rl op hol f t D0 k ++ piece op hol f t (D0 + (k : Int)) = _
            rw [← H.out.1]
            unfold piece
            rw [if_pos hin, List.append_nil]
          have htl := (show Hl P wr (.slice (some ⟨g, off, none⟩) (hol.drop j).length c7) (hol.drop j) by rw [← H.out.2.2.1]; exact H.out.2.2.2.1).tail 1 (by have := H.out.2.2.1; omega)
          rw [List.drop_drop, ← H.out.2.2.1] at htl
          have hl2 : n7 - 1 = (hol.drop (j + 1)).length := by have := H.out.2.2.1; rw [List.length_drop] at this ⊢; omega
          have h1n : (1 : Int) ≤ (n7 : Int) := by omega
          by_cases hc1 : c7 = 1
          · have hv : sliced (some ⟨g, off, none⟩) 1 n7 c7 1 = .slice (some ⟨g, off, none⟩) (n7 - 1) 0 := by unfold sliced; rw [if_pos hc1, hc1]
            rw [hv] at htl
            have HF4 := Lib.hid (show D + 1 = D0 + ((k + 1 : Nat) : Int) ∧ JI hol (D + 1) (j + 1) ∧ n7 - 1 = (hol.drop (j + 1)).length ∧ Hl P wr (.slice (some ⟨g, off, none⟩) (n7 - 1) 0) (hol.drop (j + 1)) ∧ J (rl op hol f t D0 (k + 1)) wr ∧ Kept P W wr from ⟨by have := H.out.1; omega, hit, hl2, htl, by rw [hrl]; exact H.out.2.2.2.2.1, H.out.2.2.2.2.2⟩)
            clear hit hrl htl hl2 hin hxj H hv o0 o1
            gi_wp2
            go_roundw
            case rel => exact ⟨k + 1, j + 1, D + 1, (some ⟨g, off, none⟩), n7 - 1, 0, by omega, by omega, by omega, rfl, rfl, HF4⟩
            case measure => simp [intOf]; omega
          · have hv : sliced (some ⟨g, off, none⟩) 1 n7 c7 1 = .slice (some ⟨g, off + 1, none⟩) (n7 - 1) (c7 - 1) := by unfold sliced; rw [if_neg hc1]; simp only [Option.map_some, Addr.add_lit, Nat.mul_one]
            rw [hv] at htl
            have HF4 := Lib.hid (show D + 1 = D0 + ((k + 1 : Nat) : Int) ∧ JI hol (D + 1) (j + 1) ∧ n7 - 1 = (hol.drop (j + 1)).length ∧ Hl P wr (.slice (some ⟨g, off + 1, none⟩) (n7 - 1) (c7 - 1)) (hol.drop (j + 1)) ∧ J (rl op hol f t D0 (k + 1)) wr ∧ Kept P W wr from ⟨by have := H.out.1; omega, hit, hl2, htl, by rw [hrl]; exact H.out.2.2.2.2.1, H.out.2.2.2.2.2⟩)
            clear hit hrl htl hl2 hin hxj H hv o0 o1
            gi_wp2
            go_roundw
            case rel => exact ⟨k + 1, j + 1, D + 1, some ⟨g, off + 1, none⟩, n7 - 1, c7 - 1, by omega, by omega, by omega, rfl, rfl, HF4⟩
            case measure => simp [intOf]; omega
        · have hnj : ¬ hol[j]? = some D := fun hh => by rw [hxj] at hh; exact hxD (Option.some.inj hh)
          have e3 : (x == D) = false := by simpa using hxD
          clear hxD hxj
          gi_wp2
          refine wpIn_wide.2 ?_
          refine Code.wp_mono (Q := fun e a' w' => e = .normal ∧ a' = { tmps := #[.func (.yield l) #[] #[], .pointer (some ⟨Fb, 0, none⟩), .pointer (some ⟨Cb, 0, none⟩), .pointer (some ⟨Tb, 0, none⟩), undef, .int .i64 D, .slice (some ⟨g, off, none⟩) n7 c7, .int .i64 (D * 1440), .pointer (some ⟨wr.heap.size, 0, none⟩), u9, .int .i64 f, .int .i64 D0, .pointer (some ⟨Cb, 14, none⟩), .slice a n cap, .pointer (some ⟨Cb, 14, none⟩), .slice a n cap, .int .i64 D0, .int .i64 (jj : Int), .slice a6 (n - jj) c6, .int .i64 D, .int .i64 (D * 1440), .int .i64 t, .bool true, u23, u24, .slice (some ⟨g, off, none⟩) n7 c7, .int .i64 (n7 : Int), .bool true, .bool true, .slice (some ⟨g, off, none⟩) n7 c7, .pointer (some ⟨g, off, none⟩), .int .i64 x, .int .i64 D, .bool false, .bool false, u35, u36, .int .i64 D, .int .i64 (D * 1440), .int .i64 D, .int .i64 (kw : Int), .pointer (some ⟨Cb, 0, none⟩), .pointer (some ⟨Cb, kw * 2, none⟩), .agg #[.int .i64 xo, .int .i64 yo], u44, u45, u46, u47, u48, u49, u50, u51, u52, u53, u54, u55, u56, u57, u58, u59, u60, u61, u62, u63, u64, u65, u66, u67], defers := [] } ∧ w'.cell? ⟨wr.heap.size, 0, none⟩ = some (.int .i64 xo) ∧ w'.cell? ⟨wr.heap.size, 1, none⟩ = some (.int .i64 yo) ∧ Below wr.heap.size wr w' ∧ wr.heap.size < w'.heap.size) ?_ ?_
          rotate_left
          · clear H hn1 hz hc71 e3 hxi q0 hn7
            go_region_held3 (fun w' => w'.cell? ⟨Cb, kw * 2, none⟩ = some (.int .i64 xo) ∧ w'.cell? ⟨Cb, kw * 2 + 1, none⟩ = some (.int .i64 yo)) (first | (go_keep; done) | (refine ⟨?_, ?_⟩ <;> (repeat (first | with_reducible assumption | with_reducible apply cellDrew | with_reducible apply cellAlloc)))) ((go_at_call 30; refine (HWD.out _).mono ?_; rintro e w5 ⟨rfl, rfl⟩))
            all_goals exact ⟨rfl, rfl, (cell_new2 wr _ _ 23 _ rfl).1, (cell_new2 wr _ _ 23 _ rfl).2, (ball (Below.refl _ _) _).drew, by simp⟩
          rintro e a' w2 ⟨rfl, rfl, b0, b1, hb2, hlt2⟩
          have gF := (hb2.cell (p := ⟨Fb, 0, none⟩) (by have := H.out.2.2.2.2.2.size; have := hn Fb hF; simp only; omega)).trans dF
          have gT := (hb2.cell (p := ⟨Tb, 0, none⟩) (by have := H.out.2.2.2.2.2.size; have := hn Tb hT; simp only; omega)).trans dT
          have hmiss := ji_miss HS.out H.out.2.1 hnj
          have hndm : ¬ D ∈ hol := fun hm => hnj ((ji_mem HS.out H.out.2.1).1 hm)
          have hlen7 := H.out.2.2.1
          have HH7 := H.out.2.2.2.1
          have hkD := H.out.1
          have HM := Lib.hid hmiss; have HND := Lib.hid hndm; have HB2 := Lib.hid hb2; have HL7 := Lib.hid hlen7; have HKD := Lib.hid hkD; have HH7 := Lib.hid HH7
          have HJ2 := Lib.hid (HJ.out _ _ _ H.out.2.2.2.2.1 hb2)
          have HK2 := Lib.hid (H.out.2.2.2.2.2.step HN.out hb2)
          have HKr := Lib.hid (Kept.below hb2 (P := P) (fun k hk => Nat.lt_of_lt_of_le (HN.out k hk) H.out.2.2.2.2.2.size))
          clear hmiss hndm hb2 hlen7 hkD H o0 o1 dF dT hnj q0
          have htd : tday op D f t = ((max (D * 1440 + xo) f), (min (D * 1440 + yo) t)) := by
            unfold tday
            rw [HDS.out]
            exact Prod.ext (by simp only; omega) (by simp only; omega)
          have hb3 : Below w2.heap.size w2 (w2.alloc (.cells #[.int .i64 (max (D * 1440 + xo) f), .int .i64 (min (D * 1440 + yo) t)] 23)) := ball (Below.refl _ _) _
          by_cases hAB : (max (D * 1440 + xo) f) < (min (D * 1440 + yo) t)
          · have hpc : piece op hol f t D = [((max (D * 1440 + xo) f), (min (D * 1440 + yo) t))] := by unfold piece; rw [if_neg HND.out, htd, if_pos hAB]
            have hrl : rl op hol f t D0 (k + 1) = rl op hol f t D0 k ++ [((max (D * 1440 + xo) f), (min (D * 1440 + yo) t))] := by
              show rl op hol f t D0 k ++ piece op hol f t (D0 + (k : Int)) = _
              rw [← HKD.out, hpc]
            have hpf : rl op hol f t D0 (k + 1) <+: rlist op hol f t := by rw [HD0.out]; exact rl_prefix HO.out hft (k + 1)
            rw [hrl] at hpf
            have hplen : (rl op hol f t D0 k).length < (rlist op hol f t).length := by
              have := hpf.length_le
              simp at this; omega
            have hJ3 := HJ.out _ _ _ HJ2.out hb3
            have HB3 := Lib.hid (HK2.out.step HN.out hb3)
            obtain ⟨fn, tmps, assign, body, hy, hR⟩ := HY.out (rl op hol f t D0 k) ((max (D * 1440 + xo) f), (min (D * 1440 + yo) t)) _ hJ3 hplen
            dsimp only [encY] at hy
            have HRL := Lib.hid hrl; have HPF := Lib.hid hpf
            clear hJ3 hplen hrl hpf hpc htd hb3 HJ2 HND
            gi_wp2
            refine hR.mono ?_
            rintro e V3 (⟨rfl, hJ4, hk4⟩ | ⟨rfl, hJx4⟩)
            · have HF4 := Lib.hid (show D + 1 = D0 + ((k + 1 : Nat) : Int) ∧ JI hol (D + 1) j ∧ n7 = (hol.drop j).length ∧ Hl P V3 (.slice (some ⟨g, off, none⟩) n7 c7) (hol.drop j) ∧ J (rl op hol f t D0 (k + 1)) V3 ∧ Kept P W V3 from ⟨by have := HKD.out; omega, HM.out, HL7.out, ((HH7.out.kept (fun i hi => HKr.out.same i hi) (fun _ h => h)).kept (fun i hi => (ball (Below.refl w2.heap.size w2) (.cells #[.int .i64 (max (D * 1440 + xo) f), .int .i64 (min (D * 1440 + yo) t)] 23)).block i (Nat.lt_of_lt_of_le (HN.out i hi) HK2.out.size)) (fun _ h => h)).kept (fun i hi => hk4.same i hi) (fun _ h => h), by rw [HRL.out]; exact hJ4, HB3.out.trans hk4⟩)
              clear hJ4 hk4 hy hR HRL HPF HB3 HM HL7 HH7 HK2 HKr b0 b1 gF gT
              gi_wp2
              go_roundw
              case rel => exact ⟨k + 1, j, D + 1, (some ⟨g, off, none⟩), n7, c7, by omega, by omega, by omega, rfl, rfl, HF4⟩
              case measure => simp [intOf]; omega
            · clear hy hR
              gi_wp2
              refine bodyPost_ret (results_none rfl _ _ _) rfl ?_
              exact ⟨⟨_, rfl⟩, .inr ⟨_, HPF.out, hJx4⟩⟩
          · have hpc : piece op hol f t D = [] := by unfold piece; rw [if_neg HND.out, htd, if_neg hAB]
            have hrl : rl op hol f t D0 (k + 1) = rl op hol f t D0 k := by
              show rl op hol f t D0 k ++ piece op hol f t (D0 + (k : Int)) = _
              rw [← HKD.out, hpc, List.append_nil]
            have HF4 := Lib.hid (show D + 1 = D0 + ((k + 1 : Nat) : Int) ∧ JI hol (D + 1) j ∧ n7 = (hol.drop j).length ∧ Hl P (w2.alloc (.cells #[.int .i64 (max (D * 1440 + xo) f), .int .i64 (min (D * 1440 + yo) t)] 23)) (.slice (some ⟨g, off, none⟩) n7 c7) (hol.drop j) ∧ J (rl op hol f t D0 (k + 1)) (w2.alloc (.cells #[.int .i64 (max (D * 1440 + xo) f), .int .i64 (min (D * 1440 + yo) t)] 23)) ∧ Kept P W (w2.alloc (.cells #[.int .i64 (max (D * 1440 + xo) f), .int .i64 (min (D * 1440 + yo) t)] 23)) from ⟨by have := HKD.out; omega, HM.out, HL7.out, (HH7.out.kept (fun i hi => HKr.out.same i hi) (fun _ h => h)).kept (fun i hi => hb3.block i (Nat.lt_of_lt_of_le (HN.out i hi) HK2.out.size)) (fun _ h => h), by rw [hrl]; exact HJ.out _ _ _ HJ2.out hb3, HK2.out.step HN.out hb3⟩)
            clear hrl hpc htd hb3 HJ2 HND HM HL7 HH7 HK2 HKr
            gi_wp2_with fail
            refine ⟨fun _ h => (by cases h), ?_⟩
            gi_wp2
            go_roundw
            case rel => exact ⟨k + 1, j, D + 1, (some ⟨g, off, none⟩), n7, c7, by omega, by omega, by omega, rfl, rfl, HF4⟩
            case measure => simp [intOf]; omega
    · have hend := rl_end (hol := hol) HO.out hft k (by have := H.out.1; have := HD0.out; omega)
      rw [← HD0.out] at hend
      have HE := Lib.hid hend
      clear hend
      gi_wp2
      go_end0
      exact ⟨⟨_, rfl⟩, .inl (by rw [← HE.out]; exact H.out.2.2.2.2.1)⟩
end Go.Proofs.YtciopemodfpecaaDoor
