/-
  Walks: the times of a graph.
-/
import Derived.Test.YtbeoldklpklbfaaTb
namespace Go.Proofs.Ytbeoldklpklbfaa
open Go.RowKit
set_option linter.unusedVariables false
set_option linter.unusedSimpArgs false

theorem rep_set (n k : Nat) (h : k < n) : (List.replicate k (-1 : Int) ++ List.replicate (n - k) 0).set k (-1) = List.replicate (k + 1) (-1) ++ List.replicate (n - (k + 1)) 0 := by
  refine List.ext_getElem? fun i => ?_
  rw [List.getElem?_set, List.length_append, List.length_replicate, List.length_replicate, List.getElem?_append, List.getElem?_append]
  simp only [List.length_replicate, List.getElem?_replicate]
  by_cases e : k = i
  · subst e; rw [if_pos rfl, if_pos (by omega), if_pos (by omega), if_pos (by omega)]
  · rw [if_neg e]
    by_cases e1 : i < k
    · rw [if_pos e1, if_pos e1, if_pos (by omega), if_pos (by omega)]
    · rw [if_neg e1, if_neg (show ¬ i < k + 1 by omega)]
      by_cases e2 : i < n
      · rw [if_pos (by omega), if_pos (by omega)]
      · rw [if_neg (by omega), if_neg (by omega)]
theorem rep_get (n k : Nat) (h : k < n) : (List.replicate k (-1 : Int) ++ List.replicate (n - k) 0)[k]? = some 0 := by
  rw [List.getElem?_append_right (by simp)]
  simp only [List.length_replicate, List.getElem?_replicate]
  rw [if_pos (by omega)]
theorem take_next {R : List Nat} {k q : Nat} (h : R[k]? = some q) : R.take (k + 1) = R.take k ++ [q] := by rw [List.take_add_one, h]; rfl

set_option maxRecDepth 100000 in
set_option maxHeartbeats 8000000 in
theorem times_any {w : World} {ea : Option Addr} {en ec B G n f : Nat} {es : List Ln} (h : Gr w ea en ec B G n es) (hok : ∀ x ∈ es, x.ok n) (hn : n ≤ 600) (hf : f < n) :
    Calls Try.prog 38 #[.agg #[.slice ea en ec, .map (some B), .slice (some ⟨G, 0, none⟩) n n], .int .i64 (f : Int)] w fun e w' => ∃ a c L, e = .returned (.slice a n c) ∧ Below w.heap.size w w' ∧ Hl (fun k => k < w'.heap.size) w' (.slice a n c) L ∧ Tm n es f L ∧ ∀ p, dv L p ≤ 100000 * n := by
  have GW := wt_wt hok
  obtain ⟨W, hW⟩ : ∃ W, W = w.alloc (.cells #[.slice ea en ec, .map (some B), .slice (some ⟨G, 0, none⟩) n n] 63) := ⟨_, rfl⟩
  have hB : Below w.heap.size w W := by rw [hW]; exact ball (Below.refl w.heap.size w) _
  have e0 : W.heap[w.heap.size]? = some (.cells #[.slice ea en ec, .map (some B), .slice (some ⟨G, 0, none⟩) n n] 63 (0, 0)) := by rw [hW]; exact bnew _ _
  have hmk := run_make_row' (P := Try.prog) 29 3 (.int .i64 0) 8 Try.underlying29 info3' rfl .i64 .i64 n (by omega) (by omega)
  obtain ⟨b0, b1, b2⟩ := box3 e0
  have hH0 := hc_made W n
  have HH0 : Hid (Below W.heap.size W (W.alloc (.cells (madeCells #[.int .i64 0] n) 3)) ∧ Hc (W.alloc (.cells (madeCells #[.int .i64 0] n) 3)) W.heap.size (List.replicate 0 (-1) ++ List.replicate (n - 0) 0)) := Lib.hid ⟨ball (Below.refl _ _) _, hH0⟩
  have HGW := Lib.hid GW; have HB := Lib.hid hB; have HE := Lib.hid e0; have HG := Lib.hid (h.on hB)
  have hfn : (f : Int) < (n : Int) := by omega
  clear GW hB e0 h hH0 hok
  go_enter Try.func38, Try.ntmps38
  go_upto_region 1 with (fail)
  rw [← hW]
  clear hW
  go_wp2
  clear hmk b0 b1 b2
  go_loopw [19] (fun s wr => ∃ k : Nat, k ≤ n ∧ s = .int .i64 (k : Int) ∧ Hid (Below W.heap.size W wr ∧ Hc wr W.heap.size (List.replicate k (-1) ++ List.replicate (n - k) 0))) (fun s _ => n - (intOf s).toNat)
  case atStart => exact ⟨0, by omega, rfl, HH0⟩
  case round =>
    clear HH0
    obtain ⟨k, hk, rfl, HK⟩ := hrel
    by_cases hlt : k < n
    · have hlt2 : (k : Int) < (n : Int) := by omega
      have c0 := HK.out.2.cell (rep_get n k hlt)
      have f0 := HK.out.2.free k
      have h2 := HK.out.2.put k (-1) (by simp; omega)
      rw [rep_set n k hlt] at h2
      have HK2 : Hid (Below W.heap.size W (wr.setCell ⟨W.heap.size, k, none⟩ (.int .i64 (-1))) ∧ Hc (wr.setCell ⟨W.heap.size, k, none⟩ (.int .i64 (-1))) W.heap.size (List.replicate (k + 1) (-1) ++ List.replicate (n - (k + 1)) 0)) := Lib.hid ⟨Below.setCell HK.out.1 (Nat.le_refl _) _, h2⟩
      clear h2 HK
      go_wp2
      clear c0 f0
      go_roundw
      case rel => exact ⟨k + 1, by omega, by go_num, HK2⟩
      case measure => simp [intOf]; omega
    · obtain rfl : k = n := by omega
      have hlt2 : ¬ ((k : Int) < (k : Int)) := by omega
      have h1 := HK.out.2
      rw [Nat.sub_self, List.replicate_zero, List.append_nil] at h1
      have c0 := h1.cell (i := f) (x := -1) (by rw [List.getElem?_replicate, if_pos hf])
      have f0 := h1.free f
      have h2 := h1.put f 0 (by rw [List.length_replicate]; exact hf)
      have hb2 : Below W.heap.size W (wr.setCell ⟨W.heap.size, f, none⟩ (.int .i64 0)) := Below.setCell HK.out.1 (Nat.le_refl _) _
      have HT : Hid (1 = [f].length ∧ TS W W.heap.size ((List.replicate k (-1)).set f 0) (.slice (some ⟨(wr.setCell ⟨W.heap.size, f, none⟩ (.int .i64 0)).heap.size, 0, none⟩) 1 1) [f] ((wr.setCell ⟨W.heap.size, f, none⟩ (.int .i64 0)).alloc (.cells #[.int .i64 (f : Int)] 3)) ∧ Ou k es f k ((List.replicate k (-1)).set f 0) [f]) := Lib.hid
        ⟨rfl, ⟨ball hb2 _, Nat.le_refl _, h2.on (ball (Below.refl _ _) _), own_one _ _ _ hb2.size, by have := h2.lt; simp only [Value.ownBlock]; intro e; simp only [Option.some.injEq] at e; omega⟩, ou_start es hf⟩
      clear h1 h2 hb2 HK
      go_wp2
      rw [World.size_setCell] at HT
      generalize (wr.setCell ⟨W.heap.size, f, none⟩ (.int .i64 0)).alloc (.cells #[.int .i64 (f : Int)] 3) = w3 at *
      generalize wr.heap.size = g3 at *
      clear c0 f0
      go_loopg [7] k (fun C s wr => ∃ (a : Option Addr) (np c : Nat) (P : List Nat) (L : List Int), s = .slice a np c ∧ Hid (np = P.length ∧ TS W W.heap.size L (.slice a np c) P wr ∧ Ou k es f C L P))
      case atStart => exact ⟨_, _, _, _, _, rfl, HT⟩
      case round =>
        clear HT
        obtain ⟨a, np, c, P, L, rfl, HI⟩ := hrel
        by_cases hp : 0 < np
        · have hp2 : (0 : Int) < (np : Int) := by omega
          obtain ⟨hnp, hts, hou⟩ := HI.out
          have hPl : P.length ≤ k := by have := hou.cnt; have := hou.top f; have := hou.dj.zero; omega
          have hIP : ∀ x ∈ ints P, I64 x := by
            intro x hx
            obtain ⟨q, hq, rfl⟩ := List.mem_map.1 hx
            have := hou.plt q hq
            exact ⟨by omega, by omega⟩
          have hIL : ∀ x ∈ L, I64 x := by
            intro x hx
            obtain ⟨j, hj⟩ := List.getElem?_of_mem hx
            have h1 := hou.top j; have h2 := hou.dj.low j
            rw [dv_get hj] at h1 h2
            exact ⟨by omega, by omega⟩
          have hu := hts.hW.hl hIP (by rw [ints_length]; omega)
          have hv := hts.hL.hl (c := k) (by rw [hou.len]; omega) (by rw [hou.len]; exact Nat.le_refl _) hIL
          rw [hou.len] at hv
          have Hc := Lib.hid (nearest_any hu hv (fun p hp => by rw [hou.len]; exact hou.plt p hp) (by omega))
          have HIP := Lib.hid hIP
          clear hu hv hIL hIP hnp hts hou
          go_wp2_with fail
          refine Hc.out.mono ?_
          rintro e w1 ⟨i, rfl, hil, hmin, hb1⟩
          obtain ⟨hnp, hts0, hou⟩ := HI.out
          have hts := hts0.on hb1
          obtain ⟨p, hpi⟩ : ∃ p, P[i]? = some p := ⟨_, List.getElem?_eq_getElem hil⟩
          have hgp : P.getD i 0 = p := by rw [List.getD_eq_getElem?_getD, hpi]; rfl
          rw [hgp] at hmin
          have hpk := hou.plt p (List.mem_of_getElem? hpi)
          have hu := hts.hW.hl HIP.out (by rw [ints_length]; omega)
          obtain ⟨g, off, x, rfl, hg, hx, hxi, c0, hcap⟩ := hu.pick i (by rw [ints_length]; exact hil)
          have hxp : x = (p : Int) := by rw [ints_get, hpi] at hx; exact (Option.some.inj hx).symm
          subst hxp
          have hdel := delete_any hts.hW (by rw [ints_length]; omega) i (by rw [ints_length]; exact hil)
          obtain ⟨hiu, hC1⟩ := hou.take hpi hmin
          have hi2 : (i : Int) < (np : Int) := by omega
          have hwi : IntKind.i64.wrap ((i : Int) + 1) = (i : Int) + 1 := wrap_in (by omega) (by omega)
          have Hc2 := Lib.hid hdel; have HTS := Lib.hid hts; have HIU := Lib.hid hiu; have HC1 := Lib.hid hC1; have HNP := Lib.hid hnp
          have hnp0 : np ≤ 600 := by omega
          clear hdel hts hts0 hou hiu hC1 hnp hu hx hxi hg hcap hmin hgp hb1 HI HIP Hc hpi hil hPl
          go_wp2_with fail
          refine Hc2.out.mono ?_
          rintro e w2 ⟨a2, c2, rfl, ho2, hg2, he2⟩
          obtain ⟨hts2, hbl2⟩ := HTS.out.del ho2 hg2 he2
          rw [ints_length, ← HNP.out]
          rw [← HNP.out] at hts2
          obtain ⟨b0, b1, b2⟩ := box3 (bon HE.out hbl2)
          obtain ⟨na, nc, R, hnr, hR, hRl, hRn, hRi⟩ := HG.out.near p hpk
          have c9 : w2.cell? ⟨G, p, none⟩ = some (.slice na R.length nc) := (hbl2.cell (p := ⟨G, p, none⟩) HG.out.lt).trans hnr
          obtain ⟨nr, hnrl⟩ : ∃ nr, nr = R.length := ⟨_, rfl⟩
          rw [← hnrl] at c9 hR hRl
          obtain ⟨tp, htp⟩ : ∃ tp, tp = dv L p := ⟨_, rfl⟩
          have hlp : (P.eraseIdx i).length = np - 1 := by rw [List.length_eraseIdx]; have := HNP.out; split <;> omega
          have HI0 : Hid (np - 1 = (P.eraseIdx i).length ∧ TS W W.heap.size L (.slice a2 (np - 1) c2) (P.eraseIdx i) w2 ∧ Iu k es f (gk - 1) p tp (R.take 0) L (P.eraseIdx i)) := Lib.hid ⟨hlp.symm, hts2, by rw [htp, List.take_zero]; exact HIU.out⟩
          have HR := Lib.hid hR; have HRI := Lib.hid hRi; have HRN := Lib.hid hRn; have HNR := Lib.hid hnrl
          have hpk2 : (p : Int) < (k : Int) := by omega
          clear ho2 hg2 he2 hts2 hbl2 hnr hR hRn hRi hnrl htp hlp HTS HIU Hc2 HNP c0
          go_wp2
          clear b0 b1 b2 c9
          go_loopw [7, 52] (fun s t wr => ∃ (j mp cc : Nat) (aa : Option Addr) (PP : List Nat) (LL : List Int), j ≤ nr ∧ s = .slice aa mp cc ∧ t = .int .i64 (j : Int) ∧ Hid (mp = PP.length ∧ TS W W.heap.size LL (.slice aa mp cc) PP wr ∧ Iu k es f (gk - 1) p tp (R.take j) LL PP)) (fun _ t _ => nr - (intOf t).toNat)
          case atStart => exact ⟨0, _, _, _, _, _, by omega, rfl, rfl, HI0⟩
          case round =>
            clear HI0
            obtain ⟨j, mp, cc, aa, PP, LL, hj, rfl, rfl, HJ⟩ := hrel
            by_cases hjl : j < nr
            · have hjl2 : (j : Int) < (nr : Int) := by omega
              obtain ⟨hmp, hts, hiu⟩ := HJ.out
              obtain ⟨g4, off4, x, rfl, hg4, hx, hxi, c0, hcap4⟩ := HR.out.pick j (by rw [ints_length, ← HNR.out]; exact hjl)
              obtain ⟨q, hq⟩ : ∃ q, R[j]? = some q := ⟨_, List.getElem?_eq_getElem (by rw [← HNR.out]; exact hjl)⟩
              have hxq : x = (q : Int) := by rw [ints_get, hq] at hx; exact (Option.some.inj hx).symm
              subst hxq
              have hqn := HRN.out q (List.mem_of_getElem? hq)
              obtain ⟨jj, hjj⟩ := Option.isSome_iff_exists.1 ((HRI.out q).1 (List.mem_of_getElem? hq))
              obtain ⟨y, hy⟩ : ∃ y, es[jj]? = some y := ⟨_, List.getElem?_eq_getElem (fd_lt hjj)⟩
              have hyd : (es.map Ln.ed)[jj]? = some y.ed := by rw [List.getElem?_map, hy]; rfl
              have hwt := wt_of hjj
              have hmi := mi_get hy
              obtain ⟨NN, hMM⟩ := HG.out.M
              have hGm := HGW.out.pos hwt
              obtain ⟨mj, hmj⟩ : ∃ mj : Int, mj = y.ed.m := ⟨_, rfl⟩
              have hmj2 : mj = (mi es jj : Int) := by rw [hmj, hmi]; rfl
              have HMin := Lib.hid (fun (w' : World) (hb' : Below W.heap.size W w') => minutes_any (na := some ⟨G, 0, none⟩) (nn := k) (nc := k) (HG.out.E.on hb') (hMM.on hb') (p := p) (q := q) (by omega) (by omega) hjj hyd)
              rw [← hmj] at HMin
              have f0 : wr.cell? ⟨g4, off4 + j, none⟩ = some (.int .i64 (q : Int)) := (hts.below.cell (p := ⟨g4, off4 + j, none⟩) hg4).trans c0
              have hda := hiu.dq.da
              have hd0 := hiu.dq.d0
              have hta := hiu.ta
              have hlp : LL[p]? = some tp := by rw [dv_some (by rw [hiu.len]; exact hpk), hda]
              obtain ⟨yq, hyq⟩ : ∃ yq, yq = dv LL q := ⟨_, rfl⟩
              have hlq : LL[q]? = some yq := by rw [dv_some (by rw [hiu.len]; exact hqn), hyq]
              have k0 := hts.hL.cell hlp
              have hlow := hiu.dq.low q
              rw [← hyq] at hlow
              have htop := hiu.top q
              rw [← hyq] at htop
              obtain ⟨b0, b1, b2⟩ := box3 (bon HE.out hts.below)
              have hst : wr.drew.cell? ⟨W.heap.size, p, none⟩ = some (.int .i64 tp) ∧ wr.drew.cell? ⟨w.heap.size, 0, none⟩ = some (.slice ea en ec) ∧ wr.drew.cell? ⟨w.heap.size, 1, none⟩ = some (.map (some B)) ∧ wr.drew.cell? ⟨w.heap.size, 2, none⟩ = some (.slice (some ⟨G, 0, none⟩) k k) := ⟨k0, b0, b1, b2⟩
              have HST := Lib.hid hst
              have hwt2 : IntKind.i64.wrap (tp + mj) = tp + mj := wrap_in (by omega) (by omega)
              have hqk2 : (q : Int) < (k : Int) := by omega
              have HTK := Lib.hid (take_next hq)
              have HWT := Lib.hid hwt; have HMJ := Lib.hid hmj2; have HLP := Lib.hid hlp; have HLQ := Lib.hid hlq; have HYQ := Lib.hid hyq; have HLEN := Lib.hid hiu.len; have HTB := Lib.hid hts.below
              have HBND := Lib.hid (show 0 ≤ tp ∧ tp ≤ 60000000 ∧ -1 ≤ yq ∧ yq ≤ 60000000 ∧ 0 ≤ mj ∧ mj ≤ 100000 from ⟨by omega, by omega, by omega, by omega, by omega, by omega⟩)
              clear hmp hts hiu hx hxi hg4 c0 hcap4 hq hjj hy hyd hwt hmi hMM hGm hmj hmj2 hda hd0 hta hlp hlq k0 b0 b1 b2 hst hlow htop hyq
              go_upto_region 16 with (fail)
              refine wp_region_held_drew (S := fun w' => w'.cell? ⟨W.heap.size, p, none⟩ = some (.int .i64 tp) ∧ w'.cell? ⟨w.heap.size, 0, none⟩ = some (.slice ea en ec) ∧ w'.cell? ⟨w.heap.size, 1, none⟩ = some (.map (some B)) ∧ w'.cell? ⟨w.heap.size, 2, none⟩ = some (.slice (some ⟨G, 0, none⟩) k k)) (by kernel_rfl) HST.out (fun hHeld => ?_)
              change wpAnyH _ _ _ _ _ 10 #[false, false, false, false, false, false, false, false, false, false] _ _
              refine wpAnyH_take (i := 0) (oi := _) (v := .slice (some ⟨W.heap.size, 0, none⟩) k k) rfl (by kernel_rfl) (by kernel_rfl) (by kernel_rfl) (fun _ _ _ h => h) (Or.inl ⟨by rfl, fun wx hSw => ?_⟩) (by assumption) ?_
              · go_simp
                try (first | omega | (rw [IntKind.wrap_i64]; omega))
              (try simp only [Act.put, List.setIfInBounds_toArray, List.set_cons_zero, List.set_cons_succ, List.getElem_toArray, List.getElem_cons_zero, List.getElem_cons_succ])
              refine wpAnyH_take (i := 1) (oi := _) (v := .int .i64 (p : Int)) rfl (by kernel_rfl) (by kernel_rfl) (by kernel_rfl) (fun _ _ _ h => h) (Or.inl ⟨by rfl, fun wx hSw => ?_⟩) (by assumption) ?_
              · go_simp
                try (first | omega | (rw [IntKind.wrap_i64]; omega))
              (try simp only [Act.put, List.setIfInBounds_toArray, List.set_cons_zero, List.set_cons_succ, List.getElem_toArray, List.getElem_cons_zero, List.getElem_cons_succ])
              refine wpAnyH_take (i := 2) (oi := _) (v := .pointer (some ⟨W.heap.size, p, none⟩)) rfl (by kernel_rfl) (by kernel_rfl) (by kernel_rfl) (fun _ _ _ h => h) (Or.inl ⟨by rfl, fun wx hSw => ?_⟩) (by assumption) ?_
              · go_simp
                try (first | omega | (rw [IntKind.wrap_i64]; omega))
              (try simp only [Act.put, List.setIfInBounds_toArray, List.set_cons_zero, List.set_cons_succ, List.getElem_toArray, List.getElem_cons_zero, List.getElem_cons_succ])
              refine wpAnyH_take (i := 3) (oi := _) (v := .int .i64 tp) rfl (by kernel_rfl) (by kernel_rfl) (by kernel_rfl) (fun _ _ _ h => h) (Or.inl ⟨by rfl, fun wx hSw => ?_⟩) (by assumption) ?_
              · go_simp
                try (first | omega | (rw [IntKind.wrap_i64]; omega))
              (try simp only [Act.put, List.setIfInBounds_toArray, List.set_cons_zero, List.set_cons_succ, List.getElem_toArray, List.getElem_cons_zero, List.getElem_cons_succ])
              refine wpAnyH_take (i := 4) (oi := _) (v := .agg #[.slice ea en ec, .map (some B), .slice (some ⟨G, 0, none⟩) k k]) rfl (by kernel_rfl) (by kernel_rfl) (by kernel_rfl) (fun _ _ _ h => h) (Or.inl ⟨by rfl, fun wx hSw => ?_⟩) (by assumption) ?_
              · go_simp
                try (first | omega | (rw [IntKind.wrap_i64]; omega))
              (try simp only [Act.put, List.setIfInBounds_toArray, List.set_cons_zero, List.set_cons_succ, List.getElem_toArray, List.getElem_cons_zero, List.getElem_cons_succ])
              refine wpAnyH_take (i := 5) (oi := _) (v := .int .i64 (p : Int)) rfl (by kernel_rfl) (by kernel_rfl) (by kernel_rfl) (fun _ _ _ h => h) (Or.inl ⟨by rfl, fun wx hSw => ?_⟩) (by assumption) ?_
              · go_simp
                try (first | omega | (rw [IntKind.wrap_i64]; omega))
              (try simp only [Act.put, List.setIfInBounds_toArray, List.set_cons_zero, List.set_cons_succ, List.getElem_toArray, List.getElem_cons_zero, List.getElem_cons_succ])
              refine wpAnyH_take (i := 6) (oi := _) (v := .int .i64 (q : Int)) rfl (by kernel_rfl) (by kernel_rfl) (by kernel_rfl) (fun _ _ _ h => h) (Or.inl ⟨by rfl, fun wx hSw => ?_⟩) (by assumption) ?_
              · go_simp
                try (first | omega | (rw [IntKind.wrap_i64]; omega))
              (try simp only [Act.put, List.setIfInBounds_toArray, List.set_cons_zero, List.set_cons_succ, List.getElem_toArray, List.getElem_cons_zero, List.getElem_cons_succ])
              refine wpAnyH_ready (rs := [7]) (by kernel_rfl) (by simp) ?_
              refine AllReadyH.cons (o := _) rfl (fun K hK => ?_) AllReadyH.nil
              go_simp
              refine (HMin.out _ HTB.out.drew).mono ?_
              rintro e w7 ⟨rfl, hb7⟩
              have HB7 : Hid (Below wr.heap.size wr w7) := Lib.hid (btrans (Below.refl wr.heap.size wr).drew hb7)
              have h7 : w7.cell? ⟨W.heap.size, p, none⟩ = some (.int .i64 tp) ∧ w7.cell? ⟨w.heap.size, 0, none⟩ = some (.slice ea en ec) ∧ w7.cell? ⟨w.heap.size, 1, none⟩ = some (.map (some B)) ∧ w7.cell? ⟨w.heap.size, 2, none⟩ = some (.slice (some ⟨G, 0, none⟩) k k) := by
                obtain ⟨q0, q1, q2⟩ := box3 (bon (bon HE.out HTB.out) HB7.out)
                exact ⟨(HJ.out.2.1.on HB7.out).hL.cell HLP.out, q0, q1, q2⟩
              clear hb7
              go_wp2_with fail
              refine hK.out _ _ (h7) (fun hHeld => ?_)
              clear hK K
              (try simp only [Act.put, List.setIfInBounds_toArray, List.set_cons_zero, List.set_cons_succ, List.getElem_toArray, List.getElem_cons_zero, List.getElem_cons_succ])
              refine wpAnyH_take (i := 8) (oi := _) (v := .int .i64 (tp + mj)) rfl (by kernel_rfl) (by kernel_rfl) (by kernel_rfl) (fun _ _ _ h => h) (Or.inl ⟨by rfl, fun wx hSw => ?_⟩) (by assumption) ?_
              · go_simp
                try (first | omega | (rw [IntKind.wrap_i64]; omega))
              (try simp only [Act.put, List.setIfInBounds_toArray, List.set_cons_zero, List.set_cons_succ, List.getElem_toArray, List.getElem_cons_zero, List.getElem_cons_succ])
              refine wpAnyH_take (i := 9) (oi := _) (v := .int .i64 (tp + mj)) rfl (by kernel_rfl) (by kernel_rfl) (by kernel_rfl) (fun _ _ _ h => h) (Or.inl ⟨by rfl, fun wx hSw => ?_⟩) (by assumption) ?_
              · go_simp
                try (first | omega | (rw [IntKind.wrap_i64]; omega))
              (try simp only [Act.put, List.setIfInBounds_toArray, List.set_cons_zero, List.set_cons_succ, List.getElem_toArray, List.getElem_cons_zero, List.getElem_cons_succ])
              refine wpAnyH_done (by kernel_rfl) ?_ _
              clear hHeld h7
              have HJ7 : Hid (mp = PP.length ∧ TS W W.heap.size LL (.slice aa mp cc) PP w7 ∧ Iu k es f (gk - 1) p tp (R.take j) LL PP) := Lib.hid ⟨HJ.out.1, HJ.out.2.1.on HB7.out, HJ.out.2.2⟩
              clear HJ HB7 HST HMin HTB f0
              have k0 := HJ7.out.2.1.hL.cell HLQ.out
              have k1 := HJ7.out.2.1.hL.free q
              by_cases hneg : yq < 0
              · have d0 : decide (yq < 0) = true := decide_eq_true hneg
                have hn1 : PP.length ≤ 100000 := by have := HJ7.out.2.2.cnt; have := HJ7.out.2.2.top f; have := HJ7.out.2.2.dq.zero; omega
                obtain ⟨a8, c8, w8, hr8, hts8, _⟩ := HJ7.out.2.1.push q hn1
                rw [← HJ7.out.1] at hr8 hts8
                have hiu8 := HJ7.out.2.2.add HGW.out HWT.out (by rw [← HYQ.out]; exact hneg)
                rw [← HMJ.out] at hiu8
                have hts9 := hts8.set q (tp + mj) (by rw [HLEN.out]; exact hqn)
                have k2 := hts8.hL.cell HLQ.out
                have k3 := hts8.hL.free q
                have HF : Hid (mp + 1 = (PP ++ [q]).length ∧ TS W W.heap.size (LL.set q (tp + mj)) (.slice a8 (mp + 1) c8) (PP ++ [q]) (w8.setCell ⟨W.heap.size, q, none⟩ (.int .i64 (tp + mj))) ∧ Iu k es f (gk - 1) p tp (R.take (j + 1)) (LL.set q (tp + mj)) (PP ++ [q])) := Lib.hid ⟨by rw [List.length_append, HJ7.out.1]; rfl, hts9, by rw [HTK.out]; exact hiu8⟩
                have HR8 := Lib.hid hr8
                clear hn1 hr8 hts8 hiu8 hts9 HJ7
                go_wp2_with (first | (at_builtin; refine wp_appi rfl rfl rfl (.tmp 70) (.tmp 72) rfl rfl rfl HR8.out ?_))
                clear k0 k1 k2 k3
                generalize w8.setCell ⟨W.heap.size, q, none⟩ (.int .i64 (tp + mj)) = w9 at *
                go_roundw
                case rel => exact ⟨j + 1, _, _, _, _, _, by omega, rfl, by go_num, HF⟩
                case measure => simp [intOf]; omega
              · have d0 : decide (yq < 0) = false := decide_eq_false hneg
                by_cases hls : tp + mj < yq
                · have d1 : decide (tp + mj < yq) = true := decide_eq_true hls
                  have hiu8 := HJ7.out.2.2.less HGW.out HWT.out (by rw [← HYQ.out]; omega) (by rw [← HYQ.out, ← HMJ.out]; exact hls)
                  rw [← HMJ.out] at hiu8
                  have hts9 := HJ7.out.2.1.set q (tp + mj) (by rw [HLEN.out]; exact hqn)
                  have HF : Hid (mp = PP.length ∧ TS W W.heap.size (LL.set q (tp + mj)) (.slice aa mp cc) PP (w7.setCell ⟨W.heap.size, q, none⟩ (.int .i64 (tp + mj))) ∧ Iu k es f (gk - 1) p tp (R.take (j + 1)) (LL.set q (tp + mj)) PP) := Lib.hid ⟨HJ7.out.1, hts9, by rw [HTK.out]; exact hiu8⟩
                  clear hiu8 hts9 HJ7 hls hneg
                  go_wp2
                  clear k0 k1
                  generalize w7.setCell ⟨W.heap.size, q, none⟩ (.int .i64 (tp + mj)) = w9 at *
                  go_roundw
                  case rel => exact ⟨j + 1, _, _, _, _, _, by omega, rfl, by go_num, HF⟩
                  case measure => simp [intOf]; omega
                · have d1 : decide (tp + mj < yq) = false := decide_eq_false hls
                  have hiu8 := HJ7.out.2.2.same HWT.out (by rw [← HYQ.out]; omega) (by rw [← HYQ.out, ← HMJ.out]; exact hls)
                  have HF : Hid (mp = PP.length ∧ TS W W.heap.size LL (.slice aa mp cc) PP w7 ∧ Iu k es f (gk - 1) p tp (R.take (j + 1)) LL PP) := Lib.hid ⟨HJ7.out.1, HJ7.out.2.1, by rw [HTK.out]; exact hiu8⟩
                  clear hiu8 HJ7 hls hneg
                  go_wp2
                  clear k0 k1
                  go_roundw
                  case rel => exact ⟨j + 1, _, _, _, _, _, by omega, rfl, by go_num, HF⟩
                  case measure => simp [intOf]; omega
            · obtain rfl : j = nr := by omega
              have hjl2 : ¬ ((j : Int) < (j : Int)) := by omega
              have hou2 := HJ.out.2.2.done (fun q m e => by
                rw [List.take_of_length_le (by rw [← HNR.out]; exact Nat.le_refl _)]
                obtain ⟨i0, hi0, _⟩ := wt_some e
                exact (HRI.out q).2 (by rw [hi0]; rfl))
              have HF : Hid (mp = PP.length ∧ TS W W.heap.size LL (.slice aa mp cc) PP wr ∧ Ou k es f (gk - 1) LL PP) := Lib.hid ⟨HJ.out.1, HJ.out.2.1, hou2⟩
              clear hou2 HJ
              go_wp2
              go_roundg (gk - 1)
              case measure => have := HC1.out; omega
              case rel => exact ⟨_, _, _, _, _, rfl, HF⟩
        · obtain rfl : np = 0 := by omega
          have hp2 : ¬ ((0 : Int) < ((0 : Nat) : Int)) := by omega
          obtain ⟨hnp, hts, hou⟩ := HI.out
          have hP0 : P = [] := List.length_eq_zero_iff.1 hnp.symm
          subst hP0
          have hIL : ∀ x ∈ L, I64 x := by
            intro x hx
            obtain ⟨j, hj⟩ := List.getElem?_of_mem hx
            have h1 := hou.tm.2 j; have h2 := hou.dj.low j
            rw [dv_get hj] at h1 h2
            exact ⟨by omega, by omega⟩
          have hv := hts.hL.hl (c := k) (by rw [hou.len]; omega) (by rw [hou.len]; exact Nat.le_refl _) hIL
          rw [hou.len] at hv
          have HF := Lib.hid (And.intro (btrans HB.out hts.below) (And.intro hv hou.tm))
          clear hnp hts hou hIL hv HI
          go_wp2
          go_ret
          first | exact ⟨_, _, _, rfl, HF.out.1, HF.out.2.1, HF.out.2.2⟩ | exact ⟨_, _, rfl, HF.out.1, _, HF.out.2.1, HF.out.2.2⟩
end Go.Proofs.Ytbeoldklpklbfaa
