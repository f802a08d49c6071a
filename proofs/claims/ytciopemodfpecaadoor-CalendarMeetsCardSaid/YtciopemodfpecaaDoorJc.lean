/-
  Walk: both.
-/
import Derived.Test.YtciopemodfpecaaDoorJb
import Derived.Test.YtciopemodfpecaaDoorLg
namespace Go.Proofs.YtciopemodfpecaaDoor
open Go.ChangeShapes Go.WideShapes Go.ChangeAt Go.RowKit
set_option linter.unusedVariables false
set_option linter.unusedSimpArgs false
def zs : List (Int × Int) := [(0, 0), (0, 0), (0, 0), (0, 0), (0, 0), (0, 0), (0, 0)]
def zrow : Array Value := (cells zs ++ [Value.slice none 0 0]).toArray
theorem Bo.start (w : World) (cs cs' : Array Value) : Bo w cs cs' zrow zs [] (.slice none 0 0) ((((w.alloc (.cells cs 27)).alloc (.cells cs' 27)).alloc (.cells zrow 27)).alloc (.cells zrow 27)) := by
  refine ⟨ball (ball (ball (ball (Below.refl _ _) _) _) _) _, by simp, ?_, ?_, ?_, ?_, World.ownsRow_nil _ _ _ _⟩
  · exact (heap_alloc_old _ _ (by simp only [World.size_alloc]; omega)).trans ((heap_alloc_old _ _ (by simp only [World.size_alloc]; omega)).trans ((heap_alloc_old _ _ (by simp only [World.size_alloc]; omega)).trans (heap_alloc_new w _)))
  · have := heap_alloc_new (w.alloc (.cells cs 27)) (.cells cs' 27)
    rw [World.size_alloc] at this
    exact (heap_alloc_old _ _ (by simp only [World.size_alloc]; omega)).trans ((heap_alloc_old _ _ (by simp only [World.size_alloc]; omega)).trans this)
  · have := heap_alloc_new ((w.alloc (.cells cs 27)).alloc (.cells cs' 27)) (.cells zrow 27)
    rw [World.size_alloc, World.size_alloc] at this
    exact (heap_alloc_old _ _ (by simp only [World.size_alloc]; omega)).trans this
  · have := heap_alloc_new (((w.alloc (.cells cs 27)).alloc (.cells cs' 27)).alloc (.cells zrow 27)) (.cells zrow 27)
    rw [World.size_alloc, World.size_alloc, World.size_alloc] at this
    exact this
/-- The loop over the spans, at k. -/
def SpL (op op' opx : List (Int × Int)) (k : Nat) : Prop := opx.length = 7 ∧ (∀ (i : Nat) (s s' : Int × Int), i < k → op[i]? = some s → op'[i]? = some s' → opx[i]? = some (cs1 s s')) ∧ ∀ (i : Nat), k ≤ i → i < 7 → opx[i]? = some (0, 0)
theorem SpL.zero (op op' : List (Int × Int)) : SpL op op' zs 0 := by
  refine ⟨rfl, fun i s s' h => by omega, fun i _ h => ?_⟩
  rcases (by omega : i = 0 ∨ i = 1 ∨ i = 2 ∨ i = 3 ∨ i = 4 ∨ i = 5 ∨ i = 6) with rfl | rfl | rfl | rfl | rfl | rfl | rfl <;> rfl
theorem SpL.keep {op op' opx : List (Int × Int)} {k : Nat} (h : SpL op op' opx k) {x y x' y' : Int} (hs : op[k]? = some (x, y)) (hs' : op'[k]? = some (x', y')) (hk : k < 7) (hc : ¬ max x x' < min y y') : SpL op op' opx (k + 1) := by
  refine ⟨h.1, fun i s s' hi h1 h2 => ?_, fun i hi => h.2.2 i (by omega)⟩
  by_cases e : i = k
  · subst e
    rw [hs] at h1; rw [hs'] at h2
    obtain rfl := Option.some.inj h1
    obtain rfl := Option.some.inj h2
    rw [h.2.2 i (Nat.le_refl _) hk]
    unfold cs1
    rw [if_neg hc]
  · exact h.2.1 i s s' (by omega) h1 h2
theorem SpL.put {op op' opx : List (Int × Int)} {k : Nat} (h : SpL op op' opx k) {x y x' y' a b : Int} (hs : op[k]? = some (x, y)) (hs' : op'[k]? = some (x', y')) (hk : k < 7) (hc : max x x' < min y y') (ha : a = max x x') (hb : b = min y y') : SpL op op' (opx.set k (a, b)) (k + 1) := by
  subst ha hb
  refine ⟨by rw [List.length_set]; exact h.1, fun i s s' hi h1 h2 => ?_, fun i hi h7 => ?_⟩
  · by_cases e : i = k
    · subst e
      rw [hs] at h1; rw [hs'] at h2
      obtain rfl := Option.some.inj h1
      obtain rfl := Option.some.inj h2
      rw [List.getElem?_set_self (by rw [h.1]; exact hk)]
      unfold cs1
      rw [if_pos hc]
    · rw [List.getElem?_set_ne (by omega)]
      exact h.2.1 i s s' (by omega) h1 h2
  · rw [List.getElem?_set_ne (by omega)]
    exact h.2.2 i (by omega) h7

set_option maxRecDepth 100000 in
set_option maxHeartbeats 32000000 in
theorem both37 (cs cs' : Array Value) (op op' : List (Int × Int)) (hol hol' : List Int) (w : World) (h : Cal (fun k => k < w.heap.size) w cs op hol) (h' : Cal (fun k => k < w.heap.size) w cs' op' hol')
    (hs : holB (-1) hol = true) (hs' : holB (-1) hol' = true) (hl : hol.length ≤ 300) (hl' : hol'.length ≤ 300) :
    Calls Tryd.prog 37 #[.agg cs, .agg cs'] w fun e w' => ∃ csx opx, e = .returned (.agg csx) ∧ Below w.heap.size w w' ∧ Cal (fun k => k < w'.heap.size) w' csx opx (mH hol hol') ∧ ∀ (i : Nat) (s s' : Int × Int), op[i]? = some s → op'[i]? = some s' → opx[i]? = some (cs1 s s') := by
  have HH := Lib.hid h; have HH' := Lib.hid h'
  have HB := Lib.hid (Bo.start w cs cs')
  have HSO := Lib.hid hs; have HSO' := Lib.hid hs'
  have hmh := mH_ok _ hol hol' (-1) (Nat.le_refl _) hs hs'
  obtain ⟨n, hn⟩ : ∃ n, n = hol.length := ⟨_, rfl⟩
  obtain ⟨n', hn'⟩ : ∃ n, n = hol'.length := ⟨_, rfl⟩
  rw [← hn] at hl; rw [← hn'] at hl'
  have HMH := Lib.hid hmh; have HN := Lib.hid hn; have HN' := Lib.hid hn'
  clear h h' hs hs' hn hn' hmh
  go_enter Tryd.func37, Tryd.ntmps37
  go_wp2
  go_loopw [6] (fun s wr => ∃ (k : Nat) (opx : List (Int × Int)), k ≤ 7 ∧ s = .int .i64 (k : Int) ∧ Hid (SpL op op' opx k ∧ Bo w cs cs' zrow opx [] (.slice none 0 0) wr)) (fun s _ => 7 - (intOf s).toNat)
  case atStart => exact ⟨0, zs, by omega, rfl, Lib.hid ⟨SpL.zero op op', HB.out⟩⟩
  case round =>
    obtain ⟨k, opx, hk, rfl, HR⟩ := hrel
    clear HB
    by_cases hlt : k < 7
    · have hlt2 : (k : Int) < 7 := by omega
      have hk0 : (0 : Int) ≤ (k : Int) := by omega
      obtain ⟨s, hs⟩ : ∃ s, op[k]? = some s := ⟨_, List.getElem?_eq_getElem (by rw [HH.out.len]; exact hlt)⟩
      obtain ⟨s', hs'⟩ : ∃ s, op'[k]? = some s := ⟨_, List.getElem?_eq_getElem (by rw [HH'.out.len]; exact hlt)⟩
      obtain ⟨x, y⟩ := s
      obtain ⟨x', y'⟩ := s'
      obtain ⟨c0, c1⟩ := (HH.out.box HR.out.2.c).2.1 _ _ hs
      obtain ⟨d0, d1⟩ := (HH'.out.box HR.out.2.d).2.1 _ _ hs'
      simp only at c0 c1 d0 d1
      obtain ⟨P, hP⟩ : ∃ P, max x x' = P := ⟨_, rfl⟩
      obtain ⟨Q, hQ⟩ : ∃ Q, min y y' = Q := ⟨_, rfl⟩
      have HP := Lib.hid hP; have HQ := Lib.hid hQ
      have HS := Lib.hid hs; have HS' := Lib.hid hs'
      clear hs hs'
      have hkw : IntKind.i64.wrap ((k : Int) + 1) = (k : Int) + 1 := by rw [IntKind.wrap_i64]; omega
      go_upto_region 5 with (fail)
      go_cut [7] from 12 to 47 (fun s7 wx => ∃ g : Nat, s7 = .pointer (some ⟨g, 0, none⟩) ∧ wx.heap[g]? = some (.cells #[.int .i64 P, .int .i64 Q] 23 (0, 0)) ∧ Below wr.heap.size wr wx)
      case first =>
        go_region_held3 (fun w' => w'.cell? ⟨w.heap.size, k * 2, none⟩ = some (.int .i64 x) ∧ w'.cell? ⟨w.heap.size, k * 2 + 1, none⟩ = some (.int .i64 y) ∧ w'.cell? ⟨w.heap.size + 1, k * 2, none⟩ = some (.int .i64 x') ∧ w'.cell? ⟨w.heap.size + 1, k * 2 + 1, none⟩ = some (.int .i64 y')) (first | (go_keep; done) | (refine ⟨?_, ?_, ?_, ?_⟩ <;> (repeat (first | with_reducible assumption | with_reducible apply cellDrew | with_reducible apply cellAlloc)))) (fail)
        all_goals (go_wp2_with fail; go_meet; exact ⟨wr.heap.size, rfl, heap_alloc_new wr _, (ball (Below.refl _ _) _).drew⟩)
      case rest =>
      obtain ⟨g7, rfl, hg7, hbw⟩ := hcut
      have HD2 := Lib.hid (HR.out.2.call hbw)
      clear hP hQ c0 c1 d0 d1 hbw
      have f0 : wc.cell? ⟨g7, 0, none⟩ = some (.int .i64 P) := by rw [cell_of_row wc g7 0 _ 23 (0, 0) hg7]; rfl
      have f1 : wc.cell? ⟨g7, 1, none⟩ = some (.int .i64 Q) := by rw [cell_of_row wc g7 1 _ 23 (0, 0) hg7]; rfl
      have HG7 := Lib.hid hg7
      clear hg7
      by_cases cPQ : P < Q
      · have dPQ : decide (P < Q) = true := decide_eq_true cPQ
        have HSP := Lib.hid (HD2.out.span HR.out.1.1 k hlt P Q)
        have HL1 := Lib.hid (HR.out.1.put HS.out HS'.out hlt (by rw [HP.out, HQ.out]; exact cPQ) HP.out.symm HQ.out.symm)
        clear HR
        go_wp2_with (first | (refine wpList_load_row rfl 23 (.tmp 7) rfl g7 rfl 23 #[.int .i64 P, .int .i64 Q] (0, 0) _ HG7.out Tryd.underlying23 rfl size23 ?_) | (refine wpList_store_mid rfl 23 (.tmp 47) (.tmp 45) rfl (w.heap.size + 1 + 1 + 1) (k * 2) #[.int .i64 P, .int .i64 Q] rfl rfl HSP.out.1 size23 (all2 P Q) ?_))
        go_roundw
        case rel => exact ⟨k + 1, _, by omega, by go_num, Lib.hid ⟨HL1.out, HSP.out.2⟩⟩
        case measure => simp [intOf]; omega
      · have dPQ : decide (P < Q) = false := decide_eq_false cPQ
        have HL1 := Lib.hid (HR.out.1.keep HS.out HS'.out hlt (by rw [HP.out, HQ.out]; exact cPQ))
        clear HR
        go_wp2
        go_roundw
        case rel => exact ⟨k + 1, opx, by omega, by go_num, Lib.hid ⟨HL1.out, HD2.out⟩⟩
        case measure => simp [intOf]; omega
    · obtain rfl : k = 7 := by omega
      have hlt7 : ¬ ((7 : Int) < 7) := by omega
      have HB := Lib.hid HR.out.2
      have HSP := Lib.hid HR.out.1
      clear HR hlt
      go_wp2
      go_loopw [8, 9] (fun s t wz => ∃ (a b : Nat) (l : List Int) (v : Value), a ≤ n ∧ b ≤ n' ∧ s = .int .i64 (a : Int) ∧ t = .int .i64 (b : Int) ∧ Hid (l ++ mH (hol.drop a) (hol'.drop b) = mH hol hol' ∧ Bo w cs cs' zrow opx l v wz)) (fun s t _ => n + n' - (intOf s).toNat - (intOf t).toNat)
      case atStart => exact ⟨0, 0, [], _, Nat.zero_le _, Nat.zero_le _, rfl, rfl, Lib.hid ⟨by simp, HB.out⟩⟩
      case round =>
        obtain ⟨a, b, l, v, ha, hb, rfl, rfl, HR⟩ := hrel
        clear HB
        obtain ⟨pa, ca, m0, hh0⟩ := HR.out.2.holC HH.out
        obtain ⟨pb, cb, m1, hh1⟩ := HR.out.2.holD HH'.out
        rw [← HN.out] at m0 hh0
        rw [← HN'.out] at m1 hh1
        have HL := Lib.hid hh0; have HL' := Lib.hid hh1
        have hll : l.length ≤ 600 := by
          have h1 := HMH.out.2.2
          rw [← HR.out.1, List.length_append] at h1
          have := HN.out; have := HN'.out; omega
        clear hh0 hh1
        by_cases hab : a < n ∨ b < n'
        · obtain ⟨day, a2, b2, hsel, ha2, hax, han, hb2, hbx, hbn, hin, hlt2, hdi⟩ := mstep HSO.out HSO'.out (by rw [← HN.out]; exact ha) (by rw [← HN'.out]; exact hb) (by rw [← HN.out, ← HN'.out]; exact hab) HR.out.1
          rw [← HN.out, ← HN'.out] at hsel
          rw [← HN.out] at han
          rw [← HN'.out] at hbn
          have HA2 := Lib.hid ha2; have HAX := Lib.hid hax; have HB2 := Lib.hid hb2; have HBX := Lib.hid hbx; have HIN := Lib.hid hin; have HAB := Lib.hid hlt2; have HSEL := Lib.hid hsel
          have HBO := Lib.hid HR.out.2
          clear hsel ha2 hax hb2 hbx hin hlt2 hdi HR
          have ea0 : (0 : Int) ≤ (a : Int) := by omega
          have eb0 : (0 : Int) ≤ (b : Int) := by omega
          rcases HSEL.out with ⟨g1, g2, g3⟩ | ⟨g1, g2, g3, y, g4, g5⟩ | ⟨g1, g2, g3, x, g4, g5⟩ | ⟨g1, g2, g3⟩
          · obtain rfl := g1
            have q1 : (a : Int) < (n : Int) := by omega
            have q1d : decide ((a : Int) < (n : Int)) = true := decide_eq_true (by omega)
            have q2 : ((b : Int) == (b : Int)) = true := by simp
            have q3 : ¬ ((b : Int) < (b : Int)) := by omega
            have q3d : decide ((b : Int) < (b : Int)) = false := decide_eq_false (by omega)
            obtain ⟨ga, oa, xa, rfl, hga, hxa, hxi, cxa, hca⟩ := HL.out.pick a (by rw [← HN.out]; omega)
            obtain rfl : xa = day := by rw [hxa] at g3; exact Option.some.inj g3
            clear g3 hxa HSEL
            go_wp2_with fail
            go_quiet (fail)
            obtain ⟨wq, hwq⟩ : ∃ wq, wq = wr.drewN nq := ⟨_, rfl⟩
            rw [← hwq]
            have HBQ : Hid (Bo w cs cs' zrow opx l v wq) := by rw [hwq]; exact Lib.hid (HBO.out.call (bdrewN (Below.refl _ _) nq))
            have HLQ : Hid (Hl (fun k => k < wq.heap.size) wq (.slice (some ⟨ga, oa, none⟩) n ca) hol) := by rw [hwq]; exact Lib.hid (HL.out.kept (fun _ _ => rfl) (fun _ hk => hk))
            have HLQ' : Hid (Hl (fun k => k < wq.heap.size) wq (.slice pb b cb) hol') := by rw [hwq]; exact Lib.hid (HL'.out.kept (fun _ _ => rfl) (fun _ hk => hk))
            replace m0 : wq.cell? ⟨w.heap.size, 14, none⟩ = some (.slice (some ⟨ga, oa, none⟩) n ca) := by rw [hwq]; exact m0
            replace m1 : wq.cell? ⟨w.heap.size + 1, 14, none⟩ = some (.slice pb b cb) := by rw [hwq]; exact m1
            replace cxa : wq.cell? ⟨ga, oa + a, none⟩ = some (.int .i64 xa) := by rw [hwq]; exact cxa
            clear hwq HBO HL HL'
            have x14 := HBQ.out.x14 HSP.out.1
            obtain ⟨v', w3, hap, hc3, hz3, hbo⟩ := HBQ.out.push HSP.out.1 xa (by omega)
            obtain ⟨pv, nv, cv, hv3⟩ := hbo.shape3
            subst hv3
            have HB3 := Lib.hid hbo
            clear hbo
            have HAP := Lib.hid hap
            clear hap HBQ HLQ HLQ'
            go_wp2_with (first | (at_builtin; refine wp_appt25 rfl rfl rfl (.tmp 96) (.tmp 98) rfl rfl rfl HAP.out ?_))
            generalize w3.setCell ⟨w.heap.size + 1 + 1 + 1, 14, none⟩ (.slice pv nv cv) = w4 at *
            obtain ⟨p3, k3, m03, h03⟩ := HB3.out.holC HH.out
            obtain ⟨p4, k4, m13, h13⟩ := HB3.out.holD HH'.out
            rw [← HN.out] at m03 h03
            rw [← HN'.out] at m13 h13
            have HL3 := Lib.hid h03; have HL4 := Lib.hid h13
            clear h03 h13 HAP hc3 hz3 x14 m0 m1
            go_loopw [8] (fun s wz => ∃ j : Nat, (j = a ∨ j = a2) ∧ s = .int .i64 (j : Int) ∧ w4 = wz) (fun s _ => a2 - (intOf s).toNat)
            case atStart => exact ⟨a, .inl rfl, rfl, rfl⟩
            case round =>
              obtain ⟨j, hj, rfl, rfl⟩ := hrel
              have zj : (0 : Int) ≤ (j : Int) := by omega
              by_cases ej : j = a2
              · subst ej
                clear hj
                by_cases qj : j < n
                · have qji : (j : Int) < (n : Int) := by omega
                  have qjd : decide ((j : Int) < (n : Int)) = true := decide_eq_true qji
                  obtain ⟨gj, oj, z, hpj, hgj, hzj, hzij, czj, hczj⟩ := HL3.out.pick j (by rw [← HN.out]; exact qj)
                  have hltj := HAX.out z hzj
                  subst hpj
                  have zdj : ¬ z ≤ xa := by omega
                  have zddj : decide (z ≤ xa) = false := decide_eq_false zdj
                  clear hzj
                  go_wp2
                  go_loopw [9] (fun s wz => ∃ jj : Nat, (jj = b ∨ jj = b2) ∧ s = .int .i64 (jj : Int) ∧ w4 = wz) (fun s _ => b2 - (intOf s).toNat)
                  case atStart => exact ⟨b, .inl rfl, rfl, rfl⟩
                  case round =>
                    obtain ⟨jj, hjj, rfl, rfl⟩ := hrel
                    have zjj : (0 : Int) ≤ (jj : Int) := by omega
                    by_cases ejj : jj = b2
                    · subst ejj
                      clear hjj
                      by_cases qjj : jj < b
                      · have qjji : (jj : Int) < (b : Int) := by omega
                        have qjjd : decide ((jj : Int) < (b : Int)) = true := decide_eq_true qjji
                        obtain ⟨gjj, ojj, z, hpjj, hgjj, hzjj, hzijj, czjj, hczjj⟩ := HL4.out.pick jj (by rw [← HN'.out]; exact qjj)
                        have hltjj := HBX.out z hzjj
                        subst hpjj
                        have zdjj : ¬ z ≤ xa := by omega
                        have zddjj : decide (z ≤ xa) = false := decide_eq_false zdjj
                        clear hzjj
                        go_wp2
                        go_roundw
                        case rel => exact ⟨j, jj, l ++ [xa], _, by omega, by omega, rfl, rfl, Lib.hid ⟨HIN.out, HB3.out⟩⟩
                        case measure => have := HAB.out; simp [intOf]; omega
                      · have qjji : ¬ (jj : Int) < (b : Int) := by omega
                        have qjjd : decide ((jj : Int) < (b : Int)) = false := decide_eq_false qjji
                        go_wp2
                        go_roundw
                        case rel => exact ⟨j, jj, l ++ [xa], _, by omega, by omega, rfl, rfl, Lib.hid ⟨HIN.out, HB3.out⟩⟩
                        case measure => have := HAB.out; simp [intOf]; omega
                    · obtain ⟨e2jj, x2, hx2, hx3⟩ : b2 = jj + 1 ∧ ∃ x, hol'[jj]? = some x ∧ x ≤ xa := by
                        have hj := hjj.resolve_right ejj
                        rcases HB2.out with h | ⟨h, h2⟩
                        · exact absurd (hj.trans h.symm) ejj
                        · rw [hj]; exact ⟨h, h2⟩
                      have HE2 := Lib.hid e2jj
                      have qjj : jj < b := by rw [HN'.out]; exact (List.getElem?_eq_some_iff.1 hx2).1
                      have qjji : (jj : Int) < (b : Int) := by omega
                      have qjjd : decide ((jj : Int) < (b : Int)) = true := decide_eq_true qjji
                      have HJ := Lib.hid hjj
                      obtain ⟨gjj, ojj, z, hpjj, hgjj, hzjj, hzijj, czjj, hczjj⟩ := HL4.out.pick jj (by rw [← HN'.out]; exact qjj)
                      subst hpjj
                      have hzx : z ≤ xa := by rw [hzjj] at hx2; have := Option.some.inj hx2; omega
                      have zddjj : decide (z ≤ xa) = true := decide_eq_true hzx
                      have hwjj : IntKind.i64.wrap ((jj : Int) + 1) = (jj : Int) + 1 := by rw [IntKind.wrap_i64]; omega
                      clear hzjj hx2 hx3 e2jj hjj ejj
                      go_wp2
                      go_roundw
                      case rel => exact ⟨jj + 1, .inr HE2.out.symm, by go_num, trivial⟩
                      case measure => have := HE2.out; simp [intOf]; omega

                · have qji : ¬ (j : Int) < (n : Int) := by omega
                  have qjd : decide ((j : Int) < (n : Int)) = false := decide_eq_false qji
                  go_wp2
                  go_loopw [9] (fun s wz => ∃ jj : Nat, (jj = b ∨ jj = b2) ∧ s = .int .i64 (jj : Int) ∧ w4 = wz) (fun s _ => b2 - (intOf s).toNat)
                  case atStart => exact ⟨b, .inl rfl, rfl, rfl⟩
                  case round =>
                    obtain ⟨jj, hjj, rfl, rfl⟩ := hrel
                    have zjj : (0 : Int) ≤ (jj : Int) := by omega
                    by_cases ejj : jj = b2
                    · subst ejj
                      clear hjj
                      by_cases qjj : jj < b
                      · have qjji : (jj : Int) < (b : Int) := by omega
                        have qjjd : decide ((jj : Int) < (b : Int)) = true := decide_eq_true qjji
                        obtain ⟨gjj, ojj, z, hpjj, hgjj, hzjj, hzijj, czjj, hczjj⟩ := HL4.out.pick jj (by rw [← HN'.out]; exact qjj)
                        have hltjj := HBX.out z hzjj
                        subst hpjj
                        have zdjj : ¬ z ≤ xa := by omega
                        have zddjj : decide (z ≤ xa) = false := decide_eq_false zdjj
                        clear hzjj
                        go_wp2
                        go_roundw
                        case rel => exact ⟨j, jj, l ++ [xa], _, by omega, by omega, rfl, rfl, Lib.hid ⟨HIN.out, HB3.out⟩⟩
                        case measure => have := HAB.out; simp [intOf]; omega
                      · have qjji : ¬ (jj : Int) < (b : Int) := by omega
                        have qjjd : decide ((jj : Int) < (b : Int)) = false := decide_eq_false qjji
                        go_wp2
                        go_roundw
                        case rel => exact ⟨j, jj, l ++ [xa], _, by omega, by omega, rfl, rfl, Lib.hid ⟨HIN.out, HB3.out⟩⟩
                        case measure => have := HAB.out; simp [intOf]; omega
                    · obtain ⟨e2jj, x2, hx2, hx3⟩ : b2 = jj + 1 ∧ ∃ x, hol'[jj]? = some x ∧ x ≤ xa := by
                        have hj := hjj.resolve_right ejj
                        rcases HB2.out with h | ⟨h, h2⟩
                        · exact absurd (hj.trans h.symm) ejj
                        · rw [hj]; exact ⟨h, h2⟩
                      have HE2 := Lib.hid e2jj
                      have qjj : jj < b := by rw [HN'.out]; exact (List.getElem?_eq_some_iff.1 hx2).1
                      have qjji : (jj : Int) < (b : Int) := by omega
                      have qjjd : decide ((jj : Int) < (b : Int)) = true := decide_eq_true qjji
                      have HJ := Lib.hid hjj
                      obtain ⟨gjj, ojj, z, hpjj, hgjj, hzjj, hzijj, czjj, hczjj⟩ := HL4.out.pick jj (by rw [← HN'.out]; exact qjj)
                      subst hpjj
                      have hzx : z ≤ xa := by rw [hzjj] at hx2; have := Option.some.inj hx2; omega
                      have zddjj : decide (z ≤ xa) = true := decide_eq_true hzx
                      have hwjj : IntKind.i64.wrap ((jj : Int) + 1) = (jj : Int) + 1 := by rw [IntKind.wrap_i64]; omega
                      clear hzjj hx2 hx3 e2jj hjj ejj
                      go_wp2
                      go_roundw
                      case rel => exact ⟨jj + 1, .inr HE2.out.symm, by go_num, trivial⟩
                      case measure => have := HE2.out; simp [intOf]; omega

              · obtain ⟨e2j, x2, hx2, hx3⟩ : a2 = j + 1 ∧ ∃ x, hol[j]? = some x ∧ x ≤ xa := by
                  have hj := hj.resolve_right ej
                  rcases HA2.out with h | ⟨h, h2⟩
                  · exact absurd (hj.trans h.symm) ej
                  · rw [hj]; exact ⟨h, h2⟩
                have HE2 := Lib.hid e2j
                have qj : j < n := by rw [HN.out]; exact (List.getElem?_eq_some_iff.1 hx2).1
                have qji : (j : Int) < (n : Int) := by omega
                have qjd : decide ((j : Int) < (n : Int)) = true := decide_eq_true qji
                have HJ := Lib.hid hj
                obtain ⟨gj, oj, z, hpj, hgj, hzj, hzij, czj, hczj⟩ := HL3.out.pick j (by rw [← HN.out]; exact qj)
                subst hpj
                have hzx : z ≤ xa := by rw [hzj] at hx2; have := Option.some.inj hx2; omega
                have zddj : decide (z ≤ xa) = true := decide_eq_true hzx
                have hwj : IntKind.i64.wrap ((j : Int) + 1) = (j : Int) + 1 := by rw [IntKind.wrap_i64]; omega
                clear hzj hx2 hx3 e2j hj ej
                go_wp2
                go_roundw
                case rel => exact ⟨j + 1, .inr HE2.out.symm, by go_num, trivial⟩
                case measure => have := HE2.out; simp [intOf]; omega
          · have q1 : (a : Int) < (n : Int) := by omega
            have q1d : decide ((a : Int) < (n : Int)) = true := decide_eq_true (by omega)
            have q2 : (b : Int) < (n' : Int) := by omega
            have q2d : decide ((b : Int) < (n' : Int)) = true := decide_eq_true (by omega)
            have q3 : ((b : Int) == (n' : Int)) = false := by rw [beq_eq_false_iff_ne]; omega
            obtain ⟨ga, oa, xa, rfl, hga, hxa, hxi, cxa, hca⟩ := HL.out.pick a (by rw [← HN.out]; omega)
            obtain ⟨gb, ob, xb, rfl, hgb, hxb, hyi, cxb, hcb⟩ := HL'.out.pick b (by rw [← HN'.out]; omega)
            obtain rfl : xa = day := by rw [hxa] at g3; exact Option.some.inj g3
            obtain rfl : xb = y := by rw [hxb] at g4; exact Option.some.inj g4
            have q4 : decide (xa ≤ xb) = true := decide_eq_true (by omega)
            clear g3 g4 hxa hxb HSEL
            go_wp2_with fail
            go_quiet (fail)
            obtain ⟨wq, hwq⟩ : ∃ wq, wq = wr.drewN nq := ⟨_, rfl⟩
            rw [← hwq]
            have HBQ : Hid (Bo w cs cs' zrow opx l v wq) := by rw [hwq]; exact Lib.hid (HBO.out.call (bdrewN (Below.refl _ _) nq))
            have HLQ : Hid (Hl (fun k => k < wq.heap.size) wq (.slice (some ⟨ga, oa, none⟩) n ca) hol) := by rw [hwq]; exact Lib.hid (HL.out.kept (fun _ _ => rfl) (fun _ hk => hk))
            have HLQ' : Hid (Hl (fun k => k < wq.heap.size) wq (.slice (some ⟨gb, ob, none⟩) n' cb) hol') := by rw [hwq]; exact Lib.hid (HL'.out.kept (fun _ _ => rfl) (fun _ hk => hk))
            replace m0 : wq.cell? ⟨w.heap.size, 14, none⟩ = some (.slice (some ⟨ga, oa, none⟩) n ca) := by rw [hwq]; exact m0
            replace m1 : wq.cell? ⟨w.heap.size + 1, 14, none⟩ = some (.slice (some ⟨gb, ob, none⟩) n' cb) := by rw [hwq]; exact m1
            replace cxa : wq.cell? ⟨ga, oa + a, none⟩ = some (.int .i64 xa) := by rw [hwq]; exact cxa
            replace cxb : wq.cell? ⟨gb, ob + b, none⟩ = some (.int .i64 xb) := by rw [hwq]; exact cxb
            clear hwq HBO HL HL'
            have x14 := HBQ.out.x14 HSP.out.1
            obtain ⟨v', w3, hap, hc3, hz3, hbo⟩ := HBQ.out.push HSP.out.1 xa (by omega)
            obtain ⟨pv, nv, cv, hv3⟩ := hbo.shape3
            subst hv3
            have HB3 := Lib.hid hbo
            clear hbo
            have HAP := Lib.hid hap
            clear hap HBQ HLQ HLQ'
            go_wp2_with (first | (at_builtin; refine wp_appt25 rfl rfl rfl (.tmp 96) (.tmp 98) rfl rfl rfl HAP.out ?_))
            generalize w3.setCell ⟨w.heap.size + 1 + 1 + 1, 14, none⟩ (.slice pv nv cv) = w4 at *
            obtain ⟨p3, k3, m03, h03⟩ := HB3.out.holC HH.out
            obtain ⟨p4, k4, m13, h13⟩ := HB3.out.holD HH'.out
            rw [← HN.out] at m03 h03
            rw [← HN'.out] at m13 h13
            have HL3 := Lib.hid h03; have HL4 := Lib.hid h13
            clear h03 h13 HAP hc3 hz3 x14 m0 m1
            go_loopw [8] (fun s wz => ∃ j : Nat, (j = a ∨ j = a2) ∧ s = .int .i64 (j : Int) ∧ w4 = wz) (fun s _ => a2 - (intOf s).toNat)
            case atStart => exact ⟨a, .inl rfl, rfl, rfl⟩
            case round =>
              obtain ⟨j, hj, rfl, rfl⟩ := hrel
              have zj : (0 : Int) ≤ (j : Int) := by omega
              by_cases ej : j = a2
              · subst ej
                clear hj
                by_cases qj : j < n
                · have qji : (j : Int) < (n : Int) := by omega
                  have qjd : decide ((j : Int) < (n : Int)) = true := decide_eq_true qji
                  obtain ⟨gj, oj, z, hpj, hgj, hzj, hzij, czj, hczj⟩ := HL3.out.pick j (by rw [← HN.out]; exact qj)
                  have hltj := HAX.out z hzj
                  subst hpj
                  have zdj : ¬ z ≤ xa := by omega
                  have zddj : decide (z ≤ xa) = false := decide_eq_false zdj
                  clear hzj
                  go_wp2
                  go_loopw [9] (fun s wz => ∃ jj : Nat, (jj = b ∨ jj = b2) ∧ s = .int .i64 (jj : Int) ∧ w4 = wz) (fun s _ => b2 - (intOf s).toNat)
                  case atStart => exact ⟨b, .inl rfl, rfl, rfl⟩
                  case round =>
                    obtain ⟨jj, hjj, rfl, rfl⟩ := hrel
                    have zjj : (0 : Int) ≤ (jj : Int) := by omega
                    by_cases ejj : jj = b2
                    · subst ejj
                      clear hjj
                      by_cases qjj : jj < n'
                      · have qjji : (jj : Int) < (n' : Int) := by omega
                        have qjjd : decide ((jj : Int) < (n' : Int)) = true := decide_eq_true qjji
                        obtain ⟨gjj, ojj, z, hpjj, hgjj, hzjj, hzijj, czjj, hczjj⟩ := HL4.out.pick jj (by rw [← HN'.out]; exact qjj)
                        have hltjj := HBX.out z hzjj
                        subst hpjj
                        have zdjj : ¬ z ≤ xa := by omega
                        have zddjj : decide (z ≤ xa) = false := decide_eq_false zdjj
                        clear hzjj
                        go_wp2
                        go_roundw
                        case rel => exact ⟨j, jj, l ++ [xa], _, by omega, by omega, rfl, rfl, Lib.hid ⟨HIN.out, HB3.out⟩⟩
                        case measure => have := HAB.out; simp [intOf]; omega
                      · have qjji : ¬ (jj : Int) < (n' : Int) := by omega
                        have qjjd : decide ((jj : Int) < (n' : Int)) = false := decide_eq_false qjji
                        go_wp2
                        go_roundw
                        case rel => exact ⟨j, jj, l ++ [xa], _, by omega, by omega, rfl, rfl, Lib.hid ⟨HIN.out, HB3.out⟩⟩
                        case measure => have := HAB.out; simp [intOf]; omega
                    · obtain ⟨e2jj, x2, hx2, hx3⟩ : b2 = jj + 1 ∧ ∃ x, hol'[jj]? = some x ∧ x ≤ xa := by
                        have hj := hjj.resolve_right ejj
                        rcases HB2.out with h | ⟨h, h2⟩
                        · exact absurd (hj.trans h.symm) ejj
                        · rw [hj]; exact ⟨h, h2⟩
                      have HE2 := Lib.hid e2jj
                      have qjj : jj < n' := by rw [HN'.out]; exact (List.getElem?_eq_some_iff.1 hx2).1
                      have qjji : (jj : Int) < (n' : Int) := by omega
                      have qjjd : decide ((jj : Int) < (n' : Int)) = true := decide_eq_true qjji
                      have HJ := Lib.hid hjj
                      obtain ⟨gjj, ojj, z, hpjj, hgjj, hzjj, hzijj, czjj, hczjj⟩ := HL4.out.pick jj (by rw [← HN'.out]; exact qjj)
                      subst hpjj
                      have hzx : z ≤ xa := by rw [hzjj] at hx2; have := Option.some.inj hx2; omega
                      have zddjj : decide (z ≤ xa) = true := decide_eq_true hzx
                      have hwjj : IntKind.i64.wrap ((jj : Int) + 1) = (jj : Int) + 1 := by rw [IntKind.wrap_i64]; omega
                      clear hzjj hx2 hx3 e2jj hjj ejj
                      go_wp2
                      go_roundw
                      case rel => exact ⟨jj + 1, .inr HE2.out.symm, by go_num, trivial⟩
                      case measure => have := HE2.out; simp [intOf]; omega

                · have qji : ¬ (j : Int) < (n : Int) := by omega
                  have qjd : decide ((j : Int) < (n : Int)) = false := decide_eq_false qji
                  go_wp2
                  go_loopw [9] (fun s wz => ∃ jj : Nat, (jj = b ∨ jj = b2) ∧ s = .int .i64 (jj : Int) ∧ w4 = wz) (fun s _ => b2 - (intOf s).toNat)
                  case atStart => exact ⟨b, .inl rfl, rfl, rfl⟩
                  case round =>
                    obtain ⟨jj, hjj, rfl, rfl⟩ := hrel
                    have zjj : (0 : Int) ≤ (jj : Int) := by omega
                    by_cases ejj : jj = b2
                    · subst ejj
                      clear hjj
                      by_cases qjj : jj < n'
                      · have qjji : (jj : Int) < (n' : Int) := by omega
                        have qjjd : decide ((jj : Int) < (n' : Int)) = true := decide_eq_true qjji
                        obtain ⟨gjj, ojj, z, hpjj, hgjj, hzjj, hzijj, czjj, hczjj⟩ := HL4.out.pick jj (by rw [← HN'.out]; exact qjj)
                        have hltjj := HBX.out z hzjj
                        subst hpjj
                        have zdjj : ¬ z ≤ xa := by omega
                        have zddjj : decide (z ≤ xa) = false := decide_eq_false zdjj
                        clear hzjj
                        go_wp2
                        go_roundw
                        case rel => exact ⟨j, jj, l ++ [xa], _, by omega, by omega, rfl, rfl, Lib.hid ⟨HIN.out, HB3.out⟩⟩
                        case measure => have := HAB.out; simp [intOf]; omega
                      · have qjji : ¬ (jj : Int) < (n' : Int) := by omega
                        have qjjd : decide ((jj : Int) < (n' : Int)) = false := decide_eq_false qjji
                        go_wp2
                        go_roundw
                        case rel => exact ⟨j, jj, l ++ [xa], _, by omega, by omega, rfl, rfl, Lib.hid ⟨HIN.out, HB3.out⟩⟩
                        case measure => have := HAB.out; simp [intOf]; omega
                    · obtain ⟨e2jj, x2, hx2, hx3⟩ : b2 = jj + 1 ∧ ∃ x, hol'[jj]? = some x ∧ x ≤ xa := by
                        have hj := hjj.resolve_right ejj
                        rcases HB2.out with h | ⟨h, h2⟩
                        · exact absurd (hj.trans h.symm) ejj
                        · rw [hj]; exact ⟨h, h2⟩
                      have HE2 := Lib.hid e2jj
                      have qjj : jj < n' := by rw [HN'.out]; exact (List.getElem?_eq_some_iff.1 hx2).1
                      have qjji : (jj : Int) < (n' : Int) := by omega
                      have qjjd : decide ((jj : Int) < (n' : Int)) = true := decide_eq_true qjji
                      have HJ := Lib.hid hjj
                      obtain ⟨gjj, ojj, z, hpjj, hgjj, hzjj, hzijj, czjj, hczjj⟩ := HL4.out.pick jj (by rw [← HN'.out]; exact qjj)
                      subst hpjj
                      have hzx : z ≤ xa := by rw [hzjj] at hx2; have := Option.some.inj hx2; omega
                      have zddjj : decide (z ≤ xa) = true := decide_eq_true hzx
                      have hwjj : IntKind.i64.wrap ((jj : Int) + 1) = (jj : Int) + 1 := by rw [IntKind.wrap_i64]; omega
                      clear hzjj hx2 hx3 e2jj hjj ejj
                      go_wp2
                      go_roundw
                      case rel => exact ⟨jj + 1, .inr HE2.out.symm, by go_num, trivial⟩
                      case measure => have := HE2.out; simp [intOf]; omega

              · obtain ⟨e2j, x2, hx2, hx3⟩ : a2 = j + 1 ∧ ∃ x, hol[j]? = some x ∧ x ≤ xa := by
                  have hj := hj.resolve_right ej
                  rcases HA2.out with h | ⟨h, h2⟩
                  · exact absurd (hj.trans h.symm) ej
                  · rw [hj]; exact ⟨h, h2⟩
                have HE2 := Lib.hid e2j
                have qj : j < n := by rw [HN.out]; exact (List.getElem?_eq_some_iff.1 hx2).1
                have qji : (j : Int) < (n : Int) := by omega
                have qjd : decide ((j : Int) < (n : Int)) = true := decide_eq_true qji
                have HJ := Lib.hid hj
                obtain ⟨gj, oj, z, hpj, hgj, hzj, hzij, czj, hczj⟩ := HL3.out.pick j (by rw [← HN.out]; exact qj)
                subst hpj
                have hzx : z ≤ xa := by rw [hzj] at hx2; have := Option.some.inj hx2; omega
                have zddj : decide (z ≤ xa) = true := decide_eq_true hzx
                have hwj : IntKind.i64.wrap ((j : Int) + 1) = (j : Int) + 1 := by rw [IntKind.wrap_i64]; omega
                clear hzj hx2 hx3 e2j hj ej
                go_wp2
                go_roundw
                case rel => exact ⟨j + 1, .inr HE2.out.symm, by go_num, trivial⟩
                case measure => have := HE2.out; simp [intOf]; omega
          · have q1 : (a : Int) < (n : Int) := by omega
            have q1d : decide ((a : Int) < (n : Int)) = true := decide_eq_true (by omega)
            have q2 : (b : Int) < (n' : Int) := by omega
            have q2d : decide ((b : Int) < (n' : Int)) = true := decide_eq_true (by omega)
            have q3 : ((b : Int) == (n' : Int)) = false := by rw [beq_eq_false_iff_ne]; omega
            obtain ⟨ga, oa, xa, rfl, hga, hxa, hxi, cxa, hca⟩ := HL.out.pick a (by rw [← HN.out]; omega)
            obtain ⟨gb, ob, xb, rfl, hgb, hxb, hyi, cxb, hcb⟩ := HL'.out.pick b (by rw [← HN'.out]; omega)
            obtain rfl : xb = day := by rw [hxb] at g3; exact Option.some.inj g3
            obtain rfl : xa = x := by rw [hxa] at g4; exact Option.some.inj g4
            have q4 : decide (xa ≤ xb) = false := decide_eq_false (by omega)
            have q5 : ¬ xa ≤ xb := by omega
            clear g3 g4 hxa hxb HSEL
            go_wp2_with fail
            go_quiet (fail)
            obtain ⟨wq, hwq⟩ : ∃ wq, wq = wr.drewN nq := ⟨_, rfl⟩
            rw [← hwq]
            have HBQ : Hid (Bo w cs cs' zrow opx l v wq) := by rw [hwq]; exact Lib.hid (HBO.out.call (bdrewN (Below.refl _ _) nq))
            have HLQ : Hid (Hl (fun k => k < wq.heap.size) wq (.slice (some ⟨ga, oa, none⟩) n ca) hol) := by rw [hwq]; exact Lib.hid (HL.out.kept (fun _ _ => rfl) (fun _ hk => hk))
            have HLQ' : Hid (Hl (fun k => k < wq.heap.size) wq (.slice (some ⟨gb, ob, none⟩) n' cb) hol') := by rw [hwq]; exact Lib.hid (HL'.out.kept (fun _ _ => rfl) (fun _ hk => hk))
            replace m0 : wq.cell? ⟨w.heap.size, 14, none⟩ = some (.slice (some ⟨ga, oa, none⟩) n ca) := by rw [hwq]; exact m0
            replace m1 : wq.cell? ⟨w.heap.size + 1, 14, none⟩ = some (.slice (some ⟨gb, ob, none⟩) n' cb) := by rw [hwq]; exact m1
            replace cxa : wq.cell? ⟨ga, oa + a, none⟩ = some (.int .i64 xa) := by rw [hwq]; exact cxa
            replace cxb : wq.cell? ⟨gb, ob + b, none⟩ = some (.int .i64 xb) := by rw [hwq]; exact cxb
            clear hwq HBO HL HL'
            have x14 := HBQ.out.x14 HSP.out.1
            obtain ⟨v', w3, hap, hc3, hz3, hbo⟩ := HBQ.out.push HSP.out.1 xb (by omega)
            obtain ⟨pv, nv, cv, hv3⟩ := hbo.shape3
            subst hv3
            have HB3 := Lib.hid hbo
            clear hbo
            have HAP := Lib.hid hap
            clear hap HBQ HLQ HLQ'
            go_wp2_with (first | (at_builtin; refine wp_appt25 rfl rfl rfl (.tmp 96) (.tmp 98) rfl rfl rfl HAP.out ?_))
            generalize w3.setCell ⟨w.heap.size + 1 + 1 + 1, 14, none⟩ (.slice pv nv cv) = w4 at *
            obtain ⟨p3, k3, m03, h03⟩ := HB3.out.holC HH.out
            obtain ⟨p4, k4, m13, h13⟩ := HB3.out.holD HH'.out
            rw [← HN.out] at m03 h03
            rw [← HN'.out] at m13 h13
            have HL3 := Lib.hid h03; have HL4 := Lib.hid h13
            clear h03 h13 HAP hc3 hz3 x14 m0 m1
            go_loopw [8] (fun s wz => ∃ j : Nat, (j = a ∨ j = a2) ∧ s = .int .i64 (j : Int) ∧ w4 = wz) (fun s _ => a2 - (intOf s).toNat)
            case atStart => exact ⟨a, .inl rfl, rfl, rfl⟩
            case round =>
              obtain ⟨j, hj, rfl, rfl⟩ := hrel
              have zj : (0 : Int) ≤ (j : Int) := by omega
              by_cases ej : j = a2
              · subst ej
                clear hj
                by_cases qj : j < n
                · have qji : (j : Int) < (n : Int) := by omega
                  have qjd : decide ((j : Int) < (n : Int)) = true := decide_eq_true qji
                  obtain ⟨gj, oj, z, hpj, hgj, hzj, hzij, czj, hczj⟩ := HL3.out.pick j (by rw [← HN.out]; exact qj)
                  have hltj := HAX.out z hzj
                  subst hpj
                  have zdj : ¬ z ≤ xb := by omega
                  have zddj : decide (z ≤ xb) = false := decide_eq_false zdj
                  clear hzj
                  go_wp2
                  go_loopw [9] (fun s wz => ∃ jj : Nat, (jj = b ∨ jj = b2) ∧ s = .int .i64 (jj : Int) ∧ w4 = wz) (fun s _ => b2 - (intOf s).toNat)
                  case atStart => exact ⟨b, .inl rfl, rfl, rfl⟩
                  case round =>
                    obtain ⟨jj, hjj, rfl, rfl⟩ := hrel
                    have zjj : (0 : Int) ≤ (jj : Int) := by omega
                    by_cases ejj : jj = b2
                    · subst ejj
                      clear hjj
                      by_cases qjj : jj < n'
                      · have qjji : (jj : Int) < (n' : Int) := by omega
                        have qjjd : decide ((jj : Int) < (n' : Int)) = true := decide_eq_true qjji
                        obtain ⟨gjj, ojj, z, hpjj, hgjj, hzjj, hzijj, czjj, hczjj⟩ := HL4.out.pick jj (by rw [← HN'.out]; exact qjj)
                        have hltjj := HBX.out z hzjj
                        subst hpjj
                        have zdjj : ¬ z ≤ xb := by omega
                        have zddjj : decide (z ≤ xb) = false := decide_eq_false zdjj
                        clear hzjj
                        go_wp2
                        go_roundw
                        case rel => exact ⟨j, jj, l ++ [xb], _, by omega, by omega, rfl, rfl, Lib.hid ⟨HIN.out, HB3.out⟩⟩
                        case measure => have := HAB.out; simp [intOf]; omega
                      · have qjji : ¬ (jj : Int) < (n' : Int) := by omega
                        have qjjd : decide ((jj : Int) < (n' : Int)) = false := decide_eq_false qjji
                        go_wp2
                        go_roundw
                        case rel => exact ⟨j, jj, l ++ [xb], _, by omega, by omega, rfl, rfl, Lib.hid ⟨HIN.out, HB3.out⟩⟩
                        case measure => have := HAB.out; simp [intOf]; omega
                    · obtain ⟨e2jj, x2, hx2, hx3⟩ : b2 = jj + 1 ∧ ∃ x, hol'[jj]? = some x ∧ x ≤ xb := by
                        have hj := hjj.resolve_right ejj
                        rcases HB2.out with h | ⟨h, h2⟩
                        · exact absurd (hj.trans h.symm) ejj
                        · rw [hj]; exact ⟨h, h2⟩
                      have HE2 := Lib.hid e2jj
                      have qjj : jj < n' := by rw [HN'.out]; exact (List.getElem?_eq_some_iff.1 hx2).1
                      have qjji : (jj : Int) < (n' : Int) := by omega
                      have qjjd : decide ((jj : Int) < (n' : Int)) = true := decide_eq_true qjji
                      have HJ := Lib.hid hjj
                      obtain ⟨gjj, ojj, z, hpjj, hgjj, hzjj, hzijj, czjj, hczjj⟩ := HL4.out.pick jj (by rw [← HN'.out]; exact qjj)
                      subst hpjj
                      have hzx : z ≤ xb := by rw [hzjj] at hx2; have := Option.some.inj hx2; omega
                      have zddjj : decide (z ≤ xb) = true := decide_eq_true hzx
                      have hwjj : IntKind.i64.wrap ((jj : Int) + 1) = (jj : Int) + 1 := by rw [IntKind.wrap_i64]; omega
                      clear hzjj hx2 hx3 e2jj hjj ejj
                      go_wp2
                      go_roundw
                      case rel => exact ⟨jj + 1, .inr HE2.out.symm, by go_num, trivial⟩
                      case measure => have := HE2.out; simp [intOf]; omega

                · have qji : ¬ (j : Int) < (n : Int) := by omega
                  have qjd : decide ((j : Int) < (n : Int)) = false := decide_eq_false qji
                  go_wp2
                  go_loopw [9] (fun s wz => ∃ jj : Nat, (jj = b ∨ jj = b2) ∧ s = .int .i64 (jj : Int) ∧ w4 = wz) (fun s _ => b2 - (intOf s).toNat)
                  case atStart => exact ⟨b, .inl rfl, rfl, rfl⟩
                  case round =>
                    obtain ⟨jj, hjj, rfl, rfl⟩ := hrel
                    have zjj : (0 : Int) ≤ (jj : Int) := by omega
                    by_cases ejj : jj = b2
                    · subst ejj
                      clear hjj
                      by_cases qjj : jj < n'
                      · have qjji : (jj : Int) < (n' : Int) := by omega
                        have qjjd : decide ((jj : Int) < (n' : Int)) = true := decide_eq_true qjji
                        obtain ⟨gjj, ojj, z, hpjj, hgjj, hzjj, hzijj, czjj, hczjj⟩ := HL4.out.pick jj (by rw [← HN'.out]; exact qjj)
                        have hltjj := HBX.out z hzjj
                        subst hpjj
                        have zdjj : ¬ z ≤ xb := by omega
                        have zddjj : decide (z ≤ xb) = false := decide_eq_false zdjj
                        clear hzjj
                        go_wp2
                        go_roundw
                        case rel => exact ⟨j, jj, l ++ [xb], _, by omega, by omega, rfl, rfl, Lib.hid ⟨HIN.out, HB3.out⟩⟩
                        case measure => have := HAB.out; simp [intOf]; omega
                      · have qjji : ¬ (jj : Int) < (n' : Int) := by omega
                        have qjjd : decide ((jj : Int) < (n' : Int)) = false := decide_eq_false qjji
                        go_wp2
                        go_roundw
                        case rel => exact ⟨j, jj, l ++ [xb], _, by omega, by omega, rfl, rfl, Lib.hid ⟨HIN.out, HB3.out⟩⟩
                        case measure => have := HAB.out; simp [intOf]; omega
                    · obtain ⟨e2jj, x2, hx2, hx3⟩ : b2 = jj + 1 ∧ ∃ x, hol'[jj]? = some x ∧ x ≤ xb := by
                        have hj := hjj.resolve_right ejj
                        rcases HB2.out with h | ⟨h, h2⟩
                        · exact absurd (hj.trans h.symm) ejj
                        · rw [hj]; exact ⟨h, h2⟩
                      have HE2 := Lib.hid e2jj
                      have qjj : jj < n' := by rw [HN'.out]; exact (List.getElem?_eq_some_iff.1 hx2).1
                      have qjji : (jj : Int) < (n' : Int) := by omega
                      have qjjd : decide ((jj : Int) < (n' : Int)) = true := decide_eq_true qjji
                      have HJ := Lib.hid hjj
                      obtain ⟨gjj, ojj, z, hpjj, hgjj, hzjj, hzijj, czjj, hczjj⟩ := HL4.out.pick jj (by rw [← HN'.out]; exact qjj)
                      subst hpjj
                      have hzx : z ≤ xb := by rw [hzjj] at hx2; have := Option.some.inj hx2; omega
                      have zddjj : decide (z ≤ xb) = true := decide_eq_true hzx
                      have hwjj : IntKind.i64.wrap ((jj : Int) + 1) = (jj : Int) + 1 := by rw [IntKind.wrap_i64]; omega
                      clear hzjj hx2 hx3 e2jj hjj ejj
                      go_wp2
                      go_roundw
                      case rel => exact ⟨jj + 1, .inr HE2.out.symm, by go_num, trivial⟩
                      case measure => have := HE2.out; simp [intOf]; omega

              · obtain ⟨e2j, x2, hx2, hx3⟩ : a2 = j + 1 ∧ ∃ x, hol[j]? = some x ∧ x ≤ xb := by
                  have hj := hj.resolve_right ej
                  rcases HA2.out with h | ⟨h, h2⟩
                  · exact absurd (hj.trans h.symm) ej
                  · rw [hj]; exact ⟨h, h2⟩
                have HE2 := Lib.hid e2j
                have qj : j < n := by rw [HN.out]; exact (List.getElem?_eq_some_iff.1 hx2).1
                have qji : (j : Int) < (n : Int) := by omega
                have qjd : decide ((j : Int) < (n : Int)) = true := decide_eq_true qji
                have HJ := Lib.hid hj
                obtain ⟨gj, oj, z, hpj, hgj, hzj, hzij, czj, hczj⟩ := HL3.out.pick j (by rw [← HN.out]; exact qj)
                subst hpj
                have hzx : z ≤ xb := by rw [hzj] at hx2; have := Option.some.inj hx2; omega
                have zddj : decide (z ≤ xb) = true := decide_eq_true hzx
                have hwj : IntKind.i64.wrap ((j : Int) + 1) = (j : Int) + 1 := by rw [IntKind.wrap_i64]; omega
                clear hzj hx2 hx3 e2j hj ej
                go_wp2
                go_roundw
                case rel => exact ⟨j + 1, .inr HE2.out.symm, by go_num, trivial⟩
                case measure => have := HE2.out; simp [intOf]; omega
          · obtain rfl := g1
            have q1 : ¬ ((a : Int) < (a : Int)) := by omega
            have q1d : decide ((a : Int) < (a : Int)) = false := decide_eq_false (by omega)
            have q2 : (b : Int) < (n' : Int) := by omega
            have q2d : decide ((b : Int) < (n' : Int)) = true := decide_eq_true (by omega)
            have q3 : ((b : Int) == (n' : Int)) = false := by rw [beq_eq_false_iff_ne]; omega
            obtain ⟨gb, ob, xb, rfl, hgb, hxb, hyi, cxb, hcb⟩ := HL'.out.pick b (by rw [← HN'.out]; omega)
            obtain rfl : xb = day := by rw [hxb] at g3; exact Option.some.inj g3
            clear g3 hxb HSEL
            go_wp2_with fail
            go_quiet (fail)
            obtain ⟨wq, hwq⟩ : ∃ wq, wq = wr.drewN nq := ⟨_, rfl⟩
            rw [← hwq]
            have HBQ : Hid (Bo w cs cs' zrow opx l v wq) := by rw [hwq]; exact Lib.hid (HBO.out.call (bdrewN (Below.refl _ _) nq))
            have HLQ : Hid (Hl (fun k => k < wq.heap.size) wq (.slice pa a ca) hol) := by rw [hwq]; exact Lib.hid (HL.out.kept (fun _ _ => rfl) (fun _ hk => hk))
            have HLQ' : Hid (Hl (fun k => k < wq.heap.size) wq (.slice (some ⟨gb, ob, none⟩) n' cb) hol') := by rw [hwq]; exact Lib.hid (HL'.out.kept (fun _ _ => rfl) (fun _ hk => hk))
            replace m0 : wq.cell? ⟨w.heap.size, 14, none⟩ = some (.slice pa a ca) := by rw [hwq]; exact m0
            replace m1 : wq.cell? ⟨w.heap.size + 1, 14, none⟩ = some (.slice (some ⟨gb, ob, none⟩) n' cb) := by rw [hwq]; exact m1
            replace cxb : wq.cell? ⟨gb, ob + b, none⟩ = some (.int .i64 xb) := by rw [hwq]; exact cxb
            clear hwq HBO HL HL'
            have x14 := HBQ.out.x14 HSP.out.1
            obtain ⟨v', w3, hap, hc3, hz3, hbo⟩ := HBQ.out.push HSP.out.1 xb (by omega)
            obtain ⟨pv, nv, cv, hv3⟩ := hbo.shape3
            subst hv3
            have HB3 := Lib.hid hbo
            clear hbo
            have HAP := Lib.hid hap
            clear hap HBQ HLQ HLQ'
            go_wp2_with (first | (at_builtin; refine wp_appt25 rfl rfl rfl (.tmp 96) (.tmp 98) rfl rfl rfl HAP.out ?_))
            generalize w3.setCell ⟨w.heap.size + 1 + 1 + 1, 14, none⟩ (.slice pv nv cv) = w4 at *
            obtain ⟨p3, k3, m03, h03⟩ := HB3.out.holC HH.out
            obtain ⟨p4, k4, m13, h13⟩ := HB3.out.holD HH'.out
            rw [← HN.out] at m03 h03
            rw [← HN'.out] at m13 h13
            have HL3 := Lib.hid h03; have HL4 := Lib.hid h13
            clear h03 h13 HAP hc3 hz3 x14 m0 m1
            go_loopw [8] (fun s wz => ∃ j : Nat, (j = a ∨ j = a2) ∧ s = .int .i64 (j : Int) ∧ w4 = wz) (fun s _ => a2 - (intOf s).toNat)
            case atStart => exact ⟨a, .inl rfl, rfl, rfl⟩
            case round =>
              obtain ⟨j, hj, rfl, rfl⟩ := hrel
              have zj : (0 : Int) ≤ (j : Int) := by omega
              by_cases ej : j = a2
              · subst ej
                clear hj
                by_cases qj : j < a
                · have qji : (j : Int) < (a : Int) := by omega
                  have qjd : decide ((j : Int) < (a : Int)) = true := decide_eq_true qji
                  obtain ⟨gj, oj, z, hpj, hgj, hzj, hzij, czj, hczj⟩ := HL3.out.pick j (by rw [← HN.out]; exact qj)
                  have hltj := HAX.out z hzj
                  subst hpj
                  have zdj : ¬ z ≤ xb := by omega
                  have zddj : decide (z ≤ xb) = false := decide_eq_false zdj
                  clear hzj
                  go_wp2
                  go_loopw [9] (fun s wz => ∃ jj : Nat, (jj = b ∨ jj = b2) ∧ s = .int .i64 (jj : Int) ∧ w4 = wz) (fun s _ => b2 - (intOf s).toNat)
                  case atStart => exact ⟨b, .inl rfl, rfl, rfl⟩
                  case round =>
                    obtain ⟨jj, hjj, rfl, rfl⟩ := hrel
                    have zjj : (0 : Int) ≤ (jj : Int) := by omega
                    by_cases ejj : jj = b2
                    · subst ejj
                      clear hjj
                      by_cases qjj : jj < n'
                      · have qjji : (jj : Int) < (n' : Int) := by omega
                        have qjjd : decide ((jj : Int) < (n' : Int)) = true := decide_eq_true qjji
                        obtain ⟨gjj, ojj, z, hpjj, hgjj, hzjj, hzijj, czjj, hczjj⟩ := HL4.out.pick jj (by rw [← HN'.out]; exact qjj)
                        have hltjj := HBX.out z hzjj
                        subst hpjj
                        have zdjj : ¬ z ≤ xb := by omega
                        have zddjj : decide (z ≤ xb) = false := decide_eq_false zdjj
                        clear hzjj
                        go_wp2
                        go_roundw
                        case rel => exact ⟨j, jj, l ++ [xb], _, by omega, by omega, rfl, rfl, Lib.hid ⟨HIN.out, HB3.out⟩⟩
                        case measure => have := HAB.out; simp [intOf]; omega
                      · have qjji : ¬ (jj : Int) < (n' : Int) := by omega
                        have qjjd : decide ((jj : Int) < (n' : Int)) = false := decide_eq_false qjji
                        go_wp2
                        go_roundw
                        case rel => exact ⟨j, jj, l ++ [xb], _, by omega, by omega, rfl, rfl, Lib.hid ⟨HIN.out, HB3.out⟩⟩
                        case measure => have := HAB.out; simp [intOf]; omega
                    · obtain ⟨e2jj, x2, hx2, hx3⟩ : b2 = jj + 1 ∧ ∃ x, hol'[jj]? = some x ∧ x ≤ xb := by
                        have hj := hjj.resolve_right ejj
                        rcases HB2.out with h | ⟨h, h2⟩
                        · exact absurd (hj.trans h.symm) ejj
                        · rw [hj]; exact ⟨h, h2⟩
                      have HE2 := Lib.hid e2jj
                      have qjj : jj < n' := by rw [HN'.out]; exact (List.getElem?_eq_some_iff.1 hx2).1
                      have qjji : (jj : Int) < (n' : Int) := by omega
                      have qjjd : decide ((jj : Int) < (n' : Int)) = true := decide_eq_true qjji
                      have HJ := Lib.hid hjj
                      obtain ⟨gjj, ojj, z, hpjj, hgjj, hzjj, hzijj, czjj, hczjj⟩ := HL4.out.pick jj (by rw [← HN'.out]; exact qjj)
                      subst hpjj
                      have hzx : z ≤ xb := by rw [hzjj] at hx2; have := Option.some.inj hx2; omega
                      have zddjj : decide (z ≤ xb) = true := decide_eq_true hzx
                      have hwjj : IntKind.i64.wrap ((jj : Int) + 1) = (jj : Int) + 1 := by rw [IntKind.wrap_i64]; omega
                      clear hzjj hx2 hx3 e2jj hjj ejj
                      go_wp2
                      go_roundw
                      case rel => exact ⟨jj + 1, .inr HE2.out.symm, by go_num, trivial⟩
                      case measure => have := HE2.out; simp [intOf]; omega

                · have qji : ¬ (j : Int) < (a : Int) := by omega
                  have qjd : decide ((j : Int) < (a : Int)) = false := decide_eq_false qji
                  go_wp2
                  go_loopw [9] (fun s wz => ∃ jj : Nat, (jj = b ∨ jj = b2) ∧ s = .int .i64 (jj : Int) ∧ w4 = wz) (fun s _ => b2 - (intOf s).toNat)
                  case atStart => exact ⟨b, .inl rfl, rfl, rfl⟩
                  case round =>
                    obtain ⟨jj, hjj, rfl, rfl⟩ := hrel
                    have zjj : (0 : Int) ≤ (jj : Int) := by omega
                    by_cases ejj : jj = b2
                    · subst ejj
                      clear hjj
                      by_cases qjj : jj < n'
                      · have qjji : (jj : Int) < (n' : Int) := by omega
                        have qjjd : decide ((jj : Int) < (n' : Int)) = true := decide_eq_true qjji
                        obtain ⟨gjj, ojj, z, hpjj, hgjj, hzjj, hzijj, czjj, hczjj⟩ := HL4.out.pick jj (by rw [← HN'.out]; exact qjj)
                        have hltjj := HBX.out z hzjj
                        subst hpjj
                        have zdjj : ¬ z ≤ xb := by omega
                        have zddjj : decide (z ≤ xb) = false := decide_eq_false zdjj
                        clear hzjj
                        go_wp2
                        go_roundw
                        case rel => exact ⟨j, jj, l ++ [xb], _, by omega, by omega, rfl, rfl, Lib.hid ⟨HIN.out, HB3.out⟩⟩
                        case measure => have := HAB.out; simp [intOf]; omega
                      · have qjji : ¬ (jj : Int) < (n' : Int) := by omega
                        have qjjd : decide ((jj : Int) < (n' : Int)) = false := decide_eq_false qjji
                        go_wp2
                        go_roundw
                        case rel => exact ⟨j, jj, l ++ [xb], _, by omega, by omega, rfl, rfl, Lib.hid ⟨HIN.out, HB3.out⟩⟩
                        case measure => have := HAB.out; simp [intOf]; omega
                    · obtain ⟨e2jj, x2, hx2, hx3⟩ : b2 = jj + 1 ∧ ∃ x, hol'[jj]? = some x ∧ x ≤ xb := by
                        have hj := hjj.resolve_right ejj
                        rcases HB2.out with h | ⟨h, h2⟩
                        · exact absurd (hj.trans h.symm) ejj
                        · rw [hj]; exact ⟨h, h2⟩
                      have HE2 := Lib.hid e2jj
                      have qjj : jj < n' := by rw [HN'.out]; exact (List.getElem?_eq_some_iff.1 hx2).1
                      have qjji : (jj : Int) < (n' : Int) := by omega
                      have qjjd : decide ((jj : Int) < (n' : Int)) = true := decide_eq_true qjji
                      have HJ := Lib.hid hjj
                      obtain ⟨gjj, ojj, z, hpjj, hgjj, hzjj, hzijj, czjj, hczjj⟩ := HL4.out.pick jj (by rw [← HN'.out]; exact qjj)
                      subst hpjj
                      have hzx : z ≤ xb := by rw [hzjj] at hx2; have := Option.some.inj hx2; omega
                      have zddjj : decide (z ≤ xb) = true := decide_eq_true hzx
                      have hwjj : IntKind.i64.wrap ((jj : Int) + 1) = (jj : Int) + 1 := by rw [IntKind.wrap_i64]; omega
                      clear hzjj hx2 hx3 e2jj hjj ejj
                      go_wp2
                      go_roundw
                      case rel => exact ⟨jj + 1, .inr HE2.out.symm, by go_num, trivial⟩
                      case measure => have := HE2.out; simp [intOf]; omega

              · obtain ⟨e2j, x2, hx2, hx3⟩ : a2 = j + 1 ∧ ∃ x, hol[j]? = some x ∧ x ≤ xb := by
                  have hj := hj.resolve_right ej
                  rcases HA2.out with h | ⟨h, h2⟩
                  · exact absurd (hj.trans h.symm) ej
                  · rw [hj]; exact ⟨h, h2⟩
                have HE2 := Lib.hid e2j
                have qj : j < a := by rw [HN.out]; exact (List.getElem?_eq_some_iff.1 hx2).1
                have qji : (j : Int) < (a : Int) := by omega
                have qjd : decide ((j : Int) < (a : Int)) = true := decide_eq_true qji
                have HJ := Lib.hid hj
                obtain ⟨gj, oj, z, hpj, hgj, hzj, hzij, czj, hczj⟩ := HL3.out.pick j (by rw [← HN.out]; exact qj)
                subst hpj
                have hzx : z ≤ xb := by rw [hzj] at hx2; have := Option.some.inj hx2; omega
                have zddj : decide (z ≤ xb) = true := decide_eq_true hzx
                have hwj : IntKind.i64.wrap ((j : Int) + 1) = (j : Int) + 1 := by rw [IntKind.wrap_i64]; omega
                clear hzj hx2 hx3 e2j hj ej
                go_wp2
                go_roundw
                case rel => exact ⟨j + 1, .inr HE2.out.symm, by go_num, trivial⟩
                case measure => have := HE2.out; simp [intOf]; omega
        · obtain rfl : a = n := by omega
          obtain rfl : b = n' := by omega
          have q1 : ¬ ((a : Int) < (a : Int)) := by omega
          have q2 : ¬ ((b : Int) < (b : Int)) := by omega
          have q1d : decide ((a : Int) < (a : Int)) = false := decide_eq_false q1
          have q2d : decide ((b : Int) < (b : Int)) = false := decide_eq_false q2
          have hfin : l = mH hol hol' := by
            have := HR.out.1
            rw [List.drop_eq_nil_of_le (by rw [HN.out]; exact Nat.le_refl _), List.drop_eq_nil_of_le (by rw [HN'.out]; exact Nat.le_refl _)] at this
            rw [← this]; simp [mH]
          have HF := Lib.hid hfin
          have HBO := Lib.hid HR.out.2
          have HX := Lib.hid (cs1_i64 HH.out.len HH'.out.len HSP.out.1 HH.out.ok HH'.out.ok (fun i s s' h1 h2 => HSP.out.2.1 i s s' (by have := (List.getElem?_eq_some_iff.1 h1).1; rw [HH.out.len] at this; exact this) h1 h2))
          have hsz : (cells opx ++ [v]).toArray.size = 15 := by simp [cells_length, HSP.out.1]
          have HSZ := Lib.hid hsz
          have HLI := Lib.hid (show ∀ x ∈ l, I64 x from fun x hx => by
            rw [HF.out] at hx
            obtain ⟨i, hi, rfl⟩ := List.mem_iff_getElem.1 hx
            have := hol_lt _ (-1) HMH.out.1 i _ (List.getElem?_eq_getElem hi)
            unfold I64; omega)
          have hone : (cells opx ++ [v]).toArray.all (·.oneCell') = true := all_oneCell_toArray (by
            intro u hu
            rcases List.mem_append.1 hu with h | h
            · exact cells_one _ u h
            · obtain ⟨p, c, hv⟩ := HBO.out.shape
              rw [List.mem_singleton.1 h, hv]; rfl)
          have HONE := Lib.hid hone
          obtain ⟨cx, hcx⟩ : ∃ cx, cx = (cells opx ++ [v]).toArray := ⟨_, rfl⟩
          have HCX := Lib.hid hcx
          have hrx := HBO.out.x
          rw [← hcx] at hrx hsz hone
          have HRX := Lib.hid hrx
          have HSZ2 := Lib.hid hsz; have HONE2 := Lib.hid hone
          clear hfin hsz hone hcx hrx HR
          go_wp2_with (first | (refine wpList_load_row rfl 27 (.tmp 5) rfl (w.heap.size + 1 + 1 + 1) rfl 27 cx (0, 0) _ HRX.out Tryd.underlying27 rfl (size27 HSZ2.out) ?_) | (refine wpList_store_row rfl 27 (.tmp 4) (.tmp 133) rfl (w.heap.size + 1 + 1) cx rfl rfl 27 zrow HBO.out.r (size27 HSZ2.out) (by rw [HSZ2.out]; rfl) HONE2.out ?_))
          refine bodyPost_ret (results_cell_row (cs := cx) rfl _ _ (w.heap.size + 1 + 1) 27 (0, 0) _ rfl (setRow_heap _ _ _ _ _ _ HBO.out.r) Tryd.underlying27 rfl (size27 HSZ2.out)) rfl ?_
          have hd := HBO.out.done HSP.out.1 HX.out HLI.out (by omega) cx
          rw [← HCX.out, HF.out] at hd
          exact ⟨cx, rfl, hd.1, opx, hd.2, by simpa using fun (i : Nat) (s s' : Int × Int) h1 h2 => HSP.out.2.1 i s s' (by have := (List.getElem?_eq_some_iff.1 h1).1; rw [HH.out.len] at this; exact this) h1 h2⟩
end Go.Proofs.YtciopemodfpecaaDoor
