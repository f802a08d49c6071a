/-
  Walks: Same.
-/
import Derived.Test.YtjhjcigappkebaaCc
import Derived.StillTailTactics
namespace Go.Proofs.Ytjhjcigappkebaa
open Go.RowKit

mutual
def sameT : T → T → Bool
  | .mk k n b l, .mk k' n' b' l' => k == k' && (n == n' && (cmpB b b' == 0 && sameL l l'))
def sameL : List T → List T → Bool
  | [], [] => true
  | [], _ :: _ => false
  | _ :: _, [] => false
  | t :: ts, u :: us => sameT t u && sameL ts us
end

theorem cmpB_eq : ∀ (a b : List Int), cmpB a b = 0 ↔ a = b
  | [], [] => by simp [cmpB]
  | [], _ :: _ => by simp [cmpB]
  | _ :: _, [] => by simp [cmpB]
  | x :: a, y :: b => by
    have ih := cmpB_eq a b
    simp only [cmpB]
    split
    · constructor
      · intro h; simp at h
      · intro h; injection h with h1 _; omega
    · split
      · constructor
        · intro h; simp at h
        · intro h; injection h with h1 _; omega
      · rw [ih]
        have : x = y := by omega
        subst this
        simp

mutual
theorem sameT_iff : ∀ (t u : T), sameT t u = true ↔ t = u
  | .mk k n b l, .mk k' n' b' l' => by
    have ih := sameL_iff l l'
    simp only [sameT, Bool.and_eq_true, beq_iff_eq, T.mk.injEq, cmpB_eq, ih]
theorem sameL_iff : ∀ (l m : List T), sameL l m = true ↔ l = m
  | [], [] => by simp [sameL]
  | [], _ :: _ => by simp [sameL]
  | _ :: _, [] => by simp [sameL]
  | t :: ts, u :: us => by
    have ih1 := sameT_iff t u
    have ih2 := sameL_iff ts us
    simp only [sameL, Bool.and_eq_true, ih1, ih2, List.cons.injEq]
end

theorem sameL_drop (l m : List T) (k : Nat) (hl : k < l.length) (hm : k < m.length) : sameL (l.drop k) (m.drop k) = (sameT l[k] m[k] && sameL (l.drop (k + 1)) (m.drop (k + 1))) := by
  rw [List.drop_eq_getElem_cons hl, List.drop_eq_getElem_cons hm]
  simp only [sameL]
theorem sameL_len : ∀ (l m : List T), l.length ≠ m.length → sameL l m = false
  | [], [], h => by simp at h
  | [], _ :: _, _ => rfl
  | _ :: _, [], _ => rfl
  | t :: ts, u :: us, h => by
    simp only [sameL, sameL_len ts us (by simpa using h), Bool.and_false]

def SameOf (t u : T) (w : World) (e : Ending) (w' : World) : Prop := e = .returned (.bool (sameT t u)) ∧ Below w.heap.size w w'

set_option maxHeartbeats 400000 in
theorem same_any (F G : Nat → Prop) : ∀ (N : Nat) (t : T), dep t < N → ∀ (u : T) (w : World) (v v' : Value), (∀ k, F k → k < w.heap.size) → (∀ k, G k → k < w.heap.size) → Rd F w t v → Rd G w u v' → Calls Try.prog 23 #[v, v'] w (SameOf t u w) := by
  intro N
  induction N with
  | zero => intro t h; omega
  | succ N ih =>
    intro t ht u w v v' hF hG hr hs
    obtain ⟨a2, c2, a3, c3, rfl, hb, hik, hin, hl1, hl2, hl3⟩ := hr.form
    obtain ⟨b2, d2, b3, d3, rfl, hb', hik', hin', hm1, hm2, hm3⟩ := hs.form
    have hel : ∀ x ∈ t.els, ∀ (y : T) (w2 : World) (v2 v2' : Value), Below w.heap.size w w2 → Rd F w2 x v2 → Rd G w2 y v2' → Calls Try.prog 23 #[v2, v2'] w2 (SameOf x y w2) := by
      intro x hx y w2 v2 v2' hb2 hr2 hs2
      cases t with
      | mk k n b l =>
        have hx' : x ∈ l := hx
        have := dep_mem hx'
        have e : dep (T.mk k n b l) = depL l + 1 := rfl
        exact ih x (by omega) y w2 v2 v2' (fun k hk => Nat.lt_of_lt_of_le (hF k hk) hb2.size) (fun k hk => Nat.lt_of_lt_of_le (hG k hk) hb2.size) hr2 hs2
    have hby : ∀ w', Below w.heap.size w w' → Calls Try.prog 24 #[.slice a2 t.bs.length c2, .slice b2 u.bs.length d2] w' fun e w'' => e = .returned (.int .i64 (cmpB t.bs u.bs)) ∧ Below w'.heap.size w' w'' :=
      fun w' h => orderBytes_any F G t.bs u.bs _ _ w' (fun k hk => Nat.lt_of_lt_of_le (hF k hk) h.size) (fun k hk => Nat.lt_of_lt_of_le (hG k hk) h.size) (hb.below hF h) (hb'.below hG h)
    have Hel := Lib.hid hel; clear hel
    have Hby := Lib.hid hby; clear hby
    have HF := Lib.hid hF; have HG := Lib.hid hG; have Hl3 := Lib.hid hl3; have Hm3 := Lib.hid hm3
    clear hr hs hb hb' hl3 hm3 hF hG ih ht hik hik' hin hin'
    have hdef : sameT t u = (t.kind == u.kind && (t.num == u.num && (cmpB t.bs u.bs == 0 && sameL t.els u.els))) := by
      cases t; cases u; rfl
    have Hdef := Lib.hid hdef; clear hdef
    by_cases hk : t.kind = u.kind
    · have tk : (t.kind != u.kind) = false := by rw [hk]; simp
      by_cases hn : t.num = u.num
      · have tn : (t.num != u.num) = false := by rw [hn]; simp
        by_cases hc : cmpB t.bs u.bs = 0
        · have tc : (cmpB t.bs u.bs != 0) = false := by rw [hc]; simp
          by_cases hl : t.els.length = u.els.length
          · have tl : ((t.els.length : Int) != (u.els.length : Int)) = false := by rw [hl]; simp
            have Hk := Lib.hid hk; have Hn := Lib.hid hn; have Hc := Lib.hid hc; have Hl := Lib.hid hl; clear hk hn hc hl
            go_enter Try.func23, Try.ntmps23
            go_wp2_with fail
            refine (Hby.out _ (ball (ball (Below.refl w.heap.size w) _) _)).mono ?_
            rintro e w1 ⟨rfl, hb1⟩
            have hbw : Below w.heap.size w w1 := (ball (ball (Below.refl w.heap.size w) _) _).trans (hb1.mono (by simp; omega))
            have p0 : w1.cell? ⟨w.heap.size, 3, none⟩ = some (.slice a3 t.els.length c3) := (hb1.cell (p := ⟨w.heap.size, 3, none⟩) (by simp; omega)).trans (by simp)
            have p1 : w1.cell? ⟨w.heap.size + 1, 3, none⟩ = some (.slice b3 u.els.length d3) := (hb1.cell (p := ⟨w.heap.size + 1, 3, none⟩) (by simp)).trans (by simp)
            have hsz := hb1.size
            simp only [World.size_alloc] at hsz
            have Hbw := Lib.hid hbw; clear hbw hb1
            go_wp2_with fail
            have P0 := Lib.hid p0
            have P1 := Lib.hid p1
            clear p0 p1
            go_loopw [5] (fun i wr => ∃ k : Nat, k ≤ t.els.length ∧ i = .int .i64 k ∧ Hid (Below w1.heap.size w1 wr ∧ sameL (t.els.drop k) (u.els.drop k) = sameL t.els u.els)) (fun i _ => t.els.length - (intOf i).toNat)
            case atStart => exact ⟨0, Nat.zero_le _, rfl, Below.refl _ _, rfl⟩
            case round =>
              obtain ⟨k, hkl, rfl, hI⟩ := hrel
              have q0 := (hI.out.1.cell (p := ⟨w.heap.size, 3, none⟩) (by simp only; omega)).trans P0.out
              have q1 := (hI.out.1.cell (p := ⟨w.heap.size + 1, 3, none⟩) (by simp only; omega)).trans P1.out
              have hwr : Below w.heap.size w wr := Hbw.out.trans (hI.out.1.mono (by omega))
              by_cases hlt : k < t.els.length
              · have hmt : k < u.els.length := by rw [← Hl.out]; exact hlt
                obtain ⟨g, off, ha, hg, hdl⟩ := Hl3.out (by omega)
                obtain ⟨g', off', hc, hg', hdm⟩ := Hm3.out (by omega)
                obtain ⟨x2, k2, x3, k3, c0, c1, c2', c3', ht⟩ := hdl.cells k t.els[k] (List.getElem?_eq_getElem hlt)
                obtain ⟨y2, j2, y3, j3, e0, e1, e2, e3, hu⟩ := hdm.cells k u.els[k] (List.getElem?_eq_getElem hmt)
                have hgw := HF.out g hg
                have hgw' := HG.out g' hg'
                have d0 := (hwr.cell (p := ⟨g, off + k * 4, none⟩) hgw).trans c0
                have d1 := (hwr.cell (p := ⟨g, off + k * 4 + 1, none⟩) hgw).trans c1
                have d2' := (hwr.cell (p := ⟨g, off + k * 4 + 2, none⟩) hgw).trans c2'
                have d3' := (hwr.cell (p := ⟨g, off + k * 4 + 3, none⟩) hgw).trans c3'
                have f0 := (hwr.cell (p := ⟨g', off' + k * 4, none⟩) hgw').trans e0
                have f1 := (hwr.cell (p := ⟨g', off' + k * 4 + 1, none⟩) hgw').trans e1
                have f2 := (hwr.cell (p := ⟨g', off' + k * 4 + 2, none⟩) hgw').trans e2
                have f3 := (hwr.cell (p := ⟨g', off' + k * 4 + 3, none⟩) hgw').trans e3
                have hcall : ∀ w', Below w.heap.size w w' → Calls Try.prog 23 #[.agg #[.int .i64 t.els[k].kind, .int .i64 t.els[k].num, .slice x2 t.els[k].bs.length k2, .slice x3 t.els[k].els.length k3], .agg #[.int .i64 u.els[k].kind, .int .i64 u.els[k].num, .slice y2 u.els[k].bs.length j2, .slice y3 u.els[k].els.length j3]] w' (SameOf t.els[k] u.els[k] w') := by
                  intro w' hb
                  exact Hel.out t.els[k] (List.getElem_mem hlt) u.els[k] w' _ _ hb (ht.below HF.out hb) (hu.below HG.out hb)
                have Hcall := Lib.hid hcall; clear hcall
                have hd := sameL_drop t.els u.els k hlt hmt
                have Hd := Lib.hid hd; clear hd
                have Hwr := Lib.hid hwr
                have hk0 : (0 : Int) ≤ (k : Int) := by omega
                have hk1 : (k : Int) < (t.els.length : Int) := by omega
                have hk2 : (k : Int) < (u.els.length : Int) := by omega
                clear c0 c1 c2' c3' e0 e1 e2 e3 hdl hdm ht hu hwr
                subst ha hc
                go_wp2_with fail
                go_still_tail 10, (by kernel_rfl)
                change wpList _ _ _ _ _ wr.drew
                have hwd : Below w.heap.size w wr.drew := Below.drew Hwr.out
                have hI2 : Below w1.heap.size w1 wr.drew := Below.drew hI.out.1
                have Hwd := Lib.hid hwd; clear hwd
                have HI2 := Lib.hid hI2; clear hI2
                generalize wr.drew = w2 at *
                cases hsm : sameT t.els[k] u.els[k] with
                | true =>
                  have Hsm := Lib.hid hsm; clear hsm
                  go_wp2_with (go_at_call 23; refine (Hcall.out _ Hwd.out).mono ?_; rintro e w3 ⟨rfl, hb3⟩; have Hb3 := Lib.hid hb3; clear hb3; rw [Hsm.out])
                  go_roundw
                  case rel =>
                    refine ⟨k + 1, by omega, by go_num, HI2.out.trans (Hb3.out.mono HI2.out.size), ?_⟩
                    have h1 := Hd.out
                    rw [Hsm.out, Bool.true_and] at h1
                    rw [← h1]
                    exact hI.out.2
                  case measure => simp [intOf]; omega
                | false =>
                  have Hsm := Lib.hid hsm; clear hsm
                  go_wp2_with (go_at_call 23; refine (Hcall.out _ Hwd.out).mono ?_; rintro e w3 ⟨rfl, hb3⟩; have Hb3 := Lib.hid hb3; clear hb3; rw [Hsm.out])
                  go_ret
                  refine ⟨?_, Hwd.out.trans (Hb3.out.mono Hwd.out.size)⟩
                  have h1 := Hd.out
                  rw [Hsm.out, Bool.false_and] at h1
                  rw [Hdef.out, ← hI.out.2, h1]
                  simp
              · have hkl' : k = t.els.length := by omega
                have hfin : sameL t.els u.els = true := by
                  rw [← hI.out.2, List.drop_eq_nil_of_le (by omega), List.drop_eq_nil_of_le (by have := Hl.out; omega)]
                  rfl
                have Hfin := Lib.hid hfin; clear hfin hkl'
                have Hwr := Lib.hid hwr; clear hwr
                go_wp2_with fail
                go_ret
                refine ⟨?_, Hwr.out⟩
                rw [Hdef.out, Hfin.out]
                simp [Hk.out, Hn.out, Hc.out]
          · have tl : ((t.els.length : Int) != (u.els.length : Int)) = true := by simp; omega
            have hfin : sameT t u = false := by rw [Hdef.out, sameL_len _ _ hl]; simp
            have Hfin := Lib.hid hfin; clear hk hn hc hl hfin
            go_enter Try.func23, Try.ntmps23
            go_wp2_with fail
            refine (Hby.out _ (ball (ball (Below.refl w.heap.size w) _) _)).mono ?_
            rintro e w1 ⟨rfl, hb1⟩
            have hbw : Below w.heap.size w w1 := (ball (ball (Below.refl w.heap.size w) _) _).trans (hb1.mono (by simp; omega))
            have p0 : w1.cell? ⟨w.heap.size, 3, none⟩ = some (.slice a3 t.els.length c3) := (hb1.cell (p := ⟨w.heap.size, 3, none⟩) (by simp; omega)).trans (by simp)
            have p1 : w1.cell? ⟨w.heap.size + 1, 3, none⟩ = some (.slice b3 u.els.length d3) := (hb1.cell (p := ⟨w.heap.size + 1, 3, none⟩) (by simp)).trans (by simp)
            have Hbw := Lib.hid hbw; clear hbw hb1
            go_wp2_with fail
            go_ret
            exact ⟨by rw [Hfin.out]; rfl, Hbw.out⟩
        · have tc : (cmpB t.bs u.bs != 0) = true := by simpa using hc
          have hfin : sameT t u = false := by rw [Hdef.out]; simp [hc]
          have Hfin := Lib.hid hfin; clear hk hn hc hfin
          go_enter Try.func23, Try.ntmps23
          go_wp2_with fail
          refine (Hby.out _ (ball (ball (Below.refl w.heap.size w) _) _)).mono ?_
          rintro e w1 ⟨rfl, hb1⟩
          have hbw : Below w.heap.size w w1 := (ball (ball (Below.refl w.heap.size w) _) _).trans (hb1.mono (by simp; omega))
          have Hbw := Lib.hid hbw; clear hbw hb1
          go_wp2_with fail
          go_ret
          exact ⟨by rw [Hfin.out]; rfl, Hbw.out⟩
      · have tn : (t.num != u.num) = true := by simpa using hn
        have hfin : sameT t u = false := by rw [Hdef.out]; simp [hn]
        have Hfin := Lib.hid hfin; clear hk hn hfin
        go_enter Try.func23, Try.ntmps23
        go_wp2_with fail
        go_ret
        exact ⟨by rw [Hfin.out]; rfl, ball (ball (Below.refl _ _) _) _⟩
    · have tk : (t.kind != u.kind) = true := by simpa using hk
      have hfin : sameT t u = false := by rw [Hdef.out]; simp [hk]
      have Hfin := Lib.hid hfin; clear hk hfin
      go_enter Try.func23, Try.ntmps23
      go_wp2_with fail
      go_ret
      exact ⟨by rw [Hfin.out]; rfl, ball (ball (Below.refl _ _) _) _⟩

end Go.Proofs.Ytjhjcigappkebaa
