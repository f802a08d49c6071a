/-
  Walk of the reference: Decode.
-/
import Derived.Test.YtjhjcigappkebaaXd
import Derived.Test.YtjhjcigappkebaaNe
namespace Go.Proofs.Ytjhjcigappkebaa
set_option linter.unusedSimpArgs false
set_option linter.unusedVariables false
open Go.RowKit

/-- What both Decodes return: a value and an error. -/
def DcU (t : T) (c : Int) (w : World) (e : Ending) (w' : World) : Prop :=
  ∃ (a2 : Option Addr) (c2 : Nat) (a3 : Option Addr) (c3 : Nat), e = .returned (.tuple #[.agg #[.int .i64 t.kind, .int .i64 t.num, .slice a2 t.bs.length c2, .slice a3 t.els.length c3], .int .i64 c]) ∧ Below w.heap.size w w' ∧ Rd (fun k => k < w'.heap.size) w' t (.agg #[.int .i64 t.kind, .int .i64 t.num, .slice a2 t.bs.length c2, .slice a3 t.els.length c3])

/-- The value that Decode returns, and the error. -/
def decT (b : List Int) : T := match dec b with | .ok t => t | .error _ => .mk 0 0 [] []
def decC (b : List Int) : Int := match dec b with | .ok _ => 0 | .error c => c
theorem decT_ok {b : List Int} {t : T} (h : dec b = .ok t) : decT b = t ∧ decC b = 0 := by unfold decT decC; rw [h]; exact ⟨rfl, rfl⟩
theorem decT_err {b : List Int} {c : Int} (h : dec b = .error c) : decT b = .mk 0 0 [] [] ∧ decC b = c := by unfold decT decC; rw [h]; exact ⟨rfl, rfl⟩

theorem decodeU (w : World) (vb : Value) (b : List Int) (h : Bs (fun k => k < w.heap.size) w vb b) : Calls Try.prog 21 #[vb] w (DcU (decT b) (decC b) w) := by
  refine (decode_any w vb b h).mono ?_
  rintro e w' ⟨hb, hm⟩
  cases hd : dec b with
  | error c =>
    rw [hd] at hm
    obtain ⟨e1, e2⟩ := decT_err hd
    rw [e1, e2]
    exact ⟨none, 0, none, 0, hm, hb, Rd.zero _ _⟩
  | ok t =>
    rw [hd] at hm
    obtain ⟨e1, e2⟩ := decT_ok hd
    obtain ⟨v, rfl, hr⟩ := hm
    have hr2 : Rd (fun k => k < w'.heap.size) w' t v := Rd.kept (fun k _ => rfl) (fun k hk => hk.2) _ _ hr
    obtain ⟨x2, y2, x3, y3, rfl⟩ := rdForm4 hr2
    rw [e1, e2]
    exact ⟨x2, y2, x3, y3, rfl, hb, hr2⟩

theorem dcuErr {b : List Int} {c : Int} {w w' : World} {e : Ending} (hd : dec b = .error c) (he : e = .returned (.tuple #[.agg #[.int .i64 0, .int .i64 0, .slice none 0 0, .slice none 0 0], .int .i64 c])) (hb : Below w.heap.size w w') : DcU (decT b) (decC b) w e w' := by
  obtain ⟨e1, e2⟩ := decT_err hd
  rw [e1, e2, he]
  exact ⟨none, 0, none, 0, rfl, hb, Rd.zero _ _⟩

set_option maxRecDepth 100000 in
set_option maxHeartbeats 2000000 in
theorem rdecodeU (w : World) (va : Option Addr) (vc : Nat) (b : List Int) (hb : Bs (fun k => k < w.heap.size) w (.slice va b.length vc) b) : Calls Try.prog 22 #[.slice va b.length vc] w (DcU (decT b) (decC b) w) := by
  have hrange := hb.2.1
  by_cases hl : 65536 < b.length
  · have hd : dec b = .error 2 := by unfold dec; rw [if_pos hl]
    have HD := Lib.hid hd; clear hd hb hrange
    go_enter Try.func22, Try.ntmps22
    go_wp2_with fail
    refine bodyPost_ret (v := .tuple #[.agg #[.int .i64 0, .int .i64 0, .slice none 0 0, .slice none 0 0], .int .i64 2]) (by simp [results, Try.results22, go_sem]) rfl (dcuErr HD.out rfl (ball (Below.refl _ _) _))
  · have hlen : b.length ≤ 65536 := by omega
    have hg : ¬ (65536 < b.length) := hl
    have hne := (fuel_both (2 * b.length + 2)).1 b (by omega)
    have HBW := Lib.hid (ball (Below.refl _ _) (.cells #[.int .i64 0, .int .i64 0, .slice none 0 0, .slice none 0 0] 25) : Below w.heap.size w _)
    have hcall : Calls Try.prog 44 #[.slice va b.length vc, .int .i64 0] (w.alloc (.cells #[.int .i64 0, .int .i64 0, .slice none 0 0, .slice none 0 0] 25)) (RvOf b (w.alloc (.cells #[.int .i64 0, .int .i64 0, .slice none 0 0, .slice none 0 0] 25)) (pVal (2 * b.length + 2) b)) := by
      have h := rread_all b va vc hlen (2 * b.length + 2) (w.alloc (.cells #[.int .i64 0, .int .i64 0, .slice none 0 0, .slice none 0 0] 25)) 0 (hb.up HBW.out) (Nat.zero_le _) (by rw [List.drop_zero]; exact hne)
      rw [List.drop_zero] at h
      exact h
    have hdec : dec b = match pVal (2 * b.length + 2) b with | .ok (t, r) => if r = [] then (if 16 < nest t then .error 2 else .ok t) else .error 4 | .error e => .error e := by unfold dec; rw [if_neg hl]; cases pVal (2 * b.length + 2) b <;> rfl
    have hsound := fun t r => (sound_both (2 * b.length + 2)).1 b t r hrange
    obtain ⟨P, hP⟩ : ∃ P, P = pVal (2 * b.length + 2) b := ⟨_, rfl⟩
    rw [← hP] at hcall hdec hne hsound
    have HC := Lib.hid hcall; have HNE := Lib.hid hne; have HS := Lib.hid hsound; have HDD := Lib.hid hdec
    clear hcall hne hsound hdec hP hrange hb hl
    cases P with
    | error c =>
      have hd : dec b = .error c := HDD.out
      have HD := Lib.hid hd; clear hd HDD
      have tc : (c != 0) = true := by have h := HNE.out; simp at h ⊢; exact h
      go_enter Try.func22, Try.ntmps22
      go_wp2_with fail
      refine HC.out.mono ?_
      rintro e w1 ⟨hb1, hm⟩
      have HB1 := Lib.hid hb1; clear hb1 HC
      obtain ⟨z, rfl⟩ := hm
      have hbz := ball HB1.out (.cells #[.int .i64 0, .int .i64 0, .slice none 0 0, .slice none 0 0] 25)
      have hz := zeroKept hbz
      obtain ⟨d0, d1, d2, d3, f0, f1, f2, f3⟩ := zeroAt hz
      have HSB := Lib.hid (fun x0 x1 x2 x3 => setBelow hbz x0 x1 x2 x3); clear hz hbz
      go_wp2_with fail
      refine bodyPost_ret (v := .tuple #[.agg #[.int .i64 0, .int .i64 0, .slice none 0 0, .slice none 0 0], .int .i64 c]) (by simp [results, Try.results22, go_sem, d0, d1, d2, d3]) rfl (dcuErr HD.out rfl (HSB.out _ _ _ _))
    | ok y =>
      obtain ⟨t, r⟩ := y
      have hdd : dec b = if r = [] then (if 16 < nest t then .error 2 else .ok t) else .error 4 := HDD.out
      obtain ⟨hs1, hs2⟩ := HS.out t r rfl
      have hsz : (enc t).length ≤ 65536 := by have h := congrArg List.length hs1; rw [List.length_append] at h; omega
      have HD1 := Lib.hid hdd; have HSH := Lib.hid hs2; have HSZ := Lib.hid hsz
      clear hdd hs1 hs2 hsz HDD HS
      by_cases hr : r = []
      · obtain ⟨n, hn⟩ : ∃ n, nest t = n := ⟨_, rfl⟩
        have hd1 := HD1.out
        rw [if_pos hr, hn] at hd1
        have HN := Lib.hid hn; have HD2 := Lib.hid hd1; have HR := Lib.hid hr; clear hn hd1 hr HD1
        by_cases h16 : 16 < n
        · have hd : dec b = .error 2 := by rw [HD2.out, if_pos h16]
          have HD := Lib.hid hd; clear hd HD2
          go_enter Try.func22, Try.ntmps22
          go_wp2_with fail
          refine HC.out.mono ?_
          rintro e w1 ⟨hb1, hm⟩
          have HB1 := Lib.hid hb1; clear hb1 HC
          obtain ⟨a2, c2, a3, c3, q1, rfl, hrd, hq1, hdq⟩ := hm
          have HRD := Lib.hid hrd; have HDQ := Lib.hid hdq; clear hrd hdq
          have hqe : q1 = b.length := by have h := HDQ.out; rw [HR.out] at h; have := drop_nil_le h; omega
          subst hqe
          have hbz := ball HB1.out (.cells #[.int .i64 t.kind, .int .i64 t.num, .slice a2 t.bs.length c2, .slice a3 t.els.length c3] 25)
          have hz := zeroKept hbz
          obtain ⟨d0, d1, d2, d3, f0, f1, f2, f3⟩ := zeroAt hz
          have HSB := Lib.hid (fun x0 x1 x2 x3 => setBelow hbz x0 x1 x2 x3); clear hz hbz
          have hrd1 : Rd (fun k => k < w1.heap.size) w1 t (.agg #[.int .i64 t.kind, .int .i64 t.num, .slice a2 t.bs.length c2, .slice a3 t.els.length c3]) := Rd.kept (fun k _ => rfl) (fun k hk => hk.2) _ _ HRD.out
          have HH := Lib.hid (heldBox hrd1); clear hrd1
          go_wp2_with fail
          refine (nesting_any (dep t + 1) t (by omega) HSH.out (by have := HSZ.out; omega) _ a2 c2 a3 c3 HH.out.2.2).mono ?_
          rw [HN.out]
          rintro e w3 ⟨rfl, hb3⟩
          have hbb : Below (w.alloc (.cells #[.int .i64 0, .int .i64 0, .slice none 0 0, .slice none 0 0] 25)).heap.size (w.alloc (.cells #[.int .i64 0, .int .i64 0, .slice none 0 0, .slice none 0 0] 25)) w3 := nextB (ball HB1.out (.cells #[.int .i64 t.kind, .int .i64 t.num, .slice a2 t.bs.length c2, .slice a3 t.els.length c3] 25)) hb3
          have H13 := Lib.hid (nextB (ball (Below.refl w1.heap.size w1) (.cells #[.int .i64 t.kind, .int .i64 t.num, .slice a2 t.bs.length c2, .slice a3 t.els.length c3] 25)) hb3 : Below w1.heap.size w1 w3)
          have HBB := Lib.hid hbb; have HH3 := Lib.hid (HH.out.below hb3); clear hbb HSB d0 d1 d2 d3 f0 f1 f2 f3 hb3
          have hbz := HBB.out
          have hz := zeroKept hbz
          obtain ⟨d0, d1, d2, d3, f0, f1, f2, f3⟩ := zeroAt hz
          have HSB := Lib.hid (fun x0 x1 x2 x3 => setBelow hbz x0 x1 x2 x3); clear hz hbz
          obtain ⟨b0, b1, b2, b3⟩ := HH3.out.2.1
          go_wp2_with fail
          refine bodyPost_ret (v := .tuple #[.agg #[.int .i64 0, .int .i64 0, .slice none 0 0, .slice none 0 0], .int .i64 2]) (by simp [results, Try.results22, go_sem, d0, d1, d2, d3]) rfl (dcuErr HD.out rfl (HSB.out _ _ _ _))
        · have hd : dec b = .ok t := by rw [HD2.out, if_neg h16]
          have HD := Lib.hid hd; clear hd HD2
          go_enter Try.func22, Try.ntmps22
          go_wp2_with fail
          refine HC.out.mono ?_
          rintro e w1 ⟨hb1, hm⟩
          have HB1 := Lib.hid hb1; clear hb1 HC
          obtain ⟨a2, c2, a3, c3, q1, rfl, hrd, hq1, hdq⟩ := hm
          have HRD := Lib.hid hrd; have HDQ := Lib.hid hdq; clear hrd hdq
          have hqe : q1 = b.length := by have h := HDQ.out; rw [HR.out] at h; have := drop_nil_le h; omega
          subst hqe
          have hbz := ball HB1.out (.cells #[.int .i64 t.kind, .int .i64 t.num, .slice a2 t.bs.length c2, .slice a3 t.els.length c3] 25)
          have hz := zeroKept hbz
          obtain ⟨d0, d1, d2, d3, f0, f1, f2, f3⟩ := zeroAt hz
          have HSB := Lib.hid (fun x0 x1 x2 x3 => setBelow hbz x0 x1 x2 x3); clear hz hbz
          have hrd1 : Rd (fun k => k < w1.heap.size) w1 t (.agg #[.int .i64 t.kind, .int .i64 t.num, .slice a2 t.bs.length c2, .slice a3 t.els.length c3]) := Rd.kept (fun k _ => rfl) (fun k hk => hk.2) _ _ HRD.out
          have HH := Lib.hid (heldBox hrd1); clear hrd1
          go_wp2_with fail
          refine (nesting_any (dep t + 1) t (by omega) HSH.out (by have := HSZ.out; omega) _ a2 c2 a3 c3 HH.out.2.2).mono ?_
          rw [HN.out]
          rintro e w3 ⟨rfl, hb3⟩
          have hbb : Below (w.alloc (.cells #[.int .i64 0, .int .i64 0, .slice none 0 0, .slice none 0 0] 25)).heap.size (w.alloc (.cells #[.int .i64 0, .int .i64 0, .slice none 0 0, .slice none 0 0] 25)) w3 := nextB (ball HB1.out (.cells #[.int .i64 t.kind, .int .i64 t.num, .slice a2 t.bs.length c2, .slice a3 t.els.length c3] 25)) hb3
          have H13 := Lib.hid (nextB (ball (Below.refl w1.heap.size w1) (.cells #[.int .i64 t.kind, .int .i64 t.num, .slice a2 t.bs.length c2, .slice a3 t.els.length c3] 25)) hb3 : Below w1.heap.size w1 w3)
          have HBB := Lib.hid hbb; have HH3 := Lib.hid (HH.out.below hb3); clear hbb HSB d0 d1 d2 d3 f0 f1 f2 f3 hb3
          have hbz := HBB.out
          have hz := zeroKept hbz
          obtain ⟨d0, d1, d2, d3, f0, f1, f2, f3⟩ := zeroAt hz
          have HSB := Lib.hid (fun x0 x1 x2 x3 => setBelow hbz x0 x1 x2 x3); clear hz hbz
          obtain ⟨b0, b1, b2, b3⟩ := HH3.out.2.1
          go_wp2_with fail
          have hgs := grownSet4 w3 w.heap.size (.int .i64 t.kind) (.int .i64 t.num) (.slice a2 t.bs.length c2) (.slice a3 t.els.length c3)
          obtain ⟨e1, e2⟩ := decT_ok HD.out
          refine bodyPost_ret (v := .tuple #[.agg #[.int .i64 t.kind, .int .i64 t.num, .slice a2 t.bs.length c2, .slice a3 t.els.length c3], .int .i64 0]) (by simp [results, Try.results22, go_sem, d0, d1, d2, d3]) rfl (?_)
          rw [e1, e2]
          have h13 := H13.out
          have h13s := h13.size
          have hgss := hgs.size
          refine ⟨a2, c2, a3, c3, rfl, HSB.out _ _ _ _, Rd.kept (F := fresh (w.alloc (.cells #[.int .i64 0, .int .i64 0, .slice none 0 0, .slice none 0 0] 25)) w1) (w := w1) (fun k hk => ?_) (fun k hk => ?_) _ _ HRD.out⟩
          · have h1 := hk.1; have h2 := hk.2; simp at h1; exact (hgs.block k (by omega) (fun e => by simp at e; omega)).trans (h13.block k h2)
          · have h2 := hk.2; exact Nat.lt_of_lt_of_le (Nat.lt_of_lt_of_le h2 h13s) hgss
      · have hd : dec b = .error 4 := by rw [HD1.out, if_neg hr]
        have HD := Lib.hid hd; have HR := Lib.hid hr; clear hd hr HD1
        go_enter Try.func22, Try.ntmps22
        go_wp2_with fail
        refine HC.out.mono ?_
        rintro e w1 ⟨hb1, hm⟩
        have HB1 := Lib.hid hb1; clear hb1 HC
        obtain ⟨a2, c2, a3, c3, q1, rfl, hrd, hq1, hdq⟩ := hm
        have HRD := Lib.hid hrd; have HDQ := Lib.hid hdq; clear hrd hdq
        have hqe : q1 < b.length := by
          rcases Nat.lt_or_ge q1 b.length with h | h
          · exact h
          · exact absurd (by rw [← HDQ.out]; exact List.drop_eq_nil_iff.2 h) HR.out
        have hbz := ball HB1.out (.cells #[.int .i64 t.kind, .int .i64 t.num, .slice a2 t.bs.length c2, .slice a3 t.els.length c3] 25)
        have hz := zeroKept hbz
        obtain ⟨d0, d1, d2, d3, f0, f1, f2, f3⟩ := zeroAt hz
        have HSB := Lib.hid (fun x0 x1 x2 x3 => setBelow hbz x0 x1 x2 x3); clear hz hbz
        go_wp2_with fail
        refine bodyPost_ret (v := .tuple #[.agg #[.int .i64 0, .int .i64 0, .slice none 0 0, .slice none 0 0], .int .i64 4]) (by simp [results, Try.results22, go_sem, d0, d1, d2, d3]) rfl (dcuErr HD.out rfl (HSB.out _ _ _ _))
end Go.Proofs.Ytjhjcigappkebaa
