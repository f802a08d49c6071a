/-
  Walk of the reference: read.
-/
import Derived.Test.YtjhjcigappkebaaXc
namespace Go.Proofs.Ytjhjcigappkebaa
set_option linter.unusedSimpArgs false
set_option linter.unusedVariables false
open Go.RowKit

set_option maxRecDepth 100000 in
set_option maxHeartbeats 2000000 in
theorem rread_int (b : List Int) (va : Option Addr) (vc : Nat) (w : World) (hb : Bs (fun k => k < w.heap.size) w (.slice va b.length vc) b) (hlen : b.length ≤ 65536) (p : Nat) (m : Int) (rest : List Int) (hd : b.drop p = m :: rest) (h1 : 23 ≤ m) (h2 : m ≤ 40)
    (R : Except Int (T × List Int)) (hc : ∀ w1, Below w.heap.size w w1 → Calls Try.prog 54 #[.slice va b.length vc, .int .i64 ((p : Int) + 1), .int .i64 m] w1 (RvOf b w1 R)) :
    Calls Try.prog 44 #[.slice va b.length vc, .int .i64 p] w (RvOf b w R) := by
  have HBS := Lib.hid hb; clear hb
  obtain ⟨hql, hxe, hdr⟩ := drop_cons hd
  obtain ⟨g, off, cap, hv, hcap, hg, hcell⟩ := HBS.out.at (by omega)
  simp only [Value.slice.injEq] at hv
  obtain ⟨rfl, hLL, rfl⟩ := hv
  clear hLL
  have hx01 := HBS.out.2.1 m (by rw [← hxe]; exact List.getElem_mem hql)
  obtain ⟨hx0, hx1⟩ := hx01
  have hcl := hcell p m (by rw [List.getElem?_eq_getElem hql, hxe])
  have HBW := Lib.hid (ball (Below.refl _ _) (.cells #[.int .i64 0, .int .i64 0, .slice none 0 0, .slice none 0 0] 25) : Below w.heap.size w _)
  have c0 := (HBW.out.cell (p := ⟨g, off + p, none⟩) hg).trans hcl
  have hwx : IntKind.i64.wrap m = m := IntWalk.i64_in _ (by omega)
  have HC := Lib.hid hc; clear hc
  clear hd hdr hxe hcl hcell
  go_enter Try.func44, Try.ntmps44
  go_wp2_with fail
  refine (HC.out _ HBW.out).mono ?_
  rintro e w1 ⟨hb1, hm⟩
  have hz := zeroKept hb1
  obtain ⟨d0, d1, d2, d3, f0, f1, f2, f3⟩ := zeroAt hz
  have hsb := fun x0 x1 x2 x3 => setBelow hb1 x0 x1 x2 x3
  have HSB := Lib.hid hsb; have HB1 := Lib.hid hb1; clear hsb hz HC c0 hb1
  cases R with
  | error c =>
    obtain ⟨z, rfl⟩ := hm
    go_wp2_with fail
    refine bodyPost_ret (v := .tuple #[.agg #[.int .i64 0, .int .i64 0, .slice none 0 0, .slice none 0 0], .int .i64 z, .int .i64 c]) (by simp [results, Try.results44, go_sem, d0, d1, d2, d3]) rfl ⟨HSB.out _ _ _ _, ⟨_, rfl⟩⟩
  | ok y =>
    obtain ⟨t, r1⟩ := y
    obtain ⟨a2, c2, a3, c3, q1, rfl, hrd, hq1, hdq1⟩ := hm
    have HRD := Lib.hid hrd; have HDQ := Lib.hid hdq1; clear hrd hdq1
    go_wp2_with fail
    have hgs := grownSet4 w1 w.heap.size (.int .i64 t.kind) (.int .i64 t.num) (.slice a2 t.bs.length c2) (.slice a3 t.els.length c3)
    refine bodyPost_ret (v := .tuple #[.agg #[.int .i64 t.kind, .int .i64 t.num, .slice a2 t.bs.length c2, .slice a3 t.els.length c3], .int .i64 q1, .int .i64 0]) (by simp [results, Try.results44, go_sem, d0, d1, d2, d3]) rfl ⟨HSB.out _ _ _ _, ⟨a2, c2, a3, c3, q1, rfl, Rd.kept (fun k hk => ?_) (fun k hk => ?_) _ _ HRD.out, hq1, HDQ.out⟩⟩
    · have h1 := hk.1; simp at h1; exact hgs.block k hk.2 (fun e => by simp at e; omega)
    · have h1 := hk.1; simp at h1; exact ⟨by omega, Nat.lt_of_lt_of_le hk.2 hgs.size⟩

set_option maxRecDepth 100000 in
set_option maxHeartbeats 2000000 in
theorem rread_bytes (b : List Int) (va : Option Addr) (vc : Nat) (w : World) (hb : Bs (fun k => k < w.heap.size) w (.slice va b.length vc) b) (hlen : b.length ≤ 65536) (p : Nat) (m : Int) (rest : List Int) (hd : b.drop p = m :: rest) (h1 : m = 48)
    (R : Except Int (T × List Int)) (hc : ∀ w1, Below w.heap.size w w1 → Calls Try.prog 55 #[.slice va b.length vc, .int .i64 ((p : Int) + 1)] w1 (RvOf b w1 R)) :
    Calls Try.prog 44 #[.slice va b.length vc, .int .i64 p] w (RvOf b w R) := by
  have HBS := Lib.hid hb; clear hb
  obtain ⟨hql, hxe, hdr⟩ := drop_cons hd
  obtain ⟨g, off, cap, hv, hcap, hg, hcell⟩ := HBS.out.at (by omega)
  simp only [Value.slice.injEq] at hv
  obtain ⟨rfl, hLL, rfl⟩ := hv
  clear hLL
  have hx01 := HBS.out.2.1 m (by rw [← hxe]; exact List.getElem_mem hql)
  obtain ⟨hx0, hx1⟩ := hx01
  have hcl := hcell p m (by rw [List.getElem?_eq_getElem hql, hxe])
  have HBW := Lib.hid (ball (Below.refl _ _) (.cells #[.int .i64 0, .int .i64 0, .slice none 0 0, .slice none 0 0] 25) : Below w.heap.size w _)
  have c0 := (HBW.out.cell (p := ⟨g, off + p, none⟩) hg).trans hcl
  have hwx : IntKind.i64.wrap m = m := IntWalk.i64_in _ (by omega)
  have g1 : (m == 48) = true := by rw [h1]; rfl
  have g2 : ¬ (m ≤ 40) := by omega
  have g3 : 23 ≤ m := by omega
  clear h1
  have HC := Lib.hid hc; clear hc
  clear hd hdr hxe hcl hcell
  go_enter Try.func44, Try.ntmps44
  go_wp2_with fail
  refine (HC.out _ HBW.out).mono ?_
  rintro e w1 ⟨hb1, hm⟩
  have hz := zeroKept hb1
  obtain ⟨d0, d1, d2, d3, f0, f1, f2, f3⟩ := zeroAt hz
  have hsb := fun x0 x1 x2 x3 => setBelow hb1 x0 x1 x2 x3
  have HSB := Lib.hid hsb; have HB1 := Lib.hid hb1; clear hsb hz HC c0 hb1
  cases R with
  | error c =>
    obtain ⟨z, rfl⟩ := hm
    go_wp2_with fail
    refine bodyPost_ret (v := .tuple #[.agg #[.int .i64 0, .int .i64 0, .slice none 0 0, .slice none 0 0], .int .i64 z, .int .i64 c]) (by simp [results, Try.results44, go_sem, d0, d1, d2, d3]) rfl ⟨HSB.out _ _ _ _, ⟨_, rfl⟩⟩
  | ok y =>
    obtain ⟨t, r1⟩ := y
    obtain ⟨a2, c2, a3, c3, q1, rfl, hrd, hq1, hdq1⟩ := hm
    have HRD := Lib.hid hrd; have HDQ := Lib.hid hdq1; clear hrd hdq1
    go_wp2_with fail
    have hgs := grownSet4 w1 w.heap.size (.int .i64 t.kind) (.int .i64 t.num) (.slice a2 t.bs.length c2) (.slice a3 t.els.length c3)
    refine bodyPost_ret (v := .tuple #[.agg #[.int .i64 t.kind, .int .i64 t.num, .slice a2 t.bs.length c2, .slice a3 t.els.length c3], .int .i64 q1, .int .i64 0]) (by simp [results, Try.results44, go_sem, d0, d1, d2, d3]) rfl ⟨HSB.out _ _ _ _, ⟨a2, c2, a3, c3, q1, rfl, Rd.kept (fun k hk => ?_) (fun k hk => ?_) _ _ HRD.out, hq1, HDQ.out⟩⟩
    · have h1 := hk.1; simp at h1; exact hgs.block k hk.2 (fun e => by simp at e; omega)
    · have h1 := hk.1; simp at h1; exact ⟨by omega, Nat.lt_of_lt_of_le hk.2 hgs.size⟩

set_option maxRecDepth 100000 in
set_option maxHeartbeats 2000000 in
theorem rread_list (b : List Int) (va : Option Addr) (vc : Nat) (w : World) (hb : Bs (fun k => k < w.heap.size) w (.slice va b.length vc) b) (hlen : b.length ≤ 65536) (p : Nat) (m : Int) (rest : List Int) (hd : b.drop p = m :: rest) (h1 : m = 64)
    (R : Except Int (T × List Int)) (hc : ∀ w1, Below w.heap.size w w1 → Calls Try.prog 56 #[.slice va b.length vc, .int .i64 ((p : Int) + 1)] w1 (RvOf b w1 R)) :
    Calls Try.prog 44 #[.slice va b.length vc, .int .i64 p] w (RvOf b w R) := by
  have HBS := Lib.hid hb; clear hb
  obtain ⟨hql, hxe, hdr⟩ := drop_cons hd
  obtain ⟨g, off, cap, hv, hcap, hg, hcell⟩ := HBS.out.at (by omega)
  simp only [Value.slice.injEq] at hv
  obtain ⟨rfl, hLL, rfl⟩ := hv
  clear hLL
  have hx01 := HBS.out.2.1 m (by rw [← hxe]; exact List.getElem_mem hql)
  obtain ⟨hx0, hx1⟩ := hx01
  have hcl := hcell p m (by rw [List.getElem?_eq_getElem hql, hxe])
  have HBW := Lib.hid (ball (Below.refl _ _) (.cells #[.int .i64 0, .int .i64 0, .slice none 0 0, .slice none 0 0] 25) : Below w.heap.size w _)
  have c0 := (HBW.out.cell (p := ⟨g, off + p, none⟩) hg).trans hcl
  have hwx : IntKind.i64.wrap m = m := IntWalk.i64_in _ (by omega)
  have g1 : (m == 48) = false := by rw [h1]; rfl
  have g4 : (m == 64) = true := by rw [h1]; rfl
  have g2 : ¬ (m ≤ 40) := by omega
  have g3 : 23 ≤ m := by omega
  clear h1
  have HC := Lib.hid hc; clear hc
  clear hd hdr hxe hcl hcell
  go_enter Try.func44, Try.ntmps44
  go_wp2_with fail
  refine (HC.out _ HBW.out).mono ?_
  rintro e w1 ⟨hb1, hm⟩
  have hz := zeroKept hb1
  obtain ⟨d0, d1, d2, d3, f0, f1, f2, f3⟩ := zeroAt hz
  have hsb := fun x0 x1 x2 x3 => setBelow hb1 x0 x1 x2 x3
  have HSB := Lib.hid hsb; have HB1 := Lib.hid hb1; clear hsb hz HC c0 hb1
  cases R with
  | error c =>
    obtain ⟨z, rfl⟩ := hm
    go_wp2_with fail
    refine bodyPost_ret (v := .tuple #[.agg #[.int .i64 0, .int .i64 0, .slice none 0 0, .slice none 0 0], .int .i64 z, .int .i64 c]) (by simp [results, Try.results44, go_sem, d0, d1, d2, d3]) rfl ⟨HSB.out _ _ _ _, ⟨_, rfl⟩⟩
  | ok y =>
    obtain ⟨t, r1⟩ := y
    obtain ⟨a2, c2, a3, c3, q1, rfl, hrd, hq1, hdq1⟩ := hm
    have HRD := Lib.hid hrd; have HDQ := Lib.hid hdq1; clear hrd hdq1
    go_wp2_with fail
    have hgs := grownSet4 w1 w.heap.size (.int .i64 t.kind) (.int .i64 t.num) (.slice a2 t.bs.length c2) (.slice a3 t.els.length c3)
    refine bodyPost_ret (v := .tuple #[.agg #[.int .i64 t.kind, .int .i64 t.num, .slice a2 t.bs.length c2, .slice a3 t.els.length c3], .int .i64 q1, .int .i64 0]) (by simp [results, Try.results44, go_sem, d0, d1, d2, d3]) rfl ⟨HSB.out _ _ _ _, ⟨a2, c2, a3, c3, q1, rfl, Rd.kept (fun k hk => ?_) (fun k hk => ?_) _ _ HRD.out, hq1, HDQ.out⟩⟩
    · have h1 := hk.1; simp at h1; exact hgs.block k hk.2 (fun e => by simp at e; omega)
    · have h1 := hk.1; simp at h1; exact ⟨by omega, Nat.lt_of_lt_of_le hk.2 hgs.size⟩

set_option maxRecDepth 100000 in
set_option maxHeartbeats 2000000 in
theorem rread_low (b : List Int) (va : Option Addr) (vc : Nat) (w : World) (hb : Bs (fun k => k < w.heap.size) w (.slice va b.length vc) b) (hlen : b.length ≤ 65536) (p : Nat) (m : Int) (rest : List Int) (hd : b.drop p = m :: rest) (h1 : m < 23)
    (R : Except Int (T × List Int)) (hR : R = .error 4) :
    Calls Try.prog 44 #[.slice va b.length vc, .int .i64 p] w (RvOf b w R) := by
  have HBS := Lib.hid hb; clear hb
  obtain ⟨hql, hxe, hdr⟩ := drop_cons hd
  obtain ⟨g, off, cap, hv, hcap, hg, hcell⟩ := HBS.out.at (by omega)
  simp only [Value.slice.injEq] at hv
  obtain ⟨rfl, hLL, rfl⟩ := hv
  clear hLL
  have hx01 := HBS.out.2.1 m (by rw [← hxe]; exact List.getElem_mem hql)
  obtain ⟨hx0, hx1⟩ := hx01
  have hcl := hcell p m (by rw [List.getElem?_eq_getElem hql, hxe])
  have HBW := Lib.hid (ball (Below.refl _ _) (.cells #[.int .i64 0, .int .i64 0, .slice none 0 0, .slice none 0 0] 25) : Below w.heap.size w _)
  have c0 := (HBW.out.cell (p := ⟨g, off + p, none⟩) hg).trans hcl
  have hwx : IntKind.i64.wrap m = m := IntWalk.i64_in _ (by omega)
  have g1 : (m == 48) = false := by rw [beq_eq_false_iff_ne]; omega
  have g4 : (m == 64) = false := by rw [beq_eq_false_iff_ne]; omega
  have g3 : ¬ (23 ≤ m) := by omega
  subst hR
  clear hd hdr hxe hcl hcell
  go_enter Try.func44, Try.ntmps44
  go_wp2_with fail
  refine bodyPost_ret (v := .tuple #[.agg #[.int .i64 0, .int .i64 0, .slice none 0 0, .slice none 0 0], .int .i64 p, .int .i64 4]) (by simp [results, Try.results44, go_sem]) rfl ⟨?_, ?_⟩
  · exact ball (Below.refl _ _) _
  · exact ⟨_, rfl⟩

set_option maxRecDepth 100000 in
set_option maxHeartbeats 2000000 in
theorem rread_high (b : List Int) (va : Option Addr) (vc : Nat) (w : World) (hb : Bs (fun k => k < w.heap.size) w (.slice va b.length vc) b) (hlen : b.length ≤ 65536) (p : Nat) (m : Int) (rest : List Int) (hd : b.drop p = m :: rest) (h1 : 40 < m) (h2 : m ≠ 48) (h3 : m ≠ 64)
    (R : Except Int (T × List Int)) (hR : R = .error 4) :
    Calls Try.prog 44 #[.slice va b.length vc, .int .i64 p] w (RvOf b w R) := by
  have HBS := Lib.hid hb; clear hb
  obtain ⟨hql, hxe, hdr⟩ := drop_cons hd
  obtain ⟨g, off, cap, hv, hcap, hg, hcell⟩ := HBS.out.at (by omega)
  simp only [Value.slice.injEq] at hv
  obtain ⟨rfl, hLL, rfl⟩ := hv
  clear hLL
  have hx01 := HBS.out.2.1 m (by rw [← hxe]; exact List.getElem_mem hql)
  obtain ⟨hx0, hx1⟩ := hx01
  have hcl := hcell p m (by rw [List.getElem?_eq_getElem hql, hxe])
  have HBW := Lib.hid (ball (Below.refl _ _) (.cells #[.int .i64 0, .int .i64 0, .slice none 0 0, .slice none 0 0] 25) : Below w.heap.size w _)
  have c0 := (HBW.out.cell (p := ⟨g, off + p, none⟩) hg).trans hcl
  have hwx : IntKind.i64.wrap m = m := IntWalk.i64_in _ (by omega)
  have g1 : (m == 48) = false := by rw [beq_eq_false_iff_ne]; omega
  have g4 : (m == 64) = false := by rw [beq_eq_false_iff_ne]; omega
  have g3 : 23 ≤ m := by omega
  have g2 : ¬ (m ≤ 40) := by omega
  clear h1 h2 h3
  subst hR
  clear hd hdr hxe hcl hcell
  go_enter Try.func44, Try.ntmps44
  go_wp2_with fail
  refine bodyPost_ret (v := .tuple #[.agg #[.int .i64 0, .int .i64 0, .slice none 0 0, .slice none 0 0], .int .i64 p, .int .i64 4]) (by simp [results, Try.results44, go_sem]) rfl ⟨?_, ?_⟩
  · exact ball (Below.refl _ _) _
  · exact ⟨_, rfl⟩

set_option maxRecDepth 100000 in
set_option maxHeartbeats 2000000 in
theorem rread_nil (b : List Int) (va : Option Addr) (vc : Nat) (w : World) (hlen : b.length ≤ 65536) (p : Nat) (hp : p ≤ b.length) (hd : b.drop p = []) :
    Calls Try.prog 44 #[.slice va b.length vc, .int .i64 p] w (RvOf b w (.error 5)) := by
  have hge := drop_nil_le hd
  clear hd
  go_enter Try.func44, Try.ntmps44
  go_wp2_with fail
  refine bodyPost_ret (v := .tuple #[.agg #[.int .i64 0, .int .i64 0, .slice none 0 0, .slice none 0 0], .int .i64 p, .int .i64 5]) (by simp [results, Try.results44, go_sem]) rfl ⟨?_, ?_⟩
  · exact ball (Below.refl _ _) _
  · exact ⟨_, rfl⟩

theorem rread_all (b : List Int) (va : Option Addr) (vc : Nat) (hlen : b.length ≤ 65536) : ∀ f, RvC b va vc f := by
  intro f
  induction f using Nat.strongRecOn with
  | ind f ih =>
    intro w p hb hp hne
    cases f with
    | zero => exact absurd rfl hne
    | succ f =>
      cases hd : b.drop p with
      | nil =>
        have e : pVal (f + 1) ([] : List Int) = .error 5 := rfl
        rw [e]
        exact rread_nil b va vc w hlen p hp hd
      | cons m rest =>
        obtain ⟨hpl, _, hdr⟩ := drop_cons hd
        have up : ∀ w1, Below w.heap.size w w1 → Bs (fun k => k < w1.heap.size) w1 (.slice va b.length vc) b := fun w1 h => hb.up h
        have hp1 : ((p : Int) + 1) = ((p + 1 : Nat) : Int) := by omega
        rw [hd] at hne
        by_cases c1 : 31 < m ∧ m ≤ 40
        · refine rread_int b va vc w hb hlen p m rest hd (by omega) c1.2 _ (fun w1 h1 => ?_)
          obtain ⟨k, rfl⟩ : ∃ k : Nat, m = 32 + (k : Int) := ⟨(m - 32).toNat, by omega⟩
          have e1 : ((32 + (k : Int)) - 32).toNat = k := by omega
          have e2 : ((32 + (k : Int)) == 40) = (k == 8) := by rw [Bool.eq_iff_iff]; simp; omega
          rw [hp1]
          refine rint_false b va vc w1 (up w1 h1) hlen (p + 1) k (by omega) (by omega) _ rfl _ ?_
          simp only [pVal]
          rw [if_pos c1, e1, e2, hdr]
          cases pInt (k == 8) false k true 0 rest <;> rfl
        · by_cases c2 : m ≤ 31 ∧ 23 ≤ m
          · refine rread_int b va vc w hb hlen p m rest hd c2.2 (by omega) _ (fun w1 h1 => ?_)
            obtain ⟨k, rfl⟩ : ∃ k : Nat, m = 31 - (k : Int) := ⟨(31 - m).toNat, by omega⟩
            have e1 : (31 - (31 - (k : Int))).toNat = k := by omega
            have e2 : ((31 - (k : Int)) == 23) = (k == 8) := by rw [Bool.eq_iff_iff]; simp; omega
            rw [hp1]
            refine rint_true b va vc w1 (up w1 h1) hlen (p + 1) k (by omega) (by omega) _ rfl _ ?_
            simp only [pVal]
            rw [if_neg c1, if_pos c2, e1, e2, hdr]
            cases pInt (k == 8) true k true 0 rest <;> rfl
          · by_cases c3 : m = 48
            · refine rread_bytes b va vc w hb hlen p m rest hd c3 _ (fun w1 h1 => ?_)
              rw [hp1]
              refine rbytesR b va vc w1 (up w1 h1) hlen (p + 1) (by omega) _ ?_
              simp only [pVal]
              rw [if_neg c1, if_neg c2, if_pos c3, hdr]
              cases pBytes rest <;> rfl
            · by_cases c4 : m = 64
              · have e : pVal (f + 1) (m :: rest) = (match pList f rest with | .ok (l, r) => .ok (.mk 3 0 [] l, r) | .error e => .error e) := by
                  simp only [pVal]
                  rw [if_neg c1, if_neg c2, if_neg c3, if_pos c4]
                  cases pList f rest <;> rfl
                rw [e] at hne ⊢
                refine rread_list b va vc w hb hlen p m rest hd c4 _ (fun w1 h1 => ?_)
                rw [hp1]
                refine rlist_any b va vc f hlen (fun f' hf' => ih f' (by omega)) w1 (p + 1) (up w1 h1) (by omega) ?_ _ (by rw [hdr]; cases pList f rest <;> rfl)
                rw [hdr]
                intro e0
                rw [e0] at hne
                exact hne rfl
              · have e : pVal (f + 1) (m :: rest) = .error 4 := by
                  simp only [pVal]
                  rw [if_neg c1, if_neg c2, if_neg c3, if_neg c4]
                rw [e]
                by_cases c5 : m < 23
                · exact rread_low b va vc w hb hlen p m rest hd c5 _ rfl
                · exact rread_high b va vc w hb hlen p m rest hd (by omega) c3 c4 _ rfl
end Go.Proofs.Ytjhjcigappkebaa
