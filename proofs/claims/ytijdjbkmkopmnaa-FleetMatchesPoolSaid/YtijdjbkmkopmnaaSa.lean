/-
  Walks: equal lists of swaps; few; Clean.
-/
import Derived.Test.YtijdjbkmkopmnaaFt
import Derived.Laws.StructEq
namespace Go.Proofs.Ytijdjbkmkopmnaa
open Go.RowKit
set_option linter.unusedVariables false
set_option linter.unusedSimpArgs false

theorem Try.fields62 : (Try.prog.fieldsOf 62).toList = [{ name := "Wanted", type := 3, offset := 0, embedded := false, tag := "", pkgPath := "", byteOffset := 0 }, { name := "Given", type := 3, offset := 1, embedded := false, tag := "", pkgPath := "", byteOffset := 8 }, { name := "Cost", type := 3, offset := 2, embedded := false, tag := "", pkgPath := "", byteOffset := 16 }] := by kernel_rfl
theorem Try.stood62 : Try.prog.stoodInHeld 62 = false := by kernel_rfl
theorem Try.guard62 : Try.prog.eqGuardType Try.prog.depth 62 = false := by kernel_rfl
theorem Try.struct62 : Try.prog.underlying 62 = some (.struct (Try.prog.fieldsOf 62)) := by kernel_rfl
theorem eqS (x1 y1 z1 x2 y2 z2 : Int) (w : World) : (Op.equalIn 10000 62 (.agg #[.int .i64 x1, .int .i64 y1, .int .i64 z1]) (.agg #[.int .i64 x2, .int .i64 y2, .int .i64 z2])).run Try.prog w = .ok (decide (x1 = x2 ∧ y1 = y2 ∧ z1 = z2)) w := by
  rw [show (10000 : Nat) = 9999 + 1 from rfl, run_equalIn_struct w 9999 62 _ _ Try.struct62 Try.stood62, Try.fields62]
  have a3 := Try.isAgg3
  unfold Op.eqFields
  go_simp
  by_cases h1 : x1 = x2 <;> by_cases h2 : y1 = y2 <;> by_cases h3 : z1 = z2 <;> simp [h1, h2, h3]
theorem Ss.cells {F : Nat → Prop} {w : World} {a : Option Addr} {m c : Nat} {l : List Sw} (h : Ss F w (.slice a m c) l) (k : Nat) (hk : k < l.length) :
    ∃ g off x, a = some ⟨g, off, none⟩ ∧ F g ∧ l[k]? = some x ∧ x.ok ∧ w.cell? ⟨g, off + k * 3, none⟩ = some (.int .i64 x.wa) ∧ w.cell? ⟨g, off + k * 3 + 1, none⟩ = some (.int .i64 x.gi) ∧ w.cell? ⟨g, off + k * 3 + 2, none⟩ = some (.int .i64 x.co) ∧ l.length ≤ c := by
  obtain ⟨g, off, x, h1, h2, h3, h4, h5, h6⟩ := h.pick k hk
  exact ⟨g, off, x, h1, h2, h3, h4, h5 0 _ rfl, h5 1 _ rfl, h5 2 _ rfl, h6⟩
set_option maxRecDepth 100000 in
set_option maxHeartbeats 4000000 in
theorem sameS_any {w : World} {u v : Value} {l m : List Sw} (hu : Ss (fun k => k < w.heap.size) w u l) (hv : Ss (fun k => k < w.heap.size) w v m) (R : Bool) (hR : R = decide (l = m)) :
    Calls Try.prog 22 #[u, v] w fun e w' => e = .returned (.bool R) ∧ Below w.heap.size w w' := by
  obtain ⟨ua, uc, rfl⟩ := hu.shape
  obtain ⟨va, vc, rfl⟩ := hv.shape
  have hul := hu.1
  have hvl := hv.1
  obtain ⟨n, hn⟩ : ∃ n, n = l.length := ⟨_, rfl⟩
  obtain ⟨k2, hm⟩ : ∃ n, n = m.length := ⟨_, rfl⟩
  rw [← hn] at hu hul ⊢
  rw [← hm] at hv hvl ⊢
  have HN := Lib.hid hn; have HM := Lib.hid hm; have HU := Lib.hid hu; have HV := Lib.hid hv; have HR := Lib.hid hR
  clear hn hm hu hv hR
  by_cases he : n = k2
  · subst he
    have dne : ((n : Int) != (n : Int)) = false := by simp
    go_enter Try.func22, Try.ntmps22
    go_wp2
    clear dne
    go_loopw [5] (fun s wr => ∃ k : Nat, k ≤ n ∧ s = .int .i64 (k : Int) ∧ Hid (∀ j, j < k → l[j]? = m[j]?) ∧ Hid (Below w.heap.size w wr)) (fun s _ => n - (intOf s).toNat)
    case atStart => exact ⟨0, by omega, rfl, Lib.hid (fun j hj => by omega), Lib.hid (Below.refl _ _)⟩
    case round =>
      obtain ⟨k, hk, rfl, HK, HW⟩ := hrel
      by_cases hlt : k < n
      · have hlt2 : (k : Int) < (n : Int) := by omega
        obtain ⟨g, off, x, rfl, hg, hx, hxi, c0, c1, c1b, hcap⟩ := Ss.cells HU.out k (by rw [← HN.out]; exact hlt)
        obtain ⟨g2, off2, y, rfl, hg2, hy, hyi, c2, c3, c3b, hcap2⟩ := Ss.cells HV.out k (by rw [← HM.out]; exact hlt)
        obtain ⟨xr, xk, xm⟩ := x
        obtain ⟨yr, yk, ym⟩ := y
        have f0 : wr.cell? ⟨g, off + k * 3, none⟩ = some (.int .i64 xr) := (HW.out.cell (p := ⟨g, off + k * 3, none⟩) hg).trans c0
        have f1 : wr.cell? ⟨g, off + k * 3 + 1, none⟩ = some (.int .i64 xk) := (HW.out.cell (p := ⟨g, off + k * 3 + 1, none⟩) hg).trans c1
        have f1b : wr.cell? ⟨g, off + k * 3 + 2, none⟩ = some (.int .i64 xm) := (HW.out.cell (p := ⟨g, off + k * 3 + 2, none⟩) hg).trans c1b
        have f3b : wr.cell? ⟨g2, off2 + k * 3 + 2, none⟩ = some (.int .i64 ym) := (HW.out.cell (p := ⟨g2, off2 + k * 3 + 2, none⟩) hg2).trans c3b
        have f2 : wr.cell? ⟨g2, off2 + k * 3, none⟩ = some (.int .i64 yr) := (HW.out.cell (p := ⟨g2, off2 + k * 3, none⟩) hg2).trans c2
        have f3 : wr.cell? ⟨g2, off2 + k * 3 + 1, none⟩ = some (.int .i64 yk) := (HW.out.cell (p := ⟨g2, off2 + k * 3 + 1, none⟩) hg2).trans c3
        by_cases hc : (⟨xr, xk, xm⟩ : Sw) = (⟨yr, yk, ym⟩ : Sw)
        · have HK2 : Hid (∀ j, j < k + 1 → l[j]? = m[j]?) := Lib.hid (by
            intro j hj
            by_cases e : j = k
            · rw [e, hx, hy, hc]
            · exact HK.out j (by omega))
          have hc2 : xr = yr ∧ xk = yk ∧ xm = ym := by simpa using hc
          have dd := eqS xr xk xm yr yk ym
          rw [decide_eq_true hc2] at dd
          have dg := Try.guard62
          clear hc2
          clear hg hx hxi c0 c1 c1b hcap hg2 hy hyi c2 c3 c3b hcap2 HK hc
          go_wp2_with fail
          go_quiet (fail)
          have HW2 := Lib.hid (bdrewN HW.out nq)
          clear f0 f1 f1b f2 f3 f3b
          generalize wr.drewN nq = w7 at *
          go_wp2
          go_roundw
          case rel => exact ⟨k + 1, by omega, by go_num, HK2, HW2⟩
          case measure => simp [intOf]; omega
        · have hr : R = false := by
            rw [HR.out]
            refine decide_eq_false fun e => hc ?_
            rw [e, hy] at hx
            exact (Option.some.inj hx).symm
          subst hr
          have hc2 : ¬ (xr = yr ∧ xk = yk ∧ xm = ym) := by simpa using hc
          have dd := eqS xr xk xm yr yk ym
          rw [decide_eq_false hc2] at dd
          have dg := Try.guard62
          clear hc2
          clear hg hx hxi c0 c1 c1b hcap hg2 hy hyi c2 c3 c3b hcap2 HK hc
          go_wp2_with fail
          go_quiet (fail)
          have HW2 := Lib.hid (bdrewN HW.out nq)
          clear f0 f1 f1b f2 f3 f3b
          generalize wr.drewN nq = w7 at *
          go_wp2
          go_ret
          exact ⟨rfl, HW2.out⟩
      · obtain rfl : k = n := by omega
        have hlt2 : ¬ ((k : Int) < (k : Int)) := by omega
        have hr : R = true := by
          rw [HR.out]
          refine decide_eq_true (List.ext_getElem? fun j => ?_)
          rcases Nat.lt_or_ge j k with hj | hj
          · exact HK.out j hj
          · rw [List.getElem?_eq_none (by rw [← HN.out]; exact hj), List.getElem?_eq_none (by rw [← HM.out]; exact hj)]
        subst hr
        clear HK
        go_wp2
        go_ret
        exact ⟨rfl, HW.out⟩
  · have dne : ((n : Int) != (k2 : Int)) = true := by simp; omega
    have hr : R = false := by
      rw [HR.out]
      refine decide_eq_false fun e => he ?_
      rw [HN.out, HM.out, e]
    subst hr
    go_enter Try.func22, Try.ntmps22
    go_wp2
    go_ret
    exact ⟨rfl, Below.refl _ _⟩
/-- Whether the lists are short, or longer than a limit. -/
def fewB (t w s h : Nat) : Bool := decide (t > 32 ∨ w > 4096 ∨ s > 1024 ∨ h > 4096) || decide (w ≤ 64 ∧ s ≤ 200 ∧ h ≤ 200)
set_option maxRecDepth 100000 in
set_option maxHeartbeats 8000000 in
theorem few_any {V : Value} {ts : List Ty} {ws : List Wn} {ss : List Sw} {hs : List Wh} {w : World} (hf : Fl w V ts ws ss hs) :
    Calls Try.prog 11 #[V] w fun e w' => e = .returned (.bool (fewB ts.length ws.length ss.length hs.length)) ∧ Below w.heap.size w w' := by
  obtain ⟨a1, c1, a2, c2, a3, c3, a4, c4, rfl, g1, g2, g3, g4⟩ := hf.shape
  obtain ⟨n, hn⟩ : ∃ n, n = ts.length := ⟨_, rfl⟩
  obtain ⟨m, hm⟩ : ∃ m, m = ws.length := ⟨_, rfl⟩
  obtain ⟨k, hk⟩ : ∃ k, k = ss.length := ⟨_, rfl⟩
  obtain ⟨h, hh⟩ : ∃ h, h = hs.length := ⟨_, rfl⟩
  rw [← hn, ← hm, ← hk, ← hh] at hf ⊢
  obtain ⟨W, hW⟩ : ∃ W, W = w.alloc (.cells #[.slice a1 n c1, .slice a2 m c2, .slice a3 k c3, .slice a4 h c4] 27) := ⟨_, rfl⟩
  have hB : Below w.heap.size w W := by rw [hW]; exact ball (Below.refl w.heap.size w) _
  have hr : W.heap[w.heap.size]? = some (.cells #[.slice a1 n c1, .slice a2 m c2, .slice a3 k c3, .slice a4 h c4] 27 (0, 0)) := by rw [hW]; exact bnew _ _
  have HB := Lib.hid (hW ▸ hB)
  clear hf hB hn hm hk hh g1 g2 g3 g4 hr hW W
  by_cases p0 : n > 32
  · rw [show fewB n m k h = true from by unfold fewB; rw [decide_eq_true (by omega)]; rfl]
    have d0 : decide ((n : Int) > 32) = true := decide_eq_true (by omega)
    go_enter Try.func11, Try.ntmps11
    go_wp2
    go_ret
    exact ⟨rfl, HB.out⟩
  by_cases p1 : m > 4096
  · rw [show fewB n m k h = true from by unfold fewB; rw [decide_eq_true (by omega)]; rfl]
    have d0 : decide ((n : Int) > 32) = false := decide_eq_false (by omega)
    have d1 : decide ((m : Int) > 4096) = true := decide_eq_true (by omega)
    go_enter Try.func11, Try.ntmps11
    go_wp2
    go_ret
    exact ⟨rfl, HB.out⟩
  by_cases p2 : k > 1024
  · rw [show fewB n m k h = true from by unfold fewB; rw [decide_eq_true (by omega)]; rfl]
    have d0 : decide ((n : Int) > 32) = false := decide_eq_false (by omega)
    have d1 : decide ((m : Int) > 4096) = false := decide_eq_false (by omega)
    have d2 : decide ((k : Int) > 1024) = true := decide_eq_true (by omega)
    go_enter Try.func11, Try.ntmps11
    go_wp2
    go_ret
    exact ⟨rfl, HB.out⟩
  by_cases p3 : h > 4096
  · rw [show fewB n m k h = true from by unfold fewB; rw [decide_eq_true (by omega)]; rfl]
    have d0 : decide ((n : Int) > 32) = false := decide_eq_false (by omega)
    have d1 : decide ((m : Int) > 4096) = false := decide_eq_false (by omega)
    have d2 : decide ((k : Int) > 1024) = false := decide_eq_false (by omega)
    have d3 : decide ((h : Int) > 4096) = true := decide_eq_true (by omega)
    go_enter Try.func11, Try.ntmps11
    go_wp2
    go_ret
    exact ⟨rfl, HB.out⟩
  by_cases q0 : m > 64
  · rw [show fewB n m k h = false from by unfold fewB; rw [decide_eq_false (by omega), decide_eq_false (by omega)]; rfl]
    have d0 : decide ((n : Int) > 32) = false := decide_eq_false (by omega)
    have d1 : decide ((m : Int) > 4096) = false := decide_eq_false (by omega)
    have d2 : decide ((k : Int) > 1024) = false := decide_eq_false (by omega)
    have d3 : decide ((h : Int) > 4096) = false := decide_eq_false (by omega)
    have f0 : decide ((m : Int) ≤ 64) = false := decide_eq_false (by omega)
    go_enter Try.func11, Try.ntmps11
    go_wp2
    go_ret
    exact ⟨rfl, HB.out⟩
  by_cases q1 : k > 200
  · rw [show fewB n m k h = false from by unfold fewB; rw [decide_eq_false (by omega), decide_eq_false (by omega)]; rfl]
    have d0 : decide ((n : Int) > 32) = false := decide_eq_false (by omega)
    have d1 : decide ((m : Int) > 4096) = false := decide_eq_false (by omega)
    have d2 : decide ((k : Int) > 1024) = false := decide_eq_false (by omega)
    have d3 : decide ((h : Int) > 4096) = false := decide_eq_false (by omega)
    have f0 : decide ((m : Int) ≤ 64) = true := decide_eq_true (by omega)
    have f1 : decide ((k : Int) ≤ 200) = false := decide_eq_false (by omega)
    go_enter Try.func11, Try.ntmps11
    go_wp2
    go_ret
    exact ⟨rfl, HB.out⟩
  by_cases q2 : h > 200
  · rw [show fewB n m k h = false from by unfold fewB; rw [decide_eq_false (by omega), decide_eq_false (by omega)]; rfl]
    have d0 : decide ((n : Int) > 32) = false := decide_eq_false (by omega)
    have d1 : decide ((m : Int) > 4096) = false := decide_eq_false (by omega)
    have d2 : decide ((k : Int) > 1024) = false := decide_eq_false (by omega)
    have d3 : decide ((h : Int) > 4096) = false := decide_eq_false (by omega)
    have f0 : decide ((m : Int) ≤ 64) = true := decide_eq_true (by omega)
    have f1 : decide ((k : Int) ≤ 200) = true := decide_eq_true (by omega)
    have f2 : decide ((h : Int) ≤ 200) = false := decide_eq_false (by omega)
    go_enter Try.func11, Try.ntmps11
    go_wp2
    go_ret
    exact ⟨rfl, HB.out⟩
  rw [show fewB n m k h = true from by unfold fewB; rw [decide_eq_true (p := m ≤ 64 ∧ k ≤ 200 ∧ h ≤ 200) (by omega), Bool.or_true]]
  have d0 : decide ((n : Int) > 32) = false := decide_eq_false (by omega)
  have d1 : decide ((m : Int) > 4096) = false := decide_eq_false (by omega)
  have d2 : decide ((k : Int) > 1024) = false := decide_eq_false (by omega)
  have d3 : decide ((h : Int) > 4096) = false := decide_eq_false (by omega)
  have f0 : decide ((m : Int) ≤ 64) = true := decide_eq_true (by omega)
  have f1 : decide ((k : Int) ≤ 200) = true := decide_eq_true (by omega)
  have f2 : decide ((h : Int) ≤ 200) = true := decide_eq_true (by omega)
  go_enter Try.func11, Try.ntmps11
  go_wp2
  go_ret
  exact ⟨rfl, HB.out⟩
/-- The minutes of a wash. -/
def cln (f t : Int) : List Wh → Int
  | [] => 0
  | x :: l => if x.fr = f ∧ x.tt = t then x.mi else cln f t l
theorem cln_cons (f t : Int) (x : Wh) (l : List Wh) : cln f t (x :: l) = if x.fr = f ∧ x.tt = t then x.mi else cln f t l := rfl
def CR (ts : List Ty) (ws : List Wn) (ss : List Sw) (hs : List Wh) (f t A E : Int) : Prop :=
  (chk ts ws ss hs ≠ 0 ∧ E = chk ts ws ss hs ∧ A = 0) ∨ (chk ts ws ss hs = 0 ∧ (rng 0 f 63 && rng 0 t 63) = false ∧ E = 1 ∧ A = 0) ∨
  (chk ts ws ss hs = 0 ∧ (rng 0 f 63 && rng 0 t 63) = true ∧ E = 0 ∧ A = cln f t hs)
set_option maxRecDepth 100000 in
set_option maxHeartbeats 8000000 in
theorem clean_any {V : Value} {ts : List Ty} {ws : List Wn} {ss : List Sw} {hs : List Wh} {w : World} (hf : Fl w V ts ws ss hs) (p q : Int) :
    Calls Try.prog 14 #[V, .int .i64 p, .int .i64 q] w fun e w' => ∃ A E, e = .returned (.tuple #[.int .i64 A, .int .i64 E]) ∧ Below w.heap.size w w' ∧ CR ts ws ss hs p q A E := by
  obtain ⟨a1, c1, a2, c2, a3, c3, a4, c4, rfl, g1, g2, g3, g4⟩ := hf.shape
  obtain ⟨n, hn⟩ : ∃ n, n = ts.length := ⟨_, rfl⟩
  obtain ⟨m, hm⟩ : ∃ m, m = ws.length := ⟨_, rfl⟩
  obtain ⟨k, hk⟩ : ∃ k, k = ss.length := ⟨_, rfl⟩
  obtain ⟨h, hh⟩ : ∃ h, h = hs.length := ⟨_, rfl⟩
  rw [← hn, ← hm, ← hk, ← hh] at hf ⊢
  obtain ⟨W, hW⟩ : ∃ W, W = w.alloc (.cells #[.slice a1 n c1, .slice a2 m c2, .slice a3 k c3, .slice a4 h c4] 27) := ⟨_, rfl⟩
  have hB : Below w.heap.size w W := by rw [hW]; exact ball (Below.refl w.heap.size w) _
  have hr : W.heap[w.heap.size]? = some (.cells #[.slice a1 n c1, .slice a2 m c2, .slice a3 k c3, .slice a4 h c4] 27 (0, 0)) := by rw [hW]; exact bnew _ _
  have hlh := g4.1
  rw [← hh] at hlh
  obtain ⟨E, hE⟩ : ∃ E, E = chk ts ws ss hs := ⟨_, rfl⟩
  have HC := Lib.hid (check_any (hf.on hB) E hE)
  rw [← hh] at g4
  have HHS := Lib.hid (g4.on hB); have HH := Lib.hid hh
  have HW := Lib.hid hW; have HB := Lib.hid hB; have HX := Lib.hid hr; have HE := Lib.hid hE
  obtain ⟨b0, b1, b2, b3⟩ := box4 hr
  clear hf hW hB hr hn hm hk hh g1 g2 g3 g4 hE
  by_cases hE0 : E = 0
  rotate_left
  · have d0 : (E != 0) = true := by simpa using hE0
    have HE0 := Lib.hid hE0
    clear hE0
    go_enter Try.func14, Try.ntmps14
    go_upto_region 1 with (fail)
    rw [← HW.out]
    clear HW
    go_wp2_with fail
    refine HC.out.mono ?_
    rintro e w1 ⟨rfl, hb⟩
    have HZ := Lib.hid (btrans HB.out hb)
    clear hb b0 b1 b2 b3
    go_wp2
    go_ret2
    exact ⟨0, E, rfl, HZ.out, Or.inl ⟨by rw [← HE.out]; exact HE0.out, HE.out, rfl⟩⟩
  subst hE0
  cases hp : rng 0 p 63 with
  | false =>
    have H0 := Lib.hid (class_any p)
    rw [hp] at H0
    have HP := Lib.hid hp
    clear hp
    go_enter Try.func14, Try.ntmps14
    go_upto_region 1 with (fail)
    rw [← HW.out]
    clear HW
    go_wp2_with fail
    refine HC.out.mono ?_
    rintro e w1 ⟨rfl, hb⟩
    have HZ := Lib.hid (btrans HB.out hb)
    clear hb b0 b1 b2 b3
    go_wp2_with fail
    refine (H0.out _).mono ?_
    rintro e w' ⟨rfl, rfl⟩
    go_wp2
    go_ret2
    exact ⟨0, 1, rfl, HZ.out, Or.inr (Or.inl ⟨HE.out.symm, by rw [HP.out]; rfl, rfl, rfl⟩)⟩
  | true =>
    have H0 := Lib.hid (class_any p)
    rw [hp] at H0
    cases hq : rng 0 q 63 with
    | false =>
      have H1 := Lib.hid (class_any q)
      rw [hq] at H1
      have HP := Lib.hid hp; have HQ := Lib.hid hq
      clear hp hq
      go_enter Try.func14, Try.ntmps14
      go_upto_region 1 with (fail)
      rw [← HW.out]
      clear HW
      go_wp2_with fail
      refine HC.out.mono ?_
      rintro e w1 ⟨rfl, hb⟩
      have HZ := Lib.hid (btrans HB.out hb)
      clear hb b0 b1 b2 b3
      go_wp2_with fail
      refine (H0.out _).mono ?_
      rintro e w' ⟨rfl, rfl⟩
      go_wp2_with fail
      refine (H1.out _).mono ?_
      rintro e w' ⟨rfl, rfl⟩
      go_wp2
      go_ret2
      exact ⟨0, 1, rfl, HZ.out, Or.inr (Or.inl ⟨HE.out.symm, by rw [HP.out, HQ.out]; rfl, rfl, rfl⟩)⟩
    | true =>
      have H1 := Lib.hid (class_any q)
      rw [hq] at H1
      have HPQ : Hid ((rng 0 p 63 && rng 0 q 63) = true) := Lib.hid (by rw [hp, hq]; rfl)
      clear hp hq
      go_enter Try.func14, Try.ntmps14
      go_upto_region 1 with (fail)
      rw [← HW.out]
      clear HW
      go_wp2_with fail
      refine HC.out.mono ?_
      rintro e w1 ⟨rfl, hb⟩
      have HB1 := Lib.hid (btrans HB.out hb)
      have HL := Lib.hid (HHS.out.on hb)
      clear b0 b1 b2 b3
      obtain ⟨b0, b1, b2, b3⟩ := box4 (bon HX.out hb)
      clear hb
      go_wp2_with fail
      refine (H0.out _).mono ?_
      rintro e w' ⟨rfl, rfl⟩
      go_wp2_with fail
      refine (H1.out _).mono ?_
      rintro e w' ⟨rfl, rfl⟩
      go_wp2
      clear b0 b1 b2 b3
      go_loopw [26] (fun s wr => ∃ k : Nat, k ≤ h ∧ s = .int .i64 (k : Int) ∧ Hid (cln p q (hs.drop k) = cln p q hs) ∧ Hid (Below w1.heap.size w1 wr)) (fun s _ => h - (intOf s).toNat)
      case atStart => exact ⟨0, by omega, rfl, Lib.hid rfl, Lib.hid (Below.refl _ _)⟩
      case round =>
        obtain ⟨k, hk, rfl, HK, HI⟩ := hrel
        by_cases hlt : k < h
        · have hlt2 : (k : Int) < (h : Int) := by omega
          obtain ⟨g, off, x, rfl, hg, hx, _, hra, _⟩ := HL.out.pick k (by rw [← HH.out]; exact hlt)
          have hrr : wr.rangeAt g (off + k * 3) [.int .i64 x.fr, .int .i64 x.tt, .int .i64 x.mi] := rangeAt_kept hra (HI.out.block g hg)
          obtain ⟨wx, hwx⟩ : ∃ wx, wx = wr.alloc (.cells #[.int .i64 x.fr, .int .i64 x.tt, .int .i64 x.mi] 87) := ⟨_, rfl⟩
          have hwb : wx.heap[wr.heap.size]? = some (.cells #[.int .i64 x.fr, .int .i64 x.tt, .int .i64 x.mi] 87 (0, 0)) := by rw [hwx]; exact bnew _ _
          have hbx : Below w1.heap.size w1 wx := btrans HI.out (by rw [hwx]; exact ball (Below.refl _ _) _)
          have e0 : wx.cell? ⟨wr.heap.size, 0, none⟩ = some (.int .i64 x.fr) := by rw [cell_of_row wx _ 0 _ 87 (0, 0) hwb]; rfl
          have e1 : wx.cell? ⟨wr.heap.size, 1, none⟩ = some (.int .i64 x.tt) := by rw [cell_of_row wx _ 1 _ 87 (0, 0) hwb]; rfl
          have e2 : wx.cell? ⟨wr.heap.size, 2, none⟩ = some (.int .i64 x.mi) := by rw [cell_of_row wx _ 2 _ 87 (0, 0) hwb]; rfl
          have hst := HK.out
          rw [List.drop_eq_getElem_cons (by have := HH.out; omega)] at hst
          have hxe : hs[k]'(by have := HH.out; omega) = x := (List.getElem?_eq_some_iff.1 hx).2
          rw [hxe] at hst
          rw [cln_cons] at hst
          obtain ⟨A, hA⟩ : ∃ A, A = x.fr := ⟨_, rfl⟩
          obtain ⟨B, hB⟩ : ∃ B, B = x.tt := ⟨_, rfl⟩
          obtain ⟨C, hC⟩ : ∃ C, C = x.mi := ⟨_, rfl⟩
          rw [← hA, ← hB, ← hC] at hst
          rw [← hA, ← hB, ← hC] at hwx hrr
          rw [← hA] at e0
          rw [← hB] at e1
          rw [← hC] at e2
          have HRR := Lib.hid hrr; have HWX := Lib.hid hwx; have HBX := Lib.hid hbx
          clear hg hx hra hrr hwx hwb hbx hxe hA hB hC HI
          by_cases hc1 : A = p
          · have d1 : (A == p) = true := by simpa using hc1
            by_cases hc2 : B = q
            · have d2 : (B == q) = true := by simpa using hc2
              rw [if_pos ⟨hc1, hc2⟩] at hst
              have HST := Lib.hid hst
              clear hst hc1 hc2
              go_upto_region 9 with (refine wpList_load_mid rfl 87 (.tmp 28) rfl g (off + k * 3) rfl [.int .i64 A, .int .i64 B, .int .i64 C] _ HRR.out Try.underlying87 rfl (by kernel_rfl) ?_)
              rw [← HWX.out]
              go_wp2
              go_ret2
              exact ⟨C, 0, rfl, btrans HB1.out HBX.out, Or.inr (Or.inr ⟨HE.out.symm, HPQ.out, rfl, HST.out⟩)⟩
            · have d2 : (B == q) = false := by simpa using hc2
              rw [if_neg (fun e => hc2 e.2)] at hst
              have HST : Hid (cln p q (hs.drop (k + 1)) = cln p q hs) := Lib.hid hst
              clear hst hc1 hc2
              go_upto_region 9 with (refine wpList_load_mid rfl 87 (.tmp 28) rfl g (off + k * 3) rfl [.int .i64 A, .int .i64 B, .int .i64 C] _ HRR.out Try.underlying87 rfl (by kernel_rfl) ?_)
              rw [← HWX.out]
              go_wp2
              go_roundw
              case rel => exact ⟨k + 1, by omega, by go_num, HST, HBX⟩
              case measure => simp [intOf]; omega
          · have d1 : (A == p) = false := by simpa using hc1
            rw [if_neg (fun e => hc1 e.1)] at hst
            have HST : Hid (cln p q (hs.drop (k + 1)) = cln p q hs) := Lib.hid hst
            clear hst hc1
            go_upto_region 9 with (refine wpList_load_mid rfl 87 (.tmp 28) rfl g (off + k * 3) rfl [.int .i64 A, .int .i64 B, .int .i64 C] _ HRR.out Try.underlying87 rfl (by kernel_rfl) ?_)
            rw [← HWX.out]
            go_wp2
            go_roundw
            case rel => exact ⟨k + 1, by omega, by go_num, HST, HBX⟩
            case measure => simp [intOf]; omega
        · obtain rfl : k = h := by omega
          have hlt3 : ¬ ((k : Int) < (k : Int)) := by omega
          have hz : cln p q hs = 0 := by rw [← HK.out, List.drop_eq_nil_of_le (by have := HH.out; omega)]; rfl
          have HZ := Lib.hid hz
          clear hz
          go_wp2
          go_ret2
          exact ⟨0, 0, rfl, btrans HB1.out HI.out, Or.inr (Or.inr ⟨HE.out.symm, HPQ.out, rfl, HZ.out.symm⟩)⟩
end Go.Proofs.Ytijdjbkmkopmnaa
