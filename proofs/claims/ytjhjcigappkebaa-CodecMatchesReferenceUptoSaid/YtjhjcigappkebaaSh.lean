/-
  Walk of the reference: Shape.
-/
import Derived.Test.YtjhjcigappkebaaNe
namespace Go.Proofs.Ytjhjcigappkebaa
set_option linter.unusedSimpArgs false
set_option linter.unusedVariables false
open Go.RowKit

theorem shape_def (t : T) : shape t = if t.kind = 1 then t.bs.isEmpty && t.els.isEmpty else if t.kind = 2 then t.num == 0 && t.els.isEmpty else if t.kind = 3 then shapeL t.els && (t.num == 0 && t.bs.isEmpty) else false := by
  cases t; rfl
theorem shapeL_pre {l : List T} (k : Nat) (u : T) (h : l[k]? = some u) (hp : shapeL (l.take k) = true) : shapeL (l.take (k + 1)) = shape u := by
  obtain ⟨hk, rfl⟩ := List.getElem?_eq_some_iff.1 h
  rw [shapeL_next l k hk, hp, Bool.true_and]
theorem shapeL_no {l : List T} (k : Nat) (u : T) (h : l[k]? = some u) (hp : shape u = false) : shapeL l = false := by
  obtain ⟨hk, rfl⟩ := List.getElem?_eq_some_iff.1 h
  exact shapeL_bad l k hk hp

set_option maxRecDepth 100000 in
set_option maxHeartbeats 4000000 in
theorem shape_any : ∀ (n : Nat) (t : T), dep t < n → ∀ (w : World) (a2 : Option Addr) (c2 : Nat) (a3 : Option Addr) (c3 : Nat), Rd (fun k => k < w.heap.size) w t (.agg #[.int .i64 t.kind, .int .i64 t.num, .slice a2 t.bs.length c2, .slice a3 t.els.length c3]) →
    Calls Try.prog 37 #[.agg #[.int .i64 t.kind, .int .i64 t.num, .slice a2 t.bs.length c2, .slice a3 t.els.length c3]] w fun e w' => e = .returned (.bool (shape t)) ∧ Below w.heap.size w w' := by
  intro n
  induction n with
  | zero => intro t h; omega
  | succ n ih =>
    intro t hd w a2 c2 a3 c3 hr
    have hA := heldBox hr
    have hsd := shape_def t
    have hrec : ∀ (k : Nat) (u : T), t.els[k]? = some u → ∀ (w' : World) (x2 : Option Addr) (y2 : Nat) (x3 : Option Addr) (y3 : Nat), Rd (fun k => k < w'.heap.size) w' u (.agg #[.int .i64 u.kind, .int .i64 u.num, .slice x2 u.bs.length y2, .slice x3 u.els.length y3]) →
        Calls Try.prog 37 #[.agg #[.int .i64 u.kind, .int .i64 u.num, .slice x2 u.bs.length y2, .slice x3 u.els.length y3]] w' fun e w'' => e = .returned (.bool (shape u)) ∧ Below w'.heap.size w' w'' := by
      intro k u hu w' x2 y2 x3 y3 h
      refine ih u ?_ w' x2 y2 x3 y3 h
      have := dep_mem (List.mem_of_getElem? hu)
      have e : dep t = depL t.els + 1 := by cases t; rfl
      omega
    have HREC := Lib.hid hrec; have HA := Lib.hid hA; have HSD := Lib.hid hsd
    have hbl : ∀ {a : List Int}, (a.isEmpty = true ↔ a.length = 0) := by intro a; cases a <;> simp
    have hel : ∀ {a : List T}, (a.isEmpty = true ↔ a.length = 0) := by intro a; cases a <;> simp
    obtain ⟨S, hS⟩ : ∃ S, S = shape t := ⟨_, rfl⟩
    rw [← hS]
    have HS := Lib.hid hS
    clear ih hd hr hA hrec hsd hS
    have hsd2 := HSD.out
    clear HSD
    by_cases hk1 : t.kind = 1
    · skip
      have p1 : (t.kind != 1) = false := by rw [hk1]; rfl
      have q1 : (t.kind == 1) = true := by rw [hk1]; rfl
      have p2 : (t.kind != 2) = true := by rw [hk1]; rfl
      have q2 : (t.kind == 2) = false := by rw [hk1]; rfl
      have p3 : (t.kind != 3) = true := by rw [hk1]; rfl
      have q3 : (t.kind == 3) = false := by rw [hk1]; rfl
      rw [if_pos hk1] at hsd2
      by_cases zb : t.bs.length = 0
      · have rb : decide ((t.bs.length : Int) > 0) = false := by rw [zb]; rfl
        have yb : ¬ (0 < t.bs.length) := by omega
        by_cases ze : t.els.length = 0
        · have re : decide ((t.els.length : Int) > 0) = false := by rw [ze]; rfl
          have ye : ¬ (0 < t.els.length) := by omega
          have ze' : t.els = [] := List.eq_nil_of_length_eq_zero ze
          have hT : shapeL t.els = true → S = true := by
            intro hh; rw [HS.out, hsd2]; simp [hbl, hel, hh, zb, ze]
          have hF : shapeL t.els = false → S = false := by
            intro hh; rw [HS.out, hsd2]; exfalso; rw [ze'] at hh; cases hh
          have HT := Lib.hid hT; have HF := Lib.hid hF
          clear hT hF hsd2 hk1 hbl hel ze' zb ze
          go_enter Try.func37, Try.ntmps37
          obtain ⟨b0, b1, b2, b3⟩ := HA.out.2.1
          go_wp2_with fail
          clear b0 b1 b2 b3
          have HB := Lib.hid (ball (Below.refl _ _) (Obj.cells #[.int .i64 t.kind, .int .i64 t.num, .slice a2 t.bs.length c2, .slice a3 t.els.length c3] 25) : Below w.heap.size w _)
          generalize (w.alloc (Obj.cells #[.int .i64 t.kind, .int .i64 t.num, .slice a2 t.bs.length c2, .slice a3 t.els.length c3] 25)) = W at *
          go_loopw [3] (fun x wr => ∃ k : Nat, k ≤ t.els.length ∧ x = .int .i64 k ∧ Hid (shapeL (t.els.take k) = true) ∧ Hid (Held wr w.heap.size t a2 c2 a3 c3) ∧ Hid (Below w.heap.size w wr)) (fun x _ => t.els.length - (intOf x).toNat)
          case atStart => exact ⟨0, by omega, rfl, Lib.hid (by rw [List.take_zero]; rfl), HA, HB⟩
          case round =>
            clear HA HB
            obtain ⟨k, hk, rfl, HM, HA, HB⟩ := hrel
            obtain ⟨b0, b1, b2, b3⟩ := HA.out.2.1
            have hform := HA.out.2.2.form
            obtain ⟨z2, zc2, z3, zc3, hfe, _, _, _, hl1, hl2, hl3⟩ := hform
            simp only [Value.agg.injEq] at hfe
            have hfe' := congrArg Array.toList hfe
            simp only [List.cons.injEq, and_true, Value.slice.injEq, true_and] at hfe'
            obtain ⟨⟨rfl, rfl⟩, rfl, rfl⟩ := hfe'
            clear hfe
            by_cases hlt : k < t.els.length
            · have hlt2 : (k : Int) < (t.els.length : Int) := by omega
              exfalso; clear hlt2; omega
            · have hk2 : k = t.els.length := by omega
              subst hk2
              have hlt2 : ¬ ((t.els.length : Int) < (t.els.length : Int)) := by omega
              have hm := HM.out
              rw [List.take_length] at hm
              have e1 := HT.out hm
              subst e1
              clear hlt
              go_wp2_with fail
              go_ret
              exact ⟨rfl, HB.out⟩
        · have re : 0 < t.els.length := by omega
          have r2 : t.els.isEmpty = false := by rw [Bool.eq_false_iff]; intro hh; exact ze (hel.1 hh)
          have e0 : S = false := by rw [HS.out, hsd2]; simp [r2]
          clear hsd2 ze r2 hk1 hbl hel HS zb
          subst e0
          go_enter Try.func37, Try.ntmps37
          obtain ⟨b0, b1, b2, b3⟩ := HA.out.2.1
          have HB := Lib.hid (ball (Below.refl _ _) (Obj.cells #[.int .i64 t.kind, .int .i64 t.num, .slice a2 t.bs.length c2, .slice a3 t.els.length c3] 25) : Below w.heap.size w _)
          go_wp2_with fail
          go_ret
          exact ⟨rfl, HB.out⟩
      · have rb : 0 < t.bs.length := by omega
        have r2 : t.bs.isEmpty = false := by rw [Bool.eq_false_iff]; intro hh; exact zb (hbl.1 hh)
        have e0 : S = false := by rw [HS.out, hsd2]; simp [r2]
        clear hsd2 zb r2 hk1 hbl hel HS
        subst e0
        go_enter Try.func37, Try.ntmps37
        obtain ⟨b0, b1, b2, b3⟩ := HA.out.2.1
        have HB := Lib.hid (ball (Below.refl _ _) (Obj.cells #[.int .i64 t.kind, .int .i64 t.num, .slice a2 t.bs.length c2, .slice a3 t.els.length c3] 25) : Below w.heap.size w _)
        go_wp2_with fail
        go_ret
        exact ⟨rfl, HB.out⟩
    · by_cases hk2 : t.kind = 2
      · skip
        have p1 : (t.kind != 1) = true := by rw [hk2]; rfl
        have q1 : (t.kind == 1) = false := by rw [hk2]; rfl
        have p2 : (t.kind != 2) = false := by rw [hk2]; rfl
        have q2 : (t.kind == 2) = true := by rw [hk2]; rfl
        have p3 : (t.kind != 3) = true := by rw [hk2]; rfl
        have q3 : (t.kind == 3) = false := by rw [hk2]; rfl
        rw [if_neg hk1, if_pos hk2] at hsd2
        by_cases zn : t.num = 0
        · have rn : (t.num != 0) = false := by rw [zn]; rfl
          by_cases ze : t.els.length = 0
          · have re : decide ((t.els.length : Int) > 0) = false := by rw [ze]; rfl
            have ye : ¬ (0 < t.els.length) := by omega
            have ze' : t.els = [] := List.eq_nil_of_length_eq_zero ze
            have hT : shapeL t.els = true → S = true := by
              intro hh; rw [HS.out, hsd2]; simp [hbl, hel, hh, zn, ze]
            have hF : shapeL t.els = false → S = false := by
              intro hh; rw [HS.out, hsd2]; exfalso; rw [ze'] at hh; cases hh
            have HT := Lib.hid hT; have HF := Lib.hid hF
            clear hT hF hsd2 hk1 hk2 hbl hel ze' zn ze
            go_enter Try.func37, Try.ntmps37
            obtain ⟨b0, b1, b2, b3⟩ := HA.out.2.1
            go_wp2_with fail
            clear b0 b1 b2 b3
            have HB := Lib.hid (ball (Below.refl _ _) (Obj.cells #[.int .i64 t.kind, .int .i64 t.num, .slice a2 t.bs.length c2, .slice a3 t.els.length c3] 25) : Below w.heap.size w _)
            generalize (w.alloc (Obj.cells #[.int .i64 t.kind, .int .i64 t.num, .slice a2 t.bs.length c2, .slice a3 t.els.length c3] 25)) = W at *
            go_loopw [3] (fun x wr => ∃ k : Nat, k ≤ t.els.length ∧ x = .int .i64 k ∧ Hid (shapeL (t.els.take k) = true) ∧ Hid (Held wr w.heap.size t a2 c2 a3 c3) ∧ Hid (Below w.heap.size w wr)) (fun x _ => t.els.length - (intOf x).toNat)
            case atStart => exact ⟨0, by omega, rfl, Lib.hid (by rw [List.take_zero]; rfl), HA, HB⟩
            case round =>
              clear HA HB
              obtain ⟨k, hk, rfl, HM, HA, HB⟩ := hrel
              obtain ⟨b0, b1, b2, b3⟩ := HA.out.2.1
              have hform := HA.out.2.2.form
              obtain ⟨z2, zc2, z3, zc3, hfe, _, _, _, hl1, hl2, hl3⟩ := hform
              simp only [Value.agg.injEq] at hfe
              have hfe' := congrArg Array.toList hfe
              simp only [List.cons.injEq, and_true, Value.slice.injEq, true_and] at hfe'
              obtain ⟨⟨rfl, rfl⟩, rfl, rfl⟩ := hfe'
              clear hfe
              by_cases hlt : k < t.els.length
              · have hlt2 : (k : Int) < (t.els.length : Int) := by omega
                exfalso; clear hlt2; omega
              · have hk2 : k = t.els.length := by omega
                subst hk2
                have hlt2 : ¬ ((t.els.length : Int) < (t.els.length : Int)) := by omega
                have hm := HM.out
                rw [List.take_length] at hm
                have e1 := HT.out hm
                subst e1
                clear hlt
                go_wp2_with fail
                go_ret
                exact ⟨rfl, HB.out⟩
          · have re : 0 < t.els.length := by omega
            have r2 : t.els.isEmpty = false := by rw [Bool.eq_false_iff]; intro hh; exact ze (hel.1 hh)
            have e0 : S = false := by rw [HS.out, hsd2]; simp [r2]
            clear hsd2 ze r2 hk1 hk2 hbl hel HS zn
            subst e0
            go_enter Try.func37, Try.ntmps37
            obtain ⟨b0, b1, b2, b3⟩ := HA.out.2.1
            have HB := Lib.hid (ball (Below.refl _ _) (Obj.cells #[.int .i64 t.kind, .int .i64 t.num, .slice a2 t.bs.length c2, .slice a3 t.els.length c3] 25) : Below w.heap.size w _)
            go_wp2_with fail
            go_ret
            exact ⟨rfl, HB.out⟩
        · have rn : (t.num != 0) = true := by simpa using zn
          have rn2 : (t.num == 0) = false := by simpa using zn
          have e0 : S = false := by rw [HS.out, hsd2]; simp [rn2]
          clear hsd2 zn rn2 hk1 hk2 hbl hel HS
          subst e0
          go_enter Try.func37, Try.ntmps37
          obtain ⟨b0, b1, b2, b3⟩ := HA.out.2.1
          have HB := Lib.hid (ball (Below.refl _ _) (Obj.cells #[.int .i64 t.kind, .int .i64 t.num, .slice a2 t.bs.length c2, .slice a3 t.els.length c3] 25) : Below w.heap.size w _)
          go_wp2_with fail
          go_ret
          exact ⟨rfl, HB.out⟩
      · by_cases hk3 : t.kind = 3
        · skip
          have p1 : (t.kind != 1) = true := by rw [hk3]; rfl
          have q1 : (t.kind == 1) = false := by rw [hk3]; rfl
          have p2 : (t.kind != 2) = true := by rw [hk3]; rfl
          have q2 : (t.kind == 2) = false := by rw [hk3]; rfl
          have p3 : (t.kind != 3) = false := by rw [hk3]; rfl
          have q3 : (t.kind == 3) = true := by rw [hk3]; rfl
          rw [if_neg hk1, if_neg hk2, if_pos hk3] at hsd2
          by_cases zn : t.num = 0
          · have rn : (t.num != 0) = false := by rw [zn]; rfl
            by_cases zb : t.bs.length = 0
            · have rb : decide ((t.bs.length : Int) > 0) = false := by rw [zb]; rfl
              have yb : ¬ (0 < t.bs.length) := by omega
              have hT : shapeL t.els = true → S = true := by
                intro hh; rw [HS.out, hsd2]; simp [hbl, hel, hh, zn, zb]
              have hF : shapeL t.els = false → S = false := by
                intro hh; rw [HS.out, hsd2]; simp [hh]
              have HT := Lib.hid hT; have HF := Lib.hid hF
              clear hT hF hsd2 hk1 hk2 hk3 hbl hel zn zb
              go_enter Try.func37, Try.ntmps37
              obtain ⟨b0, b1, b2, b3⟩ := HA.out.2.1
              go_wp2_with fail
              clear b0 b1 b2 b3
              have HB := Lib.hid (ball (Below.refl _ _) (Obj.cells #[.int .i64 t.kind, .int .i64 t.num, .slice a2 t.bs.length c2, .slice a3 t.els.length c3] 25) : Below w.heap.size w _)
              generalize (w.alloc (Obj.cells #[.int .i64 t.kind, .int .i64 t.num, .slice a2 t.bs.length c2, .slice a3 t.els.length c3] 25)) = W at *
              go_loopw [3] (fun x wr => ∃ k : Nat, k ≤ t.els.length ∧ x = .int .i64 k ∧ Hid (shapeL (t.els.take k) = true) ∧ Hid (Held wr w.heap.size t a2 c2 a3 c3) ∧ Hid (Below w.heap.size w wr)) (fun x _ => t.els.length - (intOf x).toNat)
              case atStart => exact ⟨0, by omega, rfl, Lib.hid (by rw [List.take_zero]; rfl), HA, HB⟩
              case round =>
                clear HA HB
                obtain ⟨k, hk, rfl, HM, HA, HB⟩ := hrel
                obtain ⟨b0, b1, b2, b3⟩ := HA.out.2.1
                have hform := HA.out.2.2.form
                obtain ⟨z2, zc2, z3, zc3, hfe, _, _, _, hl1, hl2, hl3⟩ := hform
                simp only [Value.agg.injEq] at hfe
                have hfe' := congrArg Array.toList hfe
                simp only [List.cons.injEq, and_true, Value.slice.injEq, true_and] at hfe'
                obtain ⟨⟨rfl, rfl⟩, rfl, rfl⟩ := hfe'
                clear hfe
                by_cases hlt : k < t.els.length
                · have hlt2 : (k : Int) < (t.els.length : Int) := by omega
                  obtain ⟨g, off, rfl, hg, hl⟩ := hl3 (by omega)
                  obtain ⟨u, hu⟩ : ∃ u, t.els[k]? = some u := ⟨_, List.getElem?_eq_getElem hlt⟩
                  obtain ⟨x2, y2, x3, y3, d0, d1, d2, d3, hru⟩ := hl.cells k u hu
                  have hc := HREC.out k u hu wr x2 y2 x3 y3 hru
                  have hnx := shapeL_pre k u hu HM.out
                  have hno := shapeL_no k u hu
                  obtain ⟨Q, hQ⟩ : ∃ Q, Q = shape u := ⟨_, rfl⟩
                  rw [← hQ] at hc hnx hno
                  have HC := Lib.hid hc; have HNX := Lib.hid hnx; have HNO := Lib.hid hno
                  clear hc hnx hno hQ hu hru hl hl3
                  go_wp2_with fail
                  refine HC.out.mono ?_
                  rintro e w5 ⟨rfl, hb5⟩
                  have HA5 := Lib.hid (HA.out.below hb5)
                  have HB5 := Lib.hid (nextB HB.out hb5)
                  clear hb5 HA HB HC b0 b1 b2 b3 d0 d1 d2 d3
                  cases Q with
                  | true =>
                    go_wp2_with fail
                    go_roundw
                    case rel => exact ⟨k + 1, by omega, by go_num, HNX, HA5, HB5⟩
                    case measure => simp [intOf]; omega
                  | false =>
                    go_wp2_with fail
                    go_ret
                    exact ⟨by rw [HF.out (HNO.out (by first | trivial | rfl))]; rfl, HB5.out⟩
                · have hk2 : k = t.els.length := by omega
                  subst hk2
                  have hlt2 : ¬ ((t.els.length : Int) < (t.els.length : Int)) := by omega
                  have hm := HM.out
                  rw [List.take_length] at hm
                  have e1 := HT.out hm
                  subst e1
                  clear hlt
                  go_wp2_with fail
                  go_ret
                  exact ⟨rfl, HB.out⟩
            · have rb : 0 < t.bs.length := by omega
              have r2 : t.bs.isEmpty = false := by rw [Bool.eq_false_iff]; intro hh; exact zb (hbl.1 hh)
              have e0 : S = false := by rw [HS.out, hsd2]; simp [r2]
              clear hsd2 zb r2 hk1 hk2 hk3 hbl hel HS zn
              subst e0
              go_enter Try.func37, Try.ntmps37
              obtain ⟨b0, b1, b2, b3⟩ := HA.out.2.1
              have HB := Lib.hid (ball (Below.refl _ _) (Obj.cells #[.int .i64 t.kind, .int .i64 t.num, .slice a2 t.bs.length c2, .slice a3 t.els.length c3] 25) : Below w.heap.size w _)
              go_wp2_with fail
              go_ret
              exact ⟨rfl, HB.out⟩
          · have rn : (t.num != 0) = true := by simpa using zn
            have rn2 : (t.num == 0) = false := by simpa using zn
            have e0 : S = false := by rw [HS.out, hsd2]; simp [rn2]
            clear hsd2 zn rn2 hk1 hk2 hk3 hbl hel HS
            subst e0
            go_enter Try.func37, Try.ntmps37
            obtain ⟨b0, b1, b2, b3⟩ := HA.out.2.1
            have HB := Lib.hid (ball (Below.refl _ _) (Obj.cells #[.int .i64 t.kind, .int .i64 t.num, .slice a2 t.bs.length c2, .slice a3 t.els.length c3] 25) : Below w.heap.size w _)
            go_wp2_with fail
            go_ret
            exact ⟨rfl, HB.out⟩
        · skip
          have p1 : (t.kind != 1) = true := by simpa using hk1
          have q1 : (t.kind == 1) = false := by simpa using hk1
          have p2 : (t.kind != 2) = true := by simpa using hk2
          have q2 : (t.kind == 2) = false := by simpa using hk2
          have p3 : (t.kind != 3) = true := by simpa using hk3
          have q3 : (t.kind == 3) = false := by simpa using hk3
          rw [if_neg hk1, if_neg hk2, if_neg hk3] at hsd2
          by_cases zn : t.num = 0
          · have rn : (t.num != 0) = false := by rw [zn]; rfl
            by_cases zb : t.bs.length = 0
            · have rb : decide ((t.bs.length : Int) > 0) = false := by rw [zb]; rfl
              have yb : ¬ (0 < t.bs.length) := by omega
              by_cases ze : t.els.length = 0
              · have re : decide ((t.els.length : Int) > 0) = false := by rw [ze]; rfl
                have ye : ¬ (0 < t.els.length) := by omega
                have ze' : t.els = [] := List.eq_nil_of_length_eq_zero ze
                have hT : shapeL t.els = true → S = false := by
                  intro hh; rw [HS.out, hsd2]
                have hF : shapeL t.els = false → S = false := by
                  intro hh; rw [HS.out, hsd2]
                have HT := Lib.hid hT; have HF := Lib.hid hF
                clear hT hF hsd2 hk1 hk2 hk3 hbl hel ze' zn zb ze
                go_enter Try.func37, Try.ntmps37
                obtain ⟨b0, b1, b2, b3⟩ := HA.out.2.1
                go_wp2_with fail
                clear b0 b1 b2 b3
                have HB := Lib.hid (ball (Below.refl _ _) (Obj.cells #[.int .i64 t.kind, .int .i64 t.num, .slice a2 t.bs.length c2, .slice a3 t.els.length c3] 25) : Below w.heap.size w _)
                generalize (w.alloc (Obj.cells #[.int .i64 t.kind, .int .i64 t.num, .slice a2 t.bs.length c2, .slice a3 t.els.length c3] 25)) = W at *
                go_loopw [3] (fun x wr => ∃ k : Nat, k ≤ t.els.length ∧ x = .int .i64 k ∧ Hid (shapeL (t.els.take k) = true) ∧ Hid (Held wr w.heap.size t a2 c2 a3 c3) ∧ Hid (Below w.heap.size w wr)) (fun x _ => t.els.length - (intOf x).toNat)
                case atStart => exact ⟨0, by omega, rfl, Lib.hid (by rw [List.take_zero]; rfl), HA, HB⟩
                case round =>
                  clear HA HB
                  obtain ⟨k, hk, rfl, HM, HA, HB⟩ := hrel
                  obtain ⟨b0, b1, b2, b3⟩ := HA.out.2.1
                  have hform := HA.out.2.2.form
                  obtain ⟨z2, zc2, z3, zc3, hfe, _, _, _, hl1, hl2, hl3⟩ := hform
                  simp only [Value.agg.injEq] at hfe
                  have hfe' := congrArg Array.toList hfe
                  simp only [List.cons.injEq, and_true, Value.slice.injEq, true_and] at hfe'
                  obtain ⟨⟨rfl, rfl⟩, rfl, rfl⟩ := hfe'
                  clear hfe
                  by_cases hlt : k < t.els.length
                  · have hlt2 : (k : Int) < (t.els.length : Int) := by omega
                    exfalso; clear hlt2; omega
                  · have hk2 : k = t.els.length := by omega
                    subst hk2
                    have hlt2 : ¬ ((t.els.length : Int) < (t.els.length : Int)) := by omega
                    have hm := HM.out
                    rw [List.take_length] at hm
                    have e1 := HT.out hm
                    subst e1
                    clear hlt
                    go_wp2_with fail
                    go_ret
                    exact ⟨rfl, HB.out⟩
              · have re : 0 < t.els.length := by omega
                have r2 : t.els.isEmpty = false := by rw [Bool.eq_false_iff]; intro hh; exact ze (hel.1 hh)
                have e0 : S = false := by rw [HS.out, hsd2]
                clear hsd2 ze r2 hk1 hk2 hk3 hbl hel HS zn zb
                subst e0
                go_enter Try.func37, Try.ntmps37
                obtain ⟨b0, b1, b2, b3⟩ := HA.out.2.1
                have HB := Lib.hid (ball (Below.refl _ _) (Obj.cells #[.int .i64 t.kind, .int .i64 t.num, .slice a2 t.bs.length c2, .slice a3 t.els.length c3] 25) : Below w.heap.size w _)
                go_wp2_with fail
                go_ret
                exact ⟨rfl, HB.out⟩
            · have rb : 0 < t.bs.length := by omega
              have r2 : t.bs.isEmpty = false := by rw [Bool.eq_false_iff]; intro hh; exact zb (hbl.1 hh)
              have e0 : S = false := by rw [HS.out, hsd2]
              clear hsd2 zb r2 hk1 hk2 hk3 hbl hel HS zn
              subst e0
              go_enter Try.func37, Try.ntmps37
              obtain ⟨b0, b1, b2, b3⟩ := HA.out.2.1
              have HB := Lib.hid (ball (Below.refl _ _) (Obj.cells #[.int .i64 t.kind, .int .i64 t.num, .slice a2 t.bs.length c2, .slice a3 t.els.length c3] 25) : Below w.heap.size w _)
              go_wp2_with fail
              go_ret
              exact ⟨rfl, HB.out⟩
          · have rn : (t.num != 0) = true := by simpa using zn
            have rn2 : (t.num == 0) = false := by simpa using zn
            have e0 : S = false := by rw [HS.out, hsd2]
            clear hsd2 zn rn2 hk1 hk2 hk3 hbl hel HS
            subst e0
            go_enter Try.func37, Try.ntmps37
            obtain ⟨b0, b1, b2, b3⟩ := HA.out.2.1
            have HB := Lib.hid (ball (Below.refl _ _) (Obj.cells #[.int .i64 t.kind, .int .i64 t.num, .slice a2 t.bs.length c2, .slice a3 t.els.length c3] 25) : Below w.heap.size w _)
            go_wp2_with fail
            go_ret
            exact ⟨rfl, HB.out⟩
end Go.Proofs.Ytjhjcigappkebaa
