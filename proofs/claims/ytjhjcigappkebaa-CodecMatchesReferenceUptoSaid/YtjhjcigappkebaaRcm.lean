/-
  Walk of the reference: Compare.
-/
import Derived.Test.YtjhjcigappkebaaCc
import Derived.Test.YtjhjcigappkebaaUb
namespace Go.Proofs.Ytjhjcigappkebaa
set_option linter.unusedSimpArgs false
set_option linter.unusedVariables false
open Go.RowKit

theorem cmpT_def (t u : T) : cmpT t u = if t.kind ≠ u.kind then ordI t.kind u.kind else if t.kind = 1 then ordI t.num u.num else if t.kind = 2 then cmpB t.bs u.bs else if t.kind = 3 then cmpL t.els u.els else 0 := by
  cases t; cases u; rfl
theorem cmpL_end (l m : List T) (k : Nat) (h : l.length ≤ k ∨ m.length ≤ k) (hk : k ≤ l.length) (hk' : k ≤ m.length) : cmpL (l.drop k) (m.drop k) = ordI l.length m.length := by
  unfold ordI
  rcases Nat.lt_or_ge k l.length with ha | ha
  · have hb : m.length ≤ k := by omega
    rw [List.drop_eq_getElem_cons ha, List.drop_eq_nil_of_le hb]
    simp only [cmpL]
    rw [if_neg (by omega), if_pos (by omega)]
  · rw [List.drop_eq_nil_of_le ha]
    rcases Nat.lt_or_ge k m.length with hb | hb
    · rw [List.drop_eq_getElem_cons hb]
      simp only [cmpL]
      rw [if_pos (by omega)]
    · rw [List.drop_eq_nil_of_le hb]
      simp only [cmpL]
      rw [if_neg (by omega), if_neg (by omega)]

theorem Held.bs {w : World} {g : Nat} {t : T} {a2 : Option Addr} {c2 : Nat} {a3 : Option Addr} {c3 : Nat} (h : Held w g t a2 c2 a3 c3) : Bs (fun k => k < w.heap.size) w (.slice a2 t.bs.length c2) t.bs := by
  obtain ⟨z2, zc2, z3, zc3, hfe, hb, _, _, _, _, _⟩ := h.2.2.form
  simp only [Value.agg.injEq] at hfe
  have hfe' := congrArg Array.toList hfe
  simp only [List.cons.injEq, and_true, Value.slice.injEq, true_and] at hfe'
  obtain ⟨⟨rfl, rfl⟩, rfl, rfl⟩ := hfe'
  exact hb

set_option maxRecDepth 100000 in
set_option maxHeartbeats 4000000 in
theorem rcompare_any : ∀ (n : Nat) (t : T), dep t < n → ∀ (u : T) (w : World) (a2 : Option Addr) (c2 : Nat) (a3 : Option Addr) (c3 : Nat) (b2 : Option Addr) (d2 : Nat) (b3 : Option Addr) (d3 : Nat), Rd (fun k => k < w.heap.size) w t (.agg #[.int .i64 t.kind, .int .i64 t.num, .slice a2 t.bs.length c2, .slice a3 t.els.length c3]) → Rd (fun k => k < w.heap.size) w u (.agg #[.int .i64 u.kind, .int .i64 u.num, .slice b2 u.bs.length d2, .slice b3 u.els.length d3]) →
    Calls Try.prog 20 #[.agg #[.int .i64 t.kind, .int .i64 t.num, .slice a2 t.bs.length c2, .slice a3 t.els.length c3], .agg #[.int .i64 u.kind, .int .i64 u.num, .slice b2 u.bs.length d2, .slice b3 u.els.length d3]] w fun e w' => e = .returned (.int .i64 (cmpT t u)) ∧ Below w.heap.size w w' := by
  intro n
  induction n with
  | zero => intro t h; omega
  | succ n ih =>
    intro t hd u w a2 c2 a3 c3 b2 d2 b3 d3 hr hs
    have hA := (heldBox hr).below (ball (Below.refl _ _) (Obj.cells #[.int .i64 u.kind, .int .i64 u.num, .slice b2 u.bs.length d2, .slice b3 u.els.length d3] 25))
    have hB := heldBox (Rd.kept (fun k hk => Below.heap_alloc _ _ _ hk) (fun k hk => by simp; omega) _ _ hs : Rd (fun k => k < (w.alloc (Obj.cells #[.int .i64 t.kind, .int .i64 t.num, .slice a2 t.bs.length c2, .slice a3 t.els.length c3] 25)).heap.size) (w.alloc (Obj.cells #[.int .i64 t.kind, .int .i64 t.num, .slice a2 t.bs.length c2, .slice a3 t.els.length c3] 25)) u (.agg #[.int .i64 u.kind, .int .i64 u.num, .slice b2 u.bs.length d2, .slice b3 u.els.length d3]))
    have hrec : ∀ (k : Nat) (x y : T), t.els[k]? = some x → ∀ (w' : World) (a2 : Option Addr) (c2 : Nat) (a3 : Option Addr) (c3 : Nat) (b2 : Option Addr) (d2 : Nat) (b3 : Option Addr) (d3 : Nat), Rd (fun k => k < w'.heap.size) w' x (.agg #[.int .i64 x.kind, .int .i64 x.num, .slice a2 x.bs.length c2, .slice a3 x.els.length c3]) → Rd (fun k => k < w'.heap.size) w' y (.agg #[.int .i64 y.kind, .int .i64 y.num, .slice b2 y.bs.length d2, .slice b3 y.els.length d3]) →
        Calls Try.prog 20 #[.agg #[.int .i64 x.kind, .int .i64 x.num, .slice a2 x.bs.length c2, .slice a3 x.els.length c3], .agg #[.int .i64 y.kind, .int .i64 y.num, .slice b2 y.bs.length d2, .slice b3 y.els.length d3]] w' fun e w'' => e = .returned (.int .i64 (cmpT x y)) ∧ Below w'.heap.size w' w'' := by
      intro k x y hx w' a2 c2 a3 c3 b2 d2 b3 d3 h1 h2
      refine ih x ?_ y w' a2 c2 a3 c3 b2 d2 b3 d3 h1 h2
      have := dep_mem (List.mem_of_getElem? hx)
      have e : dep t = depL t.els + 1 := by cases t; rfl
      omega
    have hby := orderBytes_any (fun k => k < w.heap.size) (fun k => k < w.heap.size) t.bs u.bs
    have HREC := Lib.hid hrec; have HA := Lib.hid hA; have HB := Lib.hid hB
    have HW := Lib.hid (ball (ball (Below.refl _ _) (Obj.cells #[.int .i64 t.kind, .int .i64 t.num, .slice a2 t.bs.length c2, .slice a3 t.els.length c3] 25)) (Obj.cells #[.int .i64 u.kind, .int .i64 u.num, .slice b2 u.bs.length d2, .slice b3 u.els.length d3] 25) : Below w.heap.size w _)
    have hdef := cmpT_def t u
    obtain ⟨S, hS⟩ : ∃ S, S = cmpT t u := ⟨_, rfl⟩
    rw [← hS] at hdef ⊢
    have HD := Lib.hid hdef
    clear ih hd hr hs hA hB hrec hby hdef hS
    by_cases hk : t.kind = u.kind
    · have tk : (t.kind != u.kind) = false := by rw [hk]; simp
      by_cases h1 : t.kind = 1
      · have t1 : (t.kind == 1) = true := by rw [h1]; rfl
        have e0 : S = ordI t.num u.num := by rw [HD.out, if_neg (by rw [hk]; simp), if_pos h1]
        have E0 := Lib.hid e0
        clear hk h1 e0 HREC HD
        go_enter Try.func20, Try.ntmps20
        simp only [World.size_alloc] at HA HB
        obtain ⟨a0, a1, a2', a3'⟩ := HA.out.2.1
        obtain ⟨b0, b1, b2', b3'⟩ := HB.out.2.1
        go_wp2_with fail
        refine (order_any _ _ _).mono ?_
        rintro e w' ⟨rfl, rfl⟩
        go_wp2_with fail
        go_ret
        exact ⟨ret_int (E0.out.symm), HW.out⟩
      · have t1 : (t.kind == 1) = false := by simpa using h1
        by_cases h2 : t.kind = 2
        · have t2 : (t.kind == 2) = true := by rw [h2]; rfl
          have e0 : S = cmpB t.bs u.bs := by rw [HD.out, if_neg (by rw [hk]; simp), if_neg h1, if_pos h2]
          have E0 := Lib.hid e0
          clear hk h1 h2 e0 HREC HD
          go_enter Try.func20, Try.ntmps20
          simp only [World.size_alloc] at HA HB
          obtain ⟨a0, a1, a2', a3'⟩ := HA.out.2.1
          obtain ⟨b0, b1, b2', b3'⟩ := HB.out.2.1
          go_wp2_with fail
          refine (orderBytes_any _ _ t.bs u.bs _ _ _ (fun _ h => h) (fun _ h => h) HA.out.bs HB.out.bs).mono ?_
          rintro e w' ⟨rfl, hb⟩
          have HW2 := Lib.hid (nextB HW.out hb)
          clear hb a0 a1 a2' a3' b0 b1 b2' b3'
          go_wp2_with fail
          go_ret
          exact ⟨ret_int E0.out.symm, HW2.out⟩
        · have t2 : (t.kind == 2) = false := by simpa using h2
          by_cases h3 : t.kind = 3
          · have t3 : (t.kind == 3) = true := by rw [h3]; rfl
            have e0 : S = cmpL t.els u.els := by rw [HD.out, if_neg (by rw [hk]; simp), if_neg h1, if_neg h2, if_pos h3]
            have E0 := Lib.hid e0
            clear hk h1 h2 h3 e0 HD
            go_enter Try.func20, Try.ntmps20
            simp only [World.size_alloc] at HA HB
            obtain ⟨a0, a1, a2', a3'⟩ := HA.out.2.1
            obtain ⟨b0, b1, b2', b3'⟩ := HB.out.2.1
            go_wp2_with fail
            clear a0 a1 a2' a3' b0 b1 b2' b3'
            generalize (w.alloc (Obj.cells #[.int .i64 t.kind, .int .i64 t.num, .slice a2 t.bs.length c2, .slice a3 t.els.length c3] 25)).alloc (Obj.cells #[.int .i64 u.kind, .int .i64 u.num, .slice b2 u.bs.length d2, .slice b3 u.els.length d3] 25) = W at *
            go_loopw [5] (fun x wr => ∃ k : Nat, k ≤ t.els.length ∧ k ≤ u.els.length ∧ x = .int .i64 k ∧ Hid (cmpL (t.els.drop k) (u.els.drop k) = S) ∧ Hid (Held wr w.heap.size t a2 c2 a3 c3) ∧ Hid (Held wr (w.heap.size + 1) u b2 d2 b3 d3) ∧ Hid (Below w.heap.size w wr)) (fun x _ => t.els.length - (intOf x).toNat)
            case atStart => exact ⟨0, by omega, by omega, rfl, Lib.hid (by rw [List.drop_zero, List.drop_zero]; exact E0.out.symm), HA, HB, HW⟩
            case round =>
              clear HA HB HW
              obtain ⟨k, hk, hk', rfl, HM, HA, HB, HW⟩ := hrel
              obtain ⟨a0, a1, a2', a3'⟩ := HA.out.2.1
              have hform := HA.out.2.2.form
              obtain ⟨z2, zc2, z3, zc3, hfe, _, _, _, al1, al2, al3⟩ := hform
              simp only [Value.agg.injEq] at hfe
              have hfe' := congrArg Array.toList hfe
              simp only [List.cons.injEq, and_true, Value.slice.injEq, true_and] at hfe'
              obtain ⟨⟨rfl, rfl⟩, rfl, rfl⟩ := hfe'
              clear hfe
              obtain ⟨b0, b1, b2', b3'⟩ := HB.out.2.1
              have hform := HB.out.2.2.form
              obtain ⟨z2, zc2, z3, zc3, hfe, _, _, _, bl1, bl2, bl3⟩ := hform
              simp only [Value.agg.injEq] at hfe
              have hfe' := congrArg Array.toList hfe
              simp only [List.cons.injEq, and_true, Value.slice.injEq, true_and] at hfe'
              obtain ⟨⟨rfl, rfl⟩, rfl, rfl⟩ := hfe'
              clear hfe
              by_cases hlt : k < t.els.length
              · by_cases hlu : k < u.els.length
                · have hlt2 : (k : Int) < (t.els.length : Int) := by omega
                  have hlu2 : (k : Int) < (u.els.length : Int) := by omega
                  obtain ⟨g, off, rfl, hg, hl⟩ := al3 (by omega)
                  obtain ⟨g', off', rfl, hg', hl'⟩ := bl3 (by omega)
                  obtain ⟨x, hx⟩ : ∃ x, t.els[k]? = some x := ⟨_, List.getElem?_eq_getElem hlt⟩
                  obtain ⟨y, hy⟩ : ∃ y, u.els[k]? = some y := ⟨_, List.getElem?_eq_getElem hlu⟩
                  obtain ⟨x2, x2c, x3, x3c, d0, d1, d2', d3', hrx⟩ := hl.cells k x hx
                  obtain ⟨y2, y2c, y3, y3c, e0, e1, e2', e3', hry⟩ := hl'.cells k y hy
                  have hc := fun w' (hb : Below wr.heap.size wr w') => HREC.out k x y hx w' x2 x2c x3 x3c y2 y2c y3 y3c (Rd.kept (fun k hk => hb.block k hk) (fun k hk => Nat.lt_of_lt_of_le hk hb.size) _ _ hrx) (Rd.kept (fun k hk => hb.block k hk) (fun k hk => Nat.lt_of_lt_of_le hk hb.size) _ _ hry)
                  have hd := cmpL_drop t.els u.els k hlt hlu
                  have ex : t.els[k] = x := by rw [List.getElem?_eq_getElem hlt] at hx; exact Option.some.inj hx
                  have ey : u.els[k] = y := by rw [List.getElem?_eq_getElem hlu] at hy; exact Option.some.inj hy
                  rw [ex, ey, HM.out] at hd
                  obtain ⟨Q, hQ⟩ : ∃ Q, Q = cmpT x y := ⟨_, rfl⟩
                  rw [← hQ] at hc hd
                  have HC := Lib.hid hc; have HDD := Lib.hid hd
                  clear hc hd hQ hx hy hrx hry hl hl' al3 bl3 ex ey
                  by_cases hq : Q = 0
                  · have tq : (Q != 0) = false := by rw [hq]; rfl
                    have HQ := Lib.hid hq
                    clear hq
                    go_wp2_with fail
                    go_still_tail 10, (by kernel_rfl)
                    change wpList _ _ _ _ _ wr.drew
                    have hb0 : Below wr.heap.size wr wr.drew := Below.drew (Below.refl wr.heap.size wr)
                    have HC4 := Lib.hid (HC.out _ hb0)
                    have HA4 := Lib.hid (HA.out.below hb0)
                    have HB4 := Lib.hid (HB.out.below hb0)
                    have HW4 := Lib.hid (nextB HW.out hb0)
                    clear hb0 HA HB HW HC a0 a1 a2' a3' b0 b1 b2' b3' d0 d1 d2' d3' e0 e1 e2' e3'
                    generalize wr.drew = w4 at *
                    go_wp2_with (go_at_call 20; refine HC4.out.mono ?_; rintro e w5 ⟨rfl, hb⟩; have HA5 := Lib.hid (HA4.out.below hb); have HB5 := Lib.hid (HB4.out.below hb); have HW5 := Lib.hid (nextB HW4.out hb); clear hb HA4 HB4 HW4 HC4)
                    go_roundw
                    case rel => exact ⟨k + 1, by omega, by omega, by go_num, Lib.hid (by have h := HDD.out; rw [if_neg (by rw [HQ.out]; simp)] at h; exact h.symm), HA5, HB5, HW5⟩
                    case measure => simp [intOf]; omega
                  · have tq : (Q != 0) = true := by simpa using hq
                    have HQ := Lib.hid hq
                    clear hq
                    go_wp2_with fail
                    go_still_tail 10, (by kernel_rfl)
                    change wpList _ _ _ _ _ wr.drew
                    have hb0 : Below wr.heap.size wr wr.drew := Below.drew (Below.refl wr.heap.size wr)
                    have HC4 := Lib.hid (HC.out _ hb0)
                    have HA4 := Lib.hid (HA.out.below hb0)
                    have HB4 := Lib.hid (HB.out.below hb0)
                    have HW4 := Lib.hid (nextB HW.out hb0)
                    clear hb0 HA HB HW HC a0 a1 a2' a3' b0 b1 b2' b3' d0 d1 d2' d3' e0 e1 e2' e3'
                    generalize wr.drew = w4 at *
                    go_wp2_with (go_at_call 20; refine HC4.out.mono ?_; rintro e w5 ⟨rfl, hb⟩; have HA5 := Lib.hid (HA4.out.below hb); have HB5 := Lib.hid (HB4.out.below hb); have HW5 := Lib.hid (nextB HW4.out hb); clear hb HA4 HB4 HW4 HC4)
                    go_ret
                    exact ⟨ret_int (by have h := HDD.out; rw [if_pos HQ.out] at h; exact h.symm), HW5.out⟩
                · have hlt2 : (k : Int) < (t.els.length : Int) := by omega
                  have hlu2 : ¬ ((k : Int) < (u.els.length : Int)) := by omega
                  have he := cmpL_end t.els u.els k (by omega) hk hk'
                  rw [HM.out] at he
                  have HE := Lib.hid he
                  clear he al3 bl3
                  go_wp2_with fail
                  refine (order_any _ _ _).mono ?_
                  rintro e w' ⟨rfl, rfl⟩
                  go_wp2_with fail
                  go_ret
                  exact ⟨ret_int HE.out.symm, HW.out⟩
              · have hlt2 : ¬ ((k : Int) < (t.els.length : Int)) := by omega
                have he := cmpL_end t.els u.els k (by omega) hk hk'
                rw [HM.out] at he
                have HE := Lib.hid he
                clear he al3 bl3
                go_wp2_with fail
                refine (order_any _ _ _).mono ?_
                rintro e w' ⟨rfl, rfl⟩
                go_wp2_with fail
                go_ret
                exact ⟨ret_int HE.out.symm, HW.out⟩
          · have t3 : (t.kind == 3) = false := by simpa using h3
            have e0 : S = 0 := by rw [HD.out, if_neg (by rw [hk]; simp), if_neg h1, if_neg h2, if_neg h3]
            have E0 := Lib.hid e0
            clear hk h1 h2 h3 e0 HREC HD
            go_enter Try.func20, Try.ntmps20
            simp only [World.size_alloc] at HA HB
            obtain ⟨a0, a1, a2', a3'⟩ := HA.out.2.1
            obtain ⟨b0, b1, b2', b3'⟩ := HB.out.2.1
            go_wp2_with fail
            go_ret
            exact ⟨ret_int E0.out.symm, HW.out⟩
    · have tk : (t.kind != u.kind) = true := by simpa using hk
      have e0 : S = ordI t.kind u.kind := by rw [HD.out, if_pos hk]
      have E0 := Lib.hid e0
      clear hk e0 HREC HD
      go_enter Try.func20, Try.ntmps20
      simp only [World.size_alloc] at HA HB
      obtain ⟨a0, a1, a2', a3'⟩ := HA.out.2.1
      obtain ⟨b0, b1, b2', b3'⟩ := HB.out.2.1
      go_wp2_with fail
      refine (order_any _ _ _).mono ?_
      rintro e w' ⟨rfl, rfl⟩
      go_wp2_with fail
      go_ret
      exact ⟨ret_int (E0.out.symm), HW.out⟩
end Go.Proofs.Ytjhjcigappkebaa
