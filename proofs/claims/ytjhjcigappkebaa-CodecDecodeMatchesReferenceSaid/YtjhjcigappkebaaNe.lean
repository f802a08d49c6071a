/-
  Walk of the reference: Nesting.
-/
import Derived.Test.YtjhjcigappkebaaUb
namespace Go.Proofs.Ytjhjcigappkebaa
set_option linter.unusedSimpArgs false
set_option linter.unusedVariables false
open Go.RowKit

theorem shapeL_at {l : List T} (h : shapeL l = true) : ∀ (k : Nat) (t : T), l[k]? = some t → shape t = true := by
  induction l with
  | nil => intro k t hk; simp at hk
  | cons x xs ih =>
    intro k t hk
    simp only [shapeL, Bool.and_eq_true] at h
    cases k with
    | zero => simp at hk; subst hk; exact h.1
    | succ k => exact ih h.2 k t (by simpa using hk)

theorem encL_at {l : List T} : ∀ (k : Nat) (t : T), l[k]? = some t → (enc t).length ≤ (encL l).length := by
  induction l with
  | nil => intro k t hk; simp at hk
  | cons x xs ih =>
    intro k t hk
    simp only [encL, List.length_append]
    cases k with
    | zero => simp at hk; subst hk; omega
    | succ k => have := ih k t (by simpa using hk); omega

theorem shape_els {t : T} (h : shape t = true) : shapeL t.els = true ∧ (t.kind ≠ 3 → t.els = []) := by
  cases t with
  | mk k n b l =>
    unfold shape at h
    show shapeL l = true ∧ (k ≠ 3 → l = [])
    by_cases h1 : k = 1
    · rw [if_pos h1, Bool.and_eq_true, List.isEmpty_iff, List.isEmpty_iff] at h
      rw [h.2]; exact ⟨rfl, fun _ => rfl⟩
    · rw [if_neg h1] at h
      by_cases h2 : k = 2
      · rw [if_pos h2, Bool.and_eq_true, List.isEmpty_iff] at h
        rw [h.2]; exact ⟨rfl, fun _ => rfl⟩
      · rw [if_neg h2] at h
        by_cases h3 : k = 3
        · rw [if_pos h3, Bool.and_eq_true] at h
          exact ⟨h.1, fun hn => absurd h3 hn⟩
        · rw [if_neg h3] at h; cases h

theorem nest_kind (t : T) : nest t = if t.kind = 3 then nestL t.els + 1 else 0 := by
  cases t with
  | mk k n b l => rfl

theorem encL_els (t : T) (hs : shape t = true) : (encL t.els).length ≤ (enc t).length := by
  cases t with
  | mk k n b l =>
    show (encL l).length ≤ _
    by_cases h3 : k = 3
    · unfold enc
      rw [if_neg (by omega), if_neg (by omega)]
      simp; omega
    · have := (shape_els hs).2 h3
      have hl : l = [] := this
      rw [hl]; simp [encL]

set_option maxRecDepth 100000 in
set_option maxHeartbeats 2000000 in
theorem nesting_any : ∀ (n : Nat) (t : T), dep t < n → shape t = true → (enc t).length ≤ 100000000 → ∀ (w : World) (a2 : Option Addr) (c2 : Nat) (a3 : Option Addr) (c3 : Nat), Rd (fun k => k < w.heap.size) w t (.agg #[.int .i64 t.kind, .int .i64 t.num, .slice a2 t.bs.length c2, .slice a3 t.els.length c3]) →
    Calls Try.prog 28 #[.agg #[.int .i64 t.kind, .int .i64 t.num, .slice a2 t.bs.length c2, .slice a3 t.els.length c3]] w fun e w' => e = .returned (.int .i64 (nest t : Int)) ∧ Below w.heap.size w w' := by
  intro n
  induction n with
  | zero => intro t h; omega
  | succ n ih =>
    intro t hd hs hsz w a2 c2 a3 c3 hr
    have hA := heldBox hr
    have hse := shape_els hs
    have hel := encL_els t hs
    have hnk := nest_kind t
    have hnl := nest_le t
    have hrec : ∀ (k : Nat) (u : T), t.els[k]? = some u → ∀ (w' : World) (x2 : Option Addr) (y2 : Nat) (x3 : Option Addr) (y3 : Nat), Rd (fun k => k < w'.heap.size) w' u (.agg #[.int .i64 u.kind, .int .i64 u.num, .slice x2 u.bs.length y2, .slice x3 u.els.length y3]) →
        Calls Try.prog 28 #[.agg #[.int .i64 u.kind, .int .i64 u.num, .slice x2 u.bs.length y2, .slice x3 u.els.length y3]] w' fun e w'' => e = .returned (.int .i64 (nest u : Int)) ∧ Below w'.heap.size w' w'' := by
      intro k u hu w' x2 y2 x3 y3 h
      refine ih u ?_ (shapeL_at hse.1 k u hu) (by have := encL_at k u hu; omega) w' x2 y2 x3 y3 h
      have := dep_mem (List.mem_of_getElem? hu)
      have e : dep t = depL t.els + 1 := by cases t; rfl
      omega
    have HREC := Lib.hid hrec; have HA := Lib.hid hA; have HNK := Lib.hid hnk
    have hbd : ∀ k, nestL (t.els.take k) ≤ 100000000 := by
      intro k
      have h1 := nestL_le (t.els.take k)
      have h2 := encL_take_le t.els k
      omega
    have HBD := Lib.hid hbd
    have HK3 := Lib.hid hse.2
    obtain ⟨NT, hNT⟩ : ∃ NT, NT = nest t := ⟨_, rfl⟩
    rw [← hNT]
    have HNT := Lib.hid hNT
    clear ih hd hs hr hA hse hrec hnk hbd hnl hNT
    go_enter Try.func28, Try.ntmps28
    obtain ⟨b0, b1, b2, b3⟩ := HA.out.2.1
    go_wp2_with fail
    clear b0 b1 b2 b3
    have HB := Lib.hid (ball (Below.refl _ _) (Obj.cells #[.int .i64 t.kind, .int .i64 t.num, .slice a2 t.bs.length c2, .slice a3 t.els.length c3] 25) : Below w.heap.size w _)
    generalize (w.alloc (Obj.cells #[.int .i64 t.kind, .int .i64 t.num, .slice a2 t.bs.length c2, .slice a3 t.els.length c3] 25)) = W at *
    go_loopw [3, 4] (fun x i wr => ∃ k m : Nat, k ≤ t.els.length ∧ i = .int .i64 k ∧ x = .int .i64 m ∧ m ≤ 100000000 ∧ Hid (m = nestL (t.els.take k)) ∧ Hid (Held wr w.heap.size t a2 c2 a3 c3) ∧ Hid (Below w.heap.size w wr)) (fun _ i _ => t.els.length - (intOf i).toNat)
    case atStart => exact ⟨0, 0, by omega, rfl, rfl, by omega, Lib.hid (by rw [List.take_zero]; rfl), HA, HB⟩
    case round =>
      clear HA HB
      obtain ⟨k, m, hk, rfl, rfl, hm, HM, HA, HB⟩ := hrel
      obtain ⟨b0, b1, b2, b3⟩ := HA.out.2.1
      have hform := HA.out.2.2.form
      obtain ⟨z2, zc2, z3, zc3, hfe, _, _, _, hl1, hl2, hl3⟩ := hform
      simp only [Value.agg.injEq] at hfe
      have hfe' := congrArg Array.toList hfe
      simp only [List.cons.injEq, and_true, Value.slice.injEq, true_and] at hfe'
      obtain ⟨⟨rfl, rfl⟩, rfl, rfl⟩ := hfe'
      clear hfe
      by_cases hlt : k < t.els.length
      · have hlt2 : (k : Int) < (t.els.length : Int) := by omega
        obtain ⟨g, off, rfl, hg, hl⟩ := hl3 (by omega)
        obtain ⟨u, hu⟩ : ∃ u, t.els[k]? = some u := ⟨_, List.getElem?_eq_getElem hlt⟩
        obtain ⟨x2, y2, x3, y3, d0, d1, d2, d3, hru⟩ := hl.cells k u hu
        have hc := HREC.out k u hu wr x2 y2 x3 y3 hru
        have hnx : nestL (t.els.take (k + 1)) = max m (nest u) := by
          rw [nestL_next t.els k hlt, HM.out]
          have : t.els[k] = u := by rw [List.getElem?_eq_getElem hlt] at hu; exact Option.some.inj hu
          rw [this]
        have hmx := HBD.out (k + 1)
        rw [hnx] at hmx
        obtain ⟨N, hN⟩ : ∃ N, N = nest u := ⟨_, rfl⟩
        rw [← hN] at hc hnx hmx
        have HC := Lib.hid hc; have HNX := Lib.hid hnx
        clear hc hnx hN hu hru hl hl3
        go_wp2_with fail
        refine HC.out.mono ?_
        rintro e w5 ⟨rfl, hb5⟩
        have HA5 := Lib.hid (HA.out.below hb5)
        have HB5 := Lib.hid (nextB HB.out hb5)
        clear hb5 HA HB HC b0 b1 b2 b3 d0 d1 d2 d3
        go_wp2_with fail
        go_roundw
        case rel => exact ⟨k + 1, max m N, by omega, by go_num, (by congr 1; omega), hmx, Lib.hid HNX.out.symm, HA5, HB5⟩
        case measure => simp [intOf]; omega
      · have hk2 : k = t.els.length := by omega
        subst hk2
        have hlt2 : ¬ ((t.els.length : Int) < (t.els.length : Int)) := by omega
        have hmn := HM.out
        rw [List.take_length] at hmn
        by_cases h3 : t.kind = 3
        · have e3 : NT = m + 1 := by rw [HNT.out, HNK.out, if_pos h3, hmn]
          subst e3
          have g3 : (t.kind == 3) = true := by rw [h3]; rfl
          clear h3 hmn
          go_wp2
          go_ret
          exact ⟨by go_num, HB.out⟩
        · have he := HK3.out h3
          have e3 : NT = m := by rw [HNT.out, HNK.out, if_neg h3, hmn, he]; rfl
          subst e3
          have g3 : (t.kind == 3) = false := by rw [beq_eq_false_iff_ne]; exact h3
          clear h3 hmn he
          go_wp2
          go_ret
          exact ⟨rfl, HB.out⟩
end Go.Proofs.Ytjhjcigappkebaa
