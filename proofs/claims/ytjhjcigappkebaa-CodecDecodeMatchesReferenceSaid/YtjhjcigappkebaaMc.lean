/-
  Small pieces for the laws: the errors of Decode; numbers of what lies in memory fit; SameBytes; two zero values are the same.
-/
import Derived.Test.YtjhjcigappkebaaMb
import Derived.Test.YtjhjcigappkebaaOa
namespace Go.Proofs.Ytjhjcigappkebaa
open Go.RowKit

theorem err_both : ∀ (f : Nat), (∀ (b : List Int) (e : Int), pVal f b = .error e → e = 0 ∨ e = 4 ∨ e = 5) ∧ (∀ (b : List Int) (e : Int), pList f b = .error e → e = 0 ∨ e = 4 ∨ e = 5) := by
  have hpi : ∀ (eight flip : Bool) (k : Nat) (first : Bool) (acc : Int) (l : List Int) (e : Int), pInt eight flip k first acc l = .error e → e = 4 ∨ e = 5 := by
    intro eight flip k
    induction k with
    | zero => intro first acc l e h; simp [pInt] at h
    | succ k ihk =>
      intro first acc l e h
      cases l with
      | nil => simp [pInt] at h; exact Or.inr h.symm
      | cons x l =>
        rw [pInt_cons] at h
        split at h
        · cases h; exact Or.inl rfl
        · exact ihk _ _ _ _ h
  have hpb : ∀ (N : Nat) (l : List Int) (e : Int), l.length ≤ N → pBytes l = .error e → e = 4 ∨ e = 5 := by
    intro N
    induction N with
    | zero => intro l e hl h; cases l with | nil => simp [pBytes] at h; exact Or.inr h.symm | cons x l => simp at hl
    | succ N ihN =>
      intro l e hl h
      match l, hl, h with
      | [], _, h => simp [pBytes] at h; exact Or.inr h.symm
      | [c], _, h => simp [pBytes] at h; exact Or.inr h.symm
      | c :: d :: ds, hl, h =>
        simp only [List.length_cons] at hl
        simp only [pBytes] at h
        split at h
        · split at h
          · cases h
          · split at h
            · cases hp : pBytes ds with
              | error e' => rw [hp] at h; cases h; exact ihN ds _ (by omega) hp
              | ok x => obtain ⟨s, r⟩ := x; rw [hp] at h; cases h
            · cases h; exact Or.inl rfl
        · cases hp : pBytes (d :: ds) with
          | error e' => rw [hp] at h; cases h; exact ihN (d :: ds) _ (by simp; omega) hp
          | ok x => obtain ⟨s, r⟩ := x; rw [hp] at h; cases h
  intro f
  induction f with
  | zero => exact ⟨fun b e h => by simp [pVal] at h; exact Or.inl h.symm, fun b e h => by simp [pList] at h; exact Or.inl h.symm⟩
  | succ f ih =>
    obtain ⟨ihv, ihl⟩ := ih
    constructor
    · intro l e h
      cases l with
      | nil => simp [pVal] at h; exact Or.inr (Or.inr h.symm)
      | cons m l =>
        simp only [pVal] at h
        split at h
        · cases hp : pInt (m == 40) false (m - 32).toNat true 0 l with
          | error e' => rw [hp] at h; cases h; exact Or.inr (hpi _ _ _ _ _ _ _ hp)
          | ok x => obtain ⟨n, r'⟩ := x; rw [hp] at h; cases h
        · split at h
          · cases hp : pInt (m == 23) true (31 - m).toNat true 0 l with
            | error e' => rw [hp] at h; cases h; exact Or.inr (hpi _ _ _ _ _ _ _ hp)
            | ok x => obtain ⟨n, r'⟩ := x; rw [hp] at h; cases h
          · split at h
            · cases hp : pBytes l with
              | error e' => rw [hp] at h; cases h; exact Or.inr (hpb _ _ _ (Nat.le_refl _) hp)
              | ok x => obtain ⟨n, r'⟩ := x; rw [hp] at h; cases h
            · split at h
              · cases hp : pList f l with
                | error e' => rw [hp] at h; cases h; exact ihl l _ hp
                | ok x => obtain ⟨n, r'⟩ := x; rw [hp] at h; cases h
              · cases h; exact Or.inr (Or.inl rfl)
    · intro l e h
      cases l with
      | nil => simp [pList] at h; exact Or.inr (Or.inr h.symm)
      | cons m l =>
        simp only [pList] at h
        split at h
        · cases h
        · cases hp : pVal f (m :: l) with
          | error e' => rw [hp] at h; cases h; exact ihv (m :: l) _ hp
          | ok x =>
            obtain ⟨t, r1⟩ := x
            rw [hp] at h
            simp only at h
            cases hq : pList f r1 with
            | error e' => rw [hq] at h; cases h; exact ihl r1 _ hq
            | ok y => obtain ⟨ts', r2⟩ := y; rw [hq] at h; cases h

theorem dec_err (b : List Int) (c : Int) (h : dec b = .error c) : c = 2 ∨ c = 4 ∨ c = 5 := by
  unfold dec at h
  split at h
  · cases h; exact Or.inl rfl
  · cases hp : pVal (2 * b.length + 2) b with
    | error e =>
      rw [hp] at h
      cases h
      rcases (err_both _).1 _ _ hp with h0 | h0 | h0
      · subst h0
        exact absurd hp ((fuel_both _).1 b (by omega))
      · exact Or.inr (Or.inl h0)
      · exact Or.inr (Or.inr h0)
    | ok x =>
      obtain ⟨t, r⟩ := x
      rw [hp] at h
      simp only at h
      split at h
      · split at h
        · cases h; exact Or.inl rfl
        · cases h
      · cases h; exact Or.inr (Or.inl rfl)

mutual
theorem Rd.fit {F : Nat → Prop} {w : World} : ∀ (t : T) (v : Value), Rd F w t v → fitT t
  | .mk k n b l, v, h => by
    unfold Rd at h
    obtain ⟨vb, a, cap, _, _, hn, hb, _, _, hl⟩ := h
    unfold fitT
    refine ⟨hn, hb.2.1, ?_⟩
    cases l with
    | nil => unfold fitL; trivial
    | cons t ts =>
      obtain ⟨g, off, _, _, hr⟩ := hl (by simp)
      exact RdL.fit (t :: ts) g off hr
theorem RdL.fit {F : Nat → Prop} {w : World} : ∀ (l : List T) (g off : Nat), RdL F w l g off → fitL l
  | [], _, _, _ => by unfold fitL; trivial
  | t :: ts, g, off, h => by
    unfold RdL at h
    unfold fitL
    obtain ⟨⟨x0, x1, x2, x3, _, _, _, _, ht⟩, hts⟩ := h
    exact ⟨Rd.fit t _ ht, RdL.fit ts g (off + 4) hts⟩
end

theorem cmpB_self (b : List Int) : cmpB b b = 0 := (cmpB_eq b b).2 rfl

/-- SameBytes of equal and of different byte strings. -/
theorem sameBytes_any (F G : Nat → Prop) (a b : List Int) (v u : Value) (w : World) (hF : ∀ k, F k → k < w.heap.size) (hG : ∀ k, G k → k < w.heap.size) (ha : Bs F w v a) (hb : Bs G w u b) :
    Calls Try.prog 18 #[v, u] w fun e w' => e = .returned (.bool (decide (a = b))) ∧ Below w.heap.size w w' := by
  have hob := orderBytes_any F G a b v u w hF hG ha hb
  have Hob := Lib.hid hob
  have hce := cmpB_eq a b
  clear hob ha hb hF hG
  by_cases h : a = b
  · have hc : cmpB a b = 0 := hce.2 h
    rw [decide_eq_true h]
    rw [hc] at Hob
    clear hce h hc
    go_enter Try.func18, Try.ntmps18
    go_wp2_with fail
    refine Hob.out.mono ?_
    rintro e w1 ⟨rfl, hb⟩
    have HB := Lib.hid hb; clear hb
    go_wp2_with fail
    go_ret
    exact ⟨rfl, HB.out⟩
  · have hc : (cmpB a b == 0) = false := by
      rw [beq_eq_false_iff_ne]
      exact fun h' => h (hce.1 h')
    rw [decide_eq_false h]
    clear hce h
    generalize cmpB a b = c at *
    go_enter Try.func18, Try.ntmps18
    go_wp2_with fail
    refine Hob.out.mono ?_
    rintro e w1 ⟨rfl, hb⟩
    have HB := Lib.hid hb; clear hb
    go_wp2_with fail
    go_ret
    exact ⟨rfl, HB.out⟩

theorem zero_same (w : World) : Calls Try.prog 23 #[.agg #[.int .i64 0, .int .i64 0, .slice none 0 0, .slice none 0 0], .agg #[.int .i64 0, .int .i64 0, .slice none 0 0, .slice none 0 0]] w fun e w' => e = .returned (.bool true) ∧ Below w.heap.size w w' := by
  refine (same_any (fun _ => False) (fun _ => False) 2 (.mk 0 0 [] []) (by simp [dep, depL]) (.mk 0 0 [] []) w _ _ (fun _ h => h.elim) (fun _ h => h.elim) (Rd.zero _ _) (Rd.zero _ _)).mono ?_
  rintro e w'' ⟨rfl, hb⟩
  exact ⟨by rw [(sameT_iff _ _).2 rfl], hb⟩

theorem sameX (F G : Nat → Prop) (t u : T) (c : Bool) (w : World) (v v' : Value) (hF : ∀ k, F k → k < w.heap.size) (hG : ∀ k, G k → k < w.heap.size) (h : Rd F w t v) (h' : Rd G w u v') (hc : sameT t u = c) :
    Calls Try.prog 23 #[v, v'] w fun e w' => e = .returned (.bool c) ∧ Below w.heap.size w w' := by
  subst hc
  exact same_any F G (dep t + 1) t (Nat.lt_succ_self _) u w v v' hF hG h h'

theorem heldBox {W : World} {t : T} {a2 : Option Addr} {c2 : Nat} {a3 : Option Addr} {c3 : Nat} (h : Rd (fun k => k < W.heap.size) W t (.agg #[.int .i64 t.kind, .int .i64 t.num, .slice a2 t.bs.length c2, .slice a3 t.els.length c3])) :
    Held (W.alloc (.cells #[.int .i64 t.kind, .int .i64 t.num, .slice a2 t.bs.length c2, .slice a3 t.els.length c3] 25)) W.heap.size t a2 c2 a3 c3 :=
  ⟨by simp, Box.new W _ _ _ _, Rd.kept (fun k hk => Below.heap_alloc _ _ _ hk) (fun k hk => by simp; omega) _ _ h⟩

theorem encodeX (t : T) (w : World) (g : Nat) (a2 : Option Addr) (c2 : Nat) (a3 : Option Addr) (c3 : Nat) (h : Held w g t a2 c2 a3 c3) (hsz : (enc t).length ≤ 140737488355328) (hc : chk t = 0) :
    Calls Try.prog 14 #[.agg #[.int .i64 t.kind, .int .i64 t.num, .slice a2 t.bs.length c2, .slice a3 t.els.length c3]] w fun e w' => ∃ a c, e = .returned (.tuple #[.slice a (enc t).length c, .int .i64 0]) ∧ Below w.heap.size w w' ∧ Bs (fun k => k < w'.heap.size) w' (.slice a (enc t).length c) (enc t) := by
  refine (encode_any _ t w _ (fun _ h => h) h.2.2 hsz).mono ?_
  rintro e w' ⟨vb, rfl, hb, hB, _⟩
  have hB' := hB hc
  obtain ⟨a, c, rfl⟩ : ∃ a c, vb = .slice a (enc t).length c := by
    obtain ⟨_, _, a, c, h, _⟩ := hB'
    exact ⟨a, c, h⟩
  exact ⟨a, c, by rw [hc], hb, Bs.kept hB' (fun _ _ => rfl) (fun k hk => hk.2)⟩

theorem sameBytesX (F G : Nat → Prop) (a b : List Int) (c : Bool) (v u : Value) (w : World) (hF : ∀ k, F k → k < w.heap.size) (hG : ∀ k, G k → k < w.heap.size) (ha : Bs F w v a) (hb : Bs G w u b) (hc : decide (a = b) = c) :
    Calls Try.prog 18 #[v, u] w fun e w' => e = .returned (.bool c) ∧ Below w.heap.size w w' := by
  subst hc
  exact sameBytes_any F G a b v u w hF hG ha hb

theorem Bs.up {w w' : World} {v : Value} {b : List Int} (h : Bs (fun k => k < w.heap.size) w v b) (hb : Below w.heap.size w w') : Bs (fun k => k < w'.heap.size) w' v b :=
  Bs.kept h (fun k hk => hb.block k hk) (fun k hk => Nat.lt_of_lt_of_le hk hb.size)

theorem sameT_self (t : T) : sameT t t = true := (sameT_iff t t).2 rfl

end Go.Proofs.Ytjhjcigappkebaa
