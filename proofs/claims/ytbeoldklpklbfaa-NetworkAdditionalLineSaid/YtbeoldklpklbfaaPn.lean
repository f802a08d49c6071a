/-
  What the functions answer, in plain words; each answer is the only one.
-/
import Derived.Test.YtbeoldklpklbfaaTd
namespace Go.Proofs.Ytbeoldklpklbfaa
set_option linter.unusedVariables false
set_option linter.unusedSimpArgs false

theorem ed_inj {x y : Ln} (h : x.ed = y.ed) : x = y := by
  cases x; cases y
  unfold Ln.ed at h
  simp only [Ed.mk.injEq] at h
  simp only [Ln.mk.injEq]
  omega
theorem eds_inj : ∀ {l m : List Ln}, l.map Ln.ed = m.map Ln.ed → l = m
  | [], [], _ => rfl
  | [], _ :: _, h => by simp at h
  | _ :: _, [], h => by simp at h
  | x :: l, y :: m, h => by
    simp only [List.map_cons, List.cons.injEq] at h
    rw [ed_inj h.1, eds_inj h.2]
theorem eok_ln {n : Nat} {x : Ed} (h : eOk n x = true) : ∃ y : Ln, y.ed = x ∧ y.ok n := by
  unfold eOk at h
  simp only [Bool.and_eq_true, rng_iff, decide_eq_true_eq] at h
  obtain ⟨⟨⟨⟨⟨ha, hb⟩, hne⟩, hr⟩, hm⟩, hk⟩ := h
  refine ⟨⟨x.a.toNat, x.b.toNat, x.r.toNat, x.m.toNat, x.k.toNat⟩, ?_, ?_⟩
  · cases x
    unfold Ln.ed
    simp only [Ed.mk.injEq] at *
    omega
  · unfold Ln.ok
    simp only
    omega
theorem all_ln {n : Nat} : ∀ {l : List Ed}, l.all (eOk n) = true → ∃ es : List Ln, l = es.map Ln.ed ∧ ∀ x ∈ es, x.ok n
  | [], _ => ⟨[], rfl, by simp⟩
  | x :: l, h => by
    simp only [List.all_cons, Bool.and_eq_true] at h
    obtain ⟨y, h1, h2⟩ := eok_ln h.1
    obtain ⟨es, h3, h4⟩ := all_ln h.2
    refine ⟨y :: es, by rw [List.map_cons, h1, h3], fun z hz => ?_⟩
    rcases List.mem_cons.1 hz with rfl | hz
    · exact h2
    · exact h4 z hz
theorem chk_zero {ps : List Pc} {es : List Ed} (h : chk ps es = 0) : ps.length ≤ 512 ∧ es.length ≤ 2048 ∧ ∃ ls : List Ln, es = ls.map Ln.ed ∧ ∀ x ∈ ls, x.ok ps.length := by
  unfold chk at h
  split at h
  · rename_i hl
    split at h
    · rename_i hb
      simp only [Bool.and_eq_true] at hb
      exact ⟨hl.1, hl.2, all_ln hb.2⟩
    · cases h
  · cases h
/-- The error of a call. -/
def cerr (ps : List Pc) (es : List Ed) (l : List Int) : Int := if chk ps es = 0 then (if plc ps.length l then 0 else 1) else chk ps es
theorem cerr_zero {ps : List Pc} {es : List Ed} {l : List Int} (h : cerr ps es l = 0) : chk ps es = 0 ∧ plc ps.length l = true := by
  unfold cerr at h
  split at h
  · rename_i h1
    split at h
    · rename_i h2; exact ⟨h1, h2⟩
    · cases h
  · rename_i h1; exact absurd h h1
theorem plc_mem {n : Nat} {l : List Int} (h : plc n l = true) {p : Int} (hp : p ∈ l) : ∃ q : Nat, p = (q : Int) ∧ q < n := by
  have := List.all_eq_true.1 h p hp
  rw [rng_iff] at this
  exact ⟨p.toNat, by omega, by omega⟩
theorem plc_nat {n : Nat} : ∀ {l : List Int}, plc n l = true → ∃ P : List Nat, l = ints P ∧ ∀ p ∈ P, p < n
  | [], _ => ⟨[], rfl, by simp⟩
  | p :: l, h => by
    unfold plc at h
    simp only [List.all_cons, Bool.and_eq_true] at h
    obtain ⟨P, h1, h2⟩ := plc_nat (l := l) h.2
    have h3 := rng_iff.1 h.1
    refine ⟨p.toNat :: P, ?_, fun q hq => ?_⟩
    · rw [h1]
      show p :: ints P = (p.toNat : Int) :: ints P
      rw [show (p.toNat : Int) = p by omega]
    · rcases List.mem_cons.1 hq with rfl | hq
      · omega
      · exact h2 q hq
theorem ints_inj {P Q : List Nat} (h : ints P = ints Q) : P = Q := by
  refine List.ext_getElem? fun i => ?_
  have := congrArg (fun l : List Int => l[i]?) h
  simp only [ints_get] at this
  cases h1 : P[i]? <;> cases h2 : Q[i]? <;> rw [h1, h2] at this <;> simp at this
  rw [Int.ofNat_inj.1 this]

/-- A valid network in plain words. -/
def Val (ps : List Pc) (eds : List Ed) (es : List Ln) : Prop := eds = es.map Ln.ed ∧ (∀ x ∈ es, x.ok ps.length) ∧ ps.length ≤ 512 ∧ es.length ≤ 2048
theorem chk_val {ps : List Pc} {eds : List Ed} (h : chk ps eds = 0) : ∃ es, Val ps eds es := by
  obtain ⟨h1, h2, es, h3, h4⟩ := chk_zero h
  exact ⟨es, h3, h4, h1, by rw [h3, List.length_map] at h2; exact h2⟩
theorem Val.one {ps : List Pc} {eds : List Ed} {es es' : List Ln} (h : Val ps eds es) (h' : Val ps eds es') : es = es' := eds_inj (h.1.symm.trans h'.1)

/-- What Times answers. -/
def TR (ps : List Pc) (eds : List Ed) (f : Int) (L : List Int) (E : Int) : Prop :=
  E = cerr ps eds [f] ∧ (E ≠ 0 → L = []) ∧ (E = 0 → ∃ (es : List Ln) (fn : Nat), Val ps eds es ∧ f = (fn : Int) ∧ fn < ps.length ∧ Tm ps.length es fn L)
theorem TR.one {ps : List Pc} {eds : List Ed} {f E E' : Int} {L L' : List Int} (h : TR ps eds f L E) (h' : TR ps eds f L' E') : L = L' ∧ E = E' := by
  obtain ⟨h1, h2, h3⟩ := h
  obtain ⟨g1, g2, g3⟩ := h'
  have he : E = E' := by rw [h1, g1]
  refine ⟨?_, he⟩
  subst he
  by_cases h0 : E = 0
  · obtain ⟨es, fn, v, e1, l1, t⟩ := h3 h0
    obtain ⟨es', fn', v', e1', l1', t'⟩ := g3 h0
    obtain rfl := v.one v'
    obtain rfl : fn = fn' := by omega
    exact tm_one v.2.1 t t'
  · rw [h2 h0, g2 h0]
/-- What Between answers. -/
def BR (ps : List Pc) (eds : List Ed) (a b T E : Int) : Prop :=
  (cerr ps eds [a, b] ≠ 0 ∧ E = cerr ps eds [a, b] ∧ T = 0) ∨ (cerr ps eds [a, b] = 0 ∧ ∃ (es : List Ln) (an bn : Nat) (L : List Int), Val ps eds es ∧ a = (an : Int) ∧ b = (bn : Int) ∧ an < ps.length ∧ bn < ps.length ∧ Tm ps.length es an L ∧ (dv L bn < 0 ∧ E = 80 ∧ T = 0 ∨ 0 ≤ dv L bn ∧ E = 0 ∧ T = dv L bn))
theorem BR.one {ps : List Pc} {eds : List Ed} {a b T T' E E' : Int} (h : BR ps eds a b T E) (h' : BR ps eds a b T' E') : T = T' ∧ E = E' := by
  rcases h with ⟨h0, h1, h2⟩ | ⟨h0, es, an, bn, L, v, e1, e2, l1, l2, t, h⟩ <;> rcases h' with ⟨g0, g1, g2⟩ | ⟨g0, es', an', bn', L', v', e1', e2', l1', l2', t', h'⟩
  · rw [h1, g1, h2, g2]; exact ⟨rfl, rfl⟩
  · exact absurd g0 h0
  · exact absurd h0 g0
  · obtain rfl := v.one v'
    obtain rfl : an = an' := by omega
    obtain rfl : bn = bn' := by omega
    obtain rfl := tm_one v.2.1 t t'
    omega
/-- The fastest route from a to b, where L leads. -/
inductive Rt (es : List Ln) (L : List Int) (b : Nat) : Nat → List Nat → Prop
  | stop : Rt es L b b [b]
  | step {a q : Nat} {P : List Nat} : a ≠ b → NX es L a (q : Int) → Rt es L b q P → Rt es L b a (a :: P)
theorem nx_one {es : List Ln} {L : List Int} {a : Nat} {r r' : Int} (h : NX es L a r) (h' : NX es L a r') : r = r' := by
  rcases h with ⟨rfl, h1⟩ | ⟨q, rfl, h1, h2⟩ <;> rcases h' with ⟨rfl, g1⟩ | ⟨q', rfl, g1, g2⟩
  · rfl
  · exact absurd g1 (h1 _)
  · exact absurd h1 (g1 _)
  · have := h2 _ g1; have := g2 _ h1; omega
theorem Rt.one {es : List Ln} {L : List Int} {a b : Nat} {P P' : List Nat} (h : Rt es L b a P) (h' : Rt es L b a P') : P = P' := by
  induction h generalizing P' with
  | stop =>
    cases h' with
    | stop => rfl
    | step h _ _ => exact absurd rfl h
  | step hne hn _ ih =>
    cases h' with
    | stop => exact absurd rfl hne
    | step _ hn' ht =>
      have := nx_one hn hn'
      obtain rfl := Int.ofNat_inj.1 this
      rw [ih ht]
/-- What Route answers. -/
def RR (ps : List Pc) (eds : List Ed) (a b : Int) (R : List Int) (E : Int) : Prop :=
  (cerr ps eds [a, b] ≠ 0 ∧ E = cerr ps eds [a, b] ∧ R = []) ∨ (cerr ps eds [a, b] = 0 ∧ ∃ (es : List Ln) (an bn : Nat) (L : List Int), Val ps eds es ∧ a = (an : Int) ∧ b = (bn : Int) ∧ an < ps.length ∧ bn < ps.length ∧ Tm ps.length es bn L ∧ (dv L an < 0 ∧ E = 80 ∧ R = [] ∨ 0 ≤ dv L an ∧ E = 0 ∧ ∃ P, R = ints P ∧ Rt es L bn an P))
theorem RR.one {ps : List Pc} {eds : List Ed} {a b E E' : Int} {R R' : List Int} (h : RR ps eds a b R E) (h' : RR ps eds a b R' E') : R = R' ∧ E = E' := by
  rcases h with ⟨h0, h1, h2⟩ | ⟨h0, es, an, bn, L, v, e1, e2, l1, l2, t, h⟩ <;> rcases h' with ⟨g0, g1, g2⟩ | ⟨g0, es', an', bn', L', v', e1', e2', l1', l2', t', h'⟩
  · rw [h1, g1, h2, g2]; exact ⟨rfl, rfl⟩
  · exact absurd g0 h0
  · exact absurd h0 g0
  · obtain rfl := v.one v'
    obtain rfl : an = an' := by omega
    obtain rfl : bn = bn' := by omega
    obtain rfl := tm_one v.2.1 t t'
    rcases h with ⟨d, rfl, rfl⟩ | ⟨d, rfl, P, rfl, r⟩ <;> rcases h' with ⟨d', rfl, rfl⟩ | ⟨d', rfl, P', rfl, r'⟩
    · exact ⟨rfl, rfl⟩
    · omega
    · omega
    · rw [r.one r']; exact ⟨rfl, rfl⟩
/-- What Edge answers. -/
def ER (ps : List Pc) (eds : List Ed) (a b I E : Int) : Prop :=
  (cerr ps eds [a, b] ≠ 0 ∧ E = cerr ps eds [a, b] ∧ I = 0) ∨ (cerr ps eds [a, b] = 0 ∧ ∃ (es : List Ln) (an bn : Nat), Val ps eds es ∧ a = (an : Int) ∧ b = (bn : Int) ∧ an < ps.length ∧ bn < ps.length ∧ (fd es an bn = none ∧ E = 80 ∧ I = 0 ∨ ∃ i : Nat, fd es an bn = some i ∧ E = 0 ∧ I = (i : Int)))
theorem ER.one {ps : List Pc} {eds : List Ed} {a b I I' E E' : Int} (h : ER ps eds a b I E) (h' : ER ps eds a b I' E') : I = I' ∧ E = E' := by
  rcases h with ⟨h0, h1, h2⟩ | ⟨h0, es, an, bn, v, e1, e2, l1, l2, h⟩ <;> rcases h' with ⟨g0, g1, g2⟩ | ⟨g0, es', an', bn', v', e1', e2', l1', l2', h'⟩
  · rw [h1, g1, h2, g2]; exact ⟨rfl, rfl⟩
  · exact absurd g0 h0
  · exact absurd h0 g0
  · obtain rfl := v.one v'
    obtain rfl : an = an' := by omega
    obtain rfl : bn = bn' := by omega
    rcases h with ⟨d, rfl, rfl⟩ | ⟨i, d, rfl, rfl⟩ <;> rcases h' with ⟨d', rfl, rfl⟩ | ⟨i', d', rfl, rfl⟩
    · exact ⟨rfl, rfl⟩
    · rw [d] at d'; cases d'
    · rw [d] at d'; cases d'
    · rw [d] at d'; cases d'; exact ⟨rfl, rfl⟩
/-- Line i of a route. -/
def rln (es : List Ln) (P : List Nat) (i : Nat) : Option Nat := fd es (P.getD i 0) (P.getD (i + 1) 0)
def lx (es : List Ln) (j : Nat) : Ln := (es[j]?).getD ⟨0, 0, 0, 0, 0⟩
theorem lx_get {es : List Ln} {j : Nat} {x : Ln} (h : es[j]? = some x) : lx es j = x := by unfold lx; rw [h]; rfl
/-- The kilometres of railway r on the first i lines; whether it has one. -/
def kmf (es : List Ln) (P : List Nat) (r : Nat) : Nat → Nat
  | 0 => 0
  | i + 1 => kmf es P r i + match rln es P i with
    | some j => if (lx es j).r = r then (lx es j).k else 0
    | none => 0
def usf (es : List Ln) (P : List Nat) (r : Nat) : Nat → Bool
  | 0 => false
  | i + 1 => usf es P r i || match rln es P i with
    | some j => decide ((lx es j).r = r)
    | none => false
/-- The shares of the railways below r. -/
def shr (es : List Ln) (P : List Nat) (m : Nat) : Nat → List Sh
  | 0 => []
  | r + 1 => if usf es P r m then shr es P m r ++ [⟨r, kmf es P r m⟩] else shr es P m r
/-- What Shares answers. -/
def HR (ps : List Pc) (eds : List Ed) (route : List Int) (S : List Sh) (E : Int) : Prop :=
  (cerr ps eds route ≠ 0 ∧ E = cerr ps eds route ∧ S = []) ∨ (cerr ps eds route = 0 ∧ ∃ (es : List Ln) (P : List Nat), Val ps eds es ∧ route = ints P ∧ (∀ p ∈ P, p < ps.length) ∧ ((∃ i, i + 1 < P.length ∧ rln es P i = none) ∧ E = 80 ∧ S = [] ∨ (∀ i, i + 1 < P.length → rln es P i ≠ none) ∧ E = 0 ∧ S = shr es P (P.length - 1) 16))
theorem HR.one {ps : List Pc} {eds : List Ed} {route : List Int} {S S' : List Sh} {E E' : Int} (h : HR ps eds route S E) (h' : HR ps eds route S' E') : S = S' ∧ E = E' := by
  rcases h with ⟨h0, h1, h2⟩ | ⟨h0, es, P, v, e1, l1, h⟩ <;> rcases h' with ⟨g0, g1, g2⟩ | ⟨g0, es', P', v', e1', l1', h'⟩
  · rw [h1, g1, h2, g2]; exact ⟨rfl, rfl⟩
  · exact absurd g0 h0
  · exact absurd h0 g0
  · obtain rfl := v.one v'
    obtain rfl := ints_inj (e1.symm.trans e1')
    rcases h with ⟨⟨i, hi, hn⟩, rfl, rfl⟩ | ⟨d, rfl, rfl⟩ <;> rcases h' with ⟨⟨i', hi', hn'⟩, rfl, rfl⟩ | ⟨d', rfl, rfl⟩
    · exact ⟨rfl, rfl⟩
    · exact absurd hn (d' i hi)
    · exact absurd hn' (d i' hi')
    · exact ⟨rfl, rfl⟩
end Go.Proofs.Ytbeoldklpklbfaa
