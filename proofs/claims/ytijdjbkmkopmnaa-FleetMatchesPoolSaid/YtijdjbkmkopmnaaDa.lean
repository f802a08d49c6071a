/-
  Walks: the checks as function values; Check.
-/
import Derived.Test.YtijdjbkmkopmnaaCd
import Derived.Test.YtijdjbkmkopmnaaEa
namespace Go.Proofs.Ytijdjbkmkopmnaa
open Go.RowKit
set_option linter.unusedVariables false
set_option linter.unusedSimpArgs false

def Ck (w : World) (b0 : Nat) (last : Bool) (f : Nat) (bs : Array Value) (R : Int) : Prop :=
  (∀ w', Sem.run Try.prog (callFunc f bs) w' = .ok (.enter f bs) w') ∧ ∀ w', Below w.heap.size w w' → Calls Try.prog f bs w' fun e w2 => e = .returned (.int .i64 R) ∧ (Below w'.heap.size w' w2 ∨ last = true ∧ Below b0 w' w2)
theorem Ck.on {w w1 : World} {b0 f : Nat} {last : Bool} {bs : Array Value} {R : Int} (h : Ck w b0 last f bs R) (hb : Below w.heap.size w w1) : Ck w1 b0 last f bs R := ⟨h.1, fun w' hw => h.2 w' (btrans hb hw)⟩
def AllCk (w : World) (b0 : Nat) : List (Nat × Array Value × Int) → Prop
  | [] => True
  | [x] => Ck w b0 true x.1 x.2.1 x.2.2
  | x :: y :: l => Ck w b0 false x.1 x.2.1 x.2.2 ∧ AllCk w b0 (y :: l)
theorem allck_get {w : World} {b0 : Nat} : ∀ {l : List (Nat × Array Value × Int)}, AllCk w b0 l → ∀ (i f : Nat) (bs : Array Value) (R : Int), l[i]? = some (f, bs, R) → ∃ last, Ck w b0 last f bs R ∧ (last = true → i + 1 = l.length)
  | [], _, i, f, bs, R, h => by simp at h
  | [x], hk, i, f, bs, R, h => by
    match i, h with
    | 0, h =>
      simp only [List.getElem?_cons_zero, Option.some.injEq] at h
      subst h
      exact ⟨true, hk, fun _ => rfl⟩
    | i + 1, h => simp at h
  | x :: y :: l, hk, i, f, bs, R, h => by
    match i, h with
    | 0, h =>
      simp only [List.getElem?_cons_zero, Option.some.injEq] at h
      subst h
      exact ⟨false, hk.1, fun e => by cases e⟩
    | i + 1, h =>
      obtain ⟨last, h1, h2⟩ := allck_get hk.2 i f bs R (by simpa using h)
      exact ⟨last, h1, fun e => by have := h2 e; simp only [List.length_cons] at this ⊢; omega⟩
theorem firstck {w : World} {g n b0 : Nat} (l : List (Nat × Array Value × Int)) (hn : n = l.length) (hn1 : n ≤ 1000) (hb0 : b0 ≤ w.heap.size) (t : TypeId)
    (hg : w.heap[g]? = some (.cells (l.map fun x => fv x.1 x.2.1).toArray t (0, 0))) (hc : AllCk w b0 l) (R : Int) (hR : R = fst0 (l.map fun x => x.2.2)) :
    Calls Try.prog 36 #[.slice (some ⟨g, 0, none⟩) n n] w fun e w' => e = .returned (.int .i64 R) ∧ Below b0 w w' := by
  refine first_any l hn hn1 hb0 (fun _ => blt hg) (fun i f bs R hi => ?_) (fun i f bs R hi => ?_) (fun i f bs R hi w' hw => ?_) R hR
  · rw [cell_of_row w g _ _ t (0, 0) hg]
    simp [hi]
  · obtain ⟨last, h1, _⟩ := allck_get hc i f bs R hi
    exact h1.1
  · obtain ⟨last, h1, h2⟩ := allck_get hc i f bs R hi
    exact (h1.2 w' hw).mono fun e w2 ⟨e1, e2⟩ => ⟨e1, e2.imp id fun ⟨a, b⟩ => ⟨by rw [hn]; exact h2 a, b⟩⟩
set_option maxRecDepth 100000 in
theorem req84_any (b : Bool) (o : Int) (B1 B2 : Nat) (w : World) (h1 : w.cell? ⟨B1, 0, none⟩ = some (.bool b)) (h2 : w.cell? ⟨B2, 0, none⟩ = some (.int .i64 o)) : Calls Try.prog 84 #[.pointer (some ⟨B1, 0, none⟩), .pointer (some ⟨B2, 0, none⟩)] w fun e w' => e = .returned (.int .i64 (if b then 0 else o)) ∧ w = w' := by
  cases b with
  | true =>
    go_enter Try.func84, Try.ntmps84
    go_wp2
    go_ret
    exact ⟨rfl, rfl⟩
  | false =>
    go_enter Try.func84, Try.ntmps84
    go_wp2
    go_ret
    exact ⟨rfl, rfl⟩
theorem require_ck (b : Bool) (o : Int) (b0 : Nat) (w : World) : Calls Try.prog 37 #[.bool b, .int .i64 o] w fun e w' => ∃ bs, e = .returned (.func (.func 84) #[] bs) ∧ Below w.heap.size w w' ∧ ∀ last, Ck w' b0 last 84 bs (if b then 0 else o) := by
  have H : Calls Try.prog 37 #[.bool b, .int .i64 o] w fun e w' => e = .returned (.func (.func 84) #[] #[.pointer (some ⟨w.heap.size, 0, none⟩), .pointer (some ⟨w.heap.size + 1, 0, none⟩)]) ∧ w' = (w.alloc (.cells #[.bool b] 4)).alloc (.cells #[.int .i64 o] 32) := by
    go_enter Try.func37, Try.ntmps37
    go_wp2
    go_ret
    exact ⟨rfl, rfl⟩
  refine H.mono ?_
  rintro e w' ⟨rfl, rfl⟩
  refine ⟨_, rfl, ball (ball (Below.refl _ _) _) _, fun last => ⟨cf84 _, fun w2 hb => ?_⟩⟩
  have e1 : ((w.alloc (.cells #[.bool b] 4)).alloc (.cells #[.int .i64 o] 32)).heap[w.heap.size]? = some (.cells #[.bool b] 4 (0, 0)) := bold (bnew _ _)
  have e2 : ((w.alloc (.cells #[.bool b] 4)).alloc (.cells #[.int .i64 o] 32)).heap[w.heap.size + 1]? = some (.cells #[.int .i64 o] 32 (0, 0)) := by have h := bnew (w.alloc (.cells #[.bool b] 4)) (.cells #[.int .i64 o] 32); simpa using h
  exact (req84_any b o _ _ w2 (box1 (bon e1 hb)) (box1 (bon e2 hb))).mono fun e w3 ⟨h1, h2⟩ => ⟨h1, Or.inl (h2 ▸ Below.refl _ _)⟩
theorem each38_ck {w : World} {a : Option Addr} {c vf : Nat} {bs : Array Value} {l : List Ty} (p : Ty → Bool) (b0 : Nat) (hl : Ts (fun k => k < w.heap.size) w (.slice a l.length c) l)
    (hcf : ∀ x w', Sem.run Try.prog (callFunc vf (#[x] ++ bs)) w' = .ok (.enter vf (#[x] ++ bs)) w')
    (hcall : ∀ x w', Below w.heap.size w w' → x ∈ l → Calls Try.prog vf (#[.agg x.cs.toArray] ++ bs) w' fun e w2 => e = .returned (.bool (p x)) ∧ Below w'.heap.size w' w2) :
    Calls Try.prog 38 #[.slice a l.length c, .func (.func vf) #[] bs] w fun e w' => ∃ bs', e = .returned (.func (.func 85) #[] bs') ∧ Below w.heap.size w w' ∧ ∀ last, Ck w' b0 last 85 bs' (if l.all p then 0 else 1) := by
  refine (each38_any a l.length c vf bs w).mono ?_
  rintro e w' ⟨rfl, rfl⟩
  have hB : Below w.heap.size w ((w.alloc (.cells #[.slice a l.length c] 22)).alloc (.cells #[fv vf bs] 95)) := ball (ball (Below.refl _ _) _) _
  refine ⟨_, rfl, hB, fun last => ⟨cf85 _, fun w2 hb => ?_⟩⟩
  have e1 : ((w.alloc (.cells #[.slice a l.length c] 22)).alloc (.cells #[fv vf bs] 95)).heap[w.heap.size]? = some (.cells #[.slice a l.length c] 22 (0, 0)) := bold (bnew _ _)
  have e2 : ((w.alloc (.cells #[.slice a l.length c] 22)).alloc (.cells #[fv vf bs] 95)).heap[w.heap.size + 1]? = some (.cells #[fv vf bs] 95 (0, 0)) := by have h := bnew (w.alloc (.cells #[.slice a l.length c] 22)) (.cells #[fv vf bs] 95); simpa using h
  have hB2 := btrans hB hb
  refine (each85_any (J := fun _ w' => Below w2.heap.size w2 w') (Je := fun w' => Below w2.heap.size w2 w') (p := fun k => (l[k]?.map p).getD true) (b0 := w2.heap.size) (n := l.length) rfl hl.1 (hl.on hB2) (Nat.le_refl _) (box1 (bon e1 hb)) (box1 (bon e2 hb)) (blt (bon e2 hb)) (Below.refl _ _) (fun _ _ h => h) (fun _ _ _ h k => btrans h k)
    (fun _ w' h => ⟨h.size, fun B hB => h.block B hB, h.block _ (blt (bon e2 hb))⟩) hcf (fun k x w' hJ hx => ?_) (if l.all p then 0 else 1) (fun h => ?_) (fun k hk hp => ?_)).mono fun e w3 ⟨h1, h2⟩ => ⟨h1, Or.inl h2⟩
  · refine (hcall x w' (btrans hB2 hJ) (List.mem_of_getElem? hx)).mono ?_
    rintro e w3 ⟨rfl, hb3⟩
    simp only [hx, Option.map_some, Option.getD_some]
    exact ⟨trivial, fun _ => btrans hJ hb3, btrans hJ hb3⟩
  · rw [if_pos]
    refine List.all_eq_true.2 fun x hx => ?_
    obtain ⟨j, hj⟩ := List.getElem?_of_mem hx
    have := h j (List.getElem?_eq_some_iff.1 hj).1
    simpa [hj] using this
  · rw [if_neg]
    intro hall
    have hx : l[k]? = some l[k] := List.getElem?_eq_getElem hk
    rw [hx] at hp
    simp only [Option.map_some, Option.getD_some] at hp
    rw [List.all_eq_true.1 hall _ (List.getElem_mem hk)] at hp
    cases hp
theorem each40_ck {w : World} {a : Option Addr} {c vf : Nat} {bs : Array Value} {l : List Wn} (p : Wn → Bool) (b0 : Nat) (hl : Ws (fun k => k < w.heap.size) w (.slice a l.length c) l)
    (hcf : ∀ x w', Sem.run Try.prog (callFunc vf (#[x] ++ bs)) w' = .ok (.enter vf (#[x] ++ bs)) w')
    (hcall : ∀ x w', Below w.heap.size w w' → x ∈ l → Calls Try.prog vf (#[.agg x.cs.toArray] ++ bs) w' fun e w2 => e = .returned (.bool (p x)) ∧ Below w'.heap.size w' w2) :
    Calls Try.prog 40 #[.slice a l.length c, .func (.func vf) #[] bs] w fun e w' => ∃ bs', e = .returned (.func (.func 86) #[] bs') ∧ Below w.heap.size w w' ∧ ∀ last, Ck w' b0 last 86 bs' (if l.all p then 0 else 1) := by
  refine (each40_any a l.length c vf bs w).mono ?_
  rintro e w' ⟨rfl, rfl⟩
  have hB : Below w.heap.size w ((w.alloc (.cells #[.slice a l.length c] 23)).alloc (.cells #[fv vf bs] 98)) := ball (ball (Below.refl _ _) _) _
  refine ⟨_, rfl, hB, fun last => ⟨cf86 _, fun w2 hb => ?_⟩⟩
  have e1 : ((w.alloc (.cells #[.slice a l.length c] 23)).alloc (.cells #[fv vf bs] 98)).heap[w.heap.size]? = some (.cells #[.slice a l.length c] 23 (0, 0)) := bold (bnew _ _)
  have e2 : ((w.alloc (.cells #[.slice a l.length c] 23)).alloc (.cells #[fv vf bs] 98)).heap[w.heap.size + 1]? = some (.cells #[fv vf bs] 98 (0, 0)) := by have h := bnew (w.alloc (.cells #[.slice a l.length c] 23)) (.cells #[fv vf bs] 98); simpa using h
  have hB2 := btrans hB hb
  refine (each86_any (J := fun _ w' => Below w2.heap.size w2 w') (Je := fun w' => Below w2.heap.size w2 w') (p := fun k => (l[k]?.map p).getD true) (b0 := w2.heap.size) (n := l.length) rfl hl.1 (hl.on hB2) (Nat.le_refl _) (box1 (bon e1 hb)) (box1 (bon e2 hb)) (blt (bon e2 hb)) (Below.refl _ _) (fun _ _ h => h) (fun _ _ _ h k => btrans h k)
    (fun _ w' h => ⟨h.size, fun B hB => h.block B hB, h.block _ (blt (bon e2 hb))⟩) hcf (fun k x w' hJ hx => ?_) (if l.all p then 0 else 1) (fun h => ?_) (fun k hk hp => ?_)).mono fun e w3 ⟨h1, h2⟩ => ⟨h1, Or.inl h2⟩
  · refine (hcall x w' (btrans hB2 hJ) (List.mem_of_getElem? hx)).mono ?_
    rintro e w3 ⟨rfl, hb3⟩
    simp only [hx, Option.map_some, Option.getD_some]
    exact ⟨trivial, fun _ => btrans hJ hb3, btrans hJ hb3⟩
  · rw [if_pos]
    refine List.all_eq_true.2 fun x hx => ?_
    obtain ⟨j, hj⟩ := List.getElem?_of_mem hx
    have := h j (List.getElem?_eq_some_iff.1 hj).1
    simpa [hj] using this
  · rw [if_neg]
    intro hall
    have hx : l[k]? = some l[k] := List.getElem?_eq_getElem hk
    rw [hx] at hp
    simp only [Option.map_some, Option.getD_some] at hp
    rw [List.all_eq_true.1 hall _ (List.getElem_mem hk)] at hp
    cases hp
theorem each43_ck {w : World} {a : Option Addr} {c vf : Nat} {bs : Array Value} {l : List Sw} (p : Sw → Bool) (b0 : Nat) (hl : Ss (fun k => k < w.heap.size) w (.slice a l.length c) l)
    (hcf : ∀ x w', Sem.run Try.prog (callFunc vf (#[x] ++ bs)) w' = .ok (.enter vf (#[x] ++ bs)) w')
    (hcall : ∀ x w', Below w.heap.size w w' → x ∈ l → Calls Try.prog vf (#[.agg x.cs.toArray] ++ bs) w' fun e w2 => e = .returned (.bool (p x)) ∧ Below w'.heap.size w' w2) :
    Calls Try.prog 43 #[.slice a l.length c, .func (.func vf) #[] bs] w fun e w' => ∃ bs', e = .returned (.func (.func 87) #[] bs') ∧ Below w.heap.size w w' ∧ ∀ last, Ck w' b0 last 87 bs' (if l.all p then 0 else 1) := by
  refine (each43_any a l.length c vf bs w).mono ?_
  rintro e w' ⟨rfl, rfl⟩
  have hB : Below w.heap.size w ((w.alloc (.cells #[.slice a l.length c] 24)).alloc (.cells #[fv vf bs] 101)) := ball (ball (Below.refl _ _) _) _
  refine ⟨_, rfl, hB, fun last => ⟨cf87 _, fun w2 hb => ?_⟩⟩
  have e1 : ((w.alloc (.cells #[.slice a l.length c] 24)).alloc (.cells #[fv vf bs] 101)).heap[w.heap.size]? = some (.cells #[.slice a l.length c] 24 (0, 0)) := bold (bnew _ _)
  have e2 : ((w.alloc (.cells #[.slice a l.length c] 24)).alloc (.cells #[fv vf bs] 101)).heap[w.heap.size + 1]? = some (.cells #[fv vf bs] 101 (0, 0)) := by have h := bnew (w.alloc (.cells #[.slice a l.length c] 24)) (.cells #[fv vf bs] 101); simpa using h
  have hB2 := btrans hB hb
  refine (each87_any (J := fun _ w' => Below w2.heap.size w2 w') (Je := fun w' => Below w2.heap.size w2 w') (p := fun k => (l[k]?.map p).getD true) (b0 := w2.heap.size) (n := l.length) rfl hl.1 (hl.on hB2) (Nat.le_refl _) (box1 (bon e1 hb)) (box1 (bon e2 hb)) (blt (bon e2 hb)) (Below.refl _ _) (fun _ _ h => h) (fun _ _ _ h k => btrans h k)
    (fun _ w' h => ⟨h.size, fun B hB => h.block B hB, h.block _ (blt (bon e2 hb))⟩) hcf (fun k x w' hJ hx => ?_) (if l.all p then 0 else 1) (fun h => ?_) (fun k hk hp => ?_)).mono fun e w3 ⟨h1, h2⟩ => ⟨h1, Or.inl h2⟩
  · refine (hcall x w' (btrans hB2 hJ) (List.mem_of_getElem? hx)).mono ?_
    rintro e w3 ⟨rfl, hb3⟩
    simp only [hx, Option.map_some, Option.getD_some]
    exact ⟨trivial, fun _ => btrans hJ hb3, btrans hJ hb3⟩
  · rw [if_pos]
    refine List.all_eq_true.2 fun x hx => ?_
    obtain ⟨j, hj⟩ := List.getElem?_of_mem hx
    have := h j (List.getElem?_eq_some_iff.1 hj).1
    simpa [hj] using this
  · rw [if_neg]
    intro hall
    have hx : l[k]? = some l[k] := List.getElem?_eq_getElem hk
    rw [hx] at hp
    simp only [Option.map_some, Option.getD_some] at hp
    rw [List.all_eq_true.1 hall _ (List.getElem_mem hk)] at hp
    cases hp
/-- Whether all washes are valid, where the pairs S are known. -/
def hgo (S : Nat → Nat → Bool) : List Wh → Bool
  | [] => true
  | x :: l => (hOk x && !inS S x) && hgo (addS S x.fr.toNat x.tt.toNat) l
/-- The pairs known behind k washes. -/
def kS (S : Nat → Nat → Bool) : List Wh → Nat → Nat → Nat → Bool
  | _, 0 => S
  | [], _ + 1 => S
  | x :: l, k + 1 => kS (addS S x.fr.toNat x.tt.toNat) l k
theorem kS_succ : ∀ {l : List Wh} {k : Nat} {S : Nat → Nat → Bool} {x : Wh}, l[k]? = some x → kS S l (k + 1) = addS (kS S l k) x.fr.toNat x.tt.toNat
  | [], k, S, x, h => by simp at h
  | y :: l, 0, S, x, h => by
    simp only [List.getElem?_cons_zero, Option.some.injEq] at h
    subst h
    show kS (addS S y.fr.toNat y.tt.toNat) l 0 = _
    cases l <;> rfl
  | y :: l, k + 1, S, x, h => by
    show kS (addS S y.fr.toNat y.tt.toNat) l (k + 1) = addS (kS (addS S y.fr.toNat y.tt.toNat) l k) x.fr.toNat x.tt.toNat
    exact kS_succ (by simpa using h)
theorem hgo_iff : ∀ {l : List Wh} {S : Nat → Nat → Bool}, hgo S l = true ↔ ∀ k x, l[k]? = some x → (hOk x && !inS (kS S l k) x) = true
  | [], S => by simp [hgo]
  | y :: l, S => by
    unfold hgo
    rw [Bool.and_eq_true, hgo_iff]
    constructor
    · rintro ⟨h1, h2⟩ k x hx
      match k, hx with
      | 0, hx =>
        simp only [List.getElem?_cons_zero, Option.some.injEq] at hx
        subst hx
        exact h1
      | k + 1, hx => exact h2 k x (by simpa using hx)
    · intro h
      exact ⟨h 0 y rfl, fun k x hx => h (k + 1) x (by simpa using hx)⟩
theorem cf89 (x : Value) (bs : Array Value) (w : World) : Sem.run Try.prog (callFunc 89 (#[x] ++ bs)) w = .ok (.enter 89 (#[x] ++ bs)) w := by kernel_rfl
theorem each46_ck {w : World} {a : Option Addr} {c KB b0 : Nat} {l : List Wh} (hl : Hs (fun k => k < b0) w (.slice a l.length c) l) (hb0 : b0 ≤ KB) (hK : Kn w KB (fun _ _ => false)) :
    Calls Try.prog 46 #[.slice a l.length c, .func (.func 89) #[] #[.pointer (some ⟨KB, 0, none⟩)]] w fun e w' => ∃ bs', e = .returned (.func (.func 88) #[] bs') ∧ Below w.heap.size w w' ∧ Ck w' b0 true 88 bs' (if hgo (fun _ _ => false) l then 0 else 1) := by
  refine (each46_any a l.length c 89 #[.pointer (some ⟨KB, 0, none⟩)] w).mono ?_
  rintro e w' ⟨rfl, rfl⟩
  have hkl : KB < w.heap.size := by obtain ⟨arr, h, _⟩ := hK; exact blt h
  have hB : Below w.heap.size w ((w.alloc (.cells #[.slice a l.length c] 25)).alloc (.cells #[fv 89 #[.pointer (some ⟨KB, 0, none⟩)]] 103)) := ball (ball (Below.refl _ _) _) _
  refine ⟨_, rfl, hB, ⟨cf88 _, fun w2 hb => ?_⟩⟩
  have e1 : ((w.alloc (.cells #[.slice a l.length c] 25)).alloc (.cells #[fv 89 #[.pointer (some ⟨KB, 0, none⟩)]] 103)).heap[w.heap.size]? = some (.cells #[.slice a l.length c] 25 (0, 0)) := bold (bnew _ _)
  have e2 : ((w.alloc (.cells #[.slice a l.length c] 25)).alloc (.cells #[fv 89 #[.pointer (some ⟨KB, 0, none⟩)]] 103)).heap[w.heap.size + 1]? = some (.cells #[fv 89 #[.pointer (some ⟨KB, 0, none⟩)]] 103 (0, 0)) := by have h := bnew (w.alloc (.cells #[.slice a l.length c] 25)) (.cells #[fv 89 #[.pointer (some ⟨KB, 0, none⟩)]] 103); simpa using h
  have hB2 := btrans hB hb
  have hsz := hB2.size
  have hv := blt (bon e2 hb)
  have hne : w.heap.size + 1 ≠ KB := by omega
  refine (each88_any (J := fun k w' => w2.grownBy w' (some KB) ∧ Kn w' KB (kS (fun _ _ => false) l k)) (Je := fun w' => w2.grownBy w' (some KB)) (p := fun k => (l[k]?.map fun x => hOk x && !inS (kS (fun _ _ => false) l k) x).getD true) (b0 := b0) (n := l.length) rfl hl.1
    (hl.kept (fun k hk => hB2.block k (by omega)) (fun k hk => hk)) (by omega) (box1 (bon e1 hb)) (box1 (bon e2 hb)) hv ⟨⟨rfl, rfl, rfl, Nat.le_refl _, fun _ _ _ => rfl⟩, by cases l <;> exact hK.on (hB2.block KB hkl)⟩ (fun _ _ h => h.1)
    (fun _ w1 w2 h k => ⟨⟨k.os.trans h.1.os, k.tape.trans h.1.tape, k.output.trans h.1.output, Nat.le_trans h.1.size k.size, fun i hi hne => (k.block i (Nat.lt_of_lt_of_le hi h.1.size)).trans (h.1.block i hi hne)⟩, h.2.on (k.block KB (by obtain ⟨arr, h, _⟩ := h.2; exact blt h))⟩)
    (fun _ w' h => ⟨h.1.size, fun B hB => h.1.block B (by omega) (fun e => by simp only [Option.some.injEq] at e; omega), h.1.block _ hv (fun e => by simp only [Option.some.injEq] at e; omega)⟩) (fun x w' => cf89 x _ w') (fun k x w' hJ hx => ?_) (if hgo (fun _ _ => false) l then 0 else 1) (fun h => ?_) (fun k hk hp => ?_)).mono fun e w3 ⟨h1, h2⟩ => ⟨h1, Or.inr ⟨rfl, ?_⟩⟩
  · refine (wash_any x w' hJ.2 _ rfl).mono ?_
    rintro e w3 ⟨rfl, hk3, hg3⟩
    have hg : w2.grownBy w3 (some KB) := ⟨hg3.os.trans hJ.1.os, hg3.tape.trans hJ.1.tape, hg3.output.trans hJ.1.output, Nat.le_trans hJ.1.size hg3.size, fun i hi hne => (hg3.block i (Nat.lt_of_lt_of_le hi hJ.1.size) hne).trans (hJ.1.block i hi hne)⟩
    simp only [hx, Option.map_some, Option.getD_some]
    refine ⟨trivial, fun ht => ⟨hg, ?_⟩, hg⟩
    rw [kS_succ hx]
    exact hk3 ht
  · rw [if_pos]
    refine hgo_iff.2 fun k x hx => ?_
    have := h k (List.getElem?_eq_some_iff.1 hx).1
    simpa [hx] using this
  · rw [if_neg]
    intro hall
    have hx : l[k]? = some l[k] := List.getElem?_eq_getElem hk
    rw [hx] at hp
    simp only [Option.map_some, Option.getD_some] at hp
    rw [hgo_iff.1 hall k _ hx] at hp
    cases hp
  · exact ⟨h2.os, h2.tape, h2.output, h2.size, fun i hi => h2.block i (by omega) (fun e => by simp only [Option.some.injEq] at e; omega)⟩
end Go.Proofs.Ytijdjbkmkopmnaa
