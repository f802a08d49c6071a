/-
  The checks of CheckPool as function values.
-/
import Derived.Test.YtijdjbkmkopmnaaHc
import Derived.Test.YtijdjbkmkopmnaaHd
import Derived.Test.YtijdjbkmkopmnaaHe
import Derived.Test.YtijdjbkmkopmnaaDb
import Derived.Test.YtijdjbkmkopmnaaNc
namespace Go.Proofs.Ytijdjbkmkopmnaa
open Go.RowKit
set_option linter.unusedVariables false
set_option linter.unusedSimpArgs false

set_option maxRecDepth 100000 in
theorem each54_ck {w : World} {a : Option Addr} {c vf : Nat} {bs : Array Value} {l : List RwC} (p : RwC → Bool) (b0 : Nat) (hl : RwS (fun k => k < w.heap.size) w (.slice a l.length c) l)
    (hcf : ∀ x w', Sem.run Try.prog (callFunc vf (#[x] ++ bs)) w' = .ok (.enter vf (#[x] ++ bs)) w')
    (hcall : ∀ x w', Below w.heap.size w w' → x ∈ l → Calls Try.prog vf (#[.agg x.cs.toArray] ++ bs) w' fun e w2 => e = .returned (.bool (p x)) ∧ Below w'.heap.size w' w2) :
    Calls Try.prog 54 #[.slice a l.length c, .func (.func vf) #[] bs] w fun e w' => ∃ bs', e = .returned (.func (.func 90) #[] bs') ∧ Below w.heap.size w w' ∧ ∀ last, Ck w' b0 last 90 bs' (if l.all p then 0 else 1) := by
  refine (each54_any a l.length c vf bs w).mono ?_
  rintro e w' ⟨rfl, rfl⟩
  have hB : Below w.heap.size w ((w.alloc (.cells #[.slice a l.length c] 47)).alloc (.cells #[fv vf bs] 108)) := ball (ball (Below.refl _ _) _) _
  refine ⟨_, rfl, hB, fun last => ⟨cf90 _, fun w2 hb => ?_⟩⟩
  have e1 : ((w.alloc (.cells #[.slice a l.length c] 47)).alloc (.cells #[fv vf bs] 108)).heap[w.heap.size]? = some (.cells #[.slice a l.length c] 47 (0, 0)) := bold (bnew _ _)
  have e2 : ((w.alloc (.cells #[.slice a l.length c] 47)).alloc (.cells #[fv vf bs] 108)).heap[w.heap.size + 1]? = some (.cells #[fv vf bs] 108 (0, 0)) := by have h := bnew (w.alloc (.cells #[.slice a l.length c] 47)) (.cells #[fv vf bs] 108); simpa using h
  have hB2 := btrans hB hb
  refine (each90_any (J := fun _ w' => Below w2.heap.size w2 w') (Je := fun w' => Below w2.heap.size w2 w') (p := fun k => (l[k]?.map p).getD true) (b0 := w2.heap.size) (n := l.length) rfl hl.1 (hl.on hB2) (Nat.le_refl _) (box1 (bon e1 hb)) (box1 (bon e2 hb)) (blt (bon e2 hb)) (Below.refl _ _) (fun _ _ h => h) (fun _ _ _ h k => btrans h k)
    (fun _ w' h => ⟨h.size, fun B hB => h.block B hB, h.block _ (blt (bon e2 hb))⟩) hcf (fun k x w' hJ hx => ?_) (if l.all p then 0 else 1) (fun h => ?_) (fun k hk hp => ?_)).mono fun e w3 ⟨h1, h2⟩ => ⟨h1, Or.inl h2⟩
  · refine (hcall x w' (btrans hB2 hJ) (List.mem_of_getElem? hx)).mono ?_
    rintro e w3 ⟨rfl, hb3⟩
    simp only [hx, Option.map_some, Option.getD_some]
    exact ⟨trivial, fun _ => btrans hJ hb3, btrans hJ hb3⟩
  · rw [if_pos]
    refine List.all_eq_true.2 fun x hx => ?_
    obtain ⟨j, hj⟩ := List.getElem?_of_mem hx
    have := h j (List.getElem?_eq_some_iff.1 hj).1
    simpa [hj] using this
  · rw [if_neg]
    intro hall
    have hx : l[k]? = some l[k] := List.getElem?_eq_getElem hk
    rw [hx] at hp
    simp only [Option.map_some, Option.getD_some] at hp
    rw [List.all_eq_true.1 hall _ (List.getElem_mem hk)] at hp
    cases hp
set_option maxRecDepth 100000 in
theorem each56_ck {w : World} {a : Option Addr} {c vf : Nat} {bs : Array Value} {l : List RdC} (p : RdC → Bool) (b0 : Nat) (hl : RdS (fun k => k < w.heap.size) w (.slice a l.length c) l)
    (hcf : ∀ x w', Sem.run Try.prog (callFunc vf (#[x] ++ bs)) w' = .ok (.enter vf (#[x] ++ bs)) w')
    (hcall : ∀ x w', Below w.heap.size w w' → x ∈ l → Calls Try.prog vf (#[.agg x.cs.toArray] ++ bs) w' fun e w2 => e = .returned (.bool (p x)) ∧ Below w'.heap.size w' w2) :
    Calls Try.prog 56 #[.slice a l.length c, .func (.func vf) #[] bs] w fun e w' => ∃ bs', e = .returned (.func (.func 91) #[] bs') ∧ Below w.heap.size w w' ∧ ∀ last, Ck w' b0 last 91 bs' (if l.all p then 0 else 1) := by
  refine (each56_any a l.length c vf bs w).mono ?_
  rintro e w' ⟨rfl, rfl⟩
  have hB : Below w.heap.size w ((w.alloc (.cells #[.slice a l.length c] 45)).alloc (.cells #[fv vf bs] 111)) := ball (ball (Below.refl _ _) _) _
  refine ⟨_, rfl, hB, fun last => ⟨cf91 _, fun w2 hb => ?_⟩⟩
  have e1 : ((w.alloc (.cells #[.slice a l.length c] 45)).alloc (.cells #[fv vf bs] 111)).heap[w.heap.size]? = some (.cells #[.slice a l.length c] 45 (0, 0)) := bold (bnew _ _)
  have e2 : ((w.alloc (.cells #[.slice a l.length c] 45)).alloc (.cells #[fv vf bs] 111)).heap[w.heap.size + 1]? = some (.cells #[fv vf bs] 111 (0, 0)) := by have h := bnew (w.alloc (.cells #[.slice a l.length c] 45)) (.cells #[fv vf bs] 111); simpa using h
  have hB2 := btrans hB hb
  refine (each91_any (J := fun _ w' => Below w2.heap.size w2 w') (Je := fun w' => Below w2.heap.size w2 w') (p := fun k => (l[k]?.map p).getD true) (b0 := w2.heap.size) (n := l.length) rfl hl.1 (hl.on hB2) (Nat.le_refl _) (box1 (bon e1 hb)) (box1 (bon e2 hb)) (blt (bon e2 hb)) (Below.refl _ _) (fun _ _ h => h) (fun _ _ _ h k => btrans h k)
    (fun _ w' h => ⟨h.size, fun B hB => h.block B hB, h.block _ (blt (bon e2 hb))⟩) hcf (fun k x w' hJ hx => ?_) (if l.all p then 0 else 1) (fun h => ?_) (fun k hk hp => ?_)).mono fun e w3 ⟨h1, h2⟩ => ⟨h1, Or.inl h2⟩
  · refine (hcall x w' (btrans hB2 hJ) (List.mem_of_getElem? hx)).mono ?_
    rintro e w3 ⟨rfl, hb3⟩
    simp only [hx, Option.map_some, Option.getD_some]
    exact ⟨trivial, fun _ => btrans hJ hb3, btrans hJ hb3⟩
  · rw [if_pos]
    refine List.all_eq_true.2 fun x hx => ?_
    obtain ⟨j, hj⟩ := List.getElem?_of_mem hx
    have := h j (List.getElem?_eq_some_iff.1 hj).1
    simpa [hj] using this
  · rw [if_neg]
    intro hall
    have hx : l[k]? = some l[k] := List.getElem?_eq_getElem hk
    rw [hx] at hp
    simp only [Option.map_some, Option.getD_some] at hp
    rw [List.all_eq_true.1 hall _ (List.getElem_mem hk)] at hp
    cases hp
set_option maxRecDepth 100000 in
theorem each59_ck {w : World} {a : Option Addr} {c vf : Nat} {bs : Array Value} {l : List ShC} (p : ShC → Bool) (b0 : Nat) (hl : ShS (fun k => k < w.heap.size) w (.slice a l.length c) l)
    (hcf : ∀ x w', Sem.run Try.prog (callFunc vf (#[x] ++ bs)) w' = .ok (.enter vf (#[x] ++ bs)) w')
    (hcall : ∀ x w', Below w.heap.size w w' → x ∈ l → Calls Try.prog vf (#[.agg x.cs.toArray] ++ bs) w' fun e w2 => e = .returned (.bool (p x)) ∧ Below w'.heap.size w' w2) :
    Calls Try.prog 59 #[.slice a l.length c, .func (.func vf) #[] bs] w fun e w' => ∃ bs', e = .returned (.func (.func 92) #[] bs') ∧ Below w.heap.size w w' ∧ ∀ last, Ck w' b0 last 92 bs' (if l.all p then 0 else 1) := by
  refine (each59_any a l.length c vf bs w).mono ?_
  rintro e w' ⟨rfl, rfl⟩
  have hB : Below w.heap.size w ((w.alloc (.cells #[.slice a l.length c] 46)).alloc (.cells #[fv vf bs] 114)) := ball (ball (Below.refl _ _) _) _
  refine ⟨_, rfl, hB, fun last => ⟨cf92 _, fun w2 hb => ?_⟩⟩
  have e1 : ((w.alloc (.cells #[.slice a l.length c] 46)).alloc (.cells #[fv vf bs] 114)).heap[w.heap.size]? = some (.cells #[.slice a l.length c] 46 (0, 0)) := bold (bnew _ _)
  have e2 : ((w.alloc (.cells #[.slice a l.length c] 46)).alloc (.cells #[fv vf bs] 114)).heap[w.heap.size + 1]? = some (.cells #[fv vf bs] 114 (0, 0)) := by have h := bnew (w.alloc (.cells #[.slice a l.length c] 46)) (.cells #[fv vf bs] 114); simpa using h
  have hB2 := btrans hB hb
  refine (each92_any (J := fun _ w' => Below w2.heap.size w2 w') (Je := fun w' => Below w2.heap.size w2 w') (p := fun k => (l[k]?.map p).getD true) (b0 := w2.heap.size) (n := l.length) rfl hl.1 (hl.on hB2) (Nat.le_refl _) (box1 (bon e1 hb)) (box1 (bon e2 hb)) (blt (bon e2 hb)) (Below.refl _ _) (fun _ _ h => h) (fun _ _ _ h k => btrans h k)
    (fun _ w' h => ⟨h.size, fun B hB => h.block B hB, h.block _ (blt (bon e2 hb))⟩) hcf (fun k x w' hJ hx => ?_) (if l.all p then 0 else 1) (fun h => ?_) (fun k hk hp => ?_)).mono fun e w3 ⟨h1, h2⟩ => ⟨h1, Or.inl h2⟩
  · refine (hcall x w' (btrans hB2 hJ) (List.mem_of_getElem? hx)).mono ?_
    rintro e w3 ⟨rfl, hb3⟩
    simp only [hx, Option.map_some, Option.getD_some]
    exact ⟨trivial, fun _ => btrans hJ hb3, btrans hJ hb3⟩
  · rw [if_pos]
    refine List.all_eq_true.2 fun x hx => ?_
    obtain ⟨j, hj⟩ := List.getElem?_of_mem hx
    have := h j (List.getElem?_eq_some_iff.1 hj).1
    simpa [hj] using this
  · rw [if_neg]
    intro hall
    have hx : l[k]? = some l[k] := List.getElem?_eq_getElem hk
    rw [hx] at hp
    simp only [Option.map_some, Option.getD_some] at hp
    rw [List.all_eq_true.1 hall _ (List.getElem_mem hk)] at hp
    cases hp
set_option maxRecDepth 100000 in
theorem each64_ck {w : World} {a : Option Addr} {c vf : Nat} {bs : Array Value} {l : List PlC} (p : PlC → Bool) (b0 : Nat) (hl : PlS (fun k => k < w.heap.size) w (.slice a l.length c) l)
    (hcf : ∀ x w', Sem.run Try.prog (callFunc vf (#[x] ++ bs)) w' = .ok (.enter vf (#[x] ++ bs)) w')
    (hcall : ∀ x w', Below w.heap.size w w' → x ∈ l → Calls Try.prog vf (#[.agg x.cs.toArray] ++ bs) w' fun e w2 => e = .returned (.bool (p x)) ∧ Below w'.heap.size w' w2) :
    Calls Try.prog 64 #[.slice a l.length c, .func (.func vf) #[] bs] w fun e w' => ∃ bs', e = .returned (.func (.func 93) #[] bs') ∧ Below w.heap.size w w' ∧ ∀ last, Ck w' b0 last 93 bs' (if l.all p then 0 else 1) := by
  refine (each64_any a l.length c vf bs w).mono ?_
  rintro e w' ⟨rfl, rfl⟩
  have hB : Below w.heap.size w ((w.alloc (.cells #[.slice a l.length c] 41)).alloc (.cells #[fv vf bs] 117)) := ball (ball (Below.refl _ _) _) _
  refine ⟨_, rfl, hB, fun last => ⟨cf93 _, fun w2 hb => ?_⟩⟩
  have e1 : ((w.alloc (.cells #[.slice a l.length c] 41)).alloc (.cells #[fv vf bs] 117)).heap[w.heap.size]? = some (.cells #[.slice a l.length c] 41 (0, 0)) := bold (bnew _ _)
  have e2 : ((w.alloc (.cells #[.slice a l.length c] 41)).alloc (.cells #[fv vf bs] 117)).heap[w.heap.size + 1]? = some (.cells #[fv vf bs] 117 (0, 0)) := by have h := bnew (w.alloc (.cells #[.slice a l.length c] 41)) (.cells #[fv vf bs] 117); simpa using h
  have hB2 := btrans hB hb
  refine (each93_any (J := fun _ w' => Below w2.heap.size w2 w') (Je := fun w' => Below w2.heap.size w2 w') (p := fun k => (l[k]?.map p).getD true) (b0 := w2.heap.size) (n := l.length) rfl hl.1 (hl.on hB2) (Nat.le_refl _) (box1 (bon e1 hb)) (box1 (bon e2 hb)) (blt (bon e2 hb)) (Below.refl _ _) (fun _ _ h => h) (fun _ _ _ h k => btrans h k)
    (fun _ w' h => ⟨h.size, fun B hB => h.block B hB, h.block _ (blt (bon e2 hb))⟩) hcf (fun k x w' hJ hx => ?_) (if l.all p then 0 else 1) (fun h => ?_) (fun k hk hp => ?_)).mono fun e w3 ⟨h1, h2⟩ => ⟨h1, Or.inl h2⟩
  · refine (hcall x w' (btrans hB2 hJ) (List.mem_of_getElem? hx)).mono ?_
    rintro e w3 ⟨rfl, hb3⟩
    simp only [hx, Option.map_some, Option.getD_some]
    exact ⟨trivial, fun _ => btrans hJ hb3, btrans hJ hb3⟩
  · rw [if_pos]
    refine List.all_eq_true.2 fun x hx => ?_
    obtain ⟨j, hj⟩ := List.getElem?_of_mem hx
    have := h j (List.getElem?_eq_some_iff.1 hj).1
    simpa [hj] using this
  · rw [if_neg]
    intro hall
    have hx : l[k]? = some l[k] := List.getElem?_eq_getElem hk
    rw [hx] at hp
    simp only [Option.map_some, Option.getD_some] at hp
    rw [List.all_eq_true.1 hall _ (List.getElem_mem hk)] at hp
    cases hp
set_option maxRecDepth 100000 in
theorem each67_ck {w : World} {a : Option Addr} {c vf : Nat} {bs : Array Value} {l : List EdC} (p : EdC → Bool) (b0 : Nat) (hl : EdS (fun k => k < w.heap.size) w (.slice a l.length c) l)
    (hcf : ∀ x w', Sem.run Try.prog (callFunc vf (#[x] ++ bs)) w' = .ok (.enter vf (#[x] ++ bs)) w')
    (hcall : ∀ x w', Below w.heap.size w w' → x ∈ l → Calls Try.prog vf (#[.agg x.cs.toArray] ++ bs) w' fun e w2 => e = .returned (.bool (p x)) ∧ Below w'.heap.size w' w2) :
    Calls Try.prog 67 #[.slice a l.length c, .func (.func vf) #[] bs] w fun e w' => ∃ bs', e = .returned (.func (.func 94) #[] bs') ∧ Below w.heap.size w w' ∧ ∀ last, Ck w' b0 last 94 bs' (if l.all p then 0 else 1) := by
  refine (each67_any a l.length c vf bs w).mono ?_
  rintro e w' ⟨rfl, rfl⟩
  have hB : Below w.heap.size w ((w.alloc (.cells #[.slice a l.length c] 42)).alloc (.cells #[fv vf bs] 121)) := ball (ball (Below.refl _ _) _) _
  refine ⟨_, rfl, hB, fun last => ⟨cf94 _, fun w2 hb => ?_⟩⟩
  have e1 : ((w.alloc (.cells #[.slice a l.length c] 42)).alloc (.cells #[fv vf bs] 121)).heap[w.heap.size]? = some (.cells #[.slice a l.length c] 42 (0, 0)) := bold (bnew _ _)
  have e2 : ((w.alloc (.cells #[.slice a l.length c] 42)).alloc (.cells #[fv vf bs] 121)).heap[w.heap.size + 1]? = some (.cells #[fv vf bs] 121 (0, 0)) := by have h := bnew (w.alloc (.cells #[.slice a l.length c] 42)) (.cells #[fv vf bs] 121); simpa using h
  have hB2 := btrans hB hb
  refine (each94_any (J := fun _ w' => Below w2.heap.size w2 w') (Je := fun w' => Below w2.heap.size w2 w') (p := fun k => (l[k]?.map p).getD true) (b0 := w2.heap.size) (n := l.length) rfl hl.1 (hl.on hB2) (Nat.le_refl _) (box1 (bon e1 hb)) (box1 (bon e2 hb)) (blt (bon e2 hb)) (Below.refl _ _) (fun _ _ h => h) (fun _ _ _ h k => btrans h k)
    (fun _ w' h => ⟨h.size, fun B hB => h.block B hB, h.block _ (blt (bon e2 hb))⟩) hcf (fun k x w' hJ hx => ?_) (if l.all p then 0 else 1) (fun h => ?_) (fun k hk hp => ?_)).mono fun e w3 ⟨h1, h2⟩ => ⟨h1, Or.inl h2⟩
  · refine (hcall x w' (btrans hB2 hJ) (List.mem_of_getElem? hx)).mono ?_
    rintro e w3 ⟨rfl, hb3⟩
    simp only [hx, Option.map_some, Option.getD_some]
    exact ⟨trivial, fun _ => btrans hJ hb3, btrans hJ hb3⟩
  · rw [if_pos]
    refine List.all_eq_true.2 fun x hx => ?_
    obtain ⟨j, hj⟩ := List.getElem?_of_mem hx
    have := h j (List.getElem?_eq_some_iff.1 hj).1
    simpa [hj] using this
  · rw [if_neg]
    intro hall
    have hx : l[k]? = some l[k] := List.getElem?_eq_getElem hk
    rw [hx] at hp
    simp only [Option.map_some, Option.getD_some] at hp
    rw [List.all_eq_true.1 hall _ (List.getElem_mem hk)] at hp
    cases hp
theorem cf55 (x : Value) (bs : Array Value) (w : World) : Sem.run Try.prog (callFunc 55 (#[x] ++ bs)) w = .ok (.enter 55 (#[x] ++ bs)) w := by kernel_rfl
theorem cf57 (x : Value) (bs : Array Value) (w : World) : Sem.run Try.prog (callFunc 57 (#[x] ++ bs)) w = .ok (.enter 57 (#[x] ++ bs)) w := by kernel_rfl
theorem cf60 (x : Value) (bs : Array Value) (w : World) : Sem.run Try.prog (callFunc 60 (#[x] ++ bs)) w = .ok (.enter 60 (#[x] ++ bs)) w := by kernel_rfl
theorem cf62 (x : Value) (bs : Array Value) (w : World) : Sem.run Try.prog (callFunc 62 (#[x] ++ bs)) w = .ok (.enter 62 (#[x] ++ bs)) w := by kernel_rfl
theorem cf65 (x : Value) (bs : Array Value) (w : World) : Sem.run Try.prog (callFunc 65 (#[x] ++ bs)) w = .ok (.enter 65 (#[x] ++ bs)) w := by kernel_rfl
theorem cf68 (x : Value) (bs : Array Value) (w : World) : Sem.run Try.prog (callFunc 68 (#[x] ++ bs)) w = .ok (.enter 68 (#[x] ++ bs)) w := by kernel_rfl
theorem cf52 (bs : Array Value) (w : World) : Sem.run Try.prog (callFunc 52 bs) w = .ok (.enter 52 bs) w := by kernel_rfl
theorem cf53 (bs : Array Value) (w : World) : Sem.run Try.prog (callFunc 53 bs) w = .ok (.enter 53 bs) w := by kernel_rfl
/-- What CheckPool returns. -/
def ckp (P : Pool) : Int :=
  fst0 [Net.chk (P.ps.map PlC.p) (P.es.map EdC.e), chk P.ts P.ws P.ss P.hs, if decide ((P.rs.length : Int) ≤ 256) then 0 else 2, if decide ((P.sh.length : Int) ≤ 256) then 0 else 2, if decide ((P.rl.length : Int) ≤ 16) then 0 else 2, if decide ((P.rl.length : Int) > 0) then 0 else 1,
    if P.rl.all rwOk then 0 else 1, if P.rs.all (rdOk P.ps.length) then 0 else 1, if P.sh.all (shOk P.ps) then 0 else 1, if P.ws.all (fun x => rng 0 x.ho ((P.ps.length : Int) - 1)) then 0 else 1, if P.ps.all (plOk P.rl.length) then 0 else 1, if P.es.all (fun x => rng 0 x.r ((P.rl.length : Int) - 1)) then 0 else 1]
section
variable {w : World} {a0 a1 a2 a3 a4 a5 a6 a7 a8 : Option Addr} {n0 c0 n1 c1 n2 c2 n3 c3 n4 c4 n5 c5 n6 c6 n7 c7 n8 c8 : Nat} {Bf : Nat}
theorem ck54 (b0 : Nat) {l : List RwC} (hk : n8 = l.length) (hhl : ∀ x ∈ l, Kal.Hl (fun k => k < w.heap.size) w (.slice x.ha x.hol.length x.hc) x.hol) (hl : RwS (fun k => k < w.heap.size) w (.slice a8 n8 c8) l) : Calls Try.prog 54 #[.slice a8 n8 c8, .func (.func 55) #[] #[]] w fun e w' => ∃ bs', e = .returned (.func (.func 90) #[] bs') ∧ Below w.heap.size w w' ∧ ∀ last, Ck w' b0 last 90 bs' (if l.all rwOk then 0 else 1) := by
  subst hk
  exact each54_ck rwOk b0 hl (fun x w' => cf55 x _ w') (fun x w' hb hx => railway_any x (hl.2.1 x hx) w' (hl_on (hhl x hx) hb) _ rfl)
theorem ck56 (b0 : Nat) {l : List RdC} (hk : n6 = l.length) (hbox : w.heap[Bf]? = some (.cells #[.slice a0 n0 c0, .slice a1 n1 c1, .slice a2 n2 c2, .slice a3 n3 c3, .slice a4 n4 c4, .slice a5 n5 c5, .slice a6 n6 c6, .slice a7 n7 c7, .slice a8 n8 c8] 49 (0, 0))) (hn : n0 ≤ 70368744177664) (hl : RdS (fun k => k < w.heap.size) w (.slice a6 n6 c6) l) : Calls Try.prog 56 #[.slice a6 n6 c6, .func (.func 57) #[] #[.pointer (some ⟨Bf, 0, none⟩)]] w fun e w' => ∃ bs', e = .returned (.func (.func 91) #[] bs') ∧ Below w.heap.size w w' ∧ ∀ last, Ck w' b0 last 91 bs' (if l.all (rdOk n0) then 0 else 1) := by
  subst hk
  exact each56_ck (rdOk n0) b0 hl (fun x w' => cf57 x _ w') (fun x w' hb hx => cl57_any x Bf w' (bon hbox hb) hn _ rfl)
theorem ck59 (b0 : Nat) {l : List ShC} (hk : n7 = l.length) (hbox : w.heap[Bf]? = some (.cells #[.slice a0 n0 c0, .slice a1 n1 c1, .slice a2 n2 c2, .slice a3 n3 c3, .slice a4 n4 c4, .slice a5 n5 c5, .slice a6 n6 c6, .slice a7 n7 c7, .slice a8 n8 c8] 49 (0, 0))) {ps : List PlC} (hn : n0 = ps.length) (hp : PlS (fun k => k < w.heap.size) w (.slice a0 n0 c0) ps) (hl : ShS (fun k => k < w.heap.size) w (.slice a7 n7 c7) l) : Calls Try.prog 59 #[.slice a7 n7 c7, .func (.func 60) #[] #[.pointer (some ⟨Bf, 0, none⟩)]] w fun e w' => ∃ bs', e = .returned (.func (.func 92) #[] bs') ∧ Below w.heap.size w w' ∧ ∀ last, Ck w' b0 last 92 bs' (if l.all (shOk ps) then 0 else 1) := by
  subst hk
  exact each59_ck (shOk ps) b0 hl (fun x w' => cf60 x _ w') (fun x w' hb hx => cl60_any x Bf w' (bon hbox hb) hn (hp.on hb) _ rfl)
theorem ck40w (b0 : Nat) {l : List Wn} (hk : n3 = l.length) (hbox : w.heap[Bf]? = some (.cells #[.slice a0 n0 c0, .slice a1 n1 c1, .slice a2 n2 c2, .slice a3 n3 c3, .slice a4 n4 c4, .slice a5 n5 c5, .slice a6 n6 c6, .slice a7 n7 c7, .slice a8 n8 c8] 49 (0, 0))) (hn : n0 ≤ 70368744177664) (hl : Ws (fun k => k < w.heap.size) w (.slice a3 n3 c3) l) : Calls Try.prog 40 #[.slice a3 n3 c3, .func (.func 62) #[] #[.pointer (some ⟨Bf, 0, none⟩)]] w fun e w' => ∃ bs', e = .returned (.func (.func 86) #[] bs') ∧ Below w.heap.size w w' ∧ ∀ last, Ck w' b0 last 86 bs' (if l.all (fun x => rng 0 x.ho ((n0 : Int) - 1)) then 0 else 1) := by
  subst hk
  exact each40_ck (fun x => rng 0 x.ho ((n0 : Int) - 1)) b0 hl (fun x w' => cf62 x _ w') (fun x w' hb hx => cl62_any x Bf w' (bon hbox hb) hn _ rfl)
theorem ck64 (b0 : Nat) {l : List PlC} (hk : n0 = l.length) (hbox : w.heap[Bf]? = some (.cells #[.slice a0 n0 c0, .slice a1 n1 c1, .slice a2 n2 c2, .slice a3 n3 c3, .slice a4 n4 c4, .slice a5 n5 c5, .slice a6 n6 c6, .slice a7 n7 c7, .slice a8 n8 c8] 49 (0, 0))) (hn : n8 ≤ 70368744177664) (hl : PlS (fun k => k < w.heap.size) w (.slice a0 n0 c0) l) : Calls Try.prog 64 #[.slice a0 n0 c0, .func (.func 65) #[] #[.pointer (some ⟨Bf, 0, none⟩)]] w fun e w' => ∃ bs', e = .returned (.func (.func 93) #[] bs') ∧ Below w.heap.size w w' ∧ ∀ last, Ck w' b0 last 93 bs' (if l.all (plOk n8) then 0 else 1) := by
  subst hk
  exact each64_ck (plOk n8) b0 hl (fun x w' => cf65 x _ w') (fun x w' hb hx => cl65_any x Bf w' (bon hbox hb) hn _ rfl)
theorem ck67 (b0 : Nat) {l : List EdC} (hk : n1 = l.length) (hbox : w.heap[Bf]? = some (.cells #[.slice a0 n0 c0, .slice a1 n1 c1, .slice a2 n2 c2, .slice a3 n3 c3, .slice a4 n4 c4, .slice a5 n5 c5, .slice a6 n6 c6, .slice a7 n7 c7, .slice a8 n8 c8] 49 (0, 0))) (hn : n8 ≤ 70368744177664) (hl : EdS (fun k => k < w.heap.size) w (.slice a1 n1 c1) l) : Calls Try.prog 67 #[.slice a1 n1 c1, .func (.func 68) #[] #[.pointer (some ⟨Bf, 0, none⟩)]] w fun e w' => ∃ bs', e = .returned (.func (.func 94) #[] bs') ∧ Below w.heap.size w w' ∧ ∀ last, Ck w' b0 last 94 bs' (if l.all (fun x => rng 0 x.r ((n8 : Int) - 1)) then 0 else 1) := by
  subst hk
  exact each67_ck (fun x => rng 0 x.r ((n8 : Int) - 1)) b0 hl (fun x w' => cf68 x _ w') (fun x w' hb hx => cl68_any x Bf w' (bon hbox hb) hn _ rfl)
theorem ck52 (b0 : Nat) {ps : List PlC} {es : List EdC} (h0 : n0 = ps.length) (h1 : n1 = es.length) (hbox : w.heap[Bf]? = some (.cells #[.slice a0 n0 c0, .slice a1 n1 c1, .slice a2 n2 c2, .slice a3 n3 c3, .slice a4 n4 c4, .slice a5 n5 c5, .slice a6 n6 c6, .slice a7 n7 c7, .slice a8 n8 c8] 49 (0, 0))) (hp : PlS (fun k => k < w.heap.size) w (.slice a0 n0 c0) ps) (he : EdS (fun k => k < w.heap.size) w (.slice a1 n1 c1) es) (last : Bool) (R : Int) (hR : R = Net.chk (ps.map PlC.p) (es.map EdC.e)) : Ck w b0 last 52 #[.pointer (some ⟨Bf, 0, none⟩)] R :=
  ⟨fun w' => cf52 _ w', fun w' hb => (cl52_any Bf w' (bon hbox hb) R (Net.check_any ⟨_, _, rfl, pls_net (hp.on hb), eds_net (he.on hb)⟩ R hR)).mono fun e w2 h => ⟨h.1, Or.inl h.2⟩⟩
theorem ck53 (b0 : Nat) {ts : List Ty} {ws : List Wn} {ss : List Sw} {hs : List Wh} (h2 : n2 = ts.length) (h3 : n3 = ws.length) (h4 : n4 = ss.length) (h5 : n5 = hs.length) (hbox : w.heap[Bf]? = some (.cells #[.slice a0 n0 c0, .slice a1 n1 c1, .slice a2 n2 c2, .slice a3 n3 c3, .slice a4 n4 c4, .slice a5 n5 c5, .slice a6 n6 c6, .slice a7 n7 c7, .slice a8 n8 c8] 49 (0, 0))) (ht : Ts (fun k => k < w.heap.size) w (.slice a2 n2 c2) ts) (hw : Ws (fun k => k < w.heap.size) w (.slice a3 n3 c3) ws) (hs' : Ss (fun k => k < w.heap.size) w (.slice a4 n4 c4) ss) (hh : Hs (fun k => k < w.heap.size) w (.slice a5 n5 c5) hs)
    (last : Bool) (R : Int) (hR : R = chk ts ws ss hs) : Ck w b0 last 53 #[.pointer (some ⟨Bf, 0, none⟩)] R :=
  ⟨fun w' => cf53 _ w', fun w' hb => (cl53_any Bf w' (bon hbox hb) R (check_any ⟨_, _, _, _, rfl, ht.on hb, hw.on hb, hs'.on hb, hh.on hb⟩ R hR)).mono fun e w2 h => ⟨h.1, Or.inl h.2⟩⟩
end
end Go.Proofs.Ytijdjbkmkopmnaa
