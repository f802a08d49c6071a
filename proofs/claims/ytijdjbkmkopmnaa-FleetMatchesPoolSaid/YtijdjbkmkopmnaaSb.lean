/-
  Walks: the example; what the laws ask first.
-/
import Derived.Test.YtijdjbkmkopmnaaSa
namespace Go.Proofs.Ytijdjbkmkopmnaa
open Go.RowKit
set_option linter.unusedVariables false
set_option linter.unusedSimpArgs false

def exT : List Ty := [⟨60000, 0, 0, 0, 0, 6, 100, 20⟩, ⟨50000, 0, 0, 0, 0, 0, 1, 0⟩, ⟨40000, 0, 0, 0, 0, 0, 1, 0⟩]
def exW : List Wn := [⟨0, 0, 0, 0, 1000000⟩]
def exE : List Tr := [⟨0, 1, 5⟩, ⟨1, 2, 7⟩, ⟨0, 2, 20⟩]
def exH : List Wh := [⟨1, 2, 90⟩]
def exTc : Array Value := #[.int .i64 60000, .int .i64 0, .int .i64 0, .int .i64 0, .int .i64 0, .int .u64 6, .int .i64 100, .int .i64 20, .int .i64 50000, .int .i64 0, .int .i64 0, .int .i64 0, .int .i64 0, .int .u64 0, .int .i64 1, .int .i64 0, .int .i64 40000, .int .i64 0, .int .i64 0, .int .i64 0, .int .i64 0, .int .u64 0, .int .i64 1, .int .i64 0]
def exWc : Array Value := #[.int .i64 0, .int .i64 0, .int .i64 0, .int .i64 0, .int .i64 1000000]
def exSc : Array Value := #[.int .i64 0, .int .i64 1, .int .i64 5, .int .i64 1, .int .i64 2, .int .i64 7, .int .i64 0, .int .i64 2, .int .i64 20]
def exHc : Array Value := #[.int .i64 1, .int .i64 2, .int .i64 90]
theorem ex_chk : chk exT exW (exE.map toSw) exH = 0 := by decide +kernel
/-- A slice over a whole block. -/
theorem sk_block {α : Type} {n : Nat} {f : α → List Value} {ok : α → Prop} {w : World} {g len : Nat} {t : TypeId} {cs : Array Value} {l : List α} (hg : w.heap[g]? = some (.cells cs t (0, 0))) (hcs : ∀ j x, l[j]? = some x → ∀ i v, (f x)[i]? = some v → cs[j * n + i]? = some v) (hl : len = l.length) (hlen : l.length ≤ 1000) (hI : ∀ x ∈ l, ok x) : Sk n f ok (fun k => k < w.heap.size) w (.slice (some ⟨g, 0, none⟩) len len) l := by
  subst hl
  refine ⟨by omega, hI, _, _, rfl, Nat.le_refl _, fun _ => ⟨g, 0, rfl, blt hg, fun j x hj i v hv => ?_⟩⟩
  rw [Nat.zero_add, cell_of_row w g _ cs t (0, 0) hg]
  exact hcs j x hj i v hv
theorem cells_fl {α : Type} {n : Nat} {f : α → List Value} (hn : ∀ x, (f x).length = n) : ∀ (l : List α) (j : Nat) (x : α), l[j]? = some x → ∀ i v, (f x)[i]? = some v → (l.flatMap f)[j * n + i]? = some v
  | [], j, x, h => by simp at h
  | y :: l, 0, x, h => by
    simp only [List.getElem?_cons_zero, Option.some.injEq] at h
    subst h
    intro i v hv
    rw [List.flatMap_cons, Nat.zero_mul, Nat.zero_add, List.getElem?_append_left (List.getElem?_eq_some_iff.1 hv).1]
    exact hv
  | y :: l, j + 1, x, h => by
    intro i v hv
    have := cells_fl hn l j x (by simpa using h) i v hv
    rw [List.flatMap_cons, List.getElem?_append_right (by rw [hn, Nat.add_mul]; omega), hn, show (j + 1) * n + i - n = j * n + i by rw [Nat.add_mul]; omega]
    exact this
theorem sk_lit {α : Type} {n : Nat} {f : α → List Value} {ok : α → Prop} {w : World} {g len : Nat} {t : TypeId} {cs : Array Value} {l : List α} (hn : ∀ x, (f x).length = n) (hg : w.heap[g]? = some (.cells cs t (0, 0))) (hcs : cs.toList = l.flatMap f) (hl : len = l.length) (hlen : l.length ≤ 1000) (hI : ∀ x ∈ l, ok x) : Sk n f ok (fun k => k < w.heap.size) w (.slice (some ⟨g, 0, none⟩) len len) l :=
  sk_block hg (fun j x hj i v hv => by rw [← Array.getElem?_toList, hcs]; exact cells_fl hn l j x hj i v hv) hl hlen hI
theorem ty_len (x : Ty) : x.cs.length = 8 := rfl
theorem wn_len (x : Wn) : x.cs.length = 5 := rfl
theorem sw_len (x : Sw) : x.cs.length = 3 := rfl
theorem wh_len (x : Wh) : x.cs.length = 3 := rfl
theorem ex_fl {w : World} {g1 g2 g3 g4 : Nat} (h1 : w.heap[g1]? = some (.cells exTc 68 (0, 0))) (h2 : w.heap[g2]? = some (.cells exWc 66 (0, 0))) (h3 : w.heap[g3]? = some (.cells exSc 62 (0, 0))) (h4 : w.heap[g4]? = some (.cells exHc 87 (0, 0))) :
    Fl w (.agg #[.slice (some ⟨g1, 0, none⟩) 3 3, .slice (some ⟨g2, 0, none⟩) 1 1, .slice (some ⟨g3, 0, none⟩) 3 3, .slice (some ⟨g4, 0, none⟩) 1 1]) exT exW (exE.map toSw) exH :=
  ⟨_, _, _, _, rfl, sk_lit ty_len h1 rfl rfl (by decide) (by
    intro x hx
    simp only [exT, List.mem_cons, List.not_mem_nil, or_false] at hx
    rcases hx with rfl | rfl | rfl <;> (unfold Ty.ok; simp only; omega)), sk_lit wn_len h2 rfl rfl (by decide) (fun _ _ => trivial), sk_lit sw_len h3 rfl rfl (by decide) (by
    intro x hx
    simp only [exE, toSw, List.map_cons, List.map_nil, List.mem_cons, List.not_mem_nil, or_false] at hx
    rcases hx with rfl | rfl | rfl <;> (unfold Sw.ok I64; simp only; omega)), sk_lit wh_len h4 rfl rfl (by decide) (fun _ _ => trivial)⟩
theorem size27 : (Try.prog.info? 27).map (·.size) = some 4 := by kernel_rfl

set_option maxRecDepth 100000 in
set_option maxHeartbeats 4000000 in
theorem example_any (w : World) : Calls Try.prog 28 #[] w fun e w' => ∃ g1 g2 g3 g4, e = .returned (.agg #[.slice (some ⟨g1, 0, none⟩) 3 3, .slice (some ⟨g2, 0, none⟩) 1 1, .slice (some ⟨g3, 0, none⟩) 3 3, .slice (some ⟨g4, 0, none⟩) 1 1]) ∧ Below w.heap.size w w' ∧ Fl w' (.agg #[.slice (some ⟨g1, 0, none⟩) 3 3, .slice (some ⟨g2, 0, none⟩) 1 1, .slice (some ⟨g3, 0, none⟩) 3 3, .slice (some ⟨g4, 0, none⟩) 1 1]) exT exW (exE.map toSw) exH := by
  go_enter Try.func28, Try.ntmps28
  go_wp2
  obtain ⟨u0, hu0⟩ : ∃ u0, u0 = w.alloc (.cells #[.slice (some ⟨w.heap.size + 1, 0, none⟩) 3 3, .slice (some ⟨w.heap.size + 1 + 1, 0, none⟩) 1 1, .slice (some ⟨w.heap.size + 1 + 1 + 1, 0, none⟩) 3 3, .slice (some ⟨w.heap.size + 1 + 1 + 1 + 1, 0, none⟩) 1 1] 27) := ⟨_, rfl⟩
  have s0 : u0.heap.size = w.heap.size + 1 := by rw [hu0]; simp
  obtain ⟨u1, hu1⟩ : ∃ u1, u1 = u0.alloc (.cells exTc 68) := ⟨_, rfl⟩
  have s1 : u1.heap.size = w.heap.size + 1 + 1 := by rw [hu1]; simp [s0]
  obtain ⟨u2, hu2⟩ : ∃ u2, u2 = u1.alloc (.cells exWc 66) := ⟨_, rfl⟩
  have s2 : u2.heap.size = w.heap.size + 1 + 1 + 1 := by rw [hu2]; simp [s1]
  obtain ⟨u3, hu3⟩ : ∃ u3, u3 = u2.alloc (.cells exSc 62) := ⟨_, rfl⟩
  have s3 : u3.heap.size = w.heap.size + 1 + 1 + 1 + 1 := by rw [hu3]; simp [s2]
  obtain ⟨u4, hu4⟩ : ∃ u4, u4 = u3.alloc (.cells exHc 87) := ⟨_, rfl⟩
  have h4 : u4.heap[w.heap.size + 1 + 1 + 1 + 1]? = some (.cells exHc 87 (0, 0)) := by rw [hu4, ← s3]; exact bnew _ _
  have h3 : u4.heap[w.heap.size + 1 + 1 + 1]? = some (.cells exSc 62 (0, 0)) := by rw [hu4]; refine bold ?_; rw [hu3, ← s2]; exact bnew _ _
  have h2 : u4.heap[w.heap.size + 1 + 1]? = some (.cells exWc 66 (0, 0)) := by rw [hu4]; refine bold ?_; rw [hu3]; refine bold ?_; rw [hu2, ← s1]; exact bnew _ _
  have h1 : u4.heap[w.heap.size + 1]? = some (.cells exTc 68 (0, 0)) := by rw [hu4]; refine bold ?_; rw [hu3]; refine bold ?_; rw [hu2]; refine bold ?_; rw [hu1, ← s0]; exact bnew _ _
  have h0 : u4.heap[w.heap.size]? = some (.cells #[.slice (some ⟨w.heap.size + 1, 0, none⟩) 3 3, .slice (some ⟨w.heap.size + 1 + 1, 0, none⟩) 1 1, .slice (some ⟨w.heap.size + 1 + 1 + 1, 0, none⟩) 3 3, .slice (some ⟨w.heap.size + 1 + 1 + 1 + 1, 0, none⟩) 1 1] 27 (0, 0)) := by rw [hu4]; refine bold ?_; rw [hu3]; refine bold ?_; rw [hu2]; refine bold ?_; rw [hu1]; refine bold ?_; rw [hu0]; exact bnew _ _
  have hb : Below w.heap.size w u4 := by rw [hu4, hu3, hu2, hu1, hu0]; exact ball (ball (ball (ball (ball (Below.refl _ _) _) _) _) _) _
  have he : u4 = ((((w.alloc (.cells #[.slice (some ⟨w.heap.size + 1, 0, none⟩) 3 3, .slice (some ⟨w.heap.size + 1 + 1, 0, none⟩) 1 1, .slice (some ⟨w.heap.size + 1 + 1 + 1, 0, none⟩) 3 3, .slice (some ⟨w.heap.size + 1 + 1 + 1 + 1, 0, none⟩) 1 1] 27)).alloc (.cells exTc 68)).alloc (.cells exWc 66)).alloc (.cells exSc 62)).alloc (.cells exHc 87) := by rw [hu4, hu3, hu2, hu1, hu0]
  unfold exTc exWc exSc exHc at he
  rw [← he]
  refine bodyPost_ret (results_cell_row (cs := #[.slice (some ⟨w.heap.size + 1, 0, none⟩) 3 3, .slice (some ⟨w.heap.size + 1 + 1, 0, none⟩) 1 1, .slice (some ⟨w.heap.size + 1 + 1 + 1, 0, none⟩) 3 3, .slice (some ⟨w.heap.size + 1 + 1 + 1 + 1, 0, none⟩) 1 1]) rfl _ _ w.heap.size 27 (0, 0) _ rfl h0 Try.underlying27 rfl size27) rfl ?_
  exact ⟨_, _, _, _, rfl, hb, ex_fl h1 h2 h3 h4⟩
/-- The least costs of the example. -/
def exL : List Nat := [0, 5, 12] ++ List.replicate 29 32000000000
theorem ex_least : Least exE 0 exL := by
  refine ⟨⟨rfl, rfl, fun t ht => ?_⟩, fun x hx => ?_⟩
  · have h : t = 0 ∨ t = 1 ∨ t = 2 ∨ cv exL t = 32000000000 := by
      have := (by decide +kernel : ∀ t : Fin 32, t.val = 0 ∨ t.val = 1 ∨ t.val = 2 ∨ cv exL t.val = 32000000000) ⟨t, ht⟩
      exact this
    rcases h with rfl | rfl | rfl | h
    · exact Or.inr ⟨by decide, Ch.nil⟩
    · exact Or.inr ⟨by decide, Ch.cons (v := 0) (d := 0) ⟨0, 1, 5⟩ Ch.nil (by simp [exE]) rfl⟩
    · exact Or.inr ⟨by decide, Ch.cons (v := 1) (d := 5) ⟨1, 2, 7⟩ (Ch.cons (v := 0) (d := 0) ⟨0, 1, 5⟩ Ch.nil (by simp [exE]) rfl) (by simp [exE]) rfl⟩
    · exact Or.inl h
  · simp only [exE, List.mem_cons, List.not_mem_nil, or_false] at hx
    rcases hx with rfl | rfl | rfl <;> decide
theorem toSw_inj {a b : Tr} (h : toSw a = toSw b) : a = b := by
  obtain ⟨a1, a2, a3⟩ := a
  obtain ⟨b1, b2, b3⟩ := b
  unfold toSw at h
  simp only [Sw.mk.injEq] at h
  simp only [Tr.mk.injEq]
  omega
theorem map_inj : ∀ {l m : List Tr}, l.map toSw = m.map toSw → l = m
  | [], [], _ => rfl
  | [], y :: m, h => by simp at h
  | x :: l, [], h => by simp at h
  | x :: l, y :: m, h => by
    simp only [List.map_cons, List.cons.injEq] at h
    rw [toSw_inj h.1, map_inj h.2]
theorem GR.one {ts : List Ty} {ws : List Wn} {ss : List Sw} {hs : List Wh} {wanted : Int} {l m : List Sw} {E F : Int} (h : GR ts ws ss hs wanted l E) (k : GR ts ws ss hs wanted m F) : l = m ∧ E = F := by
  rcases h with ⟨h1, h2, h3⟩ | ⟨h1, h2, h3, h4⟩ | ⟨h1, h2, f, es, L, h3, h4, h5, h6, h7, h8⟩
  · rcases k with ⟨k1, k2, k3⟩ | ⟨k1, _⟩ | ⟨k1, _⟩
    · exact ⟨by rw [h3, k3], by rw [h2, k2]⟩
    · exact absurd k1 h1
    · exact absurd k1 h1
  · rcases k with ⟨k1, k2, k3⟩ | ⟨k1, k2, k3, k4⟩ | ⟨k1, k2, f, es, L, k3, k4, _⟩
    · exact absurd h1 k1
    · exact ⟨by rw [h4, k4], by rw [h3, k3]⟩
    · rw [rng_true ⟨by omega, by omega⟩] at h2; cases h2
  · rcases k with ⟨k1, k2, k3⟩ | ⟨k1, k2, k3, k4⟩ | ⟨k1, k2, f', es', L', k3, k4, k5, k6, k7, k8⟩
    · exact absurd h1 k1
    · rw [rng_true ⟨by omega, by omega⟩] at k2; cases k2
    · obtain rfl : f = f' := by omega
      obtain rfl := map_inj (h5.symm.trans k5)
      obtain rfl := h7.one k7
      exact ⟨by rw [h8, k8], by rw [h2, k2]⟩
theorem ex_oks : Oks 3 exE := by
  intro x hx
  simp only [exE, List.mem_cons, List.not_mem_nil, or_false] at hx
  rcases hx with rfl | rfl | rfl <;> decide
theorem ex_G0 : GR exT exW (exE.map toSw) exH 0 [⟨0, 0, 0⟩, ⟨0, 1, 5⟩, ⟨0, 2, 12⟩] 0 := Or.inr (Or.inr ⟨ex_chk, rfl, 0, exE, exL, rfl, by decide, rfl, ex_oks, ex_least, by decide +kernel⟩)
theorem ex_G3 : GR exT exW (exE.map toSw) exH 3 [] 90 := Or.inr (Or.inl ⟨ex_chk, by decide, rfl, rfl⟩)
theorem ex_C1 (A' E' : Int) (h : CR exT exW (exE.map toSw) exH 1 2 A' E') : A' = 90 ∧ E' = 0 := by
  rcases h with ⟨h1, _⟩ | ⟨_, h2, _⟩ | ⟨_, _, h3, h4⟩
  · exact absurd ex_chk h1
  · exact absurd h2 (by decide)
  · exact ⟨h4, h3⟩
theorem ex_C2 (A' E' : Int) (h : CR exT exW (exE.map toSw) exH 1 64 A' E') : A' = 0 ∧ E' = 1 := by
  rcases h with ⟨h1, _⟩ | ⟨_, _, h3, h4⟩ | ⟨_, h2, _⟩
  · exact absurd ex_chk h1
  · exact ⟨h4, h3⟩
  · exact absurd h2 (by decide)
section
variable {w : World} {V : Value}
theorem sG {wanted : Int} {l : List Sw} {E : Int} (h : Fl w V exT exW (exE.map toSw) exH) (hr : GR exT exW (exE.map toSw) exH wanted l E) (n : Nat) (hn : n = l.length) : Calls Try.prog 12 #[V, .int .i64 wanted] w fun e w' => ∃ a c, e = .returned (.tuple #[.slice a n c, .int .i64 E]) ∧ Below w.heap.size w w' ∧ Ss (fun k => k < w'.heap.size) w' (.slice a n c) l := by
  refine (given_any h wanted).mono ?_
  rintro e w' ⟨a, k, c, l', E', rfl, hb, hl, hg⟩
  obtain ⟨rfl, rfl⟩ := hg.one hr
  obtain ⟨_, _, e⟩ := hl.shape
  simp only [Value.slice.injEq] at e
  obtain ⟨rfl, rfl, rfl⟩ := e
  rw [← hn] at hl ⊢
  exact ⟨_, _, rfl, hb, hl⟩
theorem sC {p q A E : Int} (h : Fl w V exT exW (exE.map toSw) exH) (hr : ∀ A' E', CR exT exW (exE.map toSw) exH p q A' E' → A' = A ∧ E' = E) : Calls Try.prog 14 #[V, .int .i64 p, .int .i64 q] w fun e w' => e = .returned (.tuple #[.int .i64 A, .int .i64 E]) ∧ Below w.heap.size w w' := by
  refine (clean_any h p q).mono ?_
  rintro e w' ⟨A', E', rfl, hb, hc⟩
  obtain ⟨rfl, rfl⟩ := hr _ _ hc
  exact ⟨rfl, hb⟩
theorem ex_x {i j : Nat} {x : Wn} {y : Ty} {wagon : Int} (h0 : wagon = 0) (h : wagon = (i : Int)) (hx : exW[i]? = some x) (hj : x.ty = (j : Int)) (hy : exT[j]? = some y) : x = ⟨0, 0, 0, 0, 1000000⟩ ∧ y = ⟨60000, 0, 0, 0, 0, 6, 100, 20⟩ := by
  obtain rfl : i = 0 := by omega
  simp only [exW, List.getElem?_cons_zero, Option.some.injEq] at hx
  subst hx
  obtain rfl : j = 0 := by simp only at hj; omega
  simp only [exT, List.getElem?_cons_zero, Option.some.injEq] at hy
  exact ⟨rfl, hy.symm⟩
theorem sW {at0 A : Int} (h : Fl w V exT exW (exE.map toSw) exH) (hr : worthV 1000000 0 at0 100 20 = (A, 0)) : Calls Try.prog 16 #[V, .int .i64 0, .int .i64 at0] w fun e w' => e = .returned (.tuple #[.int .i64 A, .int .i64 0]) ∧ Below w.heap.size w w' := by
  refine (worthq_any h 0 at0).mono ?_
  rintro e w' ⟨A', E', rfl, hb, hq, _⟩
  rcases hq with ⟨h1, _⟩ | ⟨_, h2, _⟩ | ⟨_, i, j, x, y, h3, hx, hj, hy, hq⟩
  · exact absurd ex_chk h1
  · exact absurd h2 (by decide)
  · obtain ⟨rfl, rfl⟩ := ex_x rfl h3 hx hj hy
    simp only at hq
    rw [hr] at hq
    simp only [Prod.mk.injEq] at hq
    obtain ⟨rfl, rfl⟩ := hq
    exact ⟨rfl, hb⟩
theorem sF {wt : Int} {R : Int} (h : Fl w V exT exW (exE.map toSw) exH) (hr : fitE ⟨60000, 0, 0, 0, 0, 6, 100, 20⟩ 1 wt = R) : Calls Try.prog 20 #[V, .int .i64 0, .int .i64 1, .int .i64 wt] w fun e w' => e = .returned (.int .i64 R) ∧ Below w.heap.size w w' := by
  refine (fits_any h 0 1 wt).mono ?_
  rintro e w' ⟨E', rfl, hb, hq⟩
  rcases hq with ⟨h1, _⟩ | ⟨_, h2, _⟩ | ⟨_, i, j, x, y, h3, hx, hj, hy, hq⟩
  · exact absurd ex_chk h1
  · exact absurd h2 (by decide)
  · obtain ⟨rfl, rfl⟩ := ex_x rfl h3 hx hj hy
    rw [hr] at hq
    rw [hq]
    exact ⟨rfl, hb⟩
theorem sF1 (h : Fl w V exT exW (exE.map toSw) exH) : Calls Try.prog 20 #[V, .int .i64 1, .int .i64 1, .int .i64 1] w fun e w' => e = .returned (.int .i64 90) ∧ Below w.heap.size w w' := by
  refine (fits_any h 1 1 1).mono ?_
  rintro e w' ⟨E', rfl, hb, hq⟩
  rcases hq with ⟨h1, _⟩ | ⟨_, h2, h3⟩ | ⟨_, i, j, x, y, h3, hx, hj, hy, hq⟩
  · exact absurd ex_chk h1
  · rw [h3]; exact ⟨rfl, hb⟩
  · obtain rfl : i = 1 := by omega
    simp [exW] at hx
end

set_option maxRecDepth 100000 in
set_option maxHeartbeats 8000000 in
theorem sane_true (w : World) : Calls Try.prog 10 #[] w fun e w' => e = .returned (.bool true) ∧ Below w.heap.size w w' := by
  have Hc := Lib.hid (example_any w)
  go_enter Try.func10, Try.ntmps10
  go_wp2_with fail
  refine Hc.out.mono ?_
  rintro e w1 ⟨g1, g2, g3, g4, rfl, hb, hv⟩
  have hb1 := ball (Below.refl w1.heap.size w1) (.cells #[.slice (some ⟨g1, 0, none⟩) 3 3, .slice (some ⟨g2, 0, none⟩) 1 1, .slice (some ⟨g3, 0, none⟩) 3 3, .slice (some ⟨g4, 0, none⟩) 1 1] 27)
  have HB := Lib.hid (btrans hb hb1); have HV := Lib.hid (hv.on hb1)
  have HX := Lib.hid (bnew w1 (.cells #[.slice (some ⟨g1, 0, none⟩) 3 3, .slice (some ⟨g2, 0, none⟩) 1 1, .slice (some ⟨g3, 0, none⟩) 3 3, .slice (some ⟨g4, 0, none⟩) 1 1] 27))
  obtain ⟨b0, b1, b2, b3⟩ := box4 HX.out
  clear hb hv hb1 Hc
  have Hc := Lib.hid (sG HV.out ex_G0 3 rfl)
  go_wp2_with fail
  refine Hc.out.mono ?_
  rintro e w2 ⟨t1, t2, rfl, hb, hl⟩
  replace HB := Lib.hid (btrans HB.out hb); replace HV := Lib.hid (HV.out.on hb); replace HX := Lib.hid (bon HX.out hb)
  have LG := Lib.hid hl
  clear hb b0 b1 b2 b3 Hc hl
  obtain ⟨b0, b1, b2, b3⟩ := box4 HX.out
  have Hc := Lib.hid (sG HV.out ex_G3 0 rfl)
  go_wp2_with fail
  refine Hc.out.mono ?_
  rintro e w3 ⟨t3, t4, rfl, hb, _⟩
  replace HB := Lib.hid (btrans HB.out hb); replace HV := Lib.hid (HV.out.on hb); replace HX := Lib.hid (bon HX.out hb)
  replace LG := Lib.hid (LG.out.on hb)
  clear hb b0 b1 b2 b3 Hc
  obtain ⟨b0, b1, b2, b3⟩ := box4 HX.out
  have Hc := Lib.hid (sC (A := 90) (E := 0) HV.out ex_C1)
  go_wp2_with fail
  refine Hc.out.mono ?_
  rintro e w4 ⟨rfl, hb⟩
  replace HB := Lib.hid (btrans HB.out hb); replace HV := Lib.hid (HV.out.on hb); replace HX := Lib.hid (bon HX.out hb)
  replace LG := Lib.hid (LG.out.on hb)
  clear hb b0 b1 b2 b3 Hc
  obtain ⟨b0, b1, b2, b3⟩ := box4 HX.out
  have Hc := Lib.hid (sC (A := 0) (E := 1) HV.out ex_C2)
  go_wp2_with fail
  refine Hc.out.mono ?_
  rintro e w5 ⟨rfl, hb⟩
  replace HB := Lib.hid (btrans HB.out hb); replace HV := Lib.hid (HV.out.on hb); replace HX := Lib.hid (bon HX.out hb)
  replace LG := Lib.hid (LG.out.on hb)
  clear hb b0 b1 b2 b3 Hc
  obtain ⟨b0, b1, b2, b3⟩ := box4 HX.out
  have Hc := Lib.hid (sW HV.out (A := 500000) (at0 := 50) (by decide))
  go_wp2_with fail
  refine Hc.out.mono ?_
  rintro e w6 ⟨rfl, hb⟩
  replace HB := Lib.hid (btrans HB.out hb); replace HV := Lib.hid (HV.out.on hb); replace HX := Lib.hid (bon HX.out hb)
  replace LG := Lib.hid (LG.out.on hb)
  clear hb b0 b1 b2 b3 Hc
  obtain ⟨b0, b1, b2, b3⟩ := box4 HX.out
  have Hc := Lib.hid (sW HV.out (A := 200000) (at0 := 1000) (by decide))
  go_wp2_with fail
  refine Hc.out.mono ?_
  rintro e w7 ⟨rfl, hb⟩
  replace HB := Lib.hid (btrans HB.out hb); replace HV := Lib.hid (HV.out.on hb); replace HX := Lib.hid (bon HX.out hb)
  replace LG := Lib.hid (LG.out.on hb)
  clear hb b0 b1 b2 b3 Hc
  obtain ⟨b0, b1, b2, b3⟩ := box4 HX.out
  have hl9 := ball (Below.refl w7.heap.size w7) (.cells #[.int .i64 0, .int .i64 0, .int .i64 0, .int .i64 0, .int .i64 1, .int .i64 5, .int .i64 0, .int .i64 2, .int .i64 12] 62)
  have HL9 := Lib.hid hl9
  have HLS := Lib.hid (sk_lit (ok := Sw.ok) sw_len (l := ([⟨0, 0, 0⟩, ⟨0, 1, 5⟩, ⟨0, 2, 12⟩] : List Sw)) (bnew w7 (.cells #[.int .i64 0, .int .i64 0, .int .i64 0, .int .i64 0, .int .i64 1, .int .i64 5, .int .i64 0, .int .i64 2, .int .i64 12] 62)) rfl (len := 3) rfl (by decide) (by intro x hx; simp only [List.mem_cons, List.not_mem_nil, or_false] at hx; rcases hx with rfl | rfl | rfl <;> (unfold Sw.ok I64; simp only; omega)))
  clear hl9
  have Hc := Lib.hid (sameS_any (LG.out.on HL9.out) HLS.out true (by decide))
  go_wp2_with fail
  refine Hc.out.mono ?_
  rintro e w8 ⟨rfl, hb⟩
  replace hb := btrans HL9.out hb
  replace HB := Lib.hid (btrans HB.out hb); replace HV := Lib.hid (HV.out.on hb); replace HX := Lib.hid (bon HX.out hb)
  replace LG := Lib.hid (LG.out.on hb)
  clear hb b0 b1 b2 b3 Hc
  obtain ⟨b0, b1, b2, b3⟩ := box4 HX.out
  have Hc := Lib.hid (sF HV.out (wt := 60000) (R := 0) (by decide))
  go_wp2_with fail
  refine Hc.out.mono ?_
  rintro e w9 ⟨rfl, hb⟩
  replace HB := Lib.hid (btrans HB.out hb); replace HV := Lib.hid (HV.out.on hb); replace HX := Lib.hid (bon HX.out hb)
  replace LG := Lib.hid (LG.out.on hb)
  clear hb b0 b1 b2 b3 Hc
  obtain ⟨b0, b1, b2, b3⟩ := box4 HX.out
  have Hc := Lib.hid (sF HV.out (wt := 60001) (R := 91) (by decide))
  go_wp2_with fail
  refine Hc.out.mono ?_
  rintro e w10 ⟨rfl, hb⟩
  replace HB := Lib.hid (btrans HB.out hb); replace HV := Lib.hid (HV.out.on hb); replace HX := Lib.hid (bon HX.out hb)
  replace LG := Lib.hid (LG.out.on hb)
  clear hb b0 b1 b2 b3 Hc
  obtain ⟨b0, b1, b2, b3⟩ := box4 HX.out
  have Hc := Lib.hid (sF1 HV.out)
  go_wp2_with fail
  refine Hc.out.mono ?_
  rintro e w11 ⟨rfl, hb⟩
  replace HB := Lib.hid (btrans HB.out hb); replace HV := Lib.hid (HV.out.on hb); replace HX := Lib.hid (bon HX.out hb)
  replace LG := Lib.hid (LG.out.on hb)
  clear hb b0 b1 b2 b3 Hc
  obtain ⟨b0, b1, b2, b3⟩ := box4 HX.out
  go_wp2
  go_ret
  exact ⟨rfl, HB.out⟩
end Go.Proofs.Ytijdjbkmkopmnaa
