/-
  Plain definitions: how bytes and trees lie in memory (F tells in which blocks), and that they lie as long as those blocks are as they were.
-/
import Derived.Test.YtjhjcigappkebaaBase
import Derived.Below
import Derived.Deep.Draws
import Derived.Maps.AppendAt
namespace Go.Proofs.Ytjhjcigappkebaa
open Go.RowKit

/-- The slice v holds the bytes b. -/
def Bs (F : Nat → Prop) (w : World) (v : Value) (b : List Int) : Prop :=
  b.length ≤ 140737488355328 ∧ (∀ u ∈ b, 0 ≤ u ∧ u ≤ 255) ∧ ∃ a cap, v = .slice a b.length cap ∧ b.length ≤ cap ∧
    (0 < b.length → ∃ g off, a = some ⟨g, off, none⟩ ∧ F g ∧ ∀ j u, b[j]? = some u → w.cell? ⟨g, off + j, none⟩ = some (.int .u8 u))

def I64 (n : Int) : Prop := -9223372036854775808 ≤ n ∧ n ≤ 9223372036854775807

mutual
/-- The struct v reads as the tree t. -/
def Rd (F : Nat → Prop) (w : World) : T → Value → Prop
  | .mk k n b l, v => ∃ vb a cap, v = .agg #[.int .i64 k, .int .i64 n, vb, .slice a l.length cap] ∧ I64 k ∧ I64 n ∧ Bs F w vb b ∧
      l.length ≤ 2199023255552 ∧ l.length ≤ cap ∧ (0 < l.length → ∃ g off, a = some ⟨g, off, none⟩ ∧ F g ∧ RdL F w l g off)
/-- The cells from off on in block g read as the trees l, four cells each. -/
def RdL (F : Nat → Prop) (w : World) : List T → Nat → Nat → Prop
  | [], _, _ => True
  | t :: ts, g, off => (∃ x0 x1 x2 x3, w.cell? ⟨g, off, none⟩ = some x0 ∧ w.cell? ⟨g, off + 1, none⟩ = some x1 ∧ w.cell? ⟨g, off + 2, none⟩ = some x2 ∧ w.cell? ⟨g, off + 3, none⟩ = some x3 ∧ Rd F w t (.agg #[x0, x1, x2, x3])) ∧ RdL F w ts g (off + 4)
end

section
variable {F F' : Nat → Prop} {w w' : World}

theorem Bs.kept {v : Value} {b : List Int} (h : Bs F w v b) (hw : ∀ k, F k → w'.heap[k]? = w.heap[k]?) (hF : ∀ k, F k → F' k) : Bs F' w' v b := by
  obtain ⟨h1, h2, a, cap, h3, h4, h5⟩ := h
  refine ⟨h1, h2, a, cap, h3, h4, fun hp => ?_⟩
  obtain ⟨g, off, ha, hf, hc⟩ := h5 hp
  exact ⟨g, off, ha, hF g hf, fun j u hj => (World.cell?_of_block (w := w) (hw g hf)).trans (hc j u hj)⟩

mutual
theorem Rd.kept (hw : ∀ k, F k → w'.heap[k]? = w.heap[k]?) (hF : ∀ k, F k → F' k) : ∀ (t : T) (v : Value), Rd F w t v → Rd F' w' t v
  | .mk k n b l, v, h => by
    unfold Rd at h ⊢
    obtain ⟨vb, a, cap, h1, h2, h3, h4, h5, h6, h7⟩ := h
    refine ⟨vb, a, cap, h1, h2, h3, h4.kept hw hF, h5, h6, fun hp => ?_⟩
    obtain ⟨g, off, ha, hf, hl⟩ := h7 hp
    exact ⟨g, off, ha, hF g hf, RdL.kept hw hF l g off hf hl⟩
theorem RdL.kept (hw : ∀ k, F k → w'.heap[k]? = w.heap[k]?) (hF : ∀ k, F k → F' k) : ∀ (l : List T) (g off : Nat), F g → RdL F w l g off → RdL F' w' l g off
  | [], _, _, _, _ => by unfold RdL; trivial
  | t :: ts, g, off, hf, h => by
    unfold RdL at h ⊢
    obtain ⟨⟨x0, x1, x2, x3, c0, c1, c2, c3, ht⟩, hts⟩ := h
    have e := hw g hf
    exact ⟨⟨x0, x1, x2, x3, (World.cell?_of_block (w := w) (a := ⟨g, _, none⟩) e).trans c0, (World.cell?_of_block (w := w) (a := ⟨g, _, none⟩) e).trans c1, (World.cell?_of_block (w := w) (a := ⟨g, _, none⟩) e).trans c2, (World.cell?_of_block (w := w) (a := ⟨g, _, none⟩) e).trans c3, Rd.kept hw hF t _ ht⟩, RdL.kept hw hF ts g (off + 4) hf hts⟩
end

/-- Element j of a list that lies. -/
theorem RdL.at {g : Nat} : ∀ {l : List T} {off : Nat} (j : Nat) (t : T), RdL F w l g off → l[j]? = some t →
    ∃ x0 x1 x2 x3, w.cell? ⟨g, off + j * 4, none⟩ = some x0 ∧ w.cell? ⟨g, off + j * 4 + 1, none⟩ = some x1 ∧ w.cell? ⟨g, off + j * 4 + 2, none⟩ = some x2 ∧ w.cell? ⟨g, off + j * 4 + 3, none⟩ = some x3 ∧ Rd F w t (.agg #[x0, x1, x2, x3])
  | [], _, _, _, _, h => by simp at h
  | t :: ts, off, 0, t', h, hj => by
    unfold RdL at h
    simp at hj
    subst hj
    simpa using h.1
  | t :: ts, off, j + 1, t', h, hj => by
    unfold RdL at h
    have := RdL.at (off := off + 4) j t' h.2 (by simpa using hj)
    have e : off + 4 + j * 4 = off + (j + 1) * 4 := by omega
    rw [e] at this
    exact this

theorem Bs.at {v : Value} {b : List Int} (h : Bs F w v b) (hp : 0 < b.length) : ∃ g off cap, v = .slice (some ⟨g, off, none⟩) b.length cap ∧ b.length ≤ cap ∧ F g ∧ ∀ j u, b[j]? = some u → w.cell? ⟨g, off + j, none⟩ = some (.int .u8 u) := by
  obtain ⟨_, _, a, cap, h3, h4, h5⟩ := h
  obtain ⟨g, off, ha, hf, hc⟩ := h5 hp
  exact ⟨g, off, cap, by rw [h3, ha], h4, hf, hc⟩
end

theorem bdrewN {B : Nat} {a w : World} (h : Below B a w) (n : Nat) : Below B a (w.drewN n) := h.trans ⟨rfl, rfl, rfl, Nat.le_refl _, fun _ _ => rfl⟩

theorem ball {a w : World} (h : Below a.heap.size a w) (o : Obj) : Below a.heap.size a (w.alloc o) := h.alloc h.size o

/-- The form of a struct that reads as a tree. -/
theorem Rd.form {F : Nat → Prop} {w : World} {t : T} {v : Value} (h : Rd F w t v) :
    ∃ (a2 : Option Addr) (c2 : Nat) (a3 : Option Addr) (c3 : Nat), v = .agg #[.int .i64 t.kind, .int .i64 t.num, .slice a2 t.bs.length c2, .slice a3 t.els.length c3] ∧
      Bs F w (.slice a2 t.bs.length c2) t.bs ∧ I64 t.kind ∧ I64 t.num ∧ t.els.length ≤ 2199023255552 ∧ t.els.length ≤ c3 ∧ (0 < t.els.length → ∃ g off, a3 = some ⟨g, off, none⟩ ∧ F g ∧ RdL F w t.els g off) := by
  cases t with
  | mk k n b l =>
    unfold Rd at h
    obtain ⟨vb, a, cap, h1, h2, h3, h4, h5, h6, h7⟩ := h
    have h4' := h4
    obtain ⟨_, _, a2, c2, h8, _⟩ := h4
    subst h8
    exact ⟨a2, c2, a, cap, h1, h4', h2, h3, h5, h6, h7⟩

theorem RdL.cells {F : Nat → Prop} {w : World} {g : Nat} {l : List T} {off : Nat} (j : Nat) (t : T) (h : RdL F w l g off) (hj : l[j]? = some t) :
    ∃ (a2 : Option Addr) (c2 : Nat) (a3 : Option Addr) (c3 : Nat), w.cell? ⟨g, off + j * 4, none⟩ = some (.int .i64 t.kind) ∧ w.cell? ⟨g, off + j * 4 + 1, none⟩ = some (.int .i64 t.num) ∧
      w.cell? ⟨g, off + j * 4 + 2, none⟩ = some (.slice a2 t.bs.length c2) ∧ w.cell? ⟨g, off + j * 4 + 3, none⟩ = some (.slice a3 t.els.length c3) ∧
      Rd F w t (.agg #[.int .i64 t.kind, .int .i64 t.num, .slice a2 t.bs.length c2, .slice a3 t.els.length c3]) := by
  obtain ⟨x0, x1, x2, x3, c0, c1, c2, c3, ht⟩ := h.at j t hj
  obtain ⟨a2, k2, a3, k3, e, _⟩ := ht.form
  simp only [Value.agg.injEq] at e
  have e' := congrArg Array.toList e
  simp only [List.cons.injEq, and_true] at e'
  obtain ⟨rfl, rfl, rfl, rfl⟩ := e'
  exact ⟨a2, k2, a3, k3, c0, c1, c2, c3, ht⟩

/-- A world that has grown from w0 below B. -/
theorem Rd.below {F : Nat → Prop} {B : Nat} {w w' : World} {t : T} {v : Value} (h : Rd F w t v) (hF : ∀ k, F k → k < B) (hb : Below B w w') : Rd F w' t v :=
  Rd.kept (fun k hk => hb.block k (hF k hk)) (fun _ h => h) t v h
theorem Bs.below {F : Nat → Prop} {B : Nat} {w w' : World} {b : List Int} {v : Value} (h : Bs F w v b) (hF : ∀ k, F k → k < B) (hb : Below B w w') : Bs F w' v b :=
  Bs.kept h (fun k hk => hb.block k (hF k hk)) (fun _ h => h)

end Go.Proofs.Ytjhjcigappkebaa
