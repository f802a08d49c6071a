/-
  Exact loads of whole boxes in drawn regions; what a region that feeds leaves.
-/
import Derived.Test.YtdmlnjgbfkkjdaaDoorFr
namespace Go.Proofs.YtdmlnjgbfkkjdaaDoor
open Go.RowKit
set_option linter.unusedVariables false
set_option linter.unusedSimpArgs false

theorem exec_load_row {P : Program} {o : Oper} {a : Act} {w : World} (ty : TypeId) (x : Operand) (ho : o.op = .load ty x)
    (g : Nat) (hx : a.eval x = .pointer (some ⟨g, 0, none⟩)) (t : TypeId) (cs : Array Value) (fr : Nat × Nat) (d : TypeDesc) (hg : w.heap[g]? = some (.cells cs t fr))
    (hu : P.underlying ty = some d) (hd : (match d with | .struct _ | .array _ _ => true | _ => false) = true) (hi : (P.info? ty).map (·.size) = some cs.size) :
    (execOp a.eval o).run P w = .ok (.value (.agg cs)) w := by
  unfold execOp
  simp only [ho, hx, Instr.loadAt, Instr.sureAddr, Sem.run_bind, Sem.run_pure, Result.andThen_ok, run_loadVar_row w g t ty cs fr d hg hu hd hi]
def Zc : Obj := .cells #[.slice none 0 0, .bool false, .bool false, .bool false] 31
/-- What a region leaves that feeds and lays the state in a box: behind the world U. -/
def FedP (U : World) (S : St) (L : List (List Int)) (M : Nat) (x l i : Value) (wx : World) : Prop :=
  ∃ (g : Nat) (ax : Option Addr) (cx : Nat) (al : Option Addr) (cl : Nat) (vals : List Value), x = .pointer (some ⟨g, 0, none⟩) ∧ l = .slice al L.length cl ∧ i = .int .i64 (M : Nat) ∧ U.heap.size ≤ g ∧
    wx.heap[g]? = some (.cells #[.slice ax S.rest.length cx, .bool S.inn, .bool S.esc, .bool S.bad] 31 (0, 0)) ∧ Below U.heap.size U wx ∧ Bs (fun k => k < wx.heap.size) wx (.slice ax S.rest.length cx) S.rest ∧
    VL wx (.slice al L.length cl) vals ∧ EL (fun k => k < wx.heap.size) wx vals L ∧ L.length ≤ cl
theorem fedp_below {U wx : World} {S : St} {L : List (List Int)} {M : Nat} {x l i : Value} (h : FedP U S L M x l i wx) : Below U.heap.size U wx := by
  obtain ⟨_, _, _, _, _, _, _, _, _, _, _, hb, _⟩ := h
  exact hb
/-- Parts of what Feed leaves, in blocks from base on. -/
structure FedB (base : Nat) (w : World) (S : St) (L : List (List Int)) (vx vl : Value) (vals : List Value) : Prop where
  rest : Bs (fun k => base ≤ k ∧ k < w.heap.size) w vx S.rest
  lst : LV base w (.slice none 0 0) vl L vals
theorem FedB.put {base M : Nat} {U w W : World} {S : St} {L : List (List Int)} {ax al : Option Addr} {cx cl : Nat} {vals : List Value} (h : FedB base w S L (.slice ax S.rest.length cx) (.slice al L.length cl) vals)
    (hUM : U.heap.size ≤ M) (hb : Below U.heap.size U W) (hM : W.heap[M]? = some (.cells #[.slice ax S.rest.length cx, .bool S.inn, .bool S.esc, .bool S.bad] 31 (0, 0))) (hs : w.heap.size ≤ W.heap.size)
    (hk : ∀ k, base ≤ k → k < w.heap.size → W.heap[k]? = w.heap[k]?) (n : Nat) : FedP U S L n (.pointer (some ⟨M, 0, none⟩)) (.slice al L.length cl) (.int .i64 (n : Nat)) W := by
  obtain ⟨h1, h2, h3⟩ := h.lst
  have ho := own_kept (w' := W) h1 (fun g hg => hk g (own_lt h1 hg).1 (own_lt h1 hg).2)
  exact ⟨M, ax, cx, al, cl, vals, rfl, rfl, rfl, hUM, hM, hb, h.rest.kept (fun k hk' => hk k hk'.1 hk'.2) (fun k hk' => Nat.lt_of_lt_of_le hk'.2 hs), (own_cells ho).1, ⟨h2,
    fun j v l hv hl => (h3 j v l hv hl).kept (fun k hk' => hk k hk'.1 hk'.2.1) (fun k hk' => Nat.lt_of_lt_of_le hk'.2.1 hs)⟩, own_cap ho _ _ _ rfl⟩
/-- The box was made before the stream was fed. -/
theorem FedB.before {M : Nat} {U X w : World} {S : St} {L : List (List Int)} {ax al : Option Addr} {cx cl : Nat} {vals : List Value} (h : FedB X.heap.size w S L (.slice ax S.rest.length cx) (.slice al L.length cl) vals)
    (hUM : U.heap.size ≤ M) (hb : Below U.heap.size U w) (hX : Below X.heap.size X w) (hM : X.heap[M]? = some Zc) (n : Nat) :
    w.heap[M]? = some Zc ∧ FedP U S L n (.pointer (some ⟨M, 0, none⟩)) (.slice al L.length cl) (.int .i64 (n : Nat)) (w.setRow M #[.slice ax S.rest.length cx, .bool S.inn, .bool S.esc, .bool S.bad]) := by
  have hm := bon hM hX
  have hlt := blt hM
  exact ⟨hm, h.put hUM (bsetRow hb hUM _) (setRow_heap _ _ _ _ _ _ hm) (by simp) (fun k h1 h2 => setRow_other _ _ _ _ (by omega)) n⟩
/-- The box was made behind it. -/
theorem FedB.behind {base : Nat} {U w : World} {S : St} {L : List (List Int)} {ax al : Option Addr} {cx cl : Nat} {vals : List Value} (h : FedB base w S L (.slice ax S.rest.length cx) (.slice al L.length cl) vals)
    (hb : Below U.heap.size U w) (n : Nat) :
    (w.alloc Zc).heap[w.heap.size]? = some Zc ∧ FedP U S L n (.pointer (some ⟨w.heap.size, 0, none⟩)) (.slice al L.length cl) (.int .i64 (n : Nat)) ((w.alloc Zc).setRow w.heap.size #[.slice ax S.rest.length cx, .bool S.inn, .bool S.esc, .bool S.bad]) := by
  have hm := bnew w Zc
  exact ⟨hm, h.put hb.size (bsetRow (ball hb _) hb.size _) (setRow_heap _ _ _ _ _ _ hm) (by simp) (fun k h1 h2 => (setRow_other _ _ _ _ (by omega)).trans (heap_alloc_old _ _ h2)) n⟩
theorem FeedOf.parts {w w' : World} {S : St} {L : List (List Int)} {n : Nat} {e : Ending} (h : FeedOf w S L n e w') : ∃ ax cx al cl vals, e = .returned (.tuple #[.agg #[.slice ax S.rest.length cx, .bool S.inn, .bool S.esc, .bool S.bad], .slice al L.length cl, .int .i64 (n : Nat)]) ∧ Below w.heap.size w w' ∧
    FedB w.heap.size w' S L (.slice ax S.rest.length cx) (.slice al L.length cl) vals := by
  obtain ⟨vx, vl, rfl, hb, ⟨ax, cx, rfl, hr⟩, vals, hl⟩ := h
  obtain ⟨al, cl, rfl⟩ := own_shape hl.1
  exact ⟨ax, cx, al, cl, vals, rfl, hb, hr, hl⟩
theorem lit_one (w : World) (x : Int) (h : 0 ≤ x ∧ x ≤ 255) : Bs (fun k => k < (w.alloc (.cells #[.int .u8 x] 5)).heap.size) (w.alloc (.cells #[.int .u8 x] 5)) (.slice (some ⟨w.heap.size, 0, none⟩) 1 1) [x] :=
  lit_bs w [x] 1 (0, 0) rfl (by intro u hu; simp at hu; omega) (by omega)
theorem EL.kept {F G : Nat → Prop} {w w' : World} {vals : List Value} {L : List (List Int)} (h : EL F w vals L) (hk : ∀ k, F k → w'.heap[k]? = w.heap[k]?) (hF : ∀ k, F k → G k) : EL G w' vals L :=
  ⟨h.1, fun j v l hv hl => (h.2 j v l hv hl).kept hk hF⟩
theorem Bs.tail1 {F : Nat → Prop} {w : World} {g off n cap : Nat} {b : List Int} (h : Bs F w (.slice (some ⟨g, off, none⟩) n cap) b) (hn : n = b.length) (h1 : 1 ≤ n) (hc : n ≤ cap) : Bs F w (.slice (some ⟨g, off + 1, none⟩) (n - 1) (cap - 1)) (b.drop 1) := by
  have := h.sub 1 (n - 1) (cap - 1) (by omega) (by omega)
  rwa [List.take_of_length_le (by simp; omega)] at this

end Go.Proofs.YtdmlnjgbfkkjdaaDoor
