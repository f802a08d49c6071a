/-
  Base: bytes and lists of byte slices in memory; slices that the call owns; appending; strings of bytes.
-/
import Derived.Test.YtdmlnjgbfkkjdaaDoorProg
import Derived.Below
import Derived.Deep.Draws
import Derived.Maps.AppendAt
import Derived.WalkKit
import Derived.WalkSpells
import Derived.WalkLawsBesides
import Derived.Lib.Hide
import Derived.Deep.RegionHeld3
import Derived.Deep.RegionWith
import Derived.Outline
import Derived.Deep.QuietTactic
import Derived.BigQuiet
import Derived.Deep.LoopGhost
import Derived.StillTailTactics
import Derived.Deep.MidRow
import Derived.Deep.CutRange
import Derived.Deep.AppendSrc
import Derived.Deep.Upon
import Derived.Laws.BytesArg
import Derived.Laws.BitsLemmas
import Derived.Lib.ConvBytes
import Derived.Laws.IdiomRangeMap
import Derived.Laws.MakeOwn
namespace Go.Proofs.YtdmlnjgbfkkjdaaDoor
open Go.RowKit
set_option linter.unusedVariables false
set_option linter.unusedSimpArgs false

/-- The slice v holds the bytes b. -/
def Bs (F : Nat → Prop) (w : World) (v : Value) (b : List Int) : Prop :=
  b.length ≤ 140737488355328 ∧ (∀ u ∈ b, 0 ≤ u ∧ u ≤ 255) ∧ ∃ a cap, v = .slice a b.length cap ∧ b.length ≤ cap ∧
    (0 < b.length → ∃ g off, a = some ⟨g, off, none⟩ ∧ F g ∧ ∀ j u, b[j]? = some u → w.cell? ⟨g, off + j, none⟩ = some (.int .u8 u))

def I64 (n : Int) : Prop := -9223372036854775808 ≤ n ∧ n ≤ 9223372036854775807

section
variable {F F' : Nat → Prop} {w w' : World}
theorem Bs.kept {v : Value} {b : List Int} (h : Bs F w v b) (hw : ∀ k, F k → w'.heap[k]? = w.heap[k]?) (hF : ∀ k, F k → F' k) : Bs F' w' v b := by
  obtain ⟨h1, h2, a, cap, h3, h4, h5⟩ := h
  refine ⟨h1, h2, a, cap, h3, h4, fun hp => ?_⟩
  obtain ⟨g, off, ha, hf, hc⟩ := h5 hp
  exact ⟨g, off, ha, hF g hf, fun j u hj => (World.cell?_of_block (w := w) (hw g hf)).trans (hc j u hj)⟩

theorem Bs.at {v : Value} {b : List Int} (h : Bs F w v b) (hp : 0 < b.length) : ∃ g off cap, v = .slice (some ⟨g, off, none⟩) b.length cap ∧ b.length ≤ cap ∧ F g ∧ ∀ j u, b[j]? = some u → w.cell? ⟨g, off + j, none⟩ = some (.int .u8 u) := by
  obtain ⟨_, _, a, cap, h3, h4, h5⟩ := h
  obtain ⟨g, off, ha, hf, hc⟩ := h5 hp
  exact ⟨g, off, cap, by rw [h3, ha], h4, hf, hc⟩
end
theorem bdrewN {B : Nat} {a w : World} (h : Below B a w) (n : Nat) : Below B a (w.drewN n) := h.trans ⟨rfl, rfl, rfl, Nat.le_refl _, fun _ _ => rfl⟩

theorem ball {a w : World} (h : Below a.heap.size a w) (o : Obj) : Below a.heap.size a (w.alloc o) := h.alloc h.size o

theorem Bs.below {F : Nat → Prop} {B : Nat} {w w' : World} {b : List Int} {v : Value} (h : Bs F w v b) (hF : ∀ k, F k → k < B) (hb : Below B w w') : Bs F w' v b :=
  Bs.kept h (fun k hk => hb.block k (hF k hk)) (fun _ h => h)

theorem btrans {a b c : World} (h : Below a.heap.size a b) (k : Below b.heap.size b c) : Below a.heap.size a c := h.trans (k.mono h.size)
theorem blt {w : World} {B : Nat} {o : Obj} (h : w.heap[B]? = some o) : B < w.heap.size := (Array.getElem?_eq_some_iff.1 h).1
theorem bon {w w' : World} {B : Nat} {o : Obj} (h : w.heap[B]? = some o) (hb : Below w.heap.size w w') : w'.heap[B]? = some o := (hb.block B (blt h)).trans h
theorem bnew (w : World) (o : Obj) : (w.alloc o).heap[w.heap.size]? = some o := heap_alloc_new w o
theorem bold {w : World} {B : Nat} {o o' : Obj} (h : w.heap[B]? = some o) : (w.alloc o').heap[B]? = some o := (heap_alloc_old w o' (blt h)).trans h
theorem Bs.on {w w' : World} {v : Value} {b : List Int} (h : Bs (fun k => k < w.heap.size) w v b) (hb : Below w.heap.size w w') : Bs (fun k => k < w'.heap.size) w' v b :=
  h.kept (fun k hk => hb.block k hk) (fun k hk => Nat.lt_of_lt_of_le hk hb.size)
theorem Bs.shape {F : Nat → Prop} {w : World} {v : Value} {l : List Int} (h : Bs F w v l) : ∃ a c, v = .slice a l.length c := by
  obtain ⟨_, _, a, c, rfl, _⟩ := h
  exact ⟨a, c, rfl⟩
theorem Tryd.info5 : (Tryd.prog.info? 5).map (fun i => (i.zero, i.size, i.bytes)) = some (some (.int .u8 0), 1, 1) := by kernel_rfl

def byteVals (bs : List Int) : List Value := bs.map (Value.int .u8)

theorem byteVals_append (a b : List Int) : byteVals (a ++ b) = byteVals a ++ byteVals b := by simp [byteVals]

theorem byteVals_length (a : List Int) : (byteVals a).length = a.length := by simp [byteVals]

/-- In w the slice v (of the call's own, from block base on) holds the bytes bs; since w0 nothing but v0's own block has changed. -/
structure Apd (base : Nat) (w0 : World) (v0 : Value) (w : World) (v : Value) (bs : List Int) : Prop where
  own : w.ownsRow base 5 1 v bs.length (byteVals bs)
  grown : w0.grownBy w v0.ownBlock
  blk : v.ownBlock = v0.ownBlock ∨ ∃ g, v.ownBlock = some g ∧ w0.heap.size ≤ g

theorem grow2 {a b c : World} {r r' : Option Nat} (h : a.grownBy b r) (k : b.grownBy c r') (hr : r' = r ∨ ∃ g, r' = some g ∧ a.heap.size ≤ g) : a.grownBy c r := by
  refine ⟨k.os.trans h.os, k.tape.trans h.tape, k.output.trans h.output, Nat.le_trans h.size k.size, fun i hi hne => ?_⟩
  refine (k.block i (Nat.lt_of_lt_of_le hi h.size) ?_).trans (h.block i hi hne)
  rcases hr with rfl | ⟨g, rfl, hg⟩
  · exact hne
  · intro e; simp at e; omega

theorem growDrew {a b : World} {r : Option Nat} (h : a.grownBy b r) : a.grownBy b.drew r := ⟨h.os, h.tape, h.output, h.size, h.block⟩

theorem growAlloc {a b : World} {r : Option Nat} (h : a.grownBy b r) (o : Obj) : a.grownBy (b.alloc o) r := grow2 h (World.grownBy_alloc b o r) (Or.inl rfl)

theorem Apd.start {base : Nat} {w : World} {v : Value} {bs : List Int} (h : w.ownsRow base 5 1 v bs.length (byteVals bs)) : Apd base w v w v bs :=
  ⟨h, ⟨rfl, rfl, rfl, Nat.le_refl _, fun _ _ _ => rfl⟩, Or.inl rfl⟩

theorem Apd.alloc {base : Nat} {w0 w : World} {v0 v : Value} {bs : List Int} (h : Apd base w0 v0 w v bs) (o : Obj) : Apd base w0 v0 (w.alloc o) v bs :=
  ⟨h.own.alloc o, growAlloc h.grown o, h.blk⟩

theorem ownsDrew {w : World} {base : Nat} {e : TypeId} {size : Nat} {v : Value} {n : Nat} {xs : List Value} (h : w.ownsRow base e size v n xs) : w.drew.ownsRow base e size v n xs :=
  h.kept (row := none) ⟨rfl, rfl, rfl, Nat.le_refl _, fun _ _ _ => rfl⟩ (by cases v.ownBlock <;> simp)

theorem Apd.drew {base : Nat} {w0 w : World} {v0 v : Value} {bs : List Int} (h : Apd base w0 v0 w v bs) : Apd base w0 v0 w.drew v bs :=
  ⟨ownsDrew h.own, growDrew h.grown, h.blk⟩

/-- What holds since w1 holds since w0. -/
theorem Apd.trans {base : Nat} {w0 w1 w : World} {v0 v1 v : Value} {bs bs' : List Int} (h : Apd base w0 v0 w1 v1 bs) (k : Apd base w1 v1 w v bs') : Apd base w0 v0 w v bs' := by
  refine ⟨k.own, grow2 h.grown k.grown h.blk, ?_⟩
  rcases k.blk with e | ⟨g, e, hg⟩
  · rw [e]; exact h.blk
  · exact Or.inr ⟨g, e, Nat.le_trans h.grown.size hg⟩

theorem cells_new (w : World) (cs : List Value) (t : TypeId) : ∀ j u, cs[j]? = some u → (w.alloc (.cells cs.toArray t)).cell? ((⟨w.heap.size, 0, none⟩ : Addr).add j) = some u := by
  intro j u hj
  have e : (⟨w.heap.size, 0, none⟩ : Addr).add j = ⟨w.heap.size, j, none⟩ := by unfold Addr.add; split <;> simp_all
  rw [e, World.cell?, heap_alloc_new w]
  simpa using hj

/-- 'append(b, ns..)' behind the block of ns: the walk's step. -/
theorem wp_put {P : Program} {ops : Array Oper} {rest : List Oper} {o : Oper} {a : Act} {Q : Exit → Act → World → Prop} (hP : P = Tryd.prog) (hgd : o.guard = none) (s x : Operand)
    (ho : o.op = .call { callee := .builtin .append, args := #[s, x], argTypes := #[22, 22] })
    {base : Nat} {w0 : World} {v0 : Value} (w : World) (v : Value) (bs : List Int) (ns : List Int) (cs : Array Value) (m c : Nat) (h : Apd base w0 v0 w v bs) (hs : a.eval s = v)
    (hx : a.eval x = .slice (some ⟨w.heap.size, 0, none⟩) m c) (hcs : cs = (byteVals ns).toArray) (hm : m = ns.length) (hb : bs.length + ns.length ≤ 140737488355328) (hbase : base ≤ w.heap.size)
    (hk : ∀ v' w', Apd base w0 v0 w' v' (bs ++ ns) → wpList P ops Q rest (a.put o.dst v') w') : wpList P ops Q (o :: rest) a (w.alloc (.cells cs 5)) := by
  subst hP hcs hm
  obtain ⟨i0, hi, hz0, hz1, hz2⟩ := info_parts Tryd.info5
  refine wpList_append_own_at _ hgd s x 22 ho base 5 i0 (.int .u8 0) 1 1 Tryd.underlying22 hi hz0 hz1 hz2 rfl (by decide) v bs.length (byteVals bs) hs (h.own.alloc _) ⟨w.heap.size, 0, none⟩ ns.length c (byteVals ns) hx
    (by rw [byteVals_length, Nat.mul_one]) (cells_new w _ 5) ?_ (by unfold maxLen; omega) (by omega) (by simp; omega) ?_
  · intro u hu
    obtain ⟨n, _, rfl⟩ := List.mem_map.1 hu
    rfl
  · intro v' w' hown hgrow _ hblk
    refine hk v' w' ⟨?_, ?_, ?_⟩
    · rw [List.length_append, byteVals_append]; exact hown
    · exact grow2 (growAlloc h.grown _) hgrow h.blk
    · rcases hblk with e | e
      · rw [e]; exact h.blk
      · refine Or.inr ⟨_, e, ?_⟩
        have := h.grown.size
        simp; omega

theorem add_off (g off j : Nat) : (⟨g, off, none⟩ : Addr).add j = ⟨g, off + j, none⟩ := by
  unfold Addr.add
  split
  · rename_i h; rw [h]; rfl
  · rfl

/-- 'append(v, u..)': the equation. -/
theorem append_run (F : Nat → Prop) (base : Nat) (w : World) (v u : Value) (bs b : List Int) (ty : TypeId) (hown : w.ownsRow base 5 1 v bs.length (byteVals bs)) (hu : Bs F w u b) (hlen : bs.length + b.length ≤ 140737488355328) (hbase : base ≤ w.heap.size) :
    ∃ v' w', (Builtin.append_ #[22, 22] ty #[v, u]).run Tryd.prog w = .ok v' w' ∧ Apd base w v w' v' (bs ++ b) := by
  obtain ⟨i0, hi, hz0, hz1, hz2⟩ := info_parts Tryd.info5
  obtain ⟨hbl, hrg, a, cap, rfl, hcap, hp⟩ := hu
  cases a with
  | none =>
    have h0 : b.length = 0 := by
      rcases Nat.eq_zero_or_pos b.length with h | h
      · exact h
      · obtain ⟨g, off, e, _⟩ := hp h
        cases e
    have hb : b = [] := List.length_eq_zero_iff.1 h0
    subst hb
    obtain ⟨sa, sl, sc, hv, hle⟩ : ∃ sa sl sc, v = .slice sa sl sc ∧ sl ≤ sc := by
      rcases hown.2 with ⟨h, _⟩ | ⟨g, c, cur, h, _, _, hn, _⟩
      · exact ⟨none, 0, 0, h, Nat.le_refl _⟩
      · exact ⟨_, _, _, h, hn⟩
    refine ⟨v, w, ?_, ?_⟩
    · subst hv
      have hs : Src Tryd.prog i0.size 22 (.slice none 0 cap) 0 [] w := Src.ofNil w Tryd.underlying22 cap
      exact run_append_nothing w 22 22 ty 5 i0 Tryd.underlying22 hi sa sl sc hle _ hs
    · rw [List.append_nil]
      exact Apd.start hown
  | some ad =>
    have hnews : ∀ j x, (byteVals b)[j]? = some x → w.cell? (ad.add j) = some x := by
      intro j x hj
      have hjl : j < (byteVals b).length := (List.getElem?_eq_some_iff.1 hj).1
      rw [byteVals_length] at hjl
      obtain ⟨g, off, e, _, hc⟩ := hp (by omega)
      cases e
      rw [add_off]
      unfold byteVals at hj
      rw [List.getElem?_map, List.getElem?_eq_getElem hjl] at hj
      cases hj
      exact hc j _ (List.getElem?_eq_getElem hjl)
    obtain ⟨v', w', hr, h2, h3, _, h5⟩ := run_append_own_at (P := Tryd.prog) w base 22 ty 5 i0 (.int .u8 0) 1 1 Tryd.underlying22 hi hz0 hz1 hz2 rfl (by decide) v bs.length (byteVals bs) hown ad b.length cap (byteVals b)
      (by rw [byteVals_length, Nat.mul_one]) hnews (by
        intro x hx
        obtain ⟨n, _, rfl⟩ := List.mem_map.1 hx
        rfl) (by unfold maxLen; omega) (by omega) hbase
    refine ⟨v', w', hr, ?_, h3, ?_⟩
    · rw [List.length_append, byteVals_append]; exact h2
    · rcases h5 with e | e
      · exact Or.inl e
      · exact Or.inr ⟨_, e, Nat.le_refl _⟩

theorem mem_range_append {a b : List Int} (ha : ∀ u ∈ a, 0 ≤ u ∧ u ≤ 255) (hb : ∀ u ∈ b, 0 ≤ u ∧ u ≤ 255) : ∀ u ∈ a ++ b, 0 ≤ u ∧ u ≤ 255 := by
  intro u hu
  rcases List.mem_append.1 hu with h | h
  · exact ha u h
  · exact hb u h

/-- The walk's step. -/
theorem wp_app {P : Program} {ops : Array Oper} {rest : List Oper} {o : Oper} {a : Act} {Q : Exit → Act → World → Prop} (hP : P = Tryd.prog) (hgd : o.guard = none) (hty : o.type = 22) (s x : Operand)
    (ho : o.op = .call { callee := .builtin .append, args := #[s, x], argTypes := #[22, 22] }) {w : World} {v u v' : Value} {w' : World} (hs : a.eval s = v) (hx : a.eval x = u)
    (hr : (Builtin.append_ #[22, 22] 22 #[v, u]).run Tryd.prog w = .ok v' w') (hk : wpList P ops Q rest (a.put o.dst v') w') : wpList P ops Q (o :: rest) a w := by
  subst hP
  refine wpList_plain hgd fun K hK => ?_
  unfold Oper.wp execOp
  simp only [ho, hty, resolve, invoke, builtin, Sem.run_bind, Sem.run_pure, Result.andThen_ok, List.map_toArray, List.map_cons, List.map_nil, hs, hx, hr]
  exact hK _ _ hk

/-- The words l as values. -/
def words (l : List Int) : List Value := l.map (Value.int .u32)

theorem words_length (l : List Int) : (words l).length = l.length := by simp [words]

theorem bv_length (l : List Int) : (byteVals l).length = l.length := by simp [byteVals]

/-- Block B of w holds the bytes l and nothing else. -/
def RowB (w : World) (B : Nat) (t : TypeId) (l : List Int) : Prop := w.heap[B]? = some (.cells (byteVals l).toArray t (0, 0))

/-- Block B of w holds the words l and nothing else. -/
def RowW (w : World) (B : Nat) (t : TypeId) (l : List Int) : Prop := w.heap[B]? = some (.cells (words l).toArray t (0, 0))

section
variable {w w' : World} {B : Nat} {t : TypeId} {l : List Int}
theorem RowB.cell (h : RowB w B t l) {j : Nat} {x : Int} (hj : l[j]? = some x) : w.cell? ⟨B, j, none⟩ = some (.int .u8 x) := by
  rw [cell_of_row w B j _ t (0, 0) h]; simp [byteVals, hj]

theorem RowW.cell (h : RowW w B t l) {j : Nat} {x : Int} (hj : l[j]? = some x) : w.cell? ⟨B, j, none⟩ = some (.int .u32 x) := by
  rw [cell_of_row w B j _ t (0, 0) h]; simp [words, hj]

theorem RowB.set (h : RowB w B t l) (i : Nat) (x : Int) : RowB (w.setCell ⟨B, i, none⟩ (.int .u8 x)) B t (l.set i x) := by
  unfold RowB
  rw [heap_setCell_same w B i _ t _ h]
  simp [byteVals, List.map_set]

theorem RowB.kept (h : RowB w B t l) (e : w'.heap[B]? = w.heap[B]?) : RowB w' B t l := e.trans h

theorem RowW.kept (h : RowW w B t l) (e : w'.heap[B]? = w.heap[B]?) : RowW w' B t l := e.trans h

theorem RowB.new (w : World) (t : TypeId) (l : List Int) : RowB (w.alloc (.cells (byteVals l).toArray t)) w.heap.size t l := heap_alloc_new w _
end
theorem RowB.new' {B : Nat} {t : TypeId} {l : List Int} (w : World) {cs : Array Value} (hB : B = w.heap.size) (h : cs = (byteVals l).toArray) : RowB (w.alloc (.cells cs t)) B t l := by
  subst hB h; exact RowB.new w t l

theorem RowB.put {w : World} {B : Nat} {t : TypeId} {l l' : List Int} (h : RowB w B t l) : RowB (w.setRow B (byteVals l').toArray) B t l' := setRow_heap w B _ _ t _ h

theorem bsetRow {B0 B : Nat} {a w : World} (h : Below B0 a w) (hB : B0 ≤ B) (cs : Array Value) : Below B0 a (w.setRow B cs) :=
  h.trans ⟨rfl, rfl, rfl, by simp, fun k hk => setRow_other w B k cs (by omega)⟩

theorem all_byteVals (l : List Int) : (byteVals l).toArray.all (·.oneCell') = true := by
  rw [List.all_toArray]; simp [byteVals, Value.oneCell']

theorem Bs.sub {F : Nat → Prop} {w : World} {g off n cap : Nat} {b : List Int} (h : Bs F w (.slice (some ⟨g, off, none⟩) n cap) b) (lo len c : Nat) (hl : lo + len ≤ b.length) (hc : len ≤ c) :
    Bs F w (.slice (some ⟨g, off + lo, none⟩) len c) ((b.drop lo).take len) := by
  obtain ⟨h1, h2, a, cp, h3, h4, h5⟩ := h
  simp only [Value.slice.injEq] at h3
  obtain ⟨rfl, rfl, rfl⟩ := h3
  have hlen : ((b.drop lo).take len).length = len := by simp; omega
  refine ⟨by omega, fun u hu => h2 u (List.mem_of_mem_drop (List.mem_of_mem_take hu)), some ⟨g, off + lo, none⟩, c, by rw [hlen], by omega, fun hp => ?_⟩
  obtain ⟨g', off', ha, hf, hcell⟩ := h5 (by omega)
  simp only [Option.some.injEq, Addr.mk.injEq] at ha
  obtain ⟨rfl, rfl, _⟩ := ha
  refine ⟨g, off + lo, rfl, hf, fun j u hj => ?_⟩
  have := hcell (lo + j) u (by
    rw [List.getElem?_take] at hj
    split at hj
    · rw [List.getElem?_drop] at hj; exact hj
    · cases hj)
  rw [Nat.add_assoc]
  exact this

theorem slice_nil {a : Option Addr} {w : World} {F : Nat → Prop} {cap : Nat} {b : List Int} (h : Bs F w (.slice a b.length cap) b) (h0 : a = none) : b = [] := by
  obtain ⟨_, _, a', c', e, _, hp⟩ := h
  simp only [Value.slice.injEq] at e
  obtain ⟨rfl, _, _⟩ := e
  subst h0
  rcases Nat.eq_zero_or_pos b.length with h | h
  · exact List.length_eq_zero_iff.1 h
  · obtain ⟨g, off, e, _⟩ := hp h
    cases e

theorem Bs.take {F : Nat → Prop} {w : World} {a : Option Addr} {cap : Nat} {b : List Int} (h : Bs F w (.slice a b.length cap) b) (m : Nat) (hm : m ≤ b.length) : Bs F w (.slice a m cap) (b.take m) := by
  obtain ⟨h1, h2, a', c', e, h4, h5⟩ := h
  simp only [Value.slice.injEq] at e
  obtain ⟨rfl, _, rfl⟩ := e
  have hl : (b.take m).length = m := by simp; omega
  refine ⟨by omega, fun u hu => h2 u (List.mem_of_mem_take hu), a, cap, by rw [hl], by omega, fun hp => ?_⟩
  obtain ⟨g, off, ha, hf, hc⟩ := h5 (by omega)
  refine ⟨g, off, ha, hf, fun j u hj => hc j u ?_⟩
  rw [List.getElem?_take] at hj
  split at hj
  · exact hj
  · cases hj

theorem owns_base {w : World} {base b e size n : Nat} {v : Value} {xs : List Value} (h : w.ownsRow base e size v n xs) (hb : b ≤ base) : w.ownsRow b e size v n xs := by
  refine ⟨h.1, ?_⟩
  rcases h.2 with h2 | ⟨g, cap, cur, h1, h2, h3⟩
  · exact Or.inl h2
  · exact Or.inr ⟨g, cap, cur, h1, Nat.le_trans hb h2, h3⟩

theorem Bs.ofRow {F : Nat → Prop} {w : World} {B : Nat} {t : TypeId} {l : List Int} (h : RowB w B t l) (hF : F B) (hr : ∀ u ∈ l, 0 ≤ u ∧ u ≤ 255) (n cap : Nat) (hn : n ≤ l.length) (hcap : n ≤ cap) (hle : n ≤ 140737488355328) :
    Bs F w (.slice (some ⟨B, 0, none⟩) n cap) (l.take n) := by
  have hl : (l.take n).length = n := by simp; omega
  refine ⟨by omega, fun u hu => hr u (List.mem_of_mem_take hu), some ⟨B, 0, none⟩, cap, by rw [hl], by omega, fun _ => ⟨B, 0, rfl, hF, fun j u hj => ?_⟩⟩
  rw [Nat.zero_add]
  refine h.cell ?_
  rw [List.getElem?_take] at hj
  split at hj
  · exact hj
  · cases hj

theorem Bs.ofOwn {base : Nat} {w : World} {v : Value} {bs : List Int} (h : w.ownsRow base 5 1 v bs.length (byteVals bs)) (hl : bs.length ≤ 140737488355328) (hr : ∀ u ∈ bs, 0 ≤ u ∧ u ≤ 255) :
    Bs (fun k => base ≤ k ∧ k < w.heap.size ∧ v.ownBlock = some k) w v bs := by
  obtain ⟨_, h2⟩ := h
  rcases h2 with ⟨rfl, h0⟩ | ⟨g, cap, cur, rfl, hb, hh, hn, hm, hs, ht⟩
  · exact ⟨hl, hr, none, 0, by rw [h0], by omega, fun hp => by omega⟩
  · refine ⟨hl, hr, _, cap, rfl, hn, fun _ => ⟨g, 0, rfl, ⟨hb, (Array.getElem?_eq_some_iff.1 hh).1, rfl⟩, fun j u hj => ?_⟩⟩
    have hc := cell_of_row w g (0 + j) cur 5 (0, 0) hh
    rw [hc]
    have : (byteVals bs)[j]? = some (.int .u8 u) := by unfold byteVals; rw [List.getElem?_map, hj]; rfl
    rw [← ht, List.getElem?_take] at this
    split at this
    · simpa using this
    · cases this

/-- 'string(b)' of a slice. -/
theorem conv_str {F : Nat → Prop} {w : World} {v : Value} {b : List Int} (h : Bs F w v b) : (convert 22 9 v).run Tryd.prog w = .ok (.string (strOfNums b)) w := by
  by_cases hp : 0 < b.length
  · obtain ⟨g, off, cap, rfl, _, _, hc⟩ := h.at hp
    exact run_convert_bytes_arg (P := Tryd.prog) w 22 5 Tryd.underlying22 Tryd.underlying5 g off b.length cap b rfl (fun i hi => by
      rw [hc i _ (List.getElem?_eq_getElem hi), List.getD_eq_getElem?_getD, List.getElem?_eq_getElem hi]; rfl) 9 Tryd.underlying9
  · have hb : b = [] := List.eq_nil_of_length_eq_zero (by omega)
    subst hb
    obtain ⟨_, _, a, cap, rfl, _, _⟩ := h
    rw [run_convert_bytes_string w 22 9 5 a _ cap Tryd.underlying22 Tryd.underlying5 Tryd.underlying9]
    cases a with
    | none => rfl
    | some x =>
      have := run_bytesToString (P := Tryd.prog) w x ([] : List Int).length cap [] (by simp [loadCells, loadCellsFrom])
      rw [this]
      rfl

theorem nums_inj {a b : List Int} (ha : ∀ u ∈ a, 0 ≤ u ∧ u ≤ 255) (hb : ∀ u ∈ b, 0 ≤ u ∧ u ≤ 255) : ((strOfNums a).toList == (strOfNums b).toList) = decide (a = b) := by
  rw [ByteArray.toList_eq, ByteArray.toList_eq]
  rw [strOfNums_data, strOfNums_data]
  by_cases h : a = b
  · subst h; simp
  · have : (a.map fun n => UInt8.ofNat n.toNat) ≠ (b.map fun n => UInt8.ofNat n.toNat) := by
      intro e
      apply h
      have back : ∀ l : List Int, (∀ u ∈ l, 0 ≤ u ∧ u ≤ 255) → (l.map fun n => UInt8.ofNat n.toNat).map (fun c => (c.toNat : Int)) = l := by
        intro l hl
        rw [List.map_map]
        conv => rhs; rw [← List.map_id l]
        apply List.map_congr_left
        intro u hu
        have := hl u hu
        simp only [Function.comp, id]
        rw [UInt8.toNat_ofNat', Nat.mod_eq_of_lt (by omega)]
        omega
      rw [← back a ha, ← back b hb, e]
    simp [this, h]

end Go.Proofs.YtdmlnjgbfkkjdaaDoor
