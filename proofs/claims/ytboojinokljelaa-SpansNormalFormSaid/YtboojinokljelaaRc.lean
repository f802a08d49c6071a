/-
  Slices of integers; walks: insert, boundaries of the reference.
-/
import Derived.Test.YtboojinokljelaaPn
import Derived.Test.YtboojinokljelaaCa
namespace Go.Proofs.Ytboojinokljelaa
open Go.RowKit

theorem Try.info3 : (Try.prog.info? 3).map (fun i => (i.zero, i.size, i.bytes)) = some (some (.int .i64 0), 1, 8) := by kernel_rfl

def ints (l : List Int) : List Value := l.map (Value.int .i64)
theorem ints_length (l : List Int) : (ints l).length = l.length := by simp [ints]
theorem ints_append (x y : List Int) : ints (x ++ y) = ints x ++ ints y := by simp [ints]
theorem ints_one (l : List Int) : ∀ u ∈ ints l, u.oneCell' = true := by
  intro u h
  obtain ⟨n, _, rfl⟩ := List.mem_map.1 h
  rfl

/-- The slice v, not nil, holds the integers l. -/
def Iv (F : Nat → Prop) (w : World) (v : Value) (l : List Int) : Prop :=
  l.length ≤ 10000 ∧ (∀ s ∈ l, I64 s) ∧ ∃ g off cap, v = .slice (some ⟨g, off, none⟩) l.length cap ∧ l.length ≤ cap ∧ F g ∧ ∀ j s, l[j]? = some s → w.cell? ⟨g, off + j, none⟩ = some (.int .i64 s)
theorem Iv.kept {F F' : Nat → Prop} {w w' : World} {v : Value} {b : List Int} (h : Iv F w v b) (hw : ∀ k, F k → w'.heap[k]? = w.heap[k]?) (hF : ∀ k, F k → F' k) : Iv F' w' v b := by
  obtain ⟨h1, h2, g, off, cap, h3, h4, hf, hc⟩ := h
  exact ⟨h1, h2, g, off, cap, h3, h4, hF g hf, fun j u hj => (World.cell?_of_block (w := w) (hw g hf)).trans (hc j u hj)⟩
theorem Iv.on {w w' : World} {v : Value} {b : List Int} (h : Iv (fun k => k < w.heap.size) w v b) (hb : Below w.heap.size w w') : Iv (fun k => k < w'.heap.size) w' v b :=
  h.kept (fun k hk => hb.block k hk) (fun k hk => Nat.lt_of_lt_of_le hk hb.size)

/-- Under way: the slice v, not nil, holds the integers l, of the call's own. -/
structure ApI (w : World) (l : List Int) (v : Value) (wr : World) : Prop where
  own : wr.ownsRow w.heap.size 3 1 v l.length (ints l)
  below : Below w.heap.size w wr
theorem ApI.call {w wr w2 : World} {l : List Int} {v : Value} (h : ApI w l v wr) (hb : Below wr.heap.size wr w2) : ApI w l v w2 := by
  refine ⟨h.own.kept (row := none) ⟨hb.os, hb.tape, hb.output, hb.size, fun i hi _ => hb.block i hi⟩ (by cases hx : v.ownBlock <;> simp), h.below.trans (hb.mono h.below.size)⟩
theorem ApI.alloc {w wr : World} {l : List Int} {v : Value} (h : ApI w l v wr) (o : Obj) : ApI w l v (wr.alloc o) := h.call (ball (Below.refl _ _) o)
theorem ApI.made {w wr : World} (h : Below w.heap.size w wr) : ApI w [] (.slice (some ⟨wr.heap.size, 0, none⟩) 0 0) (wr.alloc (.cells #[] 3)) :=
  ⟨World.ownsRow_made wr #[] 0 h.size (by decide) rfl, h.alloc h.size _⟩

/-- append(v, ns..), the new elements wherever they lie. -/
theorem ApI.push {w wr : World} {l : List Int} {v : Value} (h : ApI w l v wr) (a : Addr) (ns : List Int) (m c : Nat) (hm : m = ns.length) (hc : ∀ j u, ns[j]? = some u → wr.cell? (a.add j) = some (.int .i64 u)) (hn : l.length + ns.length ≤ 100000) :
    ∃ v' w', (Builtin.append_ #[56, 56] 56 #[v, .slice (some a) m c]).run Try.prog wr = .ok v' w' ∧ ApI w (l ++ ns) v' w' ∧ ∀ k, k < wr.heap.size → v.ownBlock ≠ some k → w'.heap[k]? = wr.heap[k]? := by
  subst hm
  obtain ⟨i0, hi, hz0, hz1, hz2⟩ := info_parts Try.info3
  obtain ⟨v', w', hr, h2, h3, h4⟩ := run_append_own (P := Try.prog) wr w.heap.size 56 56 3 i0 _ 1 8 Try.underlying56 hi hz0 hz1 hz2 rfl (by decide) v l.length (ints l) h.own
    a ns.length c (ints ns) (by rw [ints_length, Nat.mul_one]) (fun j u hu => by
      unfold ints at hu
      rw [List.getElem?_map] at hu
      obtain ⟨n, hn, rfl⟩ := Option.map_eq_some_iff.1 hu
      exact hc j n hn) (ints_one _) (by unfold maxLen; omega) (by omega) h.below.size
  refine ⟨v', w', hr, ⟨?_, ?_⟩, fun k hk hne => h3.block k hk hne.symm⟩
  · rw [ints_append, List.length_append]
    exact h2
  · exact h.below.grown h3 h.below.size (fun k hk => (h.own.lt k hk).1)
/-- What the call owns, as a list of integers, if it isn't nil. -/
theorem ApI.iv {w wr : World} {l : List Int} {v : Value} (h : ApI w l v wr) (hI : ∀ s ∈ l, I64 s) (hn : l.length ≤ 10000) (hv : 0 < l.length) : Iv (fun k => k < wr.heap.size) wr v l := by
  rcases h.own.2 with ⟨h00, h0⟩ | ⟨g, cap, cr, rfl, hb, hh, hn2, hm, hs, ht⟩
  · omega
  · refine ⟨hn, hI, g, 0, cap, rfl, hn2, (Array.getElem?_eq_some_iff.1 hh).1, fun j s hj => ?_⟩
    have e1 : (ints l)[j]? = some (.int .i64 s) := by unfold ints; rw [List.getElem?_map, hj]; rfl
    rw [← ht, List.getElem?_take] at e1
    rw [cell_of_row wr g _ cr 3 (0, 0) hh, Nat.zero_add]
    split at e1
    · simpa using e1
    · cases e1

/-- The walk's step of an append of integers. -/
theorem wp_appi {P : Program} {ops : Array Oper} {rest : List Oper} {o : Oper} {a : Act} {Q : Exit → Act → World → Prop} (hP : P = Try.prog) (hgd : o.guard = none) (hty : o.type = 56) (s x : Operand)
    (ho : o.op = .call { callee := .builtin .append, args := #[s, x], argTypes := #[56, 56] }) {w : World} {v u v' : Value} {w' : World} (hs : a.eval s = v) (hx : a.eval x = u)
    (hr : (Builtin.append_ #[56, 56] 56 #[v, u]).run Try.prog w = .ok v' w') (hk : wpList P ops Q rest (a.put o.dst v') w') : wpList P ops Q (o :: rest) a w := by
  subst hP
  refine wpList_plain hgd fun K hK => ?_
  unfold Oper.wp execOp
  simp only [ho, hty, resolve, invoke, builtin, Sem.run_bind, Sem.run_pure, Result.andThen_ok, List.map_toArray, List.map_cons, List.map_nil, hs, hx, hr]
  exact hK _ _ hk

theorem ins_split : ∀ (l : List Int) (x : Int) (k : Nat), k ≤ l.length → (∀ j y, j < k → l[j]? = some y → y < x) → (∀ y, l[k]? = some y → x < y) → ins l x = l.take k ++ x :: l.drop k
  | [], x, k, hk, _, _ => by
    have : k = 0 := by simpa using hk
    subst this; rfl
  | y :: t, x, 0, _, _, h => by
    have := h y rfl
    simp only [ins]
    rw [if_neg (by omega), if_neg (by omega)]
    simp
  | y :: t, x, k + 1, hk, h1, h2 => by
    have hy := h1 0 y (by omega) rfl
    simp only [ins]
    rw [if_pos hy, ins_split t x k (by simpa using hk) (fun j z hj hz => h1 (j + 1) z (by omega) (by simpa using hz)) (fun z hz => h2 z (by simpa using hz))]
    simp
theorem ins_there : ∀ (l : List Int) (x : Int) (k : Nat), (∀ j y, j < k → l[j]? = some y → y < x) → l[k]? = some x → ins l x = l
  | [], x, k, _, h => by simp at h
  | y :: t, x, 0, _, h => by
    simp at h
    subst h
    simp [ins]
  | y :: t, x, k + 1, h1, h2 => by
    have hy := h1 0 y (by omega) rfl
    simp only [ins]
    rw [if_pos hy, ins_there t x k (fun j z hj hz => h1 (j + 1) z (by omega) (by simpa using hz)) (by simpa using h2)]

theorem Iv.cell {F : Nat → Prop} {w : World} {g off n c : Nat} {l : List Int} (h : Iv F w (.slice (some ⟨g, off, none⟩) n c) l) (k : Nat) (x : Int) (hk : l[k]? = some x) : w.cell? ⟨g, off + k, none⟩ = some (.int .i64 x) := by
  obtain ⟨_, h1, g', o', c', h2, h3, hg, hc⟩ := h
  simp only [Value.slice.injEq, Option.some.injEq, Addr.mk.injEq] at h2
  obtain ⟨⟨rfl, rfl, _⟩, rfl, rfl⟩ := h2
  exact hc k _ hk
theorem Iv.pick {F : Nat → Prop} {w : World} {g off n c : Nat} {l : List Int} (h : Iv F w (.slice (some ⟨g, off, none⟩) n c) l) (k : Nat) (hk : k < l.length) :
    ∃ x, l[k]? = some x ∧ I64 x ∧ w.cell? ⟨g, off + k, none⟩ = some (.int .i64 x) := by
  obtain ⟨_, h1, g', o', c', h2, h3, hg, hc⟩ := h
  simp only [Value.slice.injEq, Option.some.injEq, Addr.mk.injEq] at h2
  obtain ⟨⟨rfl, rfl, _⟩, rfl, rfl⟩ := h2
  exact ⟨_, List.getElem?_eq_getElem hk, h1 _ (List.getElem_mem hk), hc k _ (List.getElem?_eq_getElem hk)⟩

set_option maxRecDepth 100000 in
set_option maxHeartbeats 2000000 in
theorem insert_any (l : List Int) (x : Int) (g off cap : Nat) (w : World) (hv : Iv (fun k => k < w.heap.size) w (.slice (some ⟨g, off, none⟩) l.length cap) l) (hl : l.length ≤ 5000) (hx : I64 x) (hlc : l.length ≤ cap) (hg : g < w.heap.size) :
    Calls Try.prog 68 #[.slice (some ⟨g, off, none⟩) l.length cap, .int .i64 x] w fun e w' => ∃ v, e = .returned v ∧ Below w.heap.size w w' ∧ Iv (fun k => k < w'.heap.size) w' v (ins l x) := by
  have HV := Lib.hid hv; have HX := Lib.hid hx
  clear hv hx
  obtain ⟨n, hn⟩ : ∃ n, n = l.length := ⟨_, rfl⟩
  have HN := Lib.hid hn
  rw [← hn] at hl hlc
  go_enter Try.func68, Try.ntmps68
  rw [← hn]
  clear hn
  go_wp2
  go_loopw [5] (fun t wr => ∃ (k : Nat), k ≤ n ∧ t = .int .i64 k ∧ Hid (∀ (j : Nat) (y : Int), j < k → l[j]? = some y → y < x) ∧ wr = w) (fun t _ => n - (intOf t).toNat)
  case atStart => exact ⟨0, by omega, rfl, Lib.hid (fun j s hj => by omega), rfl⟩
  case round =>
    obtain ⟨k, hk, rfl, HF, rfl⟩ := hrel
    by_cases hlt : k < n
    · have hlt2 : (k : Int) < (n : Int) := by omega
      obtain ⟨y, hy, _, c0⟩ := HV.out.pick k (by have := HN.out; omega)
      by_cases h1 : y < x
      · have HF2 : Hid (∀ (j : Nat) (y : Int), j < k + 1 → l[j]? = some y → y < x) := Lib.hid (fun j z hj hz => by
          rcases Nat.lt_or_ge j k with h | h
          · exact HF.out j z h hz
          · obtain rfl : j = k := by omega
            rw [hy] at hz
            obtain rfl := Option.some.inj hz
            exact h1)
        clear HF hy
        go_wp2
        go_roundw
        case rel => exact ⟨k + 1, by omega, by go_num, HF2, trivial⟩
        case measure => simp [intOf]; omega
      · by_cases h2 : y = x
        · have he : ins l x = l := ins_there l x k HF.out (by rw [hy, h2])
          have HE := Lib.hid he
          clear hy he HF h1
          go_wp2
          go_ret
          exact ⟨_, rfl, Below.refl _ _, by rw [HE.out, HN.out]; exact HV.out⟩
        · have h2' : (y == x) = false := by simpa using h2
          have he : ins l x = l.take k ++ x :: l.drop k := ins_split l x k (by have := HN.out; omega) HF.out (fun z hz => by
            rw [hy] at hz
            obtain rfl := Option.some.inj hz
            omega)
          obtain ⟨v1, w1, hr1, ha1, _⟩ := (ApI.made (w := wr) (Below.refl _ _)).push ⟨g, off, none⟩ (l.take k) k cap (by rw [List.length_take]; have := HN.out; omega) (fun j u hu => by
            rw [Addr.add_lit, World.cell?_alloc_some _ _ _ (by
              have hj := (List.getElem?_eq_some_iff.1 hu).1
              rw [List.getElem?_take_of_lt (by rw [List.length_take] at hj; omega)] at hu
              rw [HV.out.cell j u hu]; rfl)]
            have hj := (List.getElem?_eq_some_iff.1 hu).1
            rw [List.getElem?_take_of_lt (by rw [List.length_take] at hj; omega)] at hu
            exact HV.out.cell j u hu) (by rw [List.length_take, List.length_nil]; omega)
          rw [List.nil_append] at ha1
          obtain ⟨v2, w2, hr2, ha2, _⟩ := (ha1.alloc (.cells #[.int .i64 x] 3)).push ⟨w1.heap.size, 0, none⟩ [x] 1 1 rfl (fun j u hu => by
            rw [Addr.add_lit, Nat.zero_add, cell_of_row _ w1.heap.size j _ 3 (0, 0) (heap_alloc_new w1 _)]
            have hj : j = 0 := by have := (List.getElem?_eq_some_iff.1 hu).1; simpa using this
            subst hj
            simp at hu
            subst hu
            rfl) (by rw [List.length_take, List.length_singleton]; omega)
          obtain ⟨v3, w3, hr3, ha3, _⟩ := ha2.push ⟨g, off + k, none⟩ (l.drop k) (n - k) (cap - k) (by rw [List.length_drop]; have := HN.out; omega) (fun j u hu => by
            rw [Addr.add_lit]
            rw [List.getElem?_drop] at hu
            have := HV.out.cell (k + j) u hu
            rw [← Nat.add_assoc] at this
            exact (ha2.below.cell (p := ⟨g, off + k + j, none⟩) hg).trans this) (by rw [List.length_append, List.length_take, List.length_drop, List.length_singleton]; have := HN.out; omega)
          rw [List.append_assoc, List.singleton_append, ← he] at ha3
          have hiv := ha3.iv (fun s hs => by
            rcases (ins_mem l x s).1 hs with h | rfl
            · exact HV.out.2.1 s h
            · exact HX.out) (by have := ins_length l x; have := HN.out; omega) (by rw [he]; simp; omega)
          have R1 := Lib.hid hr1; have R2 := Lib.hid hr2; have R3 := Lib.hid hr3; have H3 := Lib.hid ha3; have HIV := Lib.hid hiv
          clear hr1 hr2 hr3 ha1 ha2 ha3 hiv he hy HF
          go_wp2_with (first | (at_builtin; refine wp_appi rfl rfl rfl (.tmp 34) (.tmp 37) rfl rfl rfl R1.out ?_) | (at_builtin; refine wp_appi rfl rfl rfl (.tmp 39) (.tmp 41) rfl rfl rfl R2.out ?_) | (at_builtin; refine wp_appi rfl rfl rfl (.tmp 43) (.tmp 46) rfl rfl rfl R3.out ?_))
          go_ret
          exact ⟨_, rfl, H3.out.below, HIV.out⟩
    · have hk2 : k = n := by omega
      subst hk2
      have hlt2 : ¬ ((k : Int) < (k : Int)) := by omega
      have he : ins l x = l.take k ++ x :: l.drop k := ins_split l x k (by have := HN.out; omega) HF.out (fun z hz => by
        have := (List.getElem?_eq_some_iff.1 hz).1
        have := HN.out
        omega)
      by_cases hck : cap = k
      · have hck2 := hck.symm
        subst hck2
        clear hck
        obtain ⟨v1, w1, hr1, ha1, _⟩ := (ApI.made (w := wr) (Below.refl _ _)).push ⟨g, off, none⟩ (l.take k) k k (by rw [List.length_take]; have := HN.out; omega) (fun j u hu => by
          rw [Addr.add_lit, World.cell?_alloc_some _ _ _ (by
            have hj := (List.getElem?_eq_some_iff.1 hu).1
            rw [List.getElem?_take_of_lt (by rw [List.length_take] at hj; omega)] at hu
            rw [HV.out.cell j u hu]; rfl)]
          have hj := (List.getElem?_eq_some_iff.1 hu).1
          rw [List.getElem?_take_of_lt (by rw [List.length_take] at hj; omega)] at hu
          exact HV.out.cell j u hu) (by rw [List.length_take, List.length_nil]; omega)
        rw [List.nil_append] at ha1
        obtain ⟨v2, w2, hr2, ha2, _⟩ := (ha1.alloc (.cells #[.int .i64 x] 3)).push ⟨w1.heap.size, 0, none⟩ [x] 1 1 rfl (fun j u hu => by
          rw [Addr.add_lit, Nat.zero_add, cell_of_row _ w1.heap.size j _ 3 (0, 0) (heap_alloc_new w1 _)]
          have hj : j = 0 := by have := (List.getElem?_eq_some_iff.1 hu).1; simpa using this
          subst hj
          simp at hu
          subst hu
          rfl) (by rw [List.length_take, List.length_singleton]; omega)
        obtain ⟨v3, w3, hr3, ha3, _⟩ := ha2.push ⟨g, off, none⟩ (l.drop k) 0 0 (by rw [List.length_drop]; have := HN.out; omega) (fun j u hu => by
          rw [List.drop_eq_nil_of_le (by have := HN.out; omega)] at hu
          simp at hu) (by rw [List.length_append, List.length_take, List.length_drop, List.length_singleton]; have := HN.out; omega)
        rw [List.append_assoc, List.singleton_append, ← he] at ha3
        have hiv := ha3.iv (fun s hs => by
          rcases (ins_mem l x s).1 hs with h | rfl
          · exact HV.out.2.1 s h
          · exact HX.out) (by have := ins_length l x; have := HN.out; omega) (by rw [he]; simp; omega)
        have R1 := Lib.hid hr1; have R2 := Lib.hid hr2; have R3 := Lib.hid hr3; have H3 := Lib.hid ha3; have HIV := Lib.hid hiv
        clear hr1 hr2 hr3 ha1 ha2 ha3 hiv he HF
        go_wp2_with (first | (at_builtin; refine wp_appi rfl rfl rfl (.tmp 34) (.tmp 37) rfl rfl rfl R1.out ?_) | (at_builtin; refine wp_appi rfl rfl rfl (.tmp 39) (.tmp 41) rfl rfl rfl R2.out ?_) | (at_builtin; refine wp_appi rfl rfl rfl (.tmp 43) (.tmp 46) rfl rfl rfl R3.out ?_))
        go_ret
        exact ⟨_, rfl, H3.out.below, HIV.out⟩
      · skip
        obtain ⟨v1, w1, hr1, ha1, _⟩ := (ApI.made (w := wr) (Below.refl _ _)).push ⟨g, off, none⟩ (l.take k) k cap (by rw [List.length_take]; have := HN.out; omega) (fun j u hu => by
          rw [Addr.add_lit, World.cell?_alloc_some _ _ _ (by
            have hj := (List.getElem?_eq_some_iff.1 hu).1
            rw [List.getElem?_take_of_lt (by rw [List.length_take] at hj; omega)] at hu
            rw [HV.out.cell j u hu]; rfl)]
          have hj := (List.getElem?_eq_some_iff.1 hu).1
          rw [List.getElem?_take_of_lt (by rw [List.length_take] at hj; omega)] at hu
          exact HV.out.cell j u hu) (by rw [List.length_take, List.length_nil]; omega)
        rw [List.nil_append] at ha1
        obtain ⟨v2, w2, hr2, ha2, _⟩ := (ha1.alloc (.cells #[.int .i64 x] 3)).push ⟨w1.heap.size, 0, none⟩ [x] 1 1 rfl (fun j u hu => by
          rw [Addr.add_lit, Nat.zero_add, cell_of_row _ w1.heap.size j _ 3 (0, 0) (heap_alloc_new w1 _)]
          have hj : j = 0 := by have := (List.getElem?_eq_some_iff.1 hu).1; simpa using this
          subst hj
          simp at hu
          subst hu
          rfl) (by rw [List.length_take, List.length_singleton]; omega)
        obtain ⟨v3, w3, hr3, ha3, _⟩ := ha2.push ⟨g, off + k, none⟩ (l.drop k) 0 (cap - k) (by rw [List.length_drop]; have := HN.out; omega) (fun j u hu => by
          rw [List.drop_eq_nil_of_le (by have := HN.out; omega)] at hu
          simp at hu) (by rw [List.length_append, List.length_take, List.length_drop, List.length_singleton]; have := HN.out; omega)
        rw [List.append_assoc, List.singleton_append, ← he] at ha3
        have hiv := ha3.iv (fun s hs => by
          rcases (ins_mem l x s).1 hs with h | rfl
          · exact HV.out.2.1 s h
          · exact HX.out) (by have := ins_length l x; have := HN.out; omega) (by rw [he]; simp; omega)
        have R1 := Lib.hid hr1; have R2 := Lib.hid hr2; have R3 := Lib.hid hr3; have H3 := Lib.hid ha3; have HIV := Lib.hid hiv
        clear hr1 hr2 hr3 ha1 ha2 ha3 hiv he HF
        go_wp2_with (first | (at_builtin; refine wp_appi rfl rfl rfl (.tmp 34) (.tmp 37) rfl rfl rfl R1.out ?_) | (at_builtin; refine wp_appi rfl rfl rfl (.tmp 39) (.tmp 41) rfl rfl rfl R2.out ?_) | (at_builtin; refine wp_appi rfl rfl rfl (.tmp 43) (.tmp 46) rfl rfl rfl R3.out ?_))
        go_ret
        exact ⟨_, rfl, H3.out.below, HIV.out⟩
end Go.Proofs.Ytboojinokljelaa
