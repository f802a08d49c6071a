/-
  Walks: the examples of the laws (sane): true.
-/
import Derived.Test.YtecgcnfjpaemcaaDoorDj
import Derived.Test.YtecgcnfjpaemcaaDoorEv
import Derived.Test.YtecgcnfjpaemcaaDoorEq
import Derived.Lib.SlBytesConst
import Derived.Deep.MidRow
import Derived.Deep.RegionHeld3
namespace Go.Proofs.YtecgcnfjpaemcaaDoor
open Go.RowKit

set_option maxHeartbeats 1000000 in
theorem vector_true (D : List Int) (a b c d e : Int) (w : World) (h0 : D[0]? = some a) (h1 : D[1]? = some b) (h2 : D[2]? = some c) (h3 : D[3]? = some d) (h4 : D[31]? = some e) :
    Calls Tryd.prog 27 #[.agg (byteVals D).toArray, .int .u8 a, .int .u8 b, .int .u8 c, .int .u8 d, .int .u8 e] w fun r w' => r = .returned (.bool true) ∧ Below w.heap.size w w' := by
  have hr := RowB.new w 25 D
  have c0 := hr.cell h0
  have c1 := hr.cell h1
  have c2 := hr.cell h2
  have c3 := hr.cell h3
  have c4 := hr.cell h4
  clear hr h0 h1 h2 h3 h4
  go_enter Tryd.func27, Tryd.ntmps27
  go_wp2
  go_ret
  exact ⟨rfl, ball (Below.refl _ _) _⟩

/-- A digest stored whole into a block that holds one: the world behind it, under a name of its own. -/
theorem st25 {ops : Array Oper} {rest : List Oper} {o : Oper} {a : Act} {w : World} {Q : Exit → Act → World → Prop} (hgd : o.guard = none) (x y : Operand) (ho : o.op = .store 25 x y)
    (g : Nat) (l l0 : List Int) (hx : a.eval x = .pointer (some ⟨g, 0, none⟩)) (hy : a.eval y = .agg (byteVals l).toArray) (hg : RowB w g 25 l0) (h0 : l0.length = 32) (h1 : l.length = 32)
    (h : ∀ w', RowB w' g 25 l → (∀ k, k ≠ g → w'.heap[k]? = w.heap[k]?) → w'.heap.size = w.heap.size → (∀ (B0 : Nat) (c : World), B0 ≤ g → Below B0 c w → Below B0 c w') → wpList Tryd.prog ops Q rest (a.put o.dst undef) w') : wpList Tryd.prog ops Q (o :: rest) a w :=
  wpList_store_row hgd 25 x y ho g _ hx hy 25 _ hg (size25 _ h1) (by rw [List.size_toArray, List.size_toArray, bv_length, bv_length]; omega) (all_byteVals _)
    (h _ (RowB.put hg) (fun k hk => setRow_other _ _ _ _ hk) (by simp) (fun _ _ hB hb => bsetRow hb hB _))

theorem ball' {B : Nat} {a w : World} (h : Below B a w) (o : Obj) (hB : B ≤ w.heap.size := by omega) : Below B a (w.alloc o) := h.alloc hB o

theorem KOk.alloc {w : World} (h : KOk w) (o : Obj) : KOk (w.alloc o) := h.below (ball (Below.refl _ _) _)

def zer : List Int := List.replicate 32 0
def nums : List Int := (zer.set 6 1).set 7 2

/-- What holds in the examples: blocks A and N hold the two digests. -/
structure SnS (w : World) (A N : Nat) (w' : World) : Prop where
  below : Below w.heap.size w w'
  a : RowB w' A 25 zer
  n : RowB w' N 25 nums
  la : A < w'.heap.size
  ln : N < w'.heap.size
theorem SnS.call {w w' w2 : World} {A N : Nat} (h : SnS w A N w') (hb : Below w'.heap.size w' w2) : SnS w A N w2 :=
  ⟨h.below.trans (hb.mono h.below.size), h.a.kept (hb.block _ h.la), h.n.kept (hb.block _ h.ln), Nat.lt_of_lt_of_le h.la hb.size, Nat.lt_of_lt_of_le h.ln hb.size⟩
theorem SnS.alloc {w w' : World} {A N : Nat} (h : SnS w A N w') (o : Obj) : SnS w A N (w'.alloc o) := h.call (ball (Below.refl _ _) _)
theorem SnS.drew {w w' : World} {A N : Nat} (h : SnS w A N w') : SnS w A N w'.drew := h.call (Below.drew (Below.refl _ _))

/-- .. and block V holds the digest D, the slice a the byte 32. -/
structure Sn2 (w : World) (A N V : Nat) (D : List Int) (w' : World) : Prop where
  s : SnS w A N w'
  v : RowB w' V 25 D
  lv : V < w'.heap.size
theorem Sn2.call {w w' w2 : World} {A N V : Nat} {D : List Int} (h : Sn2 w A N V D w') (hb : Below w'.heap.size w' w2) : Sn2 w A N V D w2 :=
  ⟨h.s.call hb, h.v.kept (hb.block _ h.lv), Nat.lt_of_lt_of_le h.lv hb.size⟩
theorem Sn2.alloc {w w' : World} {A N V : Nat} {D : List Int} (h : Sn2 w A N V D w') (o : Obj) : Sn2 w A N V D (w'.alloc o) := h.call (ball (Below.refl _ _) _)
theorem Sn2.drew {w w' : World} {A N V : Nat} {D : List Int} (h : Sn2 w A N V D w') : Sn2 w A N V D w'.drew := h.call (Below.drew (Below.refl _ _))
/-- A store into a new block. -/
theorem SnS.put {w w' w2 : World} {A N g : Nat} (h : SnS w A N w') (hg : g = w'.heap.size) (o : Obj) (hk : ∀ k, k ≠ g → w2.heap[k]? = (w'.alloc o).heap[k]?) (hs : w2.heap.size = (w'.alloc o).heap.size)
    (hb : ∀ (B0 : Nat) (c : World), B0 ≤ g → Below B0 c (w'.alloc o) → Below B0 c w2) : SnS w A N w2 := by
  have h1 := h.la; have h2 := h.ln; have h3 := h.below.size
  have hs' : w2.heap.size = w'.heap.size + 1 := by rw [hs]; simp
  refine ⟨hb _ _ (by omega) (h.below.alloc h3 o), ?_, ?_, by omega, by omega⟩
  · exact h.a.kept ((hk _ (by omega)).trans (heap_alloc_old _ _ h1))
  · exact h.n.kept ((hk _ (by omega)).trans (heap_alloc_old _ _ h2))
theorem Sn2.put {w w' w2 : World} {A N V g : Nat} {D : List Int} (h : Sn2 w A N V D w') (hg : g = w'.heap.size) (o : Obj) (hk : ∀ k, k ≠ g → w2.heap[k]? = (w'.alloc o).heap[k]?) (hs : w2.heap.size = (w'.alloc o).heap.size)
    (hb : ∀ (B0 : Nat) (c : World), B0 ≤ g → Below B0 c (w'.alloc o) → Below B0 c w2) : Sn2 w A N V D w2 := by
  have h1 := h.lv
  have hs' : w2.heap.size = w'.heap.size + 1 := by rw [hs]; simp
  exact ⟨h.s.put hg o hk hs hb, h.v.kept ((hk _ (by omega)).trans (heap_alloc_old _ _ h1)), by omega⟩

/-- Value of the integer 0: a digest. -/
theorem v1_any (w' : World) (hk : KOk w') : Calls Tryd.prog 23 #[.string ⟨#[116]⟩, .agg #[.int .i64 1, .int .i64 0, .slice none 0 0, .slice none 0 0]] w' fun e w'' => e = .returned (.tuple #[.agg (byteVals (sha (hmsg (strB ⟨#[116]⟩) [32]))).toArray, .int .i64 0]) ∧ Below w'.heap.size w' w'' := by
  have hr : Rd (fun _ => False) w' (.mk 1 0 [] []) (.agg #[.int .i64 1, .int .i64 0, .slice none 0 0, .slice none 0 0]) := by
    unfold Rd
    exact ⟨.slice none 0 0, none, 0, rfl, by unfold I64; omega, by unfold I64; omega, ⟨by simp, by simp, none, 0, rfl, by simp, by simp⟩, by simp, by simp, by simp⟩
  have he : enc (.mk 1 0 [] []) = [32] := by decide +kernel
  have := value_ok (fun _ => False) ⟨#[116]⟩ (.mk 1 0 [] []) _ w' hk (fun _ h => h.elim) hr (by rw [he]; decide) (by decide) (by decide +kernel)
  rw [he] at this
  exact this
theorem e1_any (w' : World) : Calls Tryd.prog 22 #[.agg #[.int .i64 1, .int .i64 0, .slice none 0 0, .slice none 0 0]] w' fun e w'' => ∃ a c, e = .returned (.tuple #[.slice a 1 c, .int .i64 0]) ∧ Below w'.heap.size w' w'' ∧ Bs (fun k => k < w''.heap.size) w'' (.slice a 1 c) [32] := by
  have hr : Rd (fun _ => False) w' (.mk 1 0 [] []) (.agg #[.int .i64 1, .int .i64 0, .slice none 0 0, .slice none 0 0]) := by
    unfold Rd
    exact ⟨.slice none 0 0, none, 0, rfl, by unfold I64; omega, by unfold I64; omega, ⟨by simp, by simp, none, 0, rfl, by simp, by simp⟩, by simp, by simp, by simp⟩
  have he : enc (.mk 1 0 [] []) = [32] := by decide +kernel
  have hc : chk (.mk 1 0 [] []) = 0 := by decide +kernel
  refine (encode_any (fun _ => False) (.mk 1 0 [] []) w' _ (fun _ h => h.elim) hr (by rw [he]; decide)).mono ?_
  rintro e w'' ⟨vb, rfl, h1, h2, _⟩
  have h3 := h2 hc
  rw [he] at h3
  have h4 := h3
  obtain ⟨_, _, a, c, rfl, _⟩ := h4
  exact ⟨a, c, by rw [hc]; rfl, h1, Bs.kept h3 (fun _ _ => rfl) (fun k hk => hk.2)⟩
theorem v0_any (w' : World) : Calls Tryd.prog 23 #[.string ⟨#[116]⟩, .agg #[.int .i64 0, .int .i64 0, .slice none 0 0, .slice none 0 0]] w' fun e w'' => e = .returned (.tuple #[.agg (byteVals zer).toArray, .int .i64 10]) ∧ Below w'.heap.size w' w'' := by
  have hr : Rd (fun _ => False) w' (.mk 0 0 [] []) (.agg #[.int .i64 0, .int .i64 0, .slice none 0 0, .slice none 0 0]) := by
    unfold Rd
    exact ⟨.slice none 0 0, none, 0, rfl, by unfold I64; omega, by unfold I64; omega, ⟨by simp, by simp, none, 0, rfl, by simp, by simp⟩, by simp, by simp, by simp⟩
  exact value_bad (fun _ => False) ⟨#[116]⟩ (.mk 0 0 [] []) 10 _ w' (fun _ h => h.elim) hr (by decide +kernel) (by decide +kernel) (by decide)

theorem Bs.nil (F : Nat → Prop) (w : World) : Bs F w (.slice none 0 0) [] := ⟨by simp, by simp, none, 0, rfl, by simp, by simp⟩
/-- A new slice of a few bytes. -/
theorem Bs.lit (w : World) (l : List Int) (n : Nat) (hn : l.length = n) (cs : Array Value) (fr : Nat × Nat) (hcs : cs = (byteVals l).toArray) (hr : ∀ u ∈ l, 0 ≤ u ∧ u ≤ 255) (hl : l.length ≤ 1000) : Bs (fun k => k < (w.alloc (.cells cs 5 fr)).heap.size) (w.alloc (.cells cs 5 fr)) (.slice (some ⟨w.heap.size, 0, none⟩) n n) l := by
  subst hn hcs
  refine ⟨by omega, hr, some ⟨w.heap.size, 0, none⟩, l.length, rfl, Nat.le_refl _, fun _ => ⟨w.heap.size, 0, rfl, by simp, fun j u hj => ?_⟩⟩
  rw [Nat.zero_add, cell_of_row _ w.heap.size j _ 5 fr (heap_alloc_new w _)]
  simp [byteVals, hj]
theorem eqSame (D : List Int) (h : D.length = 32) (w : World) : (Op.equalIn 10000 25 (.agg (byteVals D).toArray) (.agg (byteVals D).toArray)).run Tryd.prog w = .ok true w := by
  rw [eqDig D D h h w]; simp

theorem RowB.range {w : World} {B : Nat} {t : TypeId} {l : List Int} (h : RowB w B t l) : w.rangeAt B 0 (byteVals l) := by
  intro j v hv
  rw [Nat.zero_add, cell_of_row w B j _ t (0, 0) h]
  simpa using hv
theorem Sn2.all {w w' : World} {A N V : Nat} {D : List Int} (h : Sn2 w A N V D w') : w'.rangeAt A 0 (byteVals zer) ∧ w'.rangeAt N 0 (byteVals nums) ∧ w'.rangeAt V 0 (byteVals D) ∧ Sn2 w A N V D w' :=
  ⟨h.s.a.range, h.s.n.range, h.v.range, h⟩

theorem Sn2.all2 {w w' : World} {A N V : Nat} {D : List Int} (h : Sn2 w A N V D w') : w'.rangeAt V 0 (byteVals D) ∧ Sn2 w A N V D w' := ⟨h.v.range, h⟩

set_option maxRecDepth 100000 in
set_option maxHeartbeats 4000000 in
theorem sane_true (w : World) (hk : KOk w) : Calls Tryd.prog 11 #[] w fun e w' => e = .returned (.bool true) ∧ Below w.heap.size w w' := by
  have HK := Lib.hid hk; clear hk
  have hz : zer.length = 32 := rfl
  have kc := fun (w : World) (C : Array Value) (n c : Nat) => Lib.run_convert_bytes_const (P := Tryd.prog) w 22 5 C n c Tryd.underlying22 Tryd.underlying5
  obtain ⟨D1, hD1⟩ : ∃ D1, D1 = sha (hmsg (strB ⟨#[116]⟩) [32]) := ⟨_, rfl⟩
  have hl1 : D1.length = 32 := by rw [hD1]; exact sha_length _
  have hv1 := v1_any
  rw [← hD1] at hv1
  have V1 := Lib.hid hv1; have HD1 := Lib.hid hD1; clear hv1 hD1
  go_enter Tryd.func11, Tryd.ntmps11
  go_wp2_with (first | (refine st25 rfl (.tmp 1) (.tmp 12) rfl w.heap.size zer zer rfl rfl (RowB.new' _ rfl rfl) rfl rfl ?_; intro wA rA oA sA bA; have RA := Lib.hid rA; have OA := Lib.hid oA; have SA := Lib.hid sA; have BA := Lib.hid bA; clear rA oA sA bA) | (refine st25 rfl (.tmp 2) (.tmp 13) rfl wA.heap.size zer zer rfl rfl (RowB.new' _ rfl rfl) rfl rfl ?_; intro wB rB oB sB bB; have RB := Lib.hid rB; have OB := Lib.hid oB; have SB := Lib.hid sB; have BB := Lib.hid bB; clear oB sB bB; have c6 := rB.cell (j := 6) (x := 0) rfl; have c7 := rB.cell (j := 7) (x := 0) rfl; have z6 := frozen_of_row wB _ 6 _ _ rB; have z7 := frozen_of_row wB _ 7 _ _ rB; clear rB))
  have hS : SnS w w.heap.size wA.heap.size ((wB.setCell ⟨wA.heap.size, 6, none⟩ (.int .u8 1)).setCell ⟨wA.heap.size, 7, none⟩ (.int .u8 2)) := by
    have hA : wA.heap.size = w.heap.size + 1 := by rw [SA.out]; simp
    have hB : wB.heap.size = w.heap.size + 2 := by rw [SB.out]; simp; omega
    refine ⟨?_, ?_, ?_, by simp; omega, by simp; omega⟩
    · refine ((BB.out _ _ (by omega) ?_).setCell (by show w.heap.size ≤ wA.heap.size; omega) _).setCell (by show w.heap.size ≤ wA.heap.size; omega) _
      exact ball' (BA.out _ _ (Nat.le_refl _) (ball (Below.refl _ _) _)) _
    · refine RowB.kept (RowB.kept ?_ (heap_setCell_other _ _ _ _ (by show _ ≠ wA.heap.size; omega))) (heap_setCell_other _ _ _ _ (by show _ ≠ wA.heap.size; omega))
      exact RowB.kept (RowB.kept RA.out (heap_alloc_old _ _ (by omega))) (OB.out _ (by omega))
    · exact (RB.out.set 6 1).set 7 2
  clear c6 c7 z6 z7 RA OA SA BA RB OB SB BB
  generalize (wB.setCell ⟨wA.heap.size, 6, none⟩ (.int .u8 1)).setCell ⟨wA.heap.size, 7, none⟩ (.int .u8 2) = W1 at *
  obtain ⟨N, hN⟩ : ∃ N, N = wA.heap.size := ⟨_, rfl⟩
  rw [← hN] at hS ⊢
  clear hN
  clear wA wB
  refine (V1.out W1 (HK.out.below hS.below)).mono ?_
  rintro e w1 ⟨rfl, hb1⟩
  have hS1 := hS.call hb1
  clear hS hb1
  have HS1 := Lib.hid hS1; clear hS1
  go_wp2_with (refine st25 rfl (.tmp 3) (.tmp 19) rfl w1.heap.size D1 zer rfl rfl (RowB.new' _ rfl rfl) rfl hl1 ?_; intro wC rC oC sC bC; have RC := Lib.hid rC; have OC := Lib.hid oC; have SC := Lib.hid sC; have BC := Lib.hid bC; clear rC oC sC bC)
  have hS2 : Sn2 w w.heap.size N w1.heap.size D1 wC := ⟨HS1.out.put rfl _ OC.out SC.out BC.out, RC.out, by rw [SC.out]; simp⟩
  clear HS1 RC OC SC BC
  obtain ⟨V, hV⟩ : ∃ V, V = w1.heap.size := ⟨_, rfl⟩
  rw [← hV] at hS2 ⊢
  clear hV
  clear w1
  refine (e1_any wC).mono ?_
  rintro e w2 ⟨a1, c1, rfl, hb2, hB2⟩
  have HS2 := Lib.hid (hS2.call hb2); have HB2 := Lib.hid hB2
  clear hS2 hb2 hB2
  go_wp2_with fail
  refine (v0_any w2).mono ?_
  rintro e w3 ⟨rfl, hb3⟩
  have HS3 := Lib.hid (HS2.out.call hb3); have HB3 := Lib.hid (HB2.out.up2 (fun k hk => hb3.block k hk) hb3.size)
  clear hb3 HS2 HB2
  go_wp2_with (refine st25 rfl (.tmp 7) (.tmp 29) rfl w3.heap.size zer zer rfl rfl (RowB.new' _ rfl rfl) rfl rfl ?_; intro wD rD oD sD bD; have OD := Lib.hid oD; have SD := Lib.hid sD; have BD := Lib.hid bD; clear rD oD sD bD)
  have hS4 : Sn2 w w.heap.size N V D1 wD := HS3.out.put rfl _ OD.out SD.out BD.out
  have hB4 : Bs (fun k => k < wD.heap.size) wD (.slice a1 1 c1) [32] := HB3.out.up2 (fun k hk => (OD.out k (by omega)).trans (heap_alloc_old _ _ hk)) (by rw [SD.out]; simp)
  have hk4 := HK.out.below hS4.s.below
  clear HS3 HB3 OD SD BD
  have hsE := sum_any [] _ wD hk4 (Bs.nil _ _)
  rw [shaE] at hsE
  refine hsE.mono ?_
  rintro e w4 ⟨rfl, hb4⟩
  have hS5 := hS4.call hb4; have hB5 := hB4.up2 (fun k hk => hb4.block k hk) hb4.size
  clear hsE hS4 hB4 hk4 hb4
  have HS5 := Lib.hid hS5; have HB5 := Lib.hid hB5; clear hS5 hB5
  go_wp2_with fail
  refine (vector_true digE _ _ _ _ _ w4 rfl rfl rfl rfl rfl).mono ?_
  rintro e w5 ⟨rfl, hb5⟩
  have HS6 := Lib.hid (HS5.out.call hb5); have HB6 := Lib.hid (HB5.out.up2 (fun k hk => hb5.block k hk) hb5.size)
  clear HS5 HB5 hb5
  go_wp2_with fail
  have hsA := sum_any [97, 98, 99] _ _ (KOk.alloc (HK.out.below HS6.out.s.below) _) (Bs.lit w5 [97, 98, 99] 3 rfl #[.int .u8 97, .int .u8 98, .int .u8 99] (3, 4) rfl (by intro u hu; simp at hu; omega) (by decide))
  rw [shaA] at hsA
  refine hsA.mono ?_
  rintro e w6 ⟨rfl, hb6⟩
  have HS7 := Lib.hid ((HS6.out.alloc _).call hb6); have HB7 := Lib.hid ((HB6.out.up2 (fun k hk => heap_alloc_old w5 _ hk) (by simp)).up2 (fun k hk => hb6.block k hk) hb6.size)
  clear HS6 HB6 hb6 hsA
  go_wp2_with fail
  refine (vector_true digA _ _ _ _ _ w6 rfl rfl rfl rfl rfl).mono ?_
  rintro e w7 ⟨rfl, hb7⟩
  have HS8 := Lib.hid (HS7.out.call hb7); have HB8 := Lib.hid (HB7.out.up2 (fun k hk => hb7.block k hk) hb7.size)
  clear HS7 HB7 hb7
  go_wp2_with fail
  obtain ⟨D9, hD9⟩ : ∃ D9, D9 = sha [1, 97, 98, 99] := ⟨_, rfl⟩
  have hl9 : D9.length = 32 := by rw [hD9]; exact sha_length _
  have q9 := eqSame D9 hl9
  have HD9 := Lib.hid hD9; clear hD9
  have ht9 := tagged_any ⟨#[97]⟩ [98, 99] _ _ (KOk.alloc (HK.out.below HS8.out.s.below) _) (Bs.lit w7 [98, 99] 2 rfl #[.int .u8 98, .int .u8 99] (2, 3) rfl (by intro u hu; simp at hu; omega) (by decide)) (by decide) (by decide)
  rw [show hmsg (strB ⟨#[97]⟩) [98, 99] = [1, 97, 98, 99] from by decide +kernel, ← HD9.out] at ht9
  refine ht9.mono ?_
  rintro e w8 ⟨rfl, hb8⟩
  have HS9 := Lib.hid ((HS8.out.alloc _).call hb8); have HB9 := Lib.hid ((HB8.out.up2 (fun k hk => heap_alloc_old w7 _ hk) (by simp)).up2 (fun k hk => hb8.block k hk) hb8.size)
  clear HS8 HB8 hb8 ht9
  go_wp2_with fail
  have hs9 := sum_any [1, 97, 98, 99] _ _ (KOk.alloc (HK.out.below HS9.out.s.below) _) (Bs.lit w8 [1, 97, 98, 99] 4 rfl #[.int .u8 1, .int .u8 97, .int .u8 98, .int .u8 99] (0, 0) rfl (by intro u hu; simp at hu; omega) (by decide))
  rw [← HD9.out] at hs9
  refine hs9.mono ?_
  rintro e w9 ⟨rfl, hb9⟩
  have HS10 := Lib.hid ((HS9.out.alloc _).call hb9); have HB10 := Lib.hid ((HB9.out.up2 (fun k hk => heap_alloc_old w8 _ hk) (by simp)).up2 (fun k hk => hb9.block k hk) hb9.size)
  clear HS9 HB9 hb9 hs9
  go_wp2_with fail
  obtain ⟨D0, hD0⟩ : ∃ D0, D0 = sha [0] := ⟨_, rfl⟩
  have hl0 : D0.length = 32 := by rw [hD0]; exact sha_length _
  have q0 := eqSame D0 hl0
  have HD0 := Lib.hid hD0; clear hD0
  have ht0 := tagged_any ⟨#[]⟩ [] _ w9 (HK.out.below HS10.out.s.below) (Bs.nil _ _) (by decide) (by decide)
  rw [show hmsg (strB ⟨#[]⟩) [] = [0] from by decide +kernel, ← HD0.out] at ht0
  refine ht0.mono ?_
  rintro e w10 ⟨rfl, hb10⟩
  have HS11 := Lib.hid (HS10.out.call hb10); have HB11 := Lib.hid (HB10.out.up2 (fun k hk => hb10.block k hk) hb10.size)
  clear HS10 HB10 hb10 ht0
  go_wp2_with fail
  have hs0 := sum_any [0] _ _ (KOk.alloc (HK.out.below HS11.out.s.below) _) (Bs.lit w10 [0] 1 rfl #[.int .u8 0] (0, 0) rfl (by intro u hu; simp at hu; omega) (by decide))
  rw [← HD0.out] at hs0
  refine hs0.mono ?_
  rintro e w11 ⟨rfl, hb11⟩
  have HS12 := Lib.hid ((HS11.out.alloc _).call hb11); have HB12 := Lib.hid ((HB11.out.up2 (fun k hk => heap_alloc_old w10 _ hk) (by simp)).up2 (fun k hk => hb11.block k hk) hb11.size)
  clear HS11 HB11 hb11 hs0
  go_wp2_with fail
  clear q9 q0 hl9 hl0 HD9 HD0 kc
  obtain ⟨DN, hDN⟩ : ∃ DN, DN = sha (hmsg (strB nextS) zer) := ⟨_, rfl⟩
  have hlN : DN.length = 32 := by rw [hDN]; exact sha_length _
  have qN := eqSame DN hlN
  have hzr : ∀ u ∈ zer, 0 ≤ u ∧ u ≤ 255 := by intro u hu; unfold zer at hu; rw [List.mem_replicate] at hu; omega
  have hnr : ∀ u ∈ nums, 0 ≤ u ∧ u ≤ 255 := by decide +kernel
  have hn16 : ∀ W, Sn2 w w.heap.size N V D1 W → Calls Tryd.prog 16 #[.agg (byteVals zer).toArray, .slice none 0 0] W fun e w' => e = .returned (.agg (byteVals DN).toArray) ∧ Below W.heap.size W w' := by
    intro W hW
    have := next_any zer [] _ W (HK.out.below hW.s.below) hz hzr (Bs.nil _ _) (by decide)
    rw [show link zer [] = DN from by rw [hDN]; unfold link; rw [List.append_nil]] at this
    exact this
  have hn14 : ∀ W, Sn2 w w.heap.size N V D1 W → Calls Tryd.prog 14 #[.string ⟨#[110, 101, 120, 116]⟩, .slice (some ⟨w.heap.size, 0, none⟩) 32 32] W fun e w' => e = .returned (.agg (byteVals DN).toArray) ∧ Below W.heap.size W w' := by
    intro W hW
    have hbs := Bs.ofRow (F := fun k => k < W.heap.size) hW.s.a hW.s.la hzr 32 32 (by decide) (by decide) (by decide)
    rw [List.take_of_length_le (by decide)] at hbs
    have := tagged_any nextS zer _ W (HK.out.below hW.s.below) hbs (by decide) (by decide)
    rw [← hDN] at this
    exact this
  have hn18 : ∀ W, Calls Tryd.prog 18 #[.agg (byteVals nums).toArray] W fun e w' => e = .returned (.int .u64 258) ∧ Below W.heap.size W w' := by
    intro W
    have := number_any nums W (by decide) hnr
    rw [show num (nums.take 8) = 258 from by decide +kernel] at this
    exact this
  have i1 : (Tryd.prog.info? 25).map (·.size) = some (byteVals zer).length := by have := size25 zer hz; simpa using this
  have i2 : (Tryd.prog.info? 25).map (·.size) = some (byteVals nums).length := by have := size25 nums (by decide); simpa using this
  have i3 : (Tryd.prog.info? 25).map (·.size) = some (byteVals D1).length := by have := size25 D1 hl1; simpa using this
  have u25 := Tryd.underlying25
  have Hn16 := Lib.hid hn16; have Hn14 := Lib.hid hn14; have Hn18 := Lib.hid hn18
  clear hn16 hn14 hn18 hDN hzr hnr
  have hT := HS12.out.drew
  refine wp_region_held_drew (S := fun w' => w'.rangeAt w.heap.size 0 (byteVals zer) ∧ w'.rangeAt N 0 (byteVals nums) ∧ w'.rangeAt V 0 (byteVals D1) ∧ Sn2 w w.heap.size N V D1 w') (by kernel_rfl) hT.all (fun hHeld => ?_)
  refine wpAnyH_take (i := 0) (oi := _) (v := .agg (byteVals zer).toArray) rfl (by kernel_rfl) (by kernel_rfl) (by kernel_rfl) (fun _ _ _ h => h) (yieldsIf_load_mid (by rfl) 25 _ rfl _ _ rfl (byteVals zer) _ (fun wx hSw => hSw.1) u25 rfl i1) (by assumption) ?_
  (try simp only [Act.put, List.setIfInBounds_toArray, List.set_cons_zero, List.set_cons_succ])
  refine wpAnyH_take (i := 2) (oi := _) (v := .slice (some ⟨w.heap.size, 0, none⟩) 32 32) rfl (by kernel_rfl) (by kernel_rfl) (by kernel_rfl) (fun _ _ _ h => h) (Or.inl ⟨by rfl, fun wx hSw => ?_⟩) (by assumption) ?_
  · go_simp
  (try simp only [Act.put, List.setIfInBounds_toArray, List.set_cons_zero, List.set_cons_succ])
  refine wpAnyH_ready (rs := [1]) (by kernel_rfl) (by simp) ?_
  refine AllReadyH.cons (o := _) rfl (fun K hK => ?_) AllReadyH.nil
  go_simp
  refine (Hn16.out _ hT).mono ?_; rintro e w13 ⟨rfl, hb⟩; have hn13 := Sn2.call hT hb; have hq1 : Below w11.heap.size w11 w13 := (Below.drew (Below.refl _ _)).trans hb; clear hb
  go_wp2_with fail
  refine hK.out _ _ hn13.all (fun hHeld => ?_)
  clear hK K
  (try simp only [Act.put, List.setIfInBounds_toArray, List.set_cons_zero, List.set_cons_succ])
  refine wpAnyH_ready (rs := [3]) (by kernel_rfl) (by simp) ?_
  refine AllReadyH.cons (o := _) rfl (fun K hK => ?_) AllReadyH.nil
  go_simp
  refine (Hn14.out _ hn13).mono ?_; rintro e w14 ⟨rfl, hb⟩; have hn14 := Sn2.call hn13 hb; have hq2 := hq1.trans (hb.mono hq1.size); clear hb
  go_wp2_with fail
  refine hK.out _ _ hn14.all (fun hHeld => ?_)
  clear hK K
  (try simp only [Act.put, List.setIfInBounds_toArray, List.set_cons_zero, List.set_cons_succ])
  refine wpAnyH_take (i := 4) (oi := _) (v := .bool true) rfl (by kernel_rfl) (by kernel_rfl) (by kernel_rfl) (fun _ _ _ h => h) (Or.inl ⟨by rfl, fun wx hSw => ?_⟩) (by assumption) ?_
  · go_simp
  (try simp only [Act.put, List.setIfInBounds_toArray, List.set_cons_zero, List.set_cons_succ])
  refine wpAnyH_take (i := 5) (oi := _) (v := .bool true) rfl (by kernel_rfl) (by kernel_rfl) (by kernel_rfl) (fun _ _ _ h => h) (Or.inl ⟨by rfl, fun wx hSw => ?_⟩) (by assumption) ?_
  · go_simp
  (try simp only [Act.put, List.setIfInBounds_toArray, List.set_cons_zero, List.set_cons_succ])
  refine wpAnyH_take (i := 6) (oi := _) (v := .agg (byteVals nums).toArray) rfl (by kernel_rfl) (by kernel_rfl) (by kernel_rfl) (fun _ _ _ h => h) (yieldsIf_load_mid (by rfl) 25 _ rfl _ _ rfl (byteVals nums) _ (fun wx hSw => hSw.2.1) u25 rfl i2) (by assumption) ?_
  (try simp only [Act.put, List.setIfInBounds_toArray, List.set_cons_zero, List.set_cons_succ])
  refine wpAnyH_ready (rs := [7]) (by kernel_rfl) (by simp) ?_
  refine AllReadyH.cons (o := _) rfl (fun K hK => ?_) AllReadyH.nil
  go_simp
  refine (Hn18.out _).mono ?_; rintro e w15 ⟨rfl, hb⟩; have hn15 := Sn2.call hn14 hb; have hq3 := hq2.trans (hb.mono hq2.size); clear hb
  go_wp2_with fail
  refine hK.out _ _ hn15.all (fun hHeld => ?_)
  clear hK K
  (try simp only [Act.put, List.setIfInBounds_toArray, List.set_cons_zero, List.set_cons_succ])
  refine wpAnyH_take (i := 8) (oi := _) (v := .bool true) rfl (by kernel_rfl) (by kernel_rfl) (by kernel_rfl) (fun _ _ _ h => h) (Or.inl ⟨by rfl, fun wx hSw => ?_⟩) (by assumption) ?_
  · go_simp
  (try simp only [Act.put, List.setIfInBounds_toArray, List.set_cons_zero, List.set_cons_succ])
  refine wpAnyH_take (i := 9) (oi := _) (v := .bool true) rfl (by kernel_rfl) (by kernel_rfl) (by kernel_rfl) (fun _ _ _ h => h) (Or.inl ⟨by rfl, fun wx hSw => ?_⟩) (by assumption) ?_
  · go_simp
  (try simp only [Act.put, List.setIfInBounds_toArray, List.set_cons_zero, List.set_cons_succ])
  refine wpAnyH_ready (rs := [10]) (by kernel_rfl) (by simp) ?_
  refine AllReadyH.cons (o := _) rfl (fun K hK => ?_) AllReadyH.nil
  go_simp
  refine hK.out _ _ hn15.all (fun hHeld => ?_)
  clear hK K
  (try simp only [Act.put, List.setIfInBounds_toArray, List.set_cons_zero, List.set_cons_succ])
  refine wpAnyH_done (by kernel_rfl) ?_ _
  have HB15 := Lib.hid (HB12.out.up2 (fun k hk => hq3.block k hk) hq3.size)
  have hT2 := hn15.drew
  have hc14 : ∀ W, Sn2 w w.heap.size N V D1 W → Below w15.heap.size w15 W → Calls Tryd.prog 14 #[.string ⟨#[116]⟩, .slice a1 1 c1] W fun e w' => e = .returned (.agg (byteVals D1).toArray) ∧ Below W.heap.size W w' := by
    intro W hW hbW
    have := tagged_any ⟨#[116]⟩ [32] _ W (HK.out.below hW.s.below) (HB15.out.up2 (fun k hk => hbW.block k hk) hbW.size) (by decide) (by decide)
    rw [← HD1.out] at this
    exact this
  have Hc14 := Lib.hid hc14
  have q1 := eqSame D1 hl1
  clear hc14 hn13 hn14 hq1 hq2 hq3 hT HB12 HS12 Hn16 Hn14 Hn18 qN hHeld
  go_wp2_with fail
  go_region_held3 (fun w' => w'.rangeAt V 0 (byteVals D1) ∧ Sn2 w w.heap.size N V D1 w') (first | (with_reducible exact Sn2.all2 (by with_reducible assumption)))
    (first | (go_at_call 14; refine (Hc14.out _ hT2 (Below.drew (Below.refl _ _))).mono ?_; rintro e w16 ⟨rfl, hb⟩; have hn16 := Sn2.call hT2 hb; clear hb))
  go_wp2_with fail
  go_ret
  exact ⟨rfl, hn16.s.below⟩
end Go.Proofs.YtecgcnfjpaemcaaDoor
