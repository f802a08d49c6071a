/-
  Walks of the reference's digest: a block.
-/
import Derived.Test.YthmpeeipbclhkaaDoorFb
namespace Go.Proofs.YthmpeeipbclhkaaDoor
open Go.RowKit

/-- 8 words stored whole into a block that holds some. -/
theorem st55 {ops : Array Oper} {rest : List Oper} {o : Oper} {a : Act} {w : World} {Q : Exit → Act → World → Prop} (hgd : o.guard = none) (x y : Operand) (ho : o.op = .store 72 x y)
    (g : Nat) (l l0 : List Int) (hx : a.eval x = .pointer (some ⟨g, 0, none⟩)) (hy : a.eval y = .agg (words l).toArray) (hg : RowW w g 72 l0) (h0 : l0.length = 8) (h1 : l.length = 8)
    (h : ∀ w', RowW w' g 72 l → (∀ k, k ≠ g → w'.heap[k]? = w.heap[k]?) → w'.heap.size = w.heap.size → (∀ (B0 : Nat) (c : World), B0 ≤ g → Below B0 c w → Below B0 c w') → wpList Tryd.prog ops Q rest (a.put o.dst undef) w') : wpList Tryd.prog ops Q (o :: rest) a w :=
  wpList_store_row hgd 72 x y ho g _ hx hy 72 _ hg (size55 _ h1) (by simp [words, h0, h1]) (all_words _)
    (h _ (RowW.put hg) (fun k hk => setRow_other _ _ _ _ hk) (by simp) (fun _ _ hB hb => bsetRow hb hB _))

/-- .. whose letters are told by an equation. -/
theorem st55v {ops : Array Oper} {rest : List Oper} {o : Oper} {a : Act} {w : World} {Q : Exit → Act → World → Prop} (hgd : o.guard = none) (x y : Operand) (ho : o.op = .store 72 x y)
    (g : Nat) (l l0 : List Int) (cs : Array Value) (hx : a.eval x = .pointer (some ⟨g, 0, none⟩)) (hy : a.eval y = .agg cs) (hcs : cs = (words l).toArray) (hg : RowW w g 72 l0) (h0 : l0.length = 8) (h1 : l.length = 8)
    (h : ∀ w', RowW w' g 72 l → (∀ k, k ≠ g → w'.heap[k]? = w.heap[k]?) → w'.heap.size = w.heap.size → (∀ (B0 : Nat) (c : World), B0 ≤ g → Below B0 c w → Below B0 c w') → wpList Tryd.prog ops Q rest (a.put o.dst undef) w') : wpList Tryd.prog ops Q (o :: rest) a w :=
  st55 hgd x y ho g l l0 hx (hy.trans (by rw [hcs])) hg h0 h1 h

theorem tOne_eq (t : St) (kc wc S1 ch T1 : Int) (h1 : S1 = bits .xor .u32 (bits .xor .u32 (rot t.e 6) (rot t.e 11)) (rot t.e 25)) (h2 : ch = bits .xor .u32 (bits .and .u32 t.e t.f) (bits .and .u32 (bits .xor .u32 IntKind.u32.max t.e) t.g))
    (h3 : T1 = ((t.h + S1 + ch + kc) % 4294967296 + wc) % 4294967296) : T1 = tOne t kc wc := by
  have e : tOne t kc wc = (t.h + S1 + ch + kc + wc) % 4294967296 := by subst h1 h2; rfl
  rw [e, h3]; omega
theorem tTwo_eq (t : St) (S0 : Int) (h1 : S0 = bits .xor .u32 (bits .xor .u32 (rot t.a 2) (rot t.a 13)) (rot t.a 22)) : tTwo t = (S0 + bits .xor .u32 (bits .xor .u32 (bits .and .u32 t.a t.b) (bits .and .u32 t.a t.c)) (bits .and .u32 t.b t.c)) % 4294967296 := by
  subst h1; rfl

theorem nextRow (t : St) (kc wc T1 S0 : Int) (h1 : T1 = tOne t kc wc) (h2 : tTwo t = (S0 + bits .xor .u32 (bits .xor .u32 (bits .and .u32 t.a t.b) (bits .and .u32 t.a t.c)) (bits .and .u32 t.b t.c)) % 4294967296) :
    #[Value.int .u32 ((T1 + (S0 + bits .xor .u32 (bits .xor .u32 (bits .and .u32 t.a t.b) (bits .and .u32 t.a t.c)) (bits .and .u32 t.b t.c))) % 4294967296), .int .u32 t.a, .int .u32 t.b, .int .u32 t.c, .int .u32 ((t.d + T1) % 4294967296), .int .u32 t.e, .int .u32 t.f, .int .u32 t.g] = (words (t.next kc wc).ws).toArray := by
  have e : (T1 + (S0 + bits .xor .u32 (bits .xor .u32 (bits .and .u32 t.a t.b) (bits .and .u32 t.a t.c)) (bits .and .u32 t.b t.c))) % 4294967296 = (tOne t kc wc + tTwo t) % 4294967296 := by
    rw [h2, ← h1]; omega
  rw [e, h1]; rfl

/-- The state while the first k words have been added. -/
def plusTo (h x : List Int) : Nat → List Int
  | 0 => h
  | k + 1 => (plusTo h x k).set k (((plusTo h x k).getD k 0 + x.getD k 0) % 4294967296)
theorem plusTo_length (h x : List Int) (k : Nat) : (plusTo h x k).length = h.length := by
  induction k with
  | zero => rfl
  | succ k ih => simp [plusTo, ih]
theorem plusTo_full (s t : St) : plusTo s.ws t.ws 8 = (s.plus t).ws := rfl

def z8 : List Int := [0, 0, 0, 0, 0, 0, 0, 0]
/-- What holds while a block is taken in: the blocks of the state, of the result, of the schedule, of the constants, of the running state. -/
structure BlS (w : World) (P5 P6 P7 : Nat) (h W x : List Int) (wr : World) : Prop where
  hS : RowW wr w.heap.size 72 h
  hR : RowW wr (w.heap.size + 1) 72 z8
  hW : RowW wr P5 81 W
  hK : RowW wr P6 81 kk
  hX : RowW wr P7 72 x
  below : Below w.heap.size w wr
  l5 : w.heap.size + 1 < P5
  l6 : P5 < P6
  l7 : P6 < P7
  l8 : P7 < wr.heap.size
theorem BlS.drewN {w : World} {P5 P6 P7 : Nat} {h W x : List Int} {wr : World} (H : BlS w P5 P6 P7 h W x wr) (n : Nat) : BlS w P5 P6 P7 h W x (wr.drewN n) :=
  ⟨H.hS, H.hR, H.hW, H.hK, H.hX, bdrewN H.below n, H.l5, H.l6, H.l7, H.l8⟩
theorem BlS.drew {w : World} {P5 P6 P7 : Nat} {h W x : List Int} {wr : World} (H : BlS w P5 P6 P7 h W x wr) : BlS w P5 P6 P7 h W x wr.drew :=
  ⟨H.hS, H.hR, H.hW, H.hK, H.hX, Below.drew H.below, H.l5, H.l6, H.l7, H.l8⟩
theorem BlS.putX {w : World} {P5 P6 P7 : Nat} {h W x y : List Int} {wr w' : World} (H : BlS w P5 P6 P7 h W x wr) (r : RowW w' P7 72 y) (o : ∀ k, k ≠ P7 → w'.heap[k]? = wr.heap[k]?) (s : w'.heap.size = wr.heap.size)
    (b : ∀ (B0 : Nat) (c : World), B0 ≤ P7 → Below B0 c wr → Below B0 c w') : BlS w P5 P6 P7 h W y w' := by
  have := H.l5; have := H.l6; have := H.l7; have := H.l8
  exact ⟨H.hS.kept (o _ (by omega)), H.hR.kept (o _ (by omega)), H.hW.kept (o _ (by omega)), H.hK.kept (o _ (by omega)), r, b _ _ (by omega) H.below, H.l5, H.l6, H.l7, by omega⟩
theorem BlS.setH {w : World} {P5 P6 P7 : Nat} {h W x : List Int} {wr : World} (H : BlS w P5 P6 P7 h W x wr) (k : Nat) (y : Int) : BlS w P5 P6 P7 (h.set k y) W x (wr.setCell ⟨w.heap.size, k, none⟩ (.int .u32 y)) := by
  have := H.l5; have := H.l6; have := H.l7; have := H.l8
  exact ⟨H.hS.set k y, H.hR.kept (heap_setCell_other _ _ _ _ (by show _ ≠ w.heap.size; omega)), H.hW.kept (heap_setCell_other _ _ _ _ (by show _ ≠ w.heap.size; omega)), H.hK.kept (heap_setCell_other _ _ _ _ (by show _ ≠ w.heap.size; omega)),
    H.hX.kept (heap_setCell_other _ _ _ _ (by show _ ≠ w.heap.size; omega)), H.below.setCell (by simp) _, H.l5, H.l6, H.l7, by simpa using H.l8⟩

set_option maxRecDepth 100000 in
set_option maxHeartbeats 4000000 in
theorem rblock_any (s : St) (b : List Int) (w : World) (v : Value) (hl : b.length = 64) (hv : Bs (fun k => k < w.heap.size) w v b) :
    Calls Tryd.prog 61 #[.agg (words s.ws).toArray, v] w fun e w' => e = .returned (.agg (words (s.block b).ws).toArray) ∧ Below w.heap.size w w' := by
  have hs : ∀ w', Below w.heap.size w w' → Calls Tryd.prog 63 #[v] w' fun e w'' => e = .returned (.agg (words (sch b 64)).toArray) ∧ Below w'.heap.size w' w'' := by
    intro w' hb
    exact rschedule_any b w' v hl ((hv.below (fun k hk => hk) hb).kept (fun _ _ => rfl) (fun k hk => Nat.lt_of_lt_of_le hk hb.size))
  have Hs := Lib.hid hs; clear hs
  clear hv
  have hlen := sch_length b 64
  unfold St.block
  generalize sch b 64 = W at *
  have hrA : RowW ((w.alloc (.cells (words s.ws).toArray 72)).alloc (.cells #[.int .u32 0, .int .u32 0, .int .u32 0, .int .u32 0, .int .u32 0, .int .u32 0, .int .u32 0, .int .u32 0] 72)) w.heap.size 72 s.ws := RowW.kept (RowW.new w 72 s.ws) (heap_alloc_old _ _ (by simp))
  have hrB : RowW ((w.alloc (.cells (words s.ws).toArray 72)).alloc (.cells #[.int .u32 0, .int .u32 0, .int .u32 0, .int .u32 0, .int .u32 0, .int .u32 0, .int .u32 0, .int .u32 0] 72)) (w.heap.size + 1) 72 z8 := RowW.new' _ (by simp) rfl
  have hb0 : Below w.heap.size w ((w.alloc (.cells (words s.ws).toArray 72)).alloc (.cells #[.int .u32 0, .int .u32 0, .int .u32 0, .int .u32 0, .int .u32 0, .int .u32 0, .int .u32 0, .int .u32 0] 72)) := ball (ball (Below.refl _ _) _) _
  have hs0 : ((w.alloc (.cells (words s.ws).toArray 72)).alloc (.cells #[.int .u32 0, .int .u32 0, .int .u32 0, .int .u32 0, .int .u32 0, .int .u32 0, .int .u32 0, .int .u32 0] 72)).heap.size = w.heap.size + 2 := by simp
  obtain ⟨w0, hw0⟩ : ∃ w0, w0 = ((w.alloc (.cells (words s.ws).toArray 72)).alloc (.cells #[.int .u32 0, .int .u32 0, .int .u32 0, .int .u32 0, .int .u32 0, .int .u32 0, .int .u32 0, .int .u32 0] 72)) := ⟨_, rfl⟩
  rw [← hw0] at hrA hrB hb0 hs0
  have HA := Lib.hid hrA; have HB := Lib.hid hrB; have Hb0 := Lib.hid hb0; have Hw0 := Lib.hid hw0; have Hsz0 := Lib.hid hs0
  clear hrA hrB hb0 hw0 hs0
  go_enter Tryd.func61, Tryd.ntmps61
  go_wp2_with fail
  rw [← Hw0.out]
  refine (Hs.out w0 Hb0.out).mono ?_
  rintro e w1 ⟨rfl, hb1⟩
  clear Hs Hw0
  go_wp2_with (refine st73 rfl (.tmp 5) (.tmp 17) rfl w1.heap.size W (List.replicate 64 0) rfl rfl (RowW.new' _ rfl rfl) rfl hlen ?_; intro wA rA oA sA bA; have RA := Lib.hid rA; have SA := Lib.hid (show w1.heap.size < wA.heap.size by rw [sA]; simp); have HbA := Lib.hid (show Below w0.heap.size w0 wA from bA _ _ hb1.size (ball' hb1 _ hb1.size)); have S1 := Lib.hid hb1.size; clear rA oA sA bA hb1)
  refine (rconstants_any wA).mono ?_
  rintro e w2 ⟨rfl, hb2⟩
  go_wp2_with (first | (refine st73 rfl (.tmp 6) (.tmp 18) rfl w2.heap.size kk (List.replicate 64 0) rfl rfl (RowW.new' _ rfl rfl) rfl rfl ?_; intro wB rB oB sB bB; have RB := Lib.hid rB; have SB := Lib.hid (show w2.heap.size < wB.heap.size by rw [sB]; simp); have HbB := Lib.hid (show Below wA.heap.size wA wB from bB _ _ hb2.size (ball' hb2 _ hb2.size)); have S2 := Lib.hid hb2.size; have hrS : wB.heap[w.heap.size]? = some (.cells (words s.ws).toArray 72 (0, 0)) := HA.out.kept ((HbA.out.trans (HbB.out.mono HbA.out.size)).block _ (by rw [Hsz0.out]; omega)); clear rB oB sB bB hb2) | (refine wpList_load_row rfl 72 (.tmp 2) rfl w.heap.size rfl 72 _ (0, 0) _ hrS Tryd.underlying72 rfl (size55 _ rfl) ?_) | (refine st55 rfl (.tmp 7) (.tmp 19) rfl wB.heap.size s.ws z8 rfl rfl (RowW.new' _ rfl rfl) rfl rfl ?_; intro wC rC oC sC bC; have RC := Lib.hid rC; have SC := Lib.hid (show wB.heap.size < wC.heap.size by rw [sC]; simp); have HbC := Lib.hid (show Below wB.heap.size wB wC from bC _ _ (Nat.le_refl _) (ball (Below.refl _ _) _)); clear rC oC sC bC hrS))
  have hall : Below w0.heap.size w0 wC := (HbA.out.trans (HbB.out.mono HbA.out.size)).trans (HbC.out.mono (Nat.le_trans HbA.out.size HbB.out.size))
  have z0 := Hsz0.out; have z1 := SA.out; have z2 := SB.out; have z3 := SC.out; have z4 := S1.out; have z5 := S2.out; have z6 := HbA.out.size; have z7 := HbB.out.size; have z8' := HbC.out.size
  have hS0 : BlS w w1.heap.size w2.heap.size wB.heap.size s.ws W s.ws wC := by
    refine ⟨HA.out.kept (hall.block _ (by omega)), HB.out.kept (hall.block _ (by omega)), ?_, RB.out.kept (HbC.out.block _ (by omega)), RC.out, Hb0.out.trans (hall.mono (by omega)), by omega, by omega, by omega, by omega⟩
    exact (RA.out.kept (HbB.out.block _ (by omega))).kept (HbC.out.block _ (by omega))
  obtain ⟨P5, hP5⟩ : ∃ P5, P5 = w1.heap.size := ⟨_, rfl⟩
  obtain ⟨P6, hP6⟩ : ∃ P6, P6 = w2.heap.size := ⟨_, rfl⟩
  obtain ⟨P7, hP7⟩ : ∃ P7, P7 = wB.heap.size := ⟨_, rfl⟩
  rw [← hP5, ← hP6, ← hP7] at hS0 ⊢
  have HS0 := Lib.hid hS0
  clear z0 z1 z2 z3 z4 z5 z6 z7 z8' hP5 hP6 hP7 hall HA HB Hb0 Hsz0 RA SA HbA S1 RB SB HbB S2 RC SC HbC hS0
  go_wp2_with fail
  go_loopw [8, 9, 10, 11, 12, 13, 14] (fun i _ _ _ _ _ _ wr => ∃ k : Nat, k ≤ 64 ∧ i = .int .i64 k ∧ ∃ t : St, t = s.rounds W k ∧ Hid (BlS w P5 P6 P7 s.ws W t.ws wr)) (fun i _ _ _ _ _ _ _ => 64 - (intOf i).toNat)
  case atStart => exact ⟨0, by omega, rfl, s, rfl, HS0⟩
  case round =>
    obtain ⟨k, hk, rfl, t, ht, H⟩ := hrel
    have Ht := Lib.hid ht; clear ht
    by_cases hlt : k < 64
    · obtain ⟨kc, hkc⟩ : ∃ kc, kc = kk.getD k 0 := ⟨_, rfl⟩
      obtain ⟨wc, hwc⟩ : ∃ wc, wc = W.getD k 0 := ⟨_, rfl⟩
      have hn : s.rounds W (k + 1) = t.next kc wc := by rw [hkc, hwc, Ht.out]; rfl
      have FK : Hid (∀ X, BlS w P5 P6 P7 s.ws W t.ws X → X.cell? ⟨P6, k, none⟩ = some (.int .u32 kc)) := fun X hX => by rw [hkc]; exact hX.hK.cell (getD_some (show k < 64 from hlt))
      have FW : Hid (∀ X, BlS w P5 P6 P7 s.ws W t.ws X → X.cell? ⟨P5, k, none⟩ = some (.int .u32 wc)) := fun X hX => by rw [hwc]; exact hX.hW.cell (getD_some (by omega))
      clear hkc hwc
      have Hn := Lib.hid hn; clear hn
      have b1 : (k : Int) < 64 := by omega
      have c4 := H.out.hX.cell (j := 4) (x := t.e) rfl
      go_wp2_with fail
      go_quiet ((go_at_call 65; exact Calls.quiet_of (rrotr_lit _ _ _ (by decide))))
      obtain ⟨S1, hS1⟩ : ∃ S1, S1 = bits .xor .u32 (bits .xor .u32 (rot t.e 6) (rot t.e 11)) (rot t.e 25) := ⟨_, rfl⟩
      rw [← hS1]
      have HS1 := Lib.hid hS1; clear hS1
      have H2 : Hid (BlS w P5 P6 P7 s.ws W t.ws (wr.drewN nq)) := H.out.drewN nq
      clear H c4
      generalize wr.drewN nq = x1 at *
      have c4 := H2.out.hX.cell (j := 4) (x := t.e) rfl
      have c5 := H2.out.hX.cell (j := 5) (x := t.f) rfl
      have c6 := H2.out.hX.cell (j := 6) (x := t.g) rfl
      have c7 := H2.out.hX.cell (j := 7) (x := t.h) rfl
      have cK := FK.out _ H2.out
      have cW := FW.out _ H2.out
      go_wp2_with fail
      go_quiet (fail)
      obtain ⟨ch, hch⟩ : ∃ ch, ch = bits .xor .u32 (bits .and .u32 t.e t.f) (bits .and .u32 (bits .xor .u32 IntKind.u32.max t.e) t.g) := ⟨_, rfl⟩
      rw [← hch]
      obtain ⟨T1, hT1⟩ : ∃ T1, T1 = ((t.h + S1 + ch + kc) % 4294967296 + wc) % 4294967296 := ⟨_, rfl⟩
      rw [← hT1]
      have HT1 := Lib.hid (tOne_eq t kc wc S1 ch T1 HS1.out hch hT1); clear hch hT1
      have H3 : Hid (BlS w P5 P6 P7 s.ws W t.ws (x1.drewN nq)) := H2.out.drewN nq
      clear H2 c4 c5 c6 c7 cK cW
      generalize x1.drewN nq = x2 at *
      have c0 := H3.out.hX.cell (j := 0) (x := t.a) rfl
      go_wp2_with fail
      go_quiet ((go_at_call 65; exact Calls.quiet_of (rrotr_lit _ _ _ (by decide))))
      obtain ⟨S0, hS0⟩ : ∃ S0, S0 = bits .xor .u32 (bits .xor .u32 (rot t.a 2) (rot t.a 13)) (rot t.a 22) := ⟨_, rfl⟩
      rw [← hS0]
      have HT2 := Lib.hid (tTwo_eq t S0 hS0); clear hS0
      have H4 : Hid (BlS w P5 P6 P7 s.ws W t.ws (x2.drewN nq)) := H3.out.drewN nq
      clear H3 c0
      generalize x2.drewN nq = x3 at *
      have c0 := H4.out.hX.cell (j := 0) (x := t.a) rfl
      have c1 := H4.out.hX.cell (j := 1) (x := t.b) rfl
      have c2 := H4.out.hX.cell (j := 2) (x := t.c) rfl
      have c3 := H4.out.hX.cell (j := 3) (x := t.d) rfl
      have c4 := H4.out.hX.cell (j := 4) (x := t.e) rfl
      have c5 := H4.out.hX.cell (j := 5) (x := t.f) rfl
      have c6 := H4.out.hX.cell (j := 6) (x := t.g) rfl
      go_wp2_with (refine st55v rfl (.tmp 7) (.tmp 111) rfl P7 (t.next kc wc).ws t.ws _ rfl rfl (nextRow t kc wc T1 S0 HT1.out HT2.out) H4.out.hX rfl rfl ?_; intro x4 r4 o4 s4 b4; have H5 : Hid (BlS w P5 P6 P7 s.ws W (t.next kc wc).ws x4) := H4.out.putX r4 o4 s4 b4; clear r4 o4 s4 b4 c0 c1 c2 c3 c4 c5 c6 H4)
      go_roundw
      case rel => exact ⟨k + 1, by omega, by go_num, t.next kc wc, Hn.out.symm, H5⟩
      case measure => simp [intOf]; omega
    · have hk' : k = 64 := by omega
      subst hk'
      go_wp2_with fail
      rw [show ((64 : Nat) : Int) = 64 from rfl]
      go_loopw [15] (fun i wr => ∃ k : Nat, k ≤ 8 ∧ i = .int .i64 k ∧ Hid (BlS w P5 P6 P7 (plusTo s.ws t.ws k) W t.ws wr)) (fun i _ => 8 - (intOf i).toNat)
      case atStart => exact ⟨0, by omega, rfl, H⟩
      case round =>
        clear H
        obtain ⟨k, hk, rfl, H⟩ := hrel
        by_cases hlt : k < 8
        · obtain ⟨x0, hx0⟩ : ∃ x0, x0 = (plusTo s.ws t.ws k).getD k 0 := ⟨_, rfl⟩
          obtain ⟨y0, hy0⟩ : ∃ y0, y0 = t.ws.getD k 0 := ⟨_, rfl⟩
          have hnx : plusTo s.ws t.ws (k + 1) = (plusTo s.ws t.ws k).set k ((x0 + y0) % 4294967296) := by rw [hx0, hy0]; rfl
          have F1 : Hid (∀ X, BlS w P5 P6 P7 (plusTo s.ws t.ws k) W t.ws X → X.cell? ⟨w.heap.size, k, none⟩ = some (.int .u32 x0)) := fun X hX => by rw [hx0]; exact hX.hS.cell (getD_some (by rw [plusTo_length]; exact hlt))
          have F2 : Hid (∀ X, BlS w P5 P6 P7 (plusTo s.ws t.ws k) W t.ws X → X.cell? ⟨P7, k, none⟩ = some (.int .u32 y0)) := fun X hX => by rw [hy0]; exact hX.hX.cell (getD_some (show k < 8 from hlt))
          clear hx0 hy0
          have Hnx := Lib.hid hnx; clear hnx
          have b1 : (k : Int) < 8 := by omega
          have d1 := F1.out _ H.out
          have d2 := F2.out _ H.out
          have hz := frozen_of_row wr _ k _ _ H.out.hS
          go_wp2_with fail
          go_still_tail 9, (by kernel_rfl)
          change wpList _ _ _ _ _ wr.drew
          have H3 : Hid (BlS w P5 P6 P7 (plusTo s.ws t.ws k) W t.ws wr.drew) := H.out.drew
          clear H d1 d2 hz
          generalize wr.drew = x5 at *
          have d1 := F1.out _ H3.out
          have hz := frozen_of_row x5 _ k _ _ H3.out.hS
          go_wp2
          go_roundw
          case rel => exact ⟨k + 1, by omega, by go_num, by rw [Hnx.out]; exact H3.out.setH k _⟩
          case measure => simp [intOf]; omega
        · have hk' : k = 8 := by omega
          subst hk'
          obtain ⟨h1, h2, _, _, _, h3, _, _, _, _⟩ := H.out
          clear H
          rw [plusTo_full] at h1
          unfold RowW at h1 h2
          go_wp2_with (first | (refine wpList_load_row rfl 72 (.tmp 2) rfl w.heap.size rfl 72 _ (0, 0) _ h1 Tryd.underlying72 rfl (size55 (s.plus t).ws rfl) ?_) | (refine wpList_store_row rfl 72 (.tmp 4) (.tmp 125) rfl (w.heap.size + 1) _ rfl rfl 72 _ h2 (size55 (s.plus t).ws rfl) rfl (all_words _) ?_))
          refine bodyPost_ret (results_cell_row rfl _ _ (w.heap.size + 1) 72 _ (0, 0) _ (by kernel_rfl) (RowW.put h2) Tryd.underlying72 rfl (size55 (s.plus t).ws rfl)) rfl ?_
          exact ⟨by rw [← Ht.out], bsetRow h3 (by omega) _⟩

end Go.Proofs.YthmpeeipbclhkaaDoor
