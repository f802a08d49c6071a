/-
  Walks of the reference's digest: Sum.
-/
import Derived.Test.YthmpeeipbclhkaaDoorFd
namespace Go.Proofs.YthmpeeipbclhkaaDoor
open Go.RowKit

theorem rpad_length (b : List Int) : (rpad b).length = 64 * ((b.length + 72) / 64) := by
  have := padZ_length b (zcount b.length)
  unfold rpad
  simp only [List.length_append, List.length_map, List.length_range, this]
  unfold zcount
  omega
theorem blk_append (x y : List Int) (q k : Nat) (hx : x.length = 64 * q) : (k < q → blk (x ++ y) k = blk x k) ∧ (blk (x ++ y) (q + k) = blk y k) := by
  unfold blk
  constructor
  · intro h
    rw [List.drop_append_of_le_length (by omega), List.take_append_of_le_length (by simp; omega)]
  · have e : 64 * (q + k) = x.length + 64 * k := by omega
    rw [e, List.drop_append, List.drop_eq_nil_of_le (by omega), List.nil_append, Nat.add_sub_cancel_left]
theorem blocks_left (s : St) (x y : List Int) (q : Nat) (hx : x.length = 64 * q) : ∀ k, k ≤ q → s.blocks (x ++ y) k = s.blocks x k
  | 0, _ => rfl
  | k + 1, h => by
    simp only [St.blocks]
    rw [blocks_left s x y q hx k (by omega), (blk_append x y q k hx).1 (by omega)]
theorem blocks_append (s : St) (x y : List Int) (q : Nat) (hx : x.length = 64 * q) : ∀ m, s.blocks (x ++ y) (q + m) = (s.blocks x q).blocks y m
  | 0 => blocks_left s x y q hx q (Nat.le_refl _)
  | m + 1 => by
    rw [← Nat.add_assoc]
    simp only [St.blocks]
    rw [blocks_append s x y q hx m, (blk_append x y q m hx).2]
theorem rpad_tail (b : List Int) : rpad b = b.take (64 * (b.length / 64)) ++ tail (b.drop (64 * (b.length / 64))) b.length := by
  unfold rpad tail padZ
  have hz : zcount b.length = (119 - (b.drop (64 * (b.length / 64))).length) % 64 := by
    unfold zcount; rw [List.length_drop]; omega
  rw [← hz, ← List.append_assoc (b.take _), List.take_append_drop]
  simp
theorem rsha (b : List Int) : sha b = bytesOf (st0.blocks (rpad b) ((rpad b).length / 64)).ws := by
  have hq : (b.take (64 * (b.length / 64))).length = 64 * (b.length / 64) := by rw [List.length_take]; omega
  have hl : (rpad b).length = 64 * (b.length / 64) + (tail (b.drop (64 * (b.length / 64))) b.length).length := by
    rw [rpad_tail, List.length_append, hq]
  have h64 := rpad_length b
  unfold sha
  have e : (rpad b).length / 64 = b.length / 64 + (tail (b.drop (64 * (b.length / 64))) b.length).length / 64 := by omega
  rw [e]
  conv => rhs; rw [rpad_tail b]
  rw [blocks_append st0 _ _ _ hq]

/-- What holds while the blocks are taken in. -/
structure RsS (w : World) (v : Value) (b : List Int) (t : St) (wr : World) : Prop where
  d : RowB wr w.heap.size 26 zer
  h : RowW wr (w.heap.size + 1) 72 t.ws
  below : Below w.heap.size w wr
  m : Bs (fun k => w.heap.size + 2 ≤ k ∧ k < wr.heap.size) wr v b
  l : w.heap.size + 2 ≤ wr.heap.size

set_option maxRecDepth 100000 in
set_option maxHeartbeats 2000000 in
theorem rsum_any (b : List Int) (v : Value) (w : World) (hv : Bs (fun k => k < w.heap.size) w v b) (hl : b.length ≤ 50000) :
    Calls Tryd.prog 53 #[v] w fun e w' => e = .returned (.agg (byteVals (sha b)).toArray) ∧ Below w.heap.size w w' := by
  have hpr : ∀ u ∈ rpad b, 0 ≤ u ∧ u ≤ 255 := by
    intro u hu
    unfold rpad at hu
    rcases List.mem_append.1 hu with h | h
    · exact padZ_range b hv.2.1 _ u h
    · obtain ⟨i, _, rfl⟩ := List.mem_map.1 h; exact lenByte_range _ _
  have hpl := rpad_length b
  have hsha := rsha b
  have HV := Lib.hid hv; have Hpr := Lib.hid hpr; have Hpl := Lib.hid hpl; have Hsha := Lib.hid hsha
  clear hv hpr hpl hsha
  go_enter Tryd.func53, Tryd.ntmps53
  go_wp2_with (refine st55 rfl (.tmp 3) (.tmp 8) rfl (w.heap.size + 1) st0.ws z8 rfl rfl (RowW.new' _ (by simp) rfl) rfl rfl ?_; intro wA rA oA sA bA; have RA := Lib.hid rA; have SA := Lib.hid (show wA.heap.size = w.heap.size + 2 by rw [sA]; simp); have BA := Lib.hid (show Below w.heap.size w wA from bA _ _ (by omega) (ball (ball (Below.refl _ _) _) _)); have DA := Lib.hid (show RowB wA w.heap.size 26 zer from RowB.kept (RowB.kept (RowB.new' w rfl rfl) (heap_alloc_old _ _ (by simp))) (oA _ (by omega))); clear rA oA sA bA)
  refine (padded_any b v wA (HV.out.up2 (fun k hk => BA.out.block k hk) BA.out.size) (by omega)).mono ?_
  rintro e w1 ⟨u, rfl, hP⟩
  obtain ⟨ua, uc, rfl⟩ := hP.len
  have hM : Bs (fun k => w.heap.size + 2 ≤ k ∧ k < w1.heap.size) w1 (.slice ua (rpad b).length uc) (rpad b) := Bs.kept (Bs.ofOwn hP.1 (by rw [Hpl.out]; omega) Hpr.out) (fun _ _ => rfl) (fun k hk => ⟨by have := hk.1; rw [SA.out] at this; exact this, hk.2.1⟩)
  have hS : RsS w (.slice ua (rpad b).length uc) (rpad b) (st0.blocks (rpad b) 0) w1 := ⟨DA.out.kept (hP.2.block _ (by rw [SA.out]; omega)), RA.out.kept (hP.2.block _ (by rw [SA.out]; omega)), BA.out.trans (hP.2.mono BA.out.size), hM, by have := hP.2.size; rw [SA.out] at this; exact this⟩
  have HS := Lib.hid hS
  clear hS hM hP RA SA BA DA HV
  obtain ⟨N, hN⟩ : ∃ N, N = (b.length + 72) / 64 := ⟨_, rfl⟩
  have hpl := Hpl.out
  rw [← hN] at hpl
  obtain ⟨p, hp⟩ : ∃ p, p = rpad b := ⟨_, rfl⟩
  rw [← hp] at HS hpl ⊢
  have Hp := Lib.hid hp; have HN := Lib.hid hN; clear hp
  obtain ⟨n, hn⟩ : ∃ n, n = p.length := ⟨_, rfl⟩
  rw [← hn] at HS hpl ⊢
  have Hn := Lib.hid hn; clear hn
  go_wp2_with fail
  go_loopw [5] (fun i wr => ∃ lo k : Nat, Hid (lo = 64 * k) ∧ k ≤ N ∧ i = .int .i64 (lo : Int) ∧ Hid (RsS w (.slice ua n uc) p (st0.blocks p k) wr)) (fun i _ => n - (intOf i).toNat)
  case atStart => exact ⟨0, 0, rfl, by omega, rfl, HS⟩
  case round =>
    clear HS
    obtain ⟨lo, k, Hlo, hk, rfl, H⟩ := hrel
    by_cases hlt : k < N
    · obtain ⟨g, off, cap, hua, hcn, _⟩ := H.out.m.at (by have := Hn.out; omega)
      simp only [Value.slice.injEq] at hua
      obtain ⟨hua1, _, hua2⟩ := hua
      subst hua1 hua2
      rw [← Hn.out] at hcn
      obtain ⟨t, ht⟩ : ∃ t, t = st0.blocks p k := ⟨_, rfl⟩
      rw [← ht] at H
      have Ht := Lib.hid ht; clear ht
      have hloN : lo + 64 ≤ n := by have := Hlo.out; omega
      obtain ⟨hi, Hhi, x1⟩ : ∃ hi : Nat, Hid (hi = lo + 64) ∧ IntKind.i64.wrap ((lo : Int) + 64) = (hi : Int) := ⟨lo + 64, rfl, by rw [IntKind.wrap_i64]; have := H.out.m.1; have := Hn.out; omega⟩
      have hblk : (blk p k).length = 64 := by unfold blk; have := Hn.out; have := Hlo.out; simp; omega
      have hcall : ∀ w', Below wr.heap.size wr w' → Calls Tryd.prog 61 #[.agg #[.int .u32 t.a, .int .u32 t.b, .int .u32 t.c, .int .u32 t.d, .int .u32 t.e, .int .u32 t.f, .int .u32 t.g, .int .u32 t.h], .slice (some ⟨g, off + lo, none⟩) 64 (uc - lo)] w' fun e w'' => e = .returned (.agg (words (t.block (blk p k)).ws).toArray) ∧ Below w'.heap.size w' w'' := by
        intro w' hb'
        have h1 := (Bs.kept (F' := fun k => k < w'.heap.size) H.out.m (fun k hk => hb'.block k hk.2) (fun k hk => Nat.lt_of_lt_of_le hk.2 hb'.size)).sub lo 64 (uc - lo) (by have := Hn.out; omega) (by omega)
        refine rblock_any t (blk p k) w' _ hblk ?_
        unfold blk; rw [← Hlo.out]; exact h1
      have Hc := Lib.hid hcall; clear hcall hblk
      have c0 := H.out.h.cell (j := 0) (x := t.a) rfl
      have c1 := H.out.h.cell (j := 1) (x := t.b) rfl
      have c2 := H.out.h.cell (j := 2) (x := t.c) rfl
      have c3 := H.out.h.cell (j := 3) (x := t.d) rfl
      have c4 := H.out.h.cell (j := 4) (x := t.e) rfl
      have c5 := H.out.h.cell (j := 5) (x := t.f) rfl
      have c6 := H.out.h.cell (j := 6) (x := t.g) rfl
      have c7 := H.out.h.cell (j := 7) (x := t.h) rfl
      have y0 : (lo : Int) < (n : Int) := by omega
      have y1 : (lo : Int) ≤ (hi : Int) := by have := Hhi.out; omega
      have y2 : (hi : Int) ≤ (uc : Int) := by have := Hhi.out; omega
      have y3 : lo ≤ hi := by omega
      have y4 : hi ≤ uc := by omega
      go_wp2
      go_still_tail 6, (by kernel_rfl)
      change wpList _ _ _ _ _ wr.drew
      rw [if_neg (by have := Hhi.out; omega), show hi - lo = 64 from by have := Hhi.out; omega]
      clear x1 y0 y1 y2 y3 y4 c0 c1 c2 c3 c4 c5 c6 c7
      go_wp2_with (first
        | (go_at_call 61; refine (Hc.out _ (Below.drew (Below.refl _ _))).mono ?_; rintro e w5 ⟨rfl, hb5⟩
           have hr5 : RowW w5 (w.heap.size + 1) 72 t.ws := RowW.kept H.out.h (hb5.block _ (by have := H.out.l; simp; omega))
           have Hb5 := Lib.hid hb5; clear hb5)
        | (refine st55 rfl (.tmp 3) (.tmp 23) rfl (w.heap.size + 1) (t.block (blk p k)).ws t.ws rfl rfl hr5 rfl rfl ?_; intro w6 r6 o6 s6 b6; have H6 : Hid (RowW w6 (w.heap.size + 1) 72 (t.block (blk p k)).ws ∧ (∀ k, k ≠ w.heap.size + 1 → w6.heap[k]? = w5.heap[k]?) ∧ w6.heap.size = w5.heap.size ∧ (∀ (B0 : Nat) (c : World), B0 ≤ w.heap.size + 1 → Below B0 c w5 → Below B0 c w6)) := ⟨r6, o6, s6, b6⟩; clear r6 o6 s6 b6 hr5))
      go_roundw
      case rel =>
        obtain ⟨r6, o6, s6, b6⟩ := H6.out
        have hb : Below wr.heap.size wr w5 := (Below.drew (Below.refl _ _)).trans Hb5.out
        have hsz := hb.size
        have hl0 := H.out.l
        have hlo := Hlo.out
        refine ⟨lo + 64, k + 1, (by omega : lo + 64 = 64 * (k + 1)), by omega, by simp, ?_⟩
        refine (⟨(H.out.d.kept (hb.block _ (by omega))).kept (o6 _ (by omega)), ?_, b6 _ _ (by omega) (H.out.below.trans (hb.mono H.out.below.size)), Bs.kept H.out.m (fun k hk => (o6 k (by omega)).trans (hb.block k hk.2)) (fun k hk => ⟨hk.1, by omega⟩), by omega⟩ : RsS _ _ _ _ _)
        simp only [St.blocks]; rw [← Ht.out]; exact r6
      case measure => simp [intOf]; omega
    · have hk' : k = N := by omega
      subst hk'
      have y0 : ¬ ((lo : Int) < (n : Int)) := by have := Hlo.out; omega
      obtain ⟨t, ht⟩ : ∃ t, t = st0.blocks p k := ⟨_, rfl⟩
      rw [← ht] at H
      have hres : sha b = bytesOf t.ws := by rw [Hsha.out, ht, Hp.out, Hpl.out, ← HN.out, Nat.mul_div_cancel_left _ (by decide)]
      have Hres := Lib.hid hres
      clear ht hres
      go_wp2_with (refine st25 rfl (.tmp 6) (.tmp 24) rfl wr.heap.size zer zer rfl rfl (RowB.new' _ rfl rfl) rfl rfl ?_; intro wB rB oB sB bB)
      have hd : decide ((lo : Int) < 64 * (((b.length : Int) + 72) / 64)) = false := by have := Hlo.out; have := HN.out; simp; omega
      rw [hd]
      clear hd y0
      have hb0 : Below w.heap.size w wB := bB _ _ H.out.below.size (ball' H.out.below _ H.out.below.size)
      have hl0 := H.out.l
      have HQ : Hid (RowB wB wr.heap.size 26 (part (byteOf t.ws) 32 0) ∧ RowW wB (w.heap.size + 1) 72 t.ws ∧ RowB wB w.heap.size 26 zer ∧ Below w.heap.size w wB ∧ wr.heap.size < wB.heap.size) := by
        refine ⟨by rw [part_zero]; exact rB, RowW.kept (RowW.kept H.out.h (heap_alloc_old _ _ (by omega))) (oB _ (by omega)), RowB.kept (RowB.kept H.out.d (heap_alloc_old _ _ (by omega))) (oB _ (by omega)), hb0, by rw [sB]; simp⟩
      obtain ⟨D6, hD6⟩ : ∃ D6, D6 = wr.heap.size := ⟨_, rfl⟩
      rw [← hD6] at HQ hl0 ⊢
      clear hD6 rB oB sB bB hb0 H
      go_loopw [7] (fun i wq => ∃ j : Nat, j ≤ 32 ∧ i = .int .i64 j ∧ Hid (RowB wq D6 26 (part (byteOf t.ws) 32 j) ∧ RowW wq (w.heap.size + 1) 72 t.ws ∧ RowB wq w.heap.size 26 zer ∧ Below w.heap.size w wq ∧ D6 < wq.heap.size)) (fun i _ => 32 - (intOf i).toNat)
      case atStart => exact ⟨0, by omega, rfl, HQ⟩
      case round =>
        clear HQ
        obtain ⟨j, hj, rfl, H⟩ := hrel
        by_cases hlt : j < 32
        · have hc := H.out.2.1.cell (j := j / 4) (x := t.ws.getD (j / 4) 0) (getD_some (show j / 4 < 8 by omega))
          have hx := H.out.1.cell (j := j) (x := 0) (by rw [part_at _ _ _ _ hlt]; simp)
          have hz := frozen_of_row wr _ j _ _ H.out.1
          have e1 : (j : Int).tdiv 4 = ((j / 4 : Nat) : Int) := by rw [Int.tdiv_eq_ediv_of_nonneg (by omega)]; omega
          have e2 : (j : Int).tmod 4 = ((j % 4 : Nat) : Int) := by rw [Int.tmod_eq_emod_of_nonneg (by omega)]; omega
          have e3 : (24 : Int) - 8 * ((j % 4 : Nat) : Int) = ((8 * (3 - j % 4) : Nat) : Int) := by omega
          go_wp2
          go_roundw
          case rel =>
            refine ⟨j + 1, by omega, by go_num, ?_⟩
            obtain ⟨h1, h2, h3, h4, h5⟩ := H.out
            refine ⟨?_, h2.kept (heap_setCell_other _ _ _ _ (by show _ ≠ D6; omega)), h3.kept (heap_setCell_other _ _ _ _ (by show _ ≠ D6; omega)), h4.setCell (by show w.heap.size ≤ D6; omega) _, by simpa using h5⟩
            rw [← part_set _ _ _ hlt, show byteOf t.ws j = t.ws[j / 4]?.getD 0 / 2 ^ (24 - 8 * (j % 4)) % 256 from by unfold byteOf; rw [List.getD_eq_getElem?_getD, show 8 * (3 - j % 4) = 24 - 8 * (j % 4) from by omega]]
            exact h1.set j _
          case measure => simp [intOf]; omega
        · have hj' : j = 32 := by omega
          subst hj'
          obtain ⟨h1, h2, h3, h4, h5⟩ := H.out
          rw [part_full] at h1
          have hl32 : ((List.range 32).map (byteOf t.ws)).length = 32 := by simp
          unfold RowB at h3
          clear H h2
          go_wp2_with (first | (refine wpList_load_dig (by rfl) (.tmp 6) rfl D6 rfl _ h1 hl32 ?_) | (refine wpList_store_row rfl 26 (.tmp 2) (.tmp 41) rfl w.heap.size _ rfl rfl 26 _ h3 (size25 _ hl32) (by simp [byteVals, zer]) (all_byteVals _) ?_))
          refine bodyPost_ret (results_cell_row rfl _ _ w.heap.size 26 _ (0, 0) _ (by kernel_rfl) (RowB.put h3) Tryd.underlying26 rfl (size25 _ hl32)) rfl ?_
          exact ⟨by rw [Hres.out]; rfl, bsetRow h4 (by omega) _⟩
end Go.Proofs.YthmpeeipbclhkaaDoor
