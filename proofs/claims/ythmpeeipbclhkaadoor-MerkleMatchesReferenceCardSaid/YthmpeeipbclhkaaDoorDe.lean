/-
  Walks of the program's digest: the blocks of a message.
-/
import Derived.Test.YthmpeeipbclhkaaDoorDd
namespace Go.Proofs.YthmpeeipbclhkaaDoor
open Go.RowKit

/-- The state before the first block. -/
def st0 : St := ⟨1779033703, 3144134277, 1013904242, 2773480762, 1359893119, 2600822924, 528734635, 1541459225⟩

set_option maxHeartbeats 400000 in
theorem initial_any (w : World) : Calls Tryd.prog 56 #[] w fun e w' => e = .returned (.agg (words st0.ws).toArray) ∧ Below w.heap.size w w' := by
  go_enter Tryd.func56, Tryd.ntmps56
  go_wp2
  refine bodyPost_ret (results_cell_row rfl _ _ w.heap.size 73 (words st0.ws).toArray (0, 0) _ rfl (heap_alloc_new _ _) Tryd.underlying73 rfl (size56 st0.ws rfl)) rfl ?_
  exact ⟨rfl, ball (Below.refl _ _) _⟩

/-- Block k of a message. -/
def blk (b : List Int) (k : Nat) : List Int := (b.drop (64 * k)).take 64
/-- The state after k blocks. -/
def St.blocks (s : St) (b : List Int) : Nat → St
  | 0 => s
  | k + 1 => (s.blocks b k).block (blk b k)

theorem Bs.sub {F : Nat → Prop} {w : World} {g off n cap : Nat} {b : List Int} (h : Bs F w (.slice (some ⟨g, off, none⟩) n cap) b) (lo len c : Nat) (hl : lo + len ≤ b.length) (hc : len ≤ c) :
    Bs F w (.slice (some ⟨g, off + lo, none⟩) len c) ((b.drop lo).take len) := by
  obtain ⟨h1, h2, a, cp, h3, h4, h5⟩ := h
  simp only [Value.slice.injEq] at h3
  obtain ⟨rfl, rfl, rfl⟩ := h3
  have hlen : ((b.drop lo).take len).length = len := by simp; omega
  refine ⟨by omega, fun u hu => h2 u (List.mem_of_mem_drop (List.mem_of_mem_take hu)), some ⟨g, off + lo, none⟩, c, by rw [hlen], by omega, fun hp => ?_⟩
  obtain ⟨g', off', ha, hf, hcell⟩ := h5 (by omega)
  simp only [Option.some.injEq, Addr.mk.injEq] at ha
  obtain ⟨rfl, rfl, _⟩ := ha
  refine ⟨g, off + lo, rfl, hf, fun j u hj => ?_⟩
  have := hcell (lo + j) u (by
    rw [List.getElem?_take] at hj
    split at hj
    · rw [List.getElem?_drop] at hj; exact hj
    · cases hj)
  rw [Nat.add_assoc]
  exact this

set_option maxRecDepth 100000 in
set_option maxHeartbeats 1000000 in
theorem blocks_any (s : St) (b : List Int) (w : World) (v : Value) (hk : KOk w) (hv : Bs (fun k => k < w.heap.size) w v b) :
    Calls Tryd.prog 57 #[.agg (words s.ws).toArray, v] w fun e w' => e = .returned (.agg (words (s.blocks b (b.length / 64)).ws).toArray) ∧ Below w.heap.size w w' := by
  have hv0 := hv
  obtain ⟨hlen, _, ad, cap, rfl, hcap, hne⟩ := hv0
  have HK := Lib.hid hk; clear hk
  have HV := Lib.hid hv; clear hv
  have HN := Lib.hid hne; clear hne
  go_enter Tryd.func57, Tryd.ntmps57
  have e1 : (b.length : Int).tdiv 64 = ((b.length / 64 : Nat) : Int) := by rw [Int.tdiv_eq_ediv_of_nonneg (by omega)]; omega
  go_wp2
  go_loopw [9] (fun i wr => ∃ k : Nat, k ≤ b.length / 64 ∧ i = .int .i64 k ∧ Hid (RowW wr w.heap.size 73 (s.blocks b k).ws ∧ Below w.heap.size w wr ∧ w.heap.size + 2 ≤ wr.heap.size ∧ RowW wr (w.heap.size + 1) 73 [0, 0, 0, 0, 0, 0, 0, 0])) (fun i _ => b.length / 64 - (intOf i).toNat)
  case atStart =>
    refine ⟨0, by omega, rfl, ?_, ball (ball (Below.refl _ _) _) _, by simp, RowW.new' _ (by simp) rfl⟩
    exact RowW.kept (RowW.new' _ rfl rfl) (heap_alloc_old _ _ (by simp))
  case round =>
    obtain ⟨k, hk, rfl, H⟩ := hrel
    by_cases hlt : k < b.length / 64
    · obtain ⟨g, off, rfl, hg, hcell⟩ := HN.out (by omega)
      clear hcell HN
      obtain ⟨t, ht⟩ : ∃ t, t = s.blocks b k := ⟨_, rfl⟩
      rw [← ht] at H
      have Ht := Lib.hid ht; clear ht
      obtain ⟨hrS, hb, hsz, hrR⟩ := H.out
      have hKr := HK.out.below hb
      have hsub : ∀ w', Below wr.heap.size wr w' → Bs (fun k => k < w'.heap.size) w' (.slice (some ⟨g, off + 64 * k, none⟩) 64 (cap - 64 * k)) (blk b k) := by
        intro w' hb'
        have := (HV.out.below (fun k hk => hk) (hb.trans (hb'.mono hb.size))).sub (64 * k) 64 (cap - 64 * k) (by omega) (by omega)
        exact Bs.kept this (fun _ _ => rfl) (fun k hk => Nat.lt_of_lt_of_le hk (Nat.le_trans hb.size hb'.size))
      have hblk : (blk b k).length = 64 := by unfold blk; simp; omega
      have hcall : ∀ w', Below wr.heap.size wr w' → Calls Tryd.prog 62 #[.agg #[.int .u32 t.a, .int .u32 t.b, .int .u32 t.c, .int .u32 t.d, .int .u32 t.e, .int .u32 t.f, .int .u32 t.g, .int .u32 t.h], .slice (some ⟨g, off + 64 * k, none⟩) 64 (cap - 64 * k)] w' fun e w'' => e = .returned (.agg (words (t.block (blk b k)).ws).toArray) ∧ Below w'.heap.size w' w'' :=
        fun w' hb' => block_any t (blk b k) w' _ hblk (hKr.below hb') (hsub w' hb')
      have Hc := Lib.hid hcall; clear hcall hsub hblk hKr
      have c0 := hrS.cell (j := 0) (x := t.a) rfl
      have c1 := hrS.cell (j := 1) (x := t.b) rfl
      have c2 := hrS.cell (j := 2) (x := t.c) rfl
      have c3 := hrS.cell (j := 3) (x := t.d) rfl
      have c4 := hrS.cell (j := 4) (x := t.e) rfl
      have c5 := hrS.cell (j := 5) (x := t.f) rfl
      have c6 := hrS.cell (j := 6) (x := t.g) rfl
      have c7 := hrS.cell (j := 7) (x := t.h) rfl
      clear hrS hb hrR
      obtain ⟨lo, hi, k1, hlo, hhi, x1, x2, x3⟩ : ∃ lo hi k1 : Nat, lo = 64 * k ∧ hi = lo + 64 ∧ IntKind.i64.wrap ((k : Int) * 64) = (lo : Int) ∧ IntKind.i64.wrap ((k : Int) + 1) = (k1 : Int) ∧ IntKind.i64.wrap ((k1 : Int) * 64) = (hi : Int) :=
        ⟨64 * k, 64 * k + 64, k + 1, rfl, rfl, by rw [IntKind.wrap_i64]; omega, by rw [IntKind.wrap_i64]; omega, by rw [IntKind.wrap_i64]; omega⟩
      have y1 : (lo : Int) ≤ (hi : Int) := by omega
      have y2 : (hi : Int) ≤ (cap : Int) := by omega
      have y3 : lo ≤ hi := by omega
      have y4 : hi ≤ cap := by omega
      rw [← hlo] at Hc
      have Hlo := Lib.hid hlo; clear hlo
      have Hhi := Lib.hid hhi; clear hhi
      go_wp2
      go_still_tail 8, (by kernel_rfl)
      change wpList _ _ _ _ _ wr.drew
      rw [if_neg (by have := Hhi.out; omega), show hi - lo = 64 from by have := Hhi.out; omega]
      clear x1 x2 x3 y1 y2 y3 y4 c0 c1 c2 c3 c4 c5 c6 c7
      obtain ⟨hrS, hb, hsz, hrR⟩ := H.out
      have HS := Lib.hid hrS; have HB := Lib.hid hb; have HZ := Lib.hid hsz; have HR := Lib.hid hrR
      clear hrS hb hsz hrR H
      go_wp2_with (first
        | (go_at_call 62; refine (Hc.out _ (Below.drew (Below.refl _ _))).mono ?_; rintro e w5 ⟨rfl, hb5⟩
           have hr5 : RowW w5 w.heap.size 73 t.ws := RowW.kept HS.out (hb5.block _ (by have := HZ.out; simp; omega))
           have Hb5 := Lib.hid hb5; clear hb5)
        | (refine wpList_store_row rfl 73 (.tmp 2) (.tmp 20) rfl w.heap.size _ rfl rfl 73 _ hr5 (size56 (t.block (blk b k)).ws rfl) rfl (all_words _) ?_))
      go_roundw
      case rel =>
        refine ⟨k + 1, by omega, by go_num, ?_, ?_, ?_, ?_⟩
        · have e : (s.blocks b (k + 1)) = t.block (blk b k) := by rw [Ht.out]; rfl
          rw [e]
          exact RowW.put hr5
        · exact bsetRow (HB.out.trans ((Below.drew (Below.refl _ _)).trans (Hb5.out.mono (by simp; exact HB.out.size)))) (by omega) _
        · have := HZ.out; have h2 := Hb5.out.size; simp at h2 ⊢; omega
        · refine RowW.kept ?_ (setRow_other _ _ _ _ (by omega))
          exact RowW.kept HR.out (Hb5.out.block _ (by have := HZ.out; simp; omega))
      case measure => simp [intOf]; omega
    · have hk' : k = b.length / 64 := by omega
      subst hk'
      obtain ⟨hrS, hb, hsz, hrR⟩ := H.out
      clear H HN HV HK
      obtain ⟨t, ht⟩ : ∃ t, t = s.blocks b (b.length / 64) := ⟨_, rfl⟩
      rw [← ht] at hrS
      have Ht := Lib.hid ht; clear ht
      have HB := Lib.hid hb; have HR := Lib.hid hrR
      go_wp2_with (first | (refine wpList_load_row rfl 73 (.tmp 2) rfl w.heap.size rfl 73 _ (0, 0) _ hrS Tryd.underlying73 rfl (size56 _ rfl) ?_) | (refine wpList_store_row rfl 73 (.tmp 4) (.tmp 22) rfl (w.heap.size + 1) _ rfl rfl 73 _ hrR (size56 _ rfl) rfl (all_words _) ?_))
      refine bodyPost_ret (results_cell_row rfl _ _ (w.heap.size + 1) 73 _ (0, 0) _ rfl (RowW.put HR.out) Tryd.underlying73 rfl (size56 _ rfl)) rfl ?_
      exact ⟨by rw [← Ht.out], bsetRow HB.out (by omega) _⟩

end Go.Proofs.YthmpeeipbclhkaaDoor
