/-
  Walks of the program's digest: a block.
-/
import Derived.Test.YthmpeeipbclhkaaDoorDc
namespace Go.Proofs.YthmpeeipbclhkaaDoor
open Go.RowKit

/-- The words of a state. -/
structure St where
  a : Int
  b : Int
  c : Int
  d : Int
  e : Int
  f : Int
  g : Int
  h : Int

def St.ws (s : St) : List Int := [s.a, s.b, s.c, s.d, s.e, s.f, s.g, s.h]

/-- The constants of the rounds. -/
def kk : List Int := [1116352408, 1899447441, 3049323471, 3921009573, 961987163, 1508970993, 2453635748, 2870763221, 3624381080, 310598401, 607225278, 1426881987, 1925078388, 2162078206, 2614888103, 3248222580, 3835390401, 4022224774, 264347078, 604807628, 770255983, 1249150122, 1555081692, 1996064986, 2554220882, 2821834349, 2952996808, 3210313671, 3336571891, 3584528711, 113926993, 338241895, 666307205, 773529912, 1294757372, 1396182291, 1695183700, 1986661051, 2177026350, 2456956037, 2730485921, 2820302411, 3259730800, 3345764771, 3516065817, 3600352804, 4094571909, 275423344, 430227734, 506948616, 659060556, 883997877, 958139571, 1322822218, 1537002063, 1747873779, 1955562222, 2024104815, 2227730452, 2361852424, 2428436474, 2756734187, 3204031479, 3329325298]

/-- Variable 0 holds the constants. -/
def KOk (w : World) : Prop := 0 < w.heap.size ∧ ∀ i x, kk[i]? = some x → w.cell? ⟨0, i, none⟩ = some (.int .u32 x)

theorem KOk.below {w w' : World} (h : KOk w) (hb : Below w.heap.size w w') : KOk w' :=
  ⟨Nat.lt_of_lt_of_le h.1 hb.size, fun i x hx => (hb.cell (p := ⟨0, i, none⟩) h.1).trans (h.2 i x hx)⟩

def tOne (s : St) (k w : Int) : Int :=
  (s.h + bits .xor .u32 (bits .xor .u32 (rot s.e 6) (rot s.e 11)) (rot s.e 25) + bits .xor .u32 (bits .and .u32 s.e s.f) (bits .and .u32 (bits .xor .u32 (if IntKind.u32.signed = true then -1 else IntKind.u32.max) s.e) s.g) + k + w) % 4294967296
def tTwo (s : St) : Int :=
  (bits .xor .u32 (bits .xor .u32 (rot s.a 2) (rot s.a 13)) (rot s.a 22) + bits .xor .u32 (bits .xor .u32 (bits .and .u32 s.a s.b) (bits .and .u32 s.a s.c)) (bits .and .u32 s.b s.c)) % 4294967296
def St.next (s : St) (k w : Int) : St := ⟨(tOne s k w + tTwo s) % 4294967296, s.a, s.b, s.c, (s.d + tOne s k w) % 4294967296, s.e, s.f, s.g⟩
def St.rounds (s : St) (W : List Int) : Nat → St
  | 0 => s
  | k + 1 => (s.rounds W k).next (kk.getD k 0) (W.getD k 0)

def St.plus (s r : St) : St := ⟨(s.a + r.a) % 4294967296, (s.b + r.b) % 4294967296, (s.c + r.c) % 4294967296, (s.d + r.d) % 4294967296, (s.e + r.e) % 4294967296, (s.f + r.f) % 4294967296, (s.g + r.g) % 4294967296, (s.h + r.h) % 4294967296⟩
/-- The state after one block. -/
def St.block (s : St) (b : List Int) : St := s.plus (s.rounds (sch b 64) 64)

set_option maxRecDepth 100000 in
set_option maxHeartbeats 4000000 in
theorem block_any (s : St) (b : List Int) (w : World) (v : Value) (hl : b.length = 64) (hk : KOk w) (hv : Bs (fun k => k < w.heap.size) w v b) :
    Calls Tryd.prog 62 #[.agg #[.int .u32 s.a, .int .u32 s.b, .int .u32 s.c, .int .u32 s.d, .int .u32 s.e, .int .u32 s.f, .int .u32 s.g, .int .u32 s.h], v] w fun e w' => e = .returned (.agg (words (s.block b).ws).toArray) ∧ Below w.heap.size w w' := by
  have hs : ∀ w', Below w.heap.size w w' → Calls Tryd.prog 66 #[v] w' fun e w'' => e = .returned (.agg (words (sch b 64)).toArray) ∧ Below w'.heap.size w' w'' := by
    intro w' hb
    exact schedule_any b w' v hl ((hv.below (fun k hk => hk) hb).kept (fun _ _ => rfl) (fun k hk => Nat.lt_of_lt_of_le hk hb.size))
  have Hs := Lib.hid hs; clear hs
  have HK := Lib.hid hk; clear hk
  clear hv
  have hlen := sch_length b 64
  unfold St.block
  generalize sch b 64 = W at *
  go_enter Tryd.func62, Tryd.ntmps62
  go_wp2_with (first | (go_at_call 66; refine (Hs.out _ (ball (ball (Below.refl _ _) _) _)).mono ?_; rintro e w1 ⟨rfl, hb1⟩; have Hb1 := Lib.hid hb1; clear hb1) | (refine wpList_store_row rfl 81 (.tmp 5) (.tmp 18) rfl _ _ rfl rfl 81 _ (heap_alloc_new _ _) (size73 _ hlen) (by simp [words, hlen]) (all_words _) ?_))
  obtain ⟨w2, hw2⟩ : ∃ w2, w2 = (w1.alloc (Obj.cells (words (List.replicate 64 0)).toArray 81)).setRow w1.heap.size (words W).toArray := ⟨_, rfl⟩
  change Code.wp _ _ _ _ ((w1.alloc (Obj.cells (words (List.replicate 64 0)).toArray 81)).setRow w1.heap.size (words W).toArray)
  rw [← hw2]
  have hsz1 : w.heap.size + 2 ≤ w1.heap.size := by have := Hb1.out.size; simpa using this
  have hrW : RowW w2 w1.heap.size 81 W := by rw [hw2]; exact RowW.put (RowW.new w1 81 (List.replicate 64 0))
  have hsame : ∀ k, k < w1.heap.size → w2.heap[k]? = w1.heap[k]? := by
    intro k hk
    rw [hw2, setRow_other _ _ _ _ (by omega)]
    exact heap_alloc_old _ _ hk
  have hsz2 : w2.heap.size = w1.heap.size + 1 := by rw [hw2]; simp
  have hb01 : Below w.heap.size w w1 := (ball (ball (Below.refl _ _) _) _).trans (Hb1.out.mono (by simp; omega))
  have hb2 : Below w.heap.size w w2 := by
    rw [hw2]; exact bsetRow (hb01.alloc hb01.size _) (by omega) _
  have hrS : RowW w2 w.heap.size 73 s.ws := by
    refine RowW.kept ?_ (hsame _ (by omega))
    refine RowW.kept ?_ (Hb1.out.block _ (by simp; omega))
    refine RowW.kept ?_ (heap_alloc_old _ _ (by simp))
    exact RowW.new' _ rfl rfl
  have hrR : RowW w2 (w.heap.size + 1) 73 [0, 0, 0, 0, 0, 0, 0, 0] := by
    refine RowW.kept ?_ (hsame _ (by omega))
    refine RowW.kept ?_ (Hb1.out.block _ (by simp))
    exact RowW.new' _ (by simp) rfl
  have hK2 := HK.out.below hb2
  have Hb2 := Lib.hid hb2; have HrR := Lib.hid hrR; have HrW := Lib.hid hrW; have HrS := Lib.hid hrS; have HK2 := Lib.hid hK2
  clear hb2 hrR hrW hrS hK2 hb01 hsame hw2 Hb1 Hs HK
  have c0 := HrS.out.cell (j := 0) (x := s.a) rfl
  have c1 := HrS.out.cell (j := 1) (x := s.b) rfl
  have c2 := HrS.out.cell (j := 2) (x := s.c) rfl
  have c3 := HrS.out.cell (j := 3) (x := s.d) rfl
  have c4 := HrS.out.cell (j := 4) (x := s.e) rfl
  have c5 := HrS.out.cell (j := 5) (x := s.f) rfl
  have c6 := HrS.out.cell (j := 6) (x := s.g) rfl
  have c7 := HrS.out.cell (j := 7) (x := s.h) rfl
  go_wp2_with fail
  go_quiet (fail)
  go_wp2_with fail
  clear c0 c1 c2 c3 c4 c5 c6 c7
  go_loopw [6, 7, 8, 9, 10, 11, 12, 13, 35] (fun ra rb rc rd re rf rg rh i wr => ∃ k : Nat, k ≤ 64 ∧ i = .int .i64 k ∧ ∃ t : St, t = s.rounds W k ∧ (∃ m, wr = w2.drewN m) ∧ ra = .int .u32 t.a ∧ rb = .int .u32 t.b ∧ rc = .int .u32 t.c ∧ rd = .int .u32 t.d ∧ re = .int .u32 t.e ∧ rf = .int .u32 t.f ∧ rg = .int .u32 t.g ∧ rh = .int .u32 t.h)
    (fun _ _ _ _ _ _ _ _ i _ => 64 - (intOf i).toNat)
  case atStart => exact ⟨0, by omega, rfl, s, rfl, ⟨nq, rfl⟩, rfl, rfl, rfl, rfl, rfl, rfl, rfl, rfl⟩
  case round =>
    obtain ⟨k, hk, rfl, t, ht, ⟨m, rfl⟩, rfl, rfl, rfl, rfl, rfl, rfl, rfl, rfl⟩ := hrel
    have Ht := Lib.hid ht; clear ht
    by_cases hlt : k < 64
    · obtain ⟨kc, hkc⟩ : ∃ kc, kc = kk.getD k 0 := ⟨_, rfl⟩
      obtain ⟨wc, hwc⟩ : ∃ wc, wc = W.getD k 0 := ⟨_, rfl⟩
      have hn : s.rounds W (k + 1) = t.next kc wc := by rw [hkc, hwc, Ht.out]; rfl
      have cK : (w2.drewN m).cell? ⟨0, k, none⟩ = some (.int .u32 kc) := by rw [hkc]; exact HK2.out.2 k _ (getD_some (show k < 64 from hlt))
      have cW : (w2.drewN m).cell? ⟨w1.heap.size, k, none⟩ = some (.int .u32 wc) := by rw [hwc]; exact HrW.out.cell (getD_some (by omega))
      clear hkc hwc
      have Hn := Lib.hid hn; clear hn
      have b1 : (k : Int) < 64 := by omega
      generalize hw3 : w2.drewN m = w3 at *
      go_wp2_with fail
      go_quiet ((go_at_call 67; exact Calls.quiet_of_same ((rotr_lit _ _ _ (by decide)).mono fun _ _ ⟨h1, h2⟩ => ⟨h1, h2.symm⟩)))
      go_wp2_with (go_at_call 67; refine (rotr_lit _ _ _ (by decide)).mono ?_; rintro e w6 ⟨rfl, rfl⟩)
      go_roundw
      case rel =>
        refine ⟨k + 1, by omega, by go_num, t.next kc wc, Hn.out.symm, ⟨m + nq, ?_⟩, rfl, rfl, rfl, rfl, rfl, rfl, rfl, rfl⟩
        rw [← hw3]
        exact World.drewN_drewN _ _ _
      case measure => simp [intOf]; omega
    · have hk' : k = 64 := by omega
      subst hk'
      have hb3 : Below w.heap.size w (w2.drewN m) := bdrewN Hb2.out m
      have hrR : RowW (w2.drewN m) (w.heap.size + 1) 73 [0, 0, 0, 0, 0, 0, 0, 0] := HrR.out
      have hrS : RowW (w2.drewN m) w.heap.size 73 s.ws := HrS.out
      generalize w2.drewN m = w3 at *
      have c0 := hrS.cell (j := 0) (x := s.a) rfl
      have c1 := hrS.cell (j := 1) (x := s.b) rfl
      have c2 := hrS.cell (j := 2) (x := s.c) rfl
      have c3 := hrS.cell (j := 3) (x := s.d) rfl
      have c4 := hrS.cell (j := 4) (x := s.e) rfl
      have c5 := hrS.cell (j := 5) (x := s.f) rfl
      have c6 := hrS.cell (j := 6) (x := s.g) rfl
      have c7 := hrS.cell (j := 7) (x := s.h) rfl
      clear HrR HrW HrS HK2 Hb2 hrS
      have Hb3 := Lib.hid hb3; clear hb3
      have HR := Lib.hid hrR
      go_wp2_with (refine wpList_store_row rfl 73 (.tmp 4) (.tmp 130) rfl (w.heap.size + 1) (words (s.plus t).ws).toArray rfl rfl 73 _ hrR (size56 (s.plus t).ws rfl) rfl (all_words _) ?_)
      refine bodyPost_ret (results_cell_row rfl _ _ (w.heap.size + 1) 73 _ (0, 0) _ (by rfl) (RowW.put HR.out) Tryd.underlying73 rfl (size56 (s.plus t).ws rfl)) rfl ?_
      exact ⟨by rw [← Ht.out], bsetRow Hb3.out (by omega) _⟩

end Go.Proofs.YthmpeeipbclhkaaDoor
