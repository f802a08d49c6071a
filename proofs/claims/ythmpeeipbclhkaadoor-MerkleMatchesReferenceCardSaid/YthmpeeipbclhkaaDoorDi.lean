/-
  Walks of the program's digest: Tagged, Next.
-/
import Derived.Test.YthmpeeipbclhkaaDoorIa
import Derived.Lib.SlBytesConst
import Derived.Deep.MidRow
import Derived.Deep.RegionHeld3
namespace Go.Proofs.YthmpeeipbclhkaaDoor
open Go.RowKit

/-- What Tagged hashes. -/
def hmsg (t b : List Int) : List Int := ((t.take 255).length : Int) :: (t.take 255 ++ b)

theorem hmsg_eq (t b : List Int) : [[((t.take 255).length : Int)], t.take 255, b].flatten = hmsg t b := by simp [hmsg]

/-- The three parts of a tagged message, joined. -/
theorem join3 (W : World) (n : Int) (ts b : List Int) (B : Nat) (vt vb : Value) (hn : 0 ≤ n ∧ n ≤ 255) (hB : RowB W B 5 [n]) (ht : Bs (fun k => k < W.heap.size) W vt ts) (hb : Bs (fun k => k < W.heap.size) W vb b)
    (hl : 1 + ts.length + b.length ≤ 140737488355328) :
    Calls Tryd.prog 49 #[.slice (some ⟨W.heap.size, 0, none⟩) 3 3] (W.alloc (.cells #[.slice (some ⟨B, 0, none⟩) 1 1, vt, vb] 48)) fun e w' => ∃ u, e = .returned u ∧ Below (W.alloc (.cells #[.slice (some ⟨B, 0, none⟩) 1 1, vt, vb] 48)).heap.size (W.alloc (.cells #[.slice (some ⟨B, 0, none⟩) 1 1, vt, vb] 48)) w' ∧ Bs (fun k => k < w'.heap.size) w' u (n :: (ts ++ b)) := by
  obtain ⟨us, hus⟩ : ∃ us : List Value, us = [.slice (some ⟨B, 0, none⟩) 1 1, vt, vb] := ⟨_, rfl⟩
  have hP : Parts (W.alloc (.cells us.toArray 48)) (.slice (some ⟨W.heap.size, 0, none⟩) 3 3) [[n], ts, b] := by
    refine Parts.mk (t := 48) us [[n], ts, b] 3 (heap_alloc_new W _) (by rw [hus]; rfl) (by simp) (by simp) ?_
    intro j u p hu hp
    rw [hus] at hu
    have up : ∀ {u : Value} {p : List Int}, Bs (fun k => k < W.heap.size) W u p → Bs (fun k => k < (W.alloc (.cells us.toArray 48)).heap.size) (W.alloc (.cells us.toArray 48)) u p := fun h => h.up2 (fun k hk => heap_alloc_old W _ hk) (by simp)
    match j, hu, hp with
    | 0, hu, hp =>
      simp at hu hp; subst hu hp
      have hBl : B < W.heap.size := (Array.getElem?_eq_some_iff.1 hB).1
      exact up (Bs.ofRow (l := [n]) hB hBl (by intro u hu; simp at hu; omega) 1 1 (by simp) (by decide) (by decide))
    | 1, hu, hp => simp at hu hp; subst hu hp; exact up ht
    | 2, hu, hp => simp at hu hp; subst hu hp; exact up hb
    | j + 3, hu, _ => simp at hu
  have hf : [[n], ts, b].flatten = n :: (ts ++ b) := by simp
  have hc := join_any _ _ _ hP (by unfold total; rw [hf]; simp; omega)
  rw [hf] at hc
  rw [hus] at hc
  refine hc.mono ?_
  rintro e w' ⟨u, rfl, hb2, ho⟩
  refine ⟨u, rfl, hb2, Bs.kept (Bs.ofOwn ho (by simp; omega) ?_) (fun _ _ => rfl) (fun k hk => hk.2.1)⟩
  · intro u hu
    rcases List.mem_cons.1 hu with rfl | hu
    · exact hn
    · rcases List.mem_append.1 hu with hu | hu
      · exact ht.2.1 u hu
      · exact hb.2.1 u hu

theorem SumS.grown {w X W : World} (h : SumS w X) (hg : X.grownBy W none) : SumS w W :=
  ⟨h.below.grown hg h.below.size (by intro k hk; cases hk), Nat.lt_of_lt_of_le h.size hg.size, h.row.elim fun l hl => ⟨l, hl.1, hl.2.kept (hg.block _ h.size (by simp))⟩⟩

/-- Behind the conversion of the tag. -/
theorem tag_tail (s : ByteArray) (b : List Int) (v : Value) (w : World) (hk : KOk w) (hv : Bs (fun k => k < w.heap.size) w v b) (hs : s.size ≤ 255) (hb : b.length ≤ 140737488000000) :
    ∃ W cp, (convert 9 48 (.string s)).run Tryd.prog ((w.alloc (.cells #[.int .u8 0, .int .u8 0, .int .u8 0, .int .u8 0, .int .u8 0, .int .u8 0, .int .u8 0, .int .u8 0, .int .u8 0, .int .u8 0, .int .u8 0, .int .u8 0, .int .u8 0, .int .u8 0, .int .u8 0, .int .u8 0, .int .u8 0, .int .u8 0, .int .u8 0, .int .u8 0, .int .u8 0, .int .u8 0, .int .u8 0, .int .u8 0, .int .u8 0, .int .u8 0, .int .u8 0, .int .u8 0, .int .u8 0, .int .u8 0, .int .u8 0, .int .u8 0] 26)).alloc (.cells #[.int .u8 (s.size : Int)] 5)) = .ok (.slice (some ⟨w.heap.size + 2, 0, none⟩) s.size cp) W ∧
      Hid (Calls Tryd.prog 49 #[.slice (some ⟨W.heap.size, 0, none⟩) 3 3] (W.alloc (.cells #[.slice (some ⟨w.heap.size + 1, 0, none⟩) 1 1, .slice (some ⟨w.heap.size + 2, 0, none⟩) s.size cp, v] 48)) fun e w' => ∃ u, e = .returned u ∧ SumS w w' ∧ Bs (fun k => k < w'.heap.size) w' u ((s.size : Int) :: (strB s ++ b))) := by
  have h0 : SumS w (w.alloc (.cells #[.int .u8 0, .int .u8 0, .int .u8 0, .int .u8 0, .int .u8 0, .int .u8 0, .int .u8 0, .int .u8 0, .int .u8 0, .int .u8 0, .int .u8 0, .int .u8 0, .int .u8 0, .int .u8 0, .int .u8 0, .int .u8 0, .int .u8 0, .int .u8 0, .int .u8 0, .int .u8 0, .int .u8 0, .int .u8 0, .int .u8 0, .int .u8 0, .int .u8 0, .int .u8 0, .int .u8 0, .int .u8 0, .int .u8 0, .int .u8 0, .int .u8 0, .int .u8 0] 26)) := ⟨ball (Below.refl _ _) _, by simp, List.replicate 32 0, by simp, RowB.new' _ rfl rfl⟩
  have h1 : SumS w ((w.alloc (.cells #[.int .u8 0, .int .u8 0, .int .u8 0, .int .u8 0, .int .u8 0, .int .u8 0, .int .u8 0, .int .u8 0, .int .u8 0, .int .u8 0, .int .u8 0, .int .u8 0, .int .u8 0, .int .u8 0, .int .u8 0, .int .u8 0, .int .u8 0, .int .u8 0, .int .u8 0, .int .u8 0, .int .u8 0, .int .u8 0, .int .u8 0, .int .u8 0, .int .u8 0, .int .u8 0, .int .u8 0, .int .u8 0, .int .u8 0, .int .u8 0, .int .u8 0, .int .u8 0] 26)).alloc (.cells #[.int .u8 (s.size : Int)] 5)) := h0.alloc _
  have hr1 : RowB ((w.alloc (.cells #[.int .u8 0, .int .u8 0, .int .u8 0, .int .u8 0, .int .u8 0, .int .u8 0, .int .u8 0, .int .u8 0, .int .u8 0, .int .u8 0, .int .u8 0, .int .u8 0, .int .u8 0, .int .u8 0, .int .u8 0, .int .u8 0, .int .u8 0, .int .u8 0, .int .u8 0, .int .u8 0, .int .u8 0, .int .u8 0, .int .u8 0, .int .u8 0, .int .u8 0, .int .u8 0, .int .u8 0, .int .u8 0, .int .u8 0, .int .u8 0, .int .u8 0, .int .u8 0] 26)).alloc (.cells #[.int .u8 (s.size : Int)] 5)) (w.heap.size + 1) 5 [(s.size : Int)] := RowB.new' _ (by simp) rfl
  have hsz : ((w.alloc (.cells #[.int .u8 0, .int .u8 0, .int .u8 0, .int .u8 0, .int .u8 0, .int .u8 0, .int .u8 0, .int .u8 0, .int .u8 0, .int .u8 0, .int .u8 0, .int .u8 0, .int .u8 0, .int .u8 0, .int .u8 0, .int .u8 0, .int .u8 0, .int .u8 0, .int .u8 0, .int .u8 0, .int .u8 0, .int .u8 0, .int .u8 0, .int .u8 0, .int .u8 0, .int .u8 0, .int .u8 0, .int .u8 0, .int .u8 0, .int .u8 0, .int .u8 0, .int .u8 0] 26)).alloc (.cells #[.int .u8 (s.size : Int)] 5)).heap.size = w.heap.size + 2 := by simp
  generalize (w.alloc (.cells #[.int .u8 0, .int .u8 0, .int .u8 0, .int .u8 0, .int .u8 0, .int .u8 0, .int .u8 0, .int .u8 0, .int .u8 0, .int .u8 0, .int .u8 0, .int .u8 0, .int .u8 0, .int .u8 0, .int .u8 0, .int .u8 0, .int .u8 0, .int .u8 0, .int .u8 0, .int .u8 0, .int .u8 0, .int .u8 0, .int .u8 0, .int .u8 0, .int .u8 0, .int .u8 0, .int .u8 0, .int .u8 0, .int .u8 0, .int .u8 0, .int .u8 0, .int .u8 0] 26)).alloc (.cells #[.int .u8 (s.size : Int)] 5) = X at *
  obtain ⟨W, cp, hcv, ⟨hg, hgl⟩, hB⟩ := conv_at X s (by omega)
  rw [hsz] at hcv hB
  refine ⟨W, cp, hcv, ?_⟩
  have h2 := h1.grown hg
  have hr2 : RowB W (w.heap.size + 1) 5 [(s.size : Int)] := hr1.kept (hg.block _ (by omega) (by simp))
  have ht2 : Bs (fun k => k < W.heap.size) W (.slice (some ⟨w.heap.size + 2, 0, none⟩) s.size cp) (strB s) := Bs.kept hB (fun _ _ => rfl) (fun k hk => by have hk' : k = w.heap.size + 2 := hk; omega)
  have hb2 : Bs (fun k => k < W.heap.size) W v b := (hv.below (fun k hk => hk) h2.below).kept (fun _ _ => rfl) (fun k hk => Nat.lt_of_lt_of_le hk h2.below.size)
  have h3 : SumS w (W.alloc (.cells #[.slice (some ⟨w.heap.size + 1, 0, none⟩) 1 1, .slice (some ⟨w.heap.size + 2, 0, none⟩) s.size cp, v] 48)) := h2.alloc _
  refine (join3 W _ _ _ _ _ _ (by omega) hr2 ht2 hb2 ?_).mono ?_
  · rw [strB_length]; omega
  · rintro e w' ⟨u, rfl, hb4, hu⟩
    exact ⟨u, rfl, h3.call hb4, hu⟩

set_option maxRecDepth 100000 in
set_option maxHeartbeats 1000000 in
theorem tagged_short (s : ByteArray) (b : List Int) (v : Value) (w : World) (hk : KOk w) (hv : Bs (fun k => k < w.heap.size) w v b) (hs : s.size ≤ 255) (hb : b.length ≤ 140737488000000) :
    Calls Tryd.prog 32 #[.string s, v] w fun e w' => e = .returned (.agg (byteVals (sha (hmsg (strB s) b))).toArray) ∧ Below w.heap.size w w' := by
  obtain ⟨D, hD⟩ : ∃ D, D = sha (hmsg (strB s) b) := ⟨_, rfl⟩
  rw [← hD]
  have hm : hmsg (strB s) b = (s.size : Int) :: (strB s ++ b) := by
    unfold hmsg
    rw [List.take_of_length_le (by rw [strB_length]; omega), strB_length]
  have hDl : D.length = 32 := by rw [hD]; simp [sha, bytesOf]
  obtain ⟨W, cp, hcv, Hj⟩ := tag_tail s b v w hk hv hs hb
  have hsum : ∀ w' u, SumS w w' → Bs (fun k => k < w'.heap.size) w' u ((s.size : Int) :: (strB s ++ b)) → Calls Tryd.prog 48 #[u] w' fun e w'' => e = .returned (.agg (byteVals D).toArray) ∧ Below w'.heap.size w' w'' := by
    intro w' u hS hu
    have := sum_any _ u w' (hk.below hS.below) hu
    rw [← hm, ← hD] at this
    exact this
  have Hsum := Lib.hid hsum
  obtain ⟨_, _, av, cv, rfl, _, _⟩ := hv
  clear hsum hm hD hk
  have hs' : (s.size : Int) ≤ 255 := by omega
  go_enter Tryd.func32, Tryd.ntmps32
  go_wp2_with (first | (go_at_call 49; refine Hj.out.mono ?_; rintro e w2 ⟨u, rfl, hS, hu⟩; have HS := Lib.hid hS; have HU := Lib.hid hu; clear hS hu) | (go_at_call 48; refine (Hsum.out _ _ HS.out HU.out).mono ?_; rintro e w3 ⟨rfl, hb3⟩; obtain ⟨l, hl, hrl⟩ := (HS.out.call hb3).row; have Hbf := Lib.hid (HS.out.call hb3).below; clear hb3) | (refine wpList_store_row rfl 26 (.tmp 4) (.tmp 19) rfl w.heap.size _ rfl rfl 26 _ hrl (size25 _ hDl) (by rw [List.size_toArray, List.size_toArray, bv_length, bv_length]; omega) (all_byteVals _) ?_))
  refine bodyPost_ret (results_cell_row rfl _ _ w.heap.size 26 _ (0, 0) _ rfl (RowB.put hrl) Tryd.underlying26 rfl (size25 _ hDl)) rfl ?_
  exact ⟨rfl, bsetRow Hbf.out (Nat.le_refl _) _⟩
theorem extract255 (s : ByteArray) (hs : 255 ≤ s.size) : (s.extract 0 255).size = 255 ∧ strB (s.extract 0 255) = (strB s).take 255 := by
  constructor
  · rw [ByteArray.size_extract]; omega
  · unfold strB
    rw [← List.map_take]
    simp

set_option maxRecDepth 100000 in
set_option maxHeartbeats 1000000 in
theorem tagged_long (s : ByteArray) (b : List Int) (v : Value) (w : World) (hk : KOk w) (hv : Bs (fun k => k < w.heap.size) w v b) (hs : 255 < s.size) (hs1 : s.size ≤ 140737488355328) (hb : b.length ≤ 140737488000000) :
    Calls Tryd.prog 32 #[.string s, v] w fun e w' => e = .returned (.agg (byteVals (sha (hmsg (strB s) b))).toArray) ∧ Below w.heap.size w w' := by
  obtain ⟨D, hD⟩ : ∃ D, D = sha (hmsg (strB s) b) := ⟨_, rfl⟩
  rw [← hD]
  obtain ⟨hz, hx⟩ := extract255 s (by omega)
  have hm : hmsg (strB s) b = ((s.extract 0 255).size : Int) :: (strB (s.extract 0 255) ++ b) := by
    unfold hmsg
    rw [hx, List.length_take, strB_length, hz]
    have : min 255 s.size = 255 := by omega
    rw [this]
  have hDl : D.length = 32 := by rw [hD]; simp [sha, bytesOf]
  obtain ⟨W, cp, hcv, Hj⟩ := tag_tail (s.extract 0 255) b v w hk hv (by omega) hb
  have hsum : ∀ w' u, SumS w w' → Bs (fun k => k < w'.heap.size) w' u (((s.extract 0 255).size : Int) :: (strB (s.extract 0 255) ++ b)) → Calls Tryd.prog 48 #[u] w' fun e w'' => e = .returned (.agg (byteVals D).toArray) ∧ Below w'.heap.size w' w'' := by
    intro w' u hS hu
    have := sum_any _ u w' (hk.below hS.below) hu
    rw [← hm, ← hD] at this
    exact this
  have Hsum := Lib.hid hsum
  obtain ⟨_, _, av, cv, rfl, _, _⟩ := hv
  clear hsum hm hD hk
  have hs' : ¬ ((s.size : Int) ≤ 255) := by omega
  have hs2 : (255 : Int) ≤ (s.size : Int) := by omega
  have hs3 : 255 ≤ s.size := by omega
  generalize hS : s.extract 0 255 = s2 at *
  rw [hz] at hcv Hj Hsum
  rw [show ((255 : Nat) : Int) = 255 from rfl] at hcv
  go_enter Tryd.func32, Tryd.ntmps32
  go_wp2_with (first | (go_at_call 49; refine Hj.out.mono ?_; rintro e w2 ⟨u, rfl, hS, hu⟩; have HS := Lib.hid hS; have HU := Lib.hid hu; clear hS hu) | (go_at_call 48; refine (Hsum.out _ _ HS.out HU.out).mono ?_; rintro e w3 ⟨rfl, hb3⟩; obtain ⟨l, hl, hrl⟩ := (HS.out.call hb3).row; have Hbf := Lib.hid (HS.out.call hb3).below; clear hb3) | (refine wpList_store_row rfl 26 (.tmp 4) (.tmp 19) rfl w.heap.size _ rfl rfl 26 _ hrl (size25 _ hDl) (by rw [List.size_toArray, List.size_toArray, bv_length, bv_length]; omega) (all_byteVals _) ?_))
  refine bodyPost_ret (results_cell_row rfl _ _ w.heap.size 26 _ (0, 0) _ rfl (RowB.put hrl) Tryd.underlying26 rfl (size25 _ hDl)) rfl ?_
  exact ⟨rfl, bsetRow Hbf.out (Nat.le_refl _) _⟩
/-- Tagged's contract. -/
theorem tagged_any (s : ByteArray) (b : List Int) (v : Value) (w : World) (hk : KOk w) (hv : Bs (fun k => k < w.heap.size) w v b) (hs : s.size ≤ 140737488355328) (hb : b.length ≤ 140737488000000) :
    Calls Tryd.prog 32 #[.string s, v] w fun e w' => e = .returned (.agg (byteVals (sha (hmsg (strB s) b))).toArray) ∧ Below w.heap.size w w' := by
  rcases Nat.lt_or_ge 255 s.size with h | h
  · exact tagged_long s b v w hk hv h hs hb
  · exact tagged_short s b v w hk hv h hb

def nextS : ByteArray := ⟨#[110, 101, 120, 116]⟩
/-- A link of a chain. -/
def link (d b : List Int) : List Int := sha (hmsg (strB nextS) (d ++ b))

theorem sha_length (b : List Int) : (sha b).length = 32 := by simp [sha, bytesOf]
theorem sha_range (b : List Int) : ∀ u ∈ sha b, 0 ≤ u ∧ u ≤ 255 := by
  intro u hu
  unfold sha bytesOf at hu
  obtain ⟨i, _, rfl⟩ := List.mem_map.1 hu
  unfold byteOf
  omega



/-- A digest stored whole into a block that holds one: the world behind it, under a name of its own. -/
theorem st25 {ops : Array Oper} {rest : List Oper} {o : Oper} {a : Act} {w : World} {Q : Exit → Act → World → Prop} (hgd : o.guard = none) (x y : Operand) (ho : o.op = .store 26 x y)
    (g : Nat) (l l0 : List Int) (hx : a.eval x = .pointer (some ⟨g, 0, none⟩)) (hy : a.eval y = .agg (byteVals l).toArray) (hg : RowB w g 26 l0) (h0 : l0.length = 32) (h1 : l.length = 32)
    (h : ∀ w', RowB w' g 26 l → (∀ k, k ≠ g → w'.heap[k]? = w.heap[k]?) → w'.heap.size = w.heap.size → (∀ (B0 : Nat) (c : World), B0 ≤ g → Below B0 c w → Below B0 c w') → wpList Tryd.prog ops Q rest (a.put o.dst undef) w') : wpList Tryd.prog ops Q (o :: rest) a w :=
  wpList_store_row hgd 26 x y ho g _ hx hy 26 _ hg (size25 _ h1) (by rw [List.size_toArray, List.size_toArray, bv_length, bv_length]; omega) (all_byteVals _)
    (h _ (RowB.put hg) (fun k hk => setRow_other _ _ _ _ hk) (by simp) (fun _ _ hB hb => bsetRow hb hB _))

theorem ball' {B : Nat} {a w : World} (h : Below B a w) (o : Obj) (hB : B ≤ w.heap.size := by omega) : Below B a (w.alloc o) := h.alloc hB o

theorem KOk.alloc {w : World} (h : KOk w) (o : Obj) : KOk (w.alloc o) := h.below (ball (Below.refl _ _) _)

def zer : List Int := List.replicate 32 0

/-- A new slice of a few bytes. -/
theorem Bs.lit (w : World) (l : List Int) (n : Nat) (hn : l.length = n) (cs : Array Value) (fr : Nat × Nat) (hcs : cs = (byteVals l).toArray) (hr : ∀ u ∈ l, 0 ≤ u ∧ u ≤ 255) (hl : l.length ≤ 1000) : Bs (fun k => k < (w.alloc (.cells cs 5 fr)).heap.size) (w.alloc (.cells cs 5 fr)) (.slice (some ⟨w.heap.size, 0, none⟩) n n) l := by
  subst hn hcs
  refine ⟨by omega, hr, some ⟨w.heap.size, 0, none⟩, l.length, rfl, Nat.le_refl _, fun _ => ⟨w.heap.size, 0, rfl, by simp, fun j u hj => ?_⟩⟩
  rw [Nat.zero_add, cell_of_row _ w.heap.size j _ 5 fr (heap_alloc_new w _)]
  simp [byteVals, hj]

theorem RowB.range {w : World} {B : Nat} {t : TypeId} {l : List Int} (h : RowB w B t l) : w.rangeAt B 0 (byteVals l) := by
  intro j v hv
  rw [Nat.zero_add, cell_of_row w B j _ t (0, 0) h]
  simpa using hv

end Go.Proofs.YthmpeeipbclhkaaDoor
