/-
  Walks of the program's digest: the blocks that end a message; Sum.
-/
import Derived.Test.YthmpeeipbclhkaaDoorDf
import Derived.Deep.RegionHeld3
namespace Go.Proofs.YthmpeeipbclhkaaDoor
open Go.RowKit

/-- Byte i of the length in bits. -/
def lenByte (n : Nat) (i : Nat) : Int := (n : Int) * 8 / 2 ^ (56 - 8 * i) % 256

/-- What ends a message of n bytes whose whole blocks leave rest. -/
def tail (rest : List Int) (n : Nat) : List Int := rest ++ (128 :: (List.replicate ((119 - rest.length) % 64) 0 ++ (List.range 8).map (lenByte n)))

theorem owns_base {w : World} {base b e size n : Nat} {v : Value} {xs : List Value} (h : w.ownsRow base e size v n xs) (hb : b ≤ base) : w.ownsRow b e size v n xs := by
  refine ⟨h.1, ?_⟩
  rcases h.2 with h2 | ⟨g, cap, cur, h1, h2, h3⟩
  · exact Or.inl h2
  · exact Or.inr ⟨g, cap, cur, h1, Nat.le_trans hb h2, h3⟩

theorem Bs.ofRow {F : Nat → Prop} {w : World} {B : Nat} {t : TypeId} {l : List Int} (h : RowB w B t l) (hF : F B) (hr : ∀ u ∈ l, 0 ≤ u ∧ u ≤ 255) (n cap : Nat) (hn : n ≤ l.length) (hcap : n ≤ cap) (hle : n ≤ 140737488355328) :
    Bs F w (.slice (some ⟨B, 0, none⟩) n cap) (l.take n) := by
  have hl : (l.take n).length = n := by simp; omega
  refine ⟨by omega, fun u hu => hr u (List.mem_of_mem_take hu), some ⟨B, 0, none⟩, cap, by rw [hl], by omega, fun _ => ⟨B, 0, rfl, hF, fun j u hj => ?_⟩⟩
  rw [Nat.zero_add]
  refine h.cell ?_
  rw [List.getElem?_take] at hj
  split at hj
  · exact hj
  · cases hj

theorem Parts.mk {w : World} {g : Nat} {t : TypeId} (us : List Value) (ps : List (List Int)) (cap : Nat) (hg : w.heap[g]? = some (.cells us.toArray t (0, 0))) (hl : us.length = ps.length) (hc : ps.length ≤ cap) (hn : ps.length ≤ 1000)
    (h : ∀ (j : Nat) (u : Value) (p : List Int), us[j]? = some u → ps[j]? = some p → Bs (fun k => k < w.heap.size) w u p) : Parts w (.slice (some ⟨g, 0, none⟩) ps.length cap) ps := by
  refine ⟨g, cap, rfl, hc, hn, (Array.getElem?_eq_some_iff.1 hg).1, fun j p hj => ?_⟩
  have hjl : j < us.length := by rw [hl]; exact (List.getElem?_eq_some_iff.1 hj).1
  refine ⟨us[j], ?_, h j _ p (List.getElem?_eq_getElem hjl) hj⟩
  rw [cell_of_row w g j _ t (0, 0) hg]
  simp [hjl]

theorem tail_eq (rest : List Int) (n : Nat) : [rest, [128], List.replicate ((119 - rest.length) % 64) 0, (List.range 8).map (lenByte n)].flatten = tail rest n := by
  simp [tail]
theorem lenByte_range (n i : Nat) : 0 ≤ lenByte n i ∧ lenByte n i ≤ 255 := by unfold lenByte; omega

set_option maxHeartbeats 1000000 in
theorem last_any (rest : List Int) (n : Nat) (v : Value) (w : World) (hv : Bs (fun k => k < w.heap.size) w v rest) (hr : rest.length < 64) (hn : n ≤ 140737488355328) :
    Calls Tryd.prog 58 #[v, .int .i64 (n : Int)] w fun e w' => ∃ u, e = .returned u ∧ Below w.heap.size w w' ∧ w'.ownsRow w.heap.size 5 1 u (tail rest n).length (byteVals (tail rest n)) := by
  have hv0 := hv
  obtain ⟨_, _, ad, cap, rfl, hcap, _⟩ := hv0
  have HV := Lib.hid hv; clear hv
  go_enter Tryd.func58, Tryd.ntmps58
  go_wp2
  go_loopw [13] (fun i wr => ∃ k : Nat, k ≤ 8 ∧ i = .int .i64 k ∧ Hid (RowB wr w.heap.size 79 (part (lenByte n) 8 k) ∧ Below w.heap.size w wr ∧ wr.heap.size = w.heap.size + 1)) (fun i _ => 8 - (intOf i).toNat)
  case atStart =>
    refine ⟨0, by omega, rfl, ?_, ball (Below.refl _ _) _, by simp⟩
    rw [part_zero]
    exact RowB.new' _ rfl rfl
  case round =>
    obtain ⟨k, hk, rfl, H⟩ := hrel
    by_cases hlt : k < 8
    · have hx := H.out.1.cell (j := k) (x := 0) (by rw [part_at _ _ _ _ hlt]; simp)
      have hz := frozen_of_row wr _ k _ _ H.out.1
      have e1 : (56 : Int) - 8 * (k : Int) = ((56 - 8 * k : Nat) : Int) := by omega
      go_wp2
      go_roundw
      case rel =>
        refine ⟨k + 1, by omega, by go_num, ?_⟩
        obtain ⟨h1, h2, h3⟩ := H.out
        refine ⟨?_, h2.setCell (by simp) _, by simpa using h3⟩
        rw [← part_set _ _ _ hlt]
        exact h1.set k _
      case measure => simp [intOf]; omega
    · have hk' : k = 8 := by omega
      subst hk'
      have hR := H.out.1
      rw [part_full] at hR
      have e1 : (119 : Int) - (rest.length : Int) = ((119 - rest.length : Nat) : Int) := by omega
      go_wp2
      obtain ⟨f, hf⟩ : ∃ f, f = (119 - rest.length) % 64 := ⟨_, rfl⟩
      rw [show ((119 - rest.length : Nat) : Int) % 64 = (f : Int) from by omega]
      obtain ⟨w2, hw2⟩ : ∃ w2, w2 = wr.alloc (Obj.cells (byteVals (List.replicate 64 0)).toArray 80) := ⟨_, rfl⟩
      change Code.wp _ _ _ _ (wr.alloc (Obj.cells (byteVals (List.replicate 64 0)).toArray 80))
      rw [← hw2]
      have b1 : (f : Int) ≤ 64 := by omega
      have b2 : f ≤ 64 := by omega
      have b3 : 0 ≤ (f : Int) := by omega
      have Hf := Lib.hid hf; clear hf e1
      have hs2 : w2.heap.size = w.heap.size + 2 := by rw [hw2]; have := H.out.2.2; simp; omega
      have hz2 : RowB w2 wr.heap.size 80 (List.replicate 64 0) := by rw [hw2]; exact RowB.new _ _ _
      have hl2 : RowB w2 w.heap.size 79 ((List.range 8).map (lenByte n)) := by
        rw [hw2]
        exact hR.kept (heap_alloc_old _ _ (by have := H.out.2.2; omega))
      have hb2 : Below w.heap.size w w2 := by rw [hw2]; exact H.out.2.1.alloc H.out.2.1.size _
      have hwz : wr.heap.size = w.heap.size + 1 := H.out.2.2
      rw [hwz] at hz2
      rw [hwz]
      have Hz2 := Lib.hid hz2; have Hl2 := Lib.hid hl2; have Hb2 := Lib.hid hb2; have Hs2 := Lib.hid hs2
      clear hz2 hl2 hb2 hs2 hw2 hR H hwz
      have hcall : Calls Tryd.prog 49 #[Value.slice (some { block := w2.heap.size + 1, off := 0 }) 4 4]
          ((w2.alloc (Obj.cells #[Value.int IntKind.u8 128] 5)).alloc
              (Obj.cells
                #[Value.slice ad rest.length cap, Value.slice (some { block := w2.heap.size, off := 0 }) 1 1,
                  Value.slice (some { block := w.heap.size + 1, off := 0 }) f 64,
                  Value.slice (some { block := w.heap.size, off := 0 }) 8 8]
                48)).drew fun e w' => ∃ u, e = .returned u ∧ Below w.heap.size w w' ∧ w'.ownsRow w.heap.size 5 1 u (tail rest n).length (byteVals (tail rest n)) := by
        have hb3 : Below w.heap.size w2 (w2.alloc (Obj.cells #[Value.int IntKind.u8 128] 5)) := (Below.refl _ _).alloc Hb2.out.size _
        have hsz3 : (w2.alloc (Obj.cells #[Value.int IntKind.u8 128] 5)).heap.size = w2.heap.size + 1 := by simp
        have hr1 : RowB (w2.alloc (Obj.cells #[Value.int IntKind.u8 128] 5)) w2.heap.size 5 [128] := RowB.new' _ rfl rfl
        have hkeep : ∀ k, k < w2.heap.size → (w2.alloc (Obj.cells #[Value.int IntKind.u8 128] 5)).heap[k]? = w2.heap[k]? := fun k hk => heap_alloc_old _ _ hk
        generalize w2.alloc (Obj.cells #[Value.int IntKind.u8 128] 5) = w3 at *
        obtain ⟨us, hus⟩ : ∃ us, us = [Value.slice ad rest.length cap, Value.slice (some { block := w2.heap.size, off := 0 }) 1 1, Value.slice (some { block := w.heap.size + 1, off := 0 }) f 64, Value.slice (some { block := w.heap.size, off := 0 }) 8 8] := ⟨_, rfl⟩
        have hb4 : Below w.heap.size w ((w3.alloc (.cells us.toArray 48)).drew) := ((Hb2.out.trans hb3).alloc (by have := Hb2.out.size; omega) _).drew
        have hP : Parts (w3.alloc (.cells us.toArray 48)).drew (.slice (some ⟨w2.heap.size + 1, 0, none⟩) 4 4) [rest, [128], List.replicate f 0, (List.range 8).map (lenByte n)] := by
          refine Parts.mk (t := 48) us [rest, [128], List.replicate f 0, (List.range 8).map (lenByte n)] 4 (by rw [← hsz3]; exact heap_alloc_new w3 _) (by rw [hus]; rfl) (by simp) (by simp) ?_
          have hold : ∀ k, k < w2.heap.size → ((w3.alloc (.cells us.toArray 48)).drew).heap[k]? = w2.heap[k]? := fun k hk => (heap_alloc_old w3 _ (by omega)).trans (hkeep k hk)
          have h2s := Hs2.out
          have hws : ((w3.alloc (.cells us.toArray 48)).drew).heap.size = w2.heap.size + 2 := by show (w3.alloc _).heap.size = _; simp; omega
          intro j u p hu hp
          rw [hus] at hu
          match j, hu, hp with
          | 0, hu, hp =>
            simp at hu hp; subst hu hp
            exact (HV.out.below (fun k hk => hk) hb4).kept (fun _ _ => rfl) (fun k hk => by omega)
          | 1, hu, hp =>
            simp at hu hp; subst hu hp
            exact Bs.ofRow (l := [128]) (t := 5) (hr1.kept (heap_alloc_old w3 _ (by omega))) (by omega) (by intro u hu; simp at hu; omega) 1 1 (by decide) (by decide) (by decide)
          | 2, hu, hp =>
            simp at hu hp; subst hu hp
            have := Bs.ofRow (F := fun k => k < ((w3.alloc (.cells us.toArray 48)).drew).heap.size) (Hz2.out.kept (hold _ (by omega))) (by omega) (by intro u hu; rw [List.mem_replicate] at hu; omega) f 64 (by simp; omega) b2 (by omega)
            rw [List.take_replicate, Nat.min_eq_left b2] at this
            exact this
          | 3, hu, hp =>
            simp at hu hp; subst hu hp
            have := Bs.ofRow (F := fun k => k < ((w3.alloc (.cells us.toArray 48)).drew).heap.size) (Hl2.out.kept (hold _ (by omega))) (by omega) (by intro u hu; obtain ⟨i, _, rfl⟩ := List.mem_map.1 hu; exact lenByte_range n i) 8 8 (by simp) (by decide) (by decide)
            rw [List.take_of_length_le (by simp)] at this
            exact this
          | j + 4, hu, _ => simp at hu
        have hT : [rest, [128], List.replicate f 0, (List.range 8).map (lenByte n)].flatten = tail rest n := by rw [Hf.out]; exact tail_eq rest n
        have hc := join_any _ _ _ hP (by unfold total; simp; omega)
        rw [hT] at hc
        rw [hus] at hc hb4
        refine hc.mono ?_
        rintro e w5 ⟨u, rfl, hb5, ho5⟩
        exact ⟨u, rfl, hb4.trans (hb5.mono hb4.size), owns_base ho5 hb4.size⟩
      have Hcall := Lib.hid hcall; clear hcall
      go_wp2_with fail
      go_region_with (first | (go_at_call 49; refine Hcall.out.mono ?_; rintro e w5 ⟨u, rfl, h5⟩; have H5 := Lib.hid h5; clear h5))
      all_goals (go_wp2_with fail; go_ret; exact ⟨_, rfl, H5.out.1, H5.out.2⟩)
end Go.Proofs.YthmpeeipbclhkaaDoor
