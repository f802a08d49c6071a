/-
  Walks: a check of all elements of a list, Ty.
-/
import Derived.Test.YtijdjbkmkopmnaaCa

namespace Go.Proofs.Ytijdjbkmkopmnaa
open Go.RowKit
set_option linter.unusedVariables false
set_option linter.unusedSimpArgs false

theorem sz68 (x : Ty) : (Try.prog.info? 68).map (·.size) = some x.cs.length := by
  have e : (Try.prog.info? 68).map (·.size) = some 8 := by kernel_rfl
  rw [e]; rfl
theorem sz68' (x : Ty) : (Try.prog.info? 68).map (·.size) = some x.cs.toArray.size := by
  have e : (Try.prog.info? 68).map (·.size) = some 8 := by kernel_rfl
  rw [e]; rfl
theorem all68 (x : Ty) : x.cs.toArray.all (·.oneCell') = true := all_oneCell_toArray (by intro v hv; unfold Ty.cs at hv; simp only [List.mem_cons, List.not_mem_nil, or_false] at hv; rcases hv with rfl | rfl | rfl | rfl | rfl | rfl | rfl | rfl <;> rfl)
theorem cf85 (bs : Array Value) (w : World) : Sem.run Try.prog (callFunc 85 bs) w = .ok (.enter 85 bs) w := by kernel_rfl
set_option maxRecDepth 100000 in
set_option maxHeartbeats 4000000 in
theorem each85_any {w : World} {Bl Bv n c vf b0 : Nat} {a : Option Addr} {bs : Array Value} {l : List Ty} {p : Nat → Bool} {J : Nat → World → Prop} {Je : World → Prop} (hn : n = l.length) (hn1 : n ≤ 70368744177664)
    (hl : Ts (fun k => k < b0) w (.slice a n c) l) (hb0 : b0 ≤ w.heap.size) (hbl : w.cell? ⟨Bl, 0, none⟩ = some (.slice a n c)) (hbv : w.cell? ⟨Bv, 0, none⟩ = some (fv vf bs)) (hBv : Bv < w.heap.size)
    (hJ0 : J 0 w) (hJe : ∀ k w', J k w' → Je w') (hJb : ∀ k w1 w2, J k w1 → Below w1.heap.size w1 w2 → J k w2)
    (hJk : ∀ k w', J k w' → w.heap.size ≤ w'.heap.size ∧ (∀ B, B < b0 → w'.heap[B]? = w.heap[B]?) ∧ w'.heap[Bv]? = w.heap[Bv]?)
    (hcf : ∀ x w', Sem.run Try.prog (callFunc vf (#[x] ++ bs)) w' = .ok (.enter vf (#[x] ++ bs)) w')
    (hcall : ∀ k x w', J k w' → l[k]? = some x → Calls Try.prog vf (#[.agg x.cs.toArray] ++ bs) w' fun e w2 => e = .returned (.bool (p k)) ∧ (p k = true → J (k + 1) w2) ∧ Je w2)
    (R : Int) (hR0 : (∀ k, k < n → p k = true) → R = 0) (hR1 : ∀ k, k < n → p k = false → R = 1) :
    Calls Try.prog 85 #[.pointer (some ⟨Bl, 0, none⟩), .pointer (some ⟨Bv, 0, none⟩)] w fun e w' => e = .returned (.int .i64 R) ∧ Je w' := by
  have HN := Lib.hid hn; have HL := Lib.hid hl; have HBV := Lib.hid hbv; have HB := Lib.hid hBv; have HJ0 := Lib.hid hJ0; have HJE := Lib.hid hJe; have HJB := Lib.hid hJb; have HJK := Lib.hid hJk; have HC := Lib.hid hcall; have HR0 := Lib.hid hR0; have HR1 := Lib.hid hR1; have HCF := Lib.hid hcf; have HB0 := Lib.hid hb0
  clear hn hl hbv hBv hJ0 hJe hJb hJk hcall hR0 hR1 hcf hb0
  go_enter Try.func85, Try.ntmps85
  go_wp2
  clear hbl
  go_loopw [7] (fun s wr => ∃ k : Nat, k ≤ n ∧ s = .int .i64 (k : Int) ∧ Hid (∀ j, j < k → p j = true) ∧ Hid (J k wr)) (fun s _ => n - (intOf s).toNat)
  case atStart => exact ⟨0, by omega, rfl, Lib.hid (fun j hj => by omega), HJ0⟩
  case round =>
    obtain ⟨k, hk, rfl, HK, HJ⟩ := hrel
    by_cases hlt : k < n
    · have hlt2 : (k : Int) < (n : Int) := by omega
      obtain ⟨g, off, x, rfl, hg, hx, hok, hra, hcap⟩ := HL.out.pick k (by have := HN.out; omega)
      obtain ⟨j1, j2, j3⟩ := HJK.out k wr HJ.out
      have hrr : wr.rangeAt g (off + k * 8) x.cs := rangeAt_kept hra (j2 g hg)
      obtain ⟨wx, hwx⟩ : ∃ wx, wx = (wr.alloc (.cells #[.int .i64 0, .int .i64 0, .int .i64 0, .int .i64 0, .int .i64 0, .int .u64 0, .int .i64 0, .int .i64 0] 68)).setRow wr.heap.size x.cs.toArray := ⟨_, rfl⟩
      have hrow : (wr.alloc (.cells #[.int .i64 0, .int .i64 0, .int .i64 0, .int .i64 0, .int .i64 0, .int .u64 0, .int .i64 0, .int .i64 0] 68)).heap[wr.heap.size]? = some (.cells #[.int .i64 0, .int .i64 0, .int .i64 0, .int .i64 0, .int .i64 0, .int .u64 0, .int .i64 0, .int .i64 0] 68 (0, 0)) := bnew _ _
      have hbx : Below wr.heap.size wr wx := by rw [hwx]; exact bsetRow (ball (Below.refl _ _) _) (Nat.le_refl _) _
      have hwb : wx.heap[wr.heap.size]? = some (.cells x.cs.toArray 68 (0, 0)) := by rw [hwx]; exact setRow_heap _ _ _ _ _ _ hrow
      have f0 : wx.cell? ⟨Bv, 0, none⟩ = some (.func (.func vf) #[] bs) := (World.cell?_of_block (w := wr) (a := ⟨Bv, 0, none⟩) (hbx.block Bv (by have := HB.out; omega))).trans ((World.cell?_of_block (w := w) (a := ⟨Bv, 0, none⟩) j3).trans HBV.out)
      have Hc := Lib.hid (HC.out k x wx (HJB.out _ _ _ HJ.out hbx) hx)
      have Hf := Lib.hid (HCF.out (.agg x.cs.toArray) wx)
      have HRR := Lib.hid hrr; have HROW := Lib.hid hrow; have HWB := Lib.hid hwb; have HWX := Lib.hid hwx
      clear hwx hg hx hok hra hcap j1 j2 j3 hrr hrow hbx hwb
      go_wp2_with (first | (refine wpList_load_mid rfl 68 (.tmp 9) rfl g (off + k * 8) rfl x.cs _ HRR.out Try.underlying68 rfl (sz68 x) ?_) | (refine wpList_store_row rfl 68 (.tmp 4) (.tmp 10) rfl wr.heap.size _ rfl rfl 68 _ HROW.out (sz68' x) rfl (all68 x) ?_; rw [← HWX.out]) | (refine wpList_load_row rfl 68 (.tmp 4) rfl wr.heap.size rfl 68 _ (0, 0) _ HWB.out Try.underlying68 rfl (sz68' x) ?_))
      rw [Hf.out, Oper.upon_enter]
      cases hp : p k with
      | false =>
        rw [hp] at Hc
        have hone : R = 1 := HR1.out k hlt hp
        subst hone
        clear hp
        refine Hc.out.mono ?_
        rintro e w1 ⟨rfl, _, hb⟩
        have HZ := Lib.hid hb
        clear hb f0 Hc Hf HRR HROW HWB
        go_wp2
        go_ret
        exact ⟨rfl, HZ.out⟩
      | true =>
        rw [hp] at Hc
        have HK2 : Hid (∀ j, j < k + 1 → p j = true) := Lib.hid (fun j hj => by
          by_cases e : j < k
          · exact HK.out j e
          · obtain rfl : j = k := by omega
            exact hp)
        clear hp
        refine Hc.out.mono ?_
        rintro e w1 ⟨rfl, hb, _⟩
        have HJ2 := Lib.hid (hb rfl)
        clear hb f0 Hc Hf HRR HROW HWB
        go_wp2
        go_roundw
        case rel => exact ⟨k + 1, by omega, by go_num, HK2, HJ2⟩
        case measure => simp [intOf]; omega
    · obtain rfl : k = n := by omega
      have hlt3 : ¬ ((k : Int) < (k : Int)) := by omega
      have hz : R = 0 := HR0.out HK.out
      subst hz
      have HZ := Lib.hid (HJE.out _ _ HJ.out)
      go_wp2
      go_ret
      exact ⟨rfl, HZ.out⟩
theorem each38_any (a : Option Addr) (n c vf : Nat) (bs : Array Value) (w : World) : Calls Try.prog 38 #[.slice a n c, fv vf bs] w fun e w' => e = .returned (fv 85 #[.pointer (some ⟨w.heap.size, 0, none⟩), .pointer (some ⟨w.heap.size + 1, 0, none⟩)]) ∧ w' = (w.alloc (.cells #[.slice a n c] 22)).alloc (.cells #[fv vf bs] 95) := by
  unfold fv
  go_enter Try.func38, Try.ntmps38
  go_wp2
  go_ret
  exact ⟨rfl, rfl⟩
end Go.Proofs.Ytijdjbkmkopmnaa
