/-
  Walks: extent, listExtent.
-/
import Derived.Test.YtjhjcigappkebaaWa
import Derived.Test.YtjhjcigappkebaaCmp
import Derived.Deep.RegionHeld3
import Derived.Deep.RegionWith
import Derived.Outline
import Derived.Deep.QuietTactic
import Derived.BigQuiet
import Derived.Deep.LoopGhost
namespace Go.Proofs.Ytjhjcigappkebaa
open Go.RowKit

/-- What extent says of a tree. -/
def ExtOf (t : T) (w : World) (e : Ending) (w' : World) : Prop :=
  ∃ ne sz : Int, e = .returned (.tuple #[.int .i64 ne, .int .i64 sz, .bool (shape t)]) ∧ (shape t = true → ne = nest t ∧ sz = (enc t).length) ∧ Below w.heap.size w w'

def ExtL (l : List T) (w : World) (e : Ending) (w' : World) : Prop :=
  ∃ ne sz : Int, e = .returned (.tuple #[.int .i64 ne, .int .i64 sz, .bool (shapeL l)]) ∧ (shapeL l = true → ne = nestL l + 1 ∧ sz = (encL l).length + 2) ∧ Below w.heap.size w w'

set_option maxHeartbeats 400000 in
theorem listExtent_any (F : Nat → Prop) (l : List T) (a : Option Addr) (cap : Nat) (w : World) (hF : ∀ k, F k → k < w.heap.size) (hlen : l.length ≤ 2199023255552) (hcap : l.length ≤ cap)
    (hr : 0 < l.length → ∃ g off, a = some ⟨g, off, none⟩ ∧ F g ∧ RdL F w l g off) (hsz : (encL l).length ≤ 1152921504606846976)
    (ih : ∀ t ∈ l, ∀ (w' : World) (v : Value), (∀ k, F k → k < w'.heap.size) → Rd F w' t v → Calls Try.prog 45 #[v] w' (ExtOf t w')) :
    Calls Try.prog 60 #[.slice a l.length cap] w (ExtL l w) := by
  go_enter Try.func60, Try.ntmps60
  go_wp2
  go_loopw [2, 3, 12] (fun n s i wr => ∃ k : Nat, k ≤ l.length ∧ i = .int .i64 k ∧ n = .int .i64 (nestL (l.take k)) ∧ s = .int .i64 ((encL (l.take k)).length + 2) ∧ Hid (shapeL (l.take k) = true) ∧ Below w.heap.size w wr) (fun _ _ i _ => l.length - (intOf i).toNat)
  case atStart => exact ⟨0, Nat.zero_le _, rfl, rfl, rfl, rfl, Below.refl _ _⟩
  case round =>
    obtain ⟨k, hk, rfl, rfl, rfl, hsh, hb⟩ := hrel
    by_cases hlt : k < l.length
    · obtain ⟨g, off, ha, hg, hl⟩ := hr (by omega)
      have hj : l[k]? = some l[k] := List.getElem?_eq_getElem hlt
      obtain ⟨a2, k2, a3, k3, c0, c1, c2, c3, ht⟩ := hl.cells k l[k] hj
      have hgw := hF g hg
      have d0 := (hb.cell (p := ⟨g, off + k * 4, none⟩) hgw).trans c0
      have d1 := (hb.cell (p := ⟨g, off + k * 4 + 1, none⟩) hgw).trans c1
      have d2 := (hb.cell (p := ⟨g, off + k * 4 + 2, none⟩) hgw).trans c2
      have d3 := (hb.cell (p := ⟨g, off + k * 4 + 3, none⟩) hgw).trans c3
      clear c0 c1 c2 c3 hj
      subst ha
      have Hr := Lib.hid hr; clear hr
      have HF := Lib.hid hF; clear hF
      have hn1 := nestL_next l k hlt
      have he1 := encL_next l k hlt
      have hs1 := shapeL_next l k hlt
      have hle := encL_take_le l (k + 1)
      have hnl := nestL_le (l.take (k + 1))
      have Hn1 := Lib.hid hn1; have He1 := Lib.hid he1; have Hs1 := Lib.hid hs1
      have hx1 : (encL (l.take k)).length + (enc l[k]).length ≤ 1152921504606846976 := by rw [he1, List.length_append] at hle; omega
      have hx2 : max (nestL (l.take k)) (nest l[k]) ≤ 1152921504606846976 := by rw [← hn1]; omega
      clear hn1 he1 hs1 hle hnl
      have Ih := Lib.hid (ih l[k] (List.getElem_mem hlt)); clear ih
      go_wp2_with fail
      refine (Ih.out _ _ (fun k hk => Nat.lt_of_lt_of_le (HF.out k hk) (ball hb _).size) (Rd.below ht (B := w.heap.size) HF.out (ball hb _))).mono ?_
      rintro e w1 ⟨ne, sz, rfl, hres, hb1⟩
      have hb2 : Below w.heap.size w w1 := (hb.alloc hb.size _).trans (hb1.mono (by have := hb.size; simp; omega))
      by_cases hs : shape l[k] = true
      · obtain ⟨rfl, rfl⟩ := hres hs
        rw [hs]
        go_wp2_with fail
        go_roundw
        case rel =>
          refine ⟨k + 1, by omega, by go_num, ?_, ?_, ?_, hb2⟩
          · rw [Hn1.out]; congr 1; split <;> omega
          · rw [He1.out, List.length_append]; congr 1; omega
          · show shapeL (l.take (k + 1)) = true
            rw [Hs1.out, hsh.out, hs]; rfl
        case measure => simp [intOf]; omega
      · have hs' : shape l[k] = false := by simpa using hs
        rw [hs']
        clear hs hres
        go_wp2_with fail
        go_ret3
        exact ⟨0, 0, by rw [shapeL_bad l k hlt hs']; rfl, by rw [shapeL_bad l k hlt hs']; simp, hb2⟩
    · have hk' : k = l.length := by omega
      subst hk'
      have hnl := nestL_le l
      rw [List.take_length] at *
      go_wp2_with fail
      go_ret3
      exact ⟨_, _, by rw [hsh.out]; rfl, fun _ => ⟨rfl, rfl⟩, hb⟩


set_option maxHeartbeats 400000 in
/-- bytes.Count of the byte 0. -/
theorem count_any (F : Nat → Prop) (b : List Int) (v : Value) (g d : Nat) (w : World) (hb : Bs F w v b) (hc : w.cell? ⟨g, 0, none⟩ = some (.int .u8 0)) :
    Calls Try.prog 59 #[v, .slice (some ⟨g, 0, none⟩) 1 d] w fun e w' => e = .returned (.int .i64 (zeros b)) ∧ w = w' := by
  have hr := run_count0 (P := Try.prog) hb
  have Hr := Lib.hid hr; clear hr
  go_enter Try.func59, Try.ntmps59
  go_wp2
  rw [run_callFunc_extern Try.func63 (by kernel_rfl) (by kernel_rfl) (by kernel_rfl) (e := Extern.BytealgCount.count) (by kernel_rfl), Hr.out]
  simp only [Result.andThen]
  rw [Oper.upon_value]
  go_wp2
  go_ret
  exact ⟨rfl, rfl⟩

set_option maxHeartbeats 400000 in
/-- bytes.Compare. -/
theorem bcompare_any (F G : Nat → Prop) (a b : List Int) (v u : Value) (w : World) (ha : Bs F w v a) (hb : Bs G w u b) :
    Calls Try.prog 39 #[v, u] w fun e w' => e = .returned (.int .i64 (cmpB a b)) ∧ w = w' := by
  have hr := run_compareB (P := Try.prog) ha hb
  have Hr := Lib.hid hr; clear hr
  go_enter Try.func39, Try.ntmps39
  go_wp2
  rw [run_callFunc_extern Try.func50 (by kernel_rfl) (by kernel_rfl) (by kernel_rfl) (e := Extern.BytealgCompare.compare) (by kernel_rfl), Hr.out]
  simp only [Result.andThen]
  rw [Oper.upon_value]
  go_wp2
  go_ret
  exact ⟨rfl, rfl⟩

theorem len_beq {α : Type} (b : List α) : ((b.length : Int) == 0) = b.isEmpty := by
  cases b with
  | nil => rfl
  | cons x xs => simp; omega

theorem digs_length (m : Int) : ∀ k, (digs m k).length = k
  | 0 => rfl
  | k + 1 => by simp [digs, digs_length m k]
theorem encInt_length (n : Int) : ((encInt n).length : Int) = 1 + wid (mag n) := by
  unfold encInt
  split
  · simp [digs_length]; omega
  · rename_i h; simp [digs_length, mag, h]; omega
theorem esc_length (b : List Int) : (esc b).length = b.length + zeros b := by
  unfold zeros
  induction b with
  | nil => rfl
  | cons c cs ih =>
    unfold esc
    by_cases h : c = 0 <;> simp [h, ih] <;> omega
theorem encB_length (b : List Int) : ((encB b).length : Int) = 3 + b.length + zeros b := by
  unfold encB; simp [esc_length]; omega

set_option maxHeartbeats 400000 in
theorem extent_int (F : Nat → Prop) (t : T) (v : Value) (w : World) (hr : Rd F w t v) (hk : t.kind = 1) : Calls Try.prog 45 #[v] w (ExtOf t w) := by
  obtain ⟨a2, c2, a3, c3, rfl, hb, hik, hin, hl1, hl2, hl3⟩ := hr.form
  cases t with
  | mk k n b l =>
    simp only [T.kind, T.num, T.bs, T.els] at *
    subst hk
    obtain ⟨hn0, hn1⟩ := hin
    obtain ⟨hbl, _, _⟩ := hb
    have hmag : 0 ≤ mag n ∧ mag n ≤ 9223372036854775807 := by unfold mag; split <;> omega
    obtain ⟨hm0, hm1⟩ := hmag
    have hw := wid_le (mag n)
    clear hl3 hr
    have quiet58 : ∀ w', Calls Try.prog 58 #[.int .i64 n] w' fun e w'' => e = .returned (.int .u64 (mag n)) ∧ w'' = w' := fun w' => (magnitude_any n w' hn0 hn1).mono fun _ _ h => ⟨h.1, h.2.symm⟩
    have quiet57 : ∀ w', Calls Try.prog 57 #[.int .u64 (mag n)] w' fun e w'' => e = .returned (.int .i64 (wid (mag n))) ∧ w'' = w' := fun w' => (width_any (mag n) w' hm0 hm1).mono fun _ _ h => ⟨h.1, h.2.symm⟩
    have hfin : ∀ w' : World, Below w.heap.size w w' → ExtOf (.mk 1 n b l) w (.returned (.tuple #[.int .i64 0, .int .i64 (1 + (wid (mag n) : Int)), .bool (b.isEmpty && l.isEmpty)])) w' := by
      intro w' h
      refine ⟨0, _, rfl, fun _ => ⟨rfl, ?_⟩, h⟩
      show _ = ((encInt n).length : Int)
      rw [encInt_length]
    have Hfin := Lib.hid hfin; clear hfin
    by_cases hb0 : b.length = 0
    · have hd : ((b.length : Int) == 0) = true := by rw [hb0]; rfl
      have hd' := (len_beq b).symm.trans hd
      have Hd' := Lib.hid hd'; clear hd'
      clear hb0
      go_enter Try.func45, Try.ntmps45
      go_wp2_with fail
      go_quiet (first | (go_at_call 58; exact Calls.quiet_of_same (quiet58 _)) | (go_at_call 57; exact Calls.quiet_of_same (quiet57 _)))
      go_wp2_with fail
      go_ret3
      have := Hfin.out _ (bdrewN ((Below.refl w.heap.size w).alloc (Nat.le_refl _) (Obj.cells #[Value.int IntKind.i64 1, Value.int IntKind.i64 n, Value.slice a2 b.length c2, Value.slice a3 l.length c3] 25)) nq)
      rw [Hd'.out, Bool.true_and, ← len_beq] at this
      exact this
    · have hd : ((b.length : Int) == 0) = false := by rw [beq_eq_false_iff_ne]; omega
      have hd' := (len_beq b).symm.trans hd
      have Hd' := Lib.hid hd'; clear hd'
      clear hb0
      go_enter Try.func45, Try.ntmps45
      go_wp2_with fail
      go_quiet (first | (go_at_call 58; exact Calls.quiet_of_same (quiet58 _)) | (go_at_call 57; exact Calls.quiet_of_same (quiet57 _)))
      go_wp2_with fail
      go_ret3
      have := Hfin.out _ (bdrewN ((Below.refl w.heap.size w).alloc (Nat.le_refl _) (Obj.cells #[Value.int IntKind.i64 1, Value.int IntKind.i64 n, Value.slice a2 b.length c2, Value.slice a3 l.length c3] 25)) nq)
      rw [Hd'.out, Bool.false_and] at this
      exact this


end Go.Proofs.Ytjhjcigappkebaa
