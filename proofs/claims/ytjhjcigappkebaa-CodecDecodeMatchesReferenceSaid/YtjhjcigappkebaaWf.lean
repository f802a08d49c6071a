/-
  Walks: appendBytes, appendInteger.
-/
import Derived.Test.YtjhjcigappkebaaAp
namespace Go.Proofs.Ytjhjcigappkebaa
open Go.RowKit

theorem esc_append (a b : List Int) : esc (a ++ b) = esc a ++ esc b := by
  induction a with
  | nil => rfl
  | cons c cs ih => simp only [List.cons_append, esc]; split <;> simp [ih]
theorem esc_next (l : List Int) (k : Nat) (h : k < l.length) : esc (l.take (k + 1)) = esc (l.take k) ++ (if l[k] = 0 then [0, 255] else [l[k]]) := by
  rw [take_next l k h, esc_append]; simp only [esc]
theorem esc_take_le (l : List Int) (k : Nat) : (esc (l.take k)).length ≤ (esc l).length := by
  have e : esc l = esc (l.take k) ++ esc (l.drop k) := by rw [← esc_append, List.take_append_drop]
  rw [e, List.length_append]; omega

def PutOf (base : Nat) (w : World) (v : Value) (bs : List Int) (e : Ending) (w' : World) : Prop := ∃ v', e = .returned v' ∧ Apd base w v w' v' bs

set_option maxHeartbeats 400000 in
theorem appendBytes_any (F : Nat → Prop) (base : Nat) (w : World) (vin u : Value) (bs b : List Int) (hF : ∀ k, F k → k < base) (hbase : base ≤ w.heap.size) (hv : w.ownsRow base 5 1 vin bs.length (byteVals bs)) (hu : Bs F w u b)
    (hsz : bs.length + (encB b).length ≤ 140737488355328) : Calls Try.prog 47 #[vin, u] w (PutOf base w vin (bs ++ encB b)) := by
  obtain ⟨hbl, hrg, a, cap, rfl, hcap, hp⟩ := hu
  have hA := Apd.start hv
  have HA := Lib.hid hA; clear hA hv
  have hel : (encB b).length = (esc b).length + 3 := by unfold encB; simp
  rw [hel] at hsz
  have Hel := Lib.hid hel; clear hel
  have Hp := Lib.hid hp; clear hp
  have Hrg := Lib.hid hrg; clear hrg
  have HF := Lib.hid hF; clear hF
  go_enter Try.func47, Try.ntmps47
  go_wp2_with (at_builtin; refine wp_put rfl rfl (.tmp 7) (.tmp 8) rfl _ _ _ [48] _ _ _ HA.out rfl rfl rfl rfl (by simp; omega) hbase ?_; intro v1 w1 hA1)
  have HA1 := Lib.hid hA1; clear hA1
  go_loopw [0, 12] (fun v i wr => ∃ k : Nat, k ≤ b.length ∧ i = .int .i64 k ∧ Hid (Apd base w vin wr v (bs ++ (48 :: esc (b.take k))))) (fun _ i _ => b.length - (intOf i).toNat)
  case atStart => exact ⟨0, Nat.zero_le _, rfl, HA1.out⟩
  case round =>
    obtain ⟨k, hk, rfl, hA2⟩ := hrel
    by_cases hlt : k < b.length
    · obtain ⟨g, off, rfl, hg, hc⟩ := Hp.out (by omega)
      have hgw := HF.out g hg
      have hgb : wr.heap[g]? = w.heap[g]? := hA2.out.grown.block g (by omega) (by
        intro e
        have := (HA.out.own.lt g e.symm).1
        omega)
      have d0 := (World.cell?_of_block (w := w) (a := ⟨g, off + k, none⟩) hgb).trans (hc k b[k] (List.getElem?_eq_getElem hlt))
      obtain ⟨h0, h255⟩ := Hrg.out b[k] (List.getElem_mem hlt)
      have hn := esc_next b k hlt
      have hle := esc_take_le b (k + 1)
      have hws := hA2.out.grown.size
      clear hc hgb
      by_cases hz : b[k] = 0
      · rw [if_pos hz] at hn
        rw [hn, List.length_append] at hle
        have Hn := Lib.hid hn; clear hn
        have ht : (b[k] == 0) = true := by rw [hz]; rfl
        have Hz := Lib.hid hz; clear hz
        have hle' : (esc (b.take k)).length + 2 ≤ (esc b).length := by simpa using hle
        clear hle
        go_wp2_with (first | (at_builtin; refine wp_put rfl rfl (.tmp 16) (.tmp 18) rfl _ _ _ [b[k]] _ _ _ hA2.out rfl rfl rfl rfl (by simp; omega) (by omega) ?_; intro v2 w2 hA3'; have hA3 := Lib.hid hA3'; clear hA3') | (at_builtin; refine wp_put rfl rfl (.tmp 22) (.tmp 23) rfl _ _ _ [255] _ _ _ hA3.out rfl rfl rfl rfl (by simp; omega) (by have := hA3.out.grown.size; omega) ?_; intro v3 w3 hA4'; have hA4 := Lib.hid hA4'; clear hA4'))
        go_roundw
        case rel =>
          refine ⟨k + 1, by omega, by go_num, ?_⟩
          show Apd base w vin w3 v3 (bs ++ (48 :: esc (b.take (k + 1))))
          have := hA4.out
          rw [Hz.out] at this
          rw [Hn.out]
          simpa using this
        case measure => simp [intOf]; omega
      · rw [if_neg hz] at hn
        rw [hn, List.length_append] at hle
        have Hn := Lib.hid hn; clear hn
        have ht : (b[k] == 0) = false := by simpa using hz
        have Hz := Lib.hid hz; clear hz
        have hle' : (esc (b.take k)).length + 1 ≤ (esc b).length := by simpa using hle
        clear hle
        go_wp2_with (first | (at_builtin; refine wp_put rfl rfl (.tmp 16) (.tmp 18) rfl _ _ _ [b[k]] _ _ _ hA2.out rfl rfl rfl rfl (by simp; omega) (by omega) ?_; intro v2 w2 hA3'; have hA3 := Lib.hid hA3'; clear hA3'))
        go_roundw
        case rel =>
          refine ⟨k + 1, by omega, by go_num, ?_⟩
          show Apd base w vin w2 v2 (bs ++ (48 :: esc (b.take (k + 1))))
          have := hA3.out
          rw [Hn.out]
          simpa using this
        case measure => simp [intOf]; omega
    · have hk' : k = b.length := by omega
      subst hk'
      rw [List.take_length] at hA2
      have hws := hA2.out.grown.size
      go_wp2_with (first | (at_builtin; refine wp_put rfl rfl (.tmp 26) (.tmp 27) rfl _ _ _ [0, 0] _ _ _ hA2.out rfl rfl rfl rfl (by simp; omega) (by omega) ?_; intro v2 w2 hA3'; have hA3 := Lib.hid hA3'; clear hA3'))
      go_ret
      refine ⟨v2, rfl, ?_⟩
      have := hA3.out
      unfold encB
      simpa using this

end Go.Proofs.Ytjhjcigappkebaa
