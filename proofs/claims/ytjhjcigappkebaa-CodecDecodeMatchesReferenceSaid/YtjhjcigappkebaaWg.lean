/-
  Walks: appendInteger.
-/
import Derived.Test.YtjhjcigappkebaaWf
namespace Go.Proofs.Ytjhjcigappkebaa
open Go.RowKit

theorem digs_get (m : Int) : ∀ (k i : Nat) (h : i < (digs m k).length), (digs m k)[i] = digit m (k - 1 - i)
  | 0, i, h => by simp [digs] at h
  | k + 1, 0, h => by simp [digs]
  | k + 1, i + 1, h => by
    have := digs_get m k i (by simpa [digs] using h)
    simp only [digs, List.getElem_cons_succ, this]
    congr 1
    simp [digs, digs_length] at h
    omega

set_option maxHeartbeats 400000 in
theorem appendInteger_neg (base : Nat) (w : World) (vin : Value) (bs : List Int) (n : Int) (hn0 : -9223372036854775808 ≤ n) (hn1 : n < 0) (hbase : base ≤ w.heap.size) (hv : w.ownsRow base 5 1 vin bs.length (byteVals bs))
    (hsz : bs.length + (encInt n).length ≤ 140737488355328) : Calls Try.prog 46 #[vin, .int .i64 n] w (PutOf base w vin (bs ++ encInt n)) := by
  have hA := Apd.start hv
  have HA := Lib.hid hA; clear hA hv
  have hl := encInt_length n
  have hw := wid_le (mag n)
  have hmag : 0 ≤ mag n ∧ mag n ≤ 9223372036854775807 := by unfold mag; split <;> omega
  obtain ⟨hm0, hm1⟩ := hmag
  have he : encInt n = (31 - (wid (mag n) : Int)) :: (digs (mag n) (wid (mag n))).map (255 - ·) := by unfold encInt; rw [if_pos hn1]
  have He := Lib.hid he; clear he
  have hsz' : bs.length + 9 ≤ 140737488355328 + 9 := by omega
  have hsz2 : bs.length + (1 + wid (mag n)) ≤ 140737488355328 := by omega
  clear hsz' hsz hl
  have h58 : ∀ w', Calls Try.prog 58 #[.int .i64 n] w' fun e w'' => e = .returned (.int .u64 (mag n)) ∧ w' = w'' := fun w' => magnitude_any n w' hn0 (by omega)
  have h57 : ∀ w', Calls Try.prog 57 #[.int .u64 (mag n)] w' fun e w'' => e = .returned (.int .i64 (wid (mag n))) ∧ w' = w'' := fun w' => width_any (mag n) w' hm0 hm1
  have H58 := Lib.hid h58; clear h58
  have H57 := Lib.hid h57; clear h57
  generalize hm : mag n = m at *
  have Hm := Lib.hid hm; clear hm
  generalize hk : wid m = k at *
  have Hk := Lib.hid hk; clear hk
  go_enter Try.func46, Try.ntmps46
  go_wp2_with (first | (go_at_call 58; refine (H58.out _).mono ?_; rintro e w' ⟨rfl, rfl⟩) | (go_at_call 57; refine (H57.out _).mono ?_; rintro e w' ⟨rfl, rfl⟩) | (at_builtin; refine wp_put rfl rfl (.tmp 20) (.tmp 23) rfl _ _ _ [31 - (k : Int)] _ _ _ HA.out rfl rfl rfl rfl (by simp; omega) (by omega) ?_; intro v1 w1 hA1; have HA1 := Lib.hid hA1; clear hA1))
  go_loopw [0, 26] (fun v i wr => ∃ j : Nat, j ≤ k ∧ i = .int .i64 j ∧ Hid (Apd base w vin wr v (bs ++ ((31 - (k : Int)) :: ((digs m k).map (255 - ·)).take j)))) (fun _ i _ => k - (intOf i).toNat)
  case atStart => exact ⟨0, Nat.zero_le _, rfl, HA1.out⟩
  case round =>
    obtain ⟨j, hj, rfl, hA2⟩ := hrel
    by_cases hlt : j < k
    · have hws := hA2.out.grown.size
      go_wp2_with (first | (at_builtin; refine wp_put rfl rfl (.tmp 29) (.tmp 40) rfl _ _ _ [bits .xor .u8 (m / 2 ^ (8 * (k - 1 - j)) % 256) 255] _ _ _ hA2.out rfl rfl rfl rfl (by simp; omega) (by omega) ?_; intro v2 w2 hA3'; have hA3 := Lib.hid hA3'; clear hA3'))
      go_roundw
      case rel =>
        refine ⟨j + 1, by omega, by go_num, ?_⟩
        show Apd base w vin w2 v2 (bs ++ ((31 - (k : Int)) :: ((digs m k).map (255 - ·)).take (j + 1)))
        have h3 := hA3.out
        rw [u8_flip255 _ (by omega) (by omega), shr_pow] at h3
        have hlen : j < ((digs m k).map (255 - ·)).length := by simp [digs_length]; omega
        have hget : ((digs m k).map (255 - ·))[j] = 255 - (m / 256 ^ (k - 1 - j) % 256) := by simp [digs_get, digit]
        rw [take_next _ j hlen, hget]
        simpa using h3
      case measure => simp [intOf]; omega
    · have hk' : j = k := by omega
      subst hk'
      go_wp2
      go_ret
      refine ⟨_, rfl, ?_⟩
      have := hA2.out
      rw [List.take_of_length_le (by simp [digs_length])] at this
      rw [He.out]
      exact this

set_option maxHeartbeats 400000 in
theorem appendInteger_pos (base : Nat) (w : World) (vin : Value) (bs : List Int) (n : Int) (hn0 : 0 ≤ n) (hn1 : n ≤ 9223372036854775807) (hbase : base ≤ w.heap.size) (hv : w.ownsRow base 5 1 vin bs.length (byteVals bs))
    (hsz : bs.length + (encInt n).length ≤ 140737488355328) : Calls Try.prog 46 #[vin, .int .i64 n] w (PutOf base w vin (bs ++ encInt n)) := by
  have hA := Apd.start hv
  have HA := Lib.hid hA; clear hA hv
  have hl := encInt_length n
  have hw := wid_le (mag n)
  have hmag : 0 ≤ mag n ∧ mag n ≤ 9223372036854775807 := by unfold mag; split <;> omega
  obtain ⟨hm0, hm1⟩ := hmag
  have he : encInt n = (32 + (wid (mag n) : Int)) :: digs (mag n) (wid (mag n)) := by unfold encInt mag; rw [if_neg (by omega), if_neg (by omega)]
  have He := Lib.hid he; clear he
  have hsz' : bs.length + 9 ≤ 140737488355328 + 9 := by omega
  have hsz2 : bs.length + (1 + wid (mag n)) ≤ 140737488355328 := by omega
  clear hsz' hsz hl
  have h58 : ∀ w', Calls Try.prog 58 #[.int .i64 n] w' fun e w'' => e = .returned (.int .u64 (mag n)) ∧ w' = w'' := fun w' => magnitude_any n w' (by omega) hn1
  have h57 : ∀ w', Calls Try.prog 57 #[.int .u64 (mag n)] w' fun e w'' => e = .returned (.int .i64 (wid (mag n))) ∧ w' = w'' := fun w' => width_any (mag n) w' hm0 hm1
  have H58 := Lib.hid h58; clear h58
  have H57 := Lib.hid h57; clear h57
  generalize hm : mag n = m at *
  have Hm := Lib.hid hm; clear hm
  generalize hk : wid m = k at *
  have Hk := Lib.hid hk; clear hk
  go_enter Try.func46, Try.ntmps46
  go_wp2_with (first | (go_at_call 58; refine (H58.out _).mono ?_; rintro e w' ⟨rfl, rfl⟩) | (go_at_call 57; refine (H57.out _).mono ?_; rintro e w' ⟨rfl, rfl⟩) | (at_builtin; refine wp_put rfl rfl (.tmp 20) (.tmp 23) rfl _ _ _ [32 + (k : Int)] _ _ _ HA.out rfl rfl rfl rfl (by simp; omega) (by omega) ?_; intro v1 w1 hA1; have HA1 := Lib.hid hA1; clear hA1))
  go_loopw [0, 26] (fun v i wr => ∃ j : Nat, j ≤ k ∧ i = .int .i64 j ∧ Hid (Apd base w vin wr v (bs ++ ((32 + (k : Int)) :: (digs m k).take j)))) (fun _ i _ => k - (intOf i).toNat)
  case atStart => exact ⟨0, Nat.zero_le _, rfl, HA1.out⟩
  case round =>
    obtain ⟨j, hj, rfl, hA2⟩ := hrel
    by_cases hlt : j < k
    · have hws := hA2.out.grown.size
      go_wp2_with (first | (at_builtin; refine wp_put rfl rfl (.tmp 29) (.tmp 40) rfl _ _ _ [bits .xor .u8 (m / 2 ^ (8 * (k - 1 - j)) % 256) 0] _ _ _ hA2.out rfl rfl rfl rfl (by simp; omega) (by omega) ?_; intro v2 w2 hA3'; have hA3 := Lib.hid hA3'; clear hA3'))
      go_roundw
      case rel =>
        refine ⟨j + 1, by omega, by go_num, ?_⟩
        show Apd base w vin w2 v2 (bs ++ ((32 + (k : Int)) :: (digs m k).take (j + 1)))
        have h3 := hA3.out
        rw [u8_flip0 _ (by omega) (by omega), shr_pow] at h3
        have hlen : j < (digs m k).length := by simp [digs_length]; omega
        have hget : (digs m k)[j] =  (m / 256 ^ (k - 1 - j) % 256) := by simp [digs_get, digit]
        rw [take_next _ j hlen, hget]
        simpa using h3
      case measure => simp [intOf]; omega
    · have hk' : j = k := by omega
      subst hk'
      go_wp2
      go_ret
      refine ⟨_, rfl, ?_⟩
      have := hA2.out
      rw [List.take_of_length_le (by simp [digs_length])] at this
      rw [He.out]
      exact this

end Go.Proofs.Ytjhjcigappkebaa
