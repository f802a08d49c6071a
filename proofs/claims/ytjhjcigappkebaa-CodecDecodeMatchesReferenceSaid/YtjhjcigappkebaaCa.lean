/-
  Walks: the orders of numbers and of bytes.
-/
import Derived.Test.YtjhjcigappkebaaWb
namespace Go.Proofs.Ytjhjcigappkebaa
open Go.RowKit

def ordI (a b : Int) : Int := if a < b then -1 else if b < a then 1 else 0

set_option maxHeartbeats 400000 in
theorem order_any (a b : Int) (w : World) : Calls Try.prog 30 #[.int .i64 a, .int .i64 b] w fun e w' => e = .returned (.int .i64 (ordI a b)) ∧ w = w' := by
  by_cases h1 : a < b
  · go_enter Try.func30, Try.ntmps30
    go_wp2
    go_ret
    exact ⟨ret_int (by unfold ordI; rw [if_pos h1]), rfl⟩
  · by_cases h2 : b < a
    · have h1' : b ≤ a := by omega
      go_enter Try.func30, Try.ntmps30
      go_wp2
      go_ret
      exact ⟨ret_int (by unfold ordI; rw [if_neg (by omega), if_pos h2]), rfl⟩
    · have h1' : b ≤ a := by omega
      have h2' : a ≤ b := by omega
      go_enter Try.func30, Try.ntmps30
      go_wp2
      go_ret
      exact ⟨ret_int (by unfold ordI; rw [if_neg (by omega), if_neg (by omega)]), rfl⟩

set_option maxHeartbeats 400000 in
theorem cmpInt_any (a b : Int) (w : World) : Calls Try.prog 38 #[.int .i64 a, .int .i64 b] w fun e w' => e = .returned (.int .i64 (ordI a b)) ∧ w = w' := by
  have ta : (a != a) = false := by simp
  have tb : (b != b) = false := by simp
  by_cases h1 : a < b
  · go_enter Try.func38, Try.ntmps38
    go_wp2
    go_ret
    exact ⟨ret_int (by unfold ordI; rw [if_pos h1]), rfl⟩
  · by_cases h2 : b < a
    · have h1' : b ≤ a := by omega
      go_enter Try.func38, Try.ntmps38
      go_wp2
      go_ret
      exact ⟨ret_int (by unfold ordI; rw [if_neg (by omega), if_pos h2]), rfl⟩
    · have h1' : b ≤ a := by omega
      have h2' : a ≤ b := by omega
      go_enter Try.func38, Try.ntmps38
      go_wp2
      go_ret
      exact ⟨ret_int (by unfold ordI; rw [if_neg (by omega), if_neg (by omega)]), rfl⟩

theorem cmpB_drop (a b : List Int) (k : Nat) (ha : k < a.length) (hb : k < b.length) : cmpB (a.drop k) (b.drop k) = if a[k] < b[k] then -1 else if b[k] < a[k] then 1 else cmpB (a.drop (k + 1)) (b.drop (k + 1)) := by
  rw [List.drop_eq_getElem_cons ha, List.drop_eq_getElem_cons hb]
  simp only [cmpB]
theorem cmpB_end (a b : List Int) (k : Nat) (h : a.length ≤ k ∨ b.length ≤ k) (hk : k ≤ a.length) (hk' : k ≤ b.length) : cmpB (a.drop k) (b.drop k) = ordI a.length b.length := by
  unfold ordI
  rcases Nat.lt_or_ge k a.length with ha | ha
  · have hb : b.length ≤ k := by omega
    rw [List.drop_eq_getElem_cons ha, List.drop_eq_nil_of_le hb]
    simp only [cmpB]
    rw [if_neg (by omega), if_pos (by omega)]
  · rw [List.drop_eq_nil_of_le ha]
    rcases Nat.lt_or_ge k b.length with hb | hb
    · rw [List.drop_eq_getElem_cons hb]
      simp only [cmpB]
      rw [if_pos (by omega)]
    · rw [List.drop_eq_nil_of_le hb]
      simp only [cmpB]
      rw [if_neg (by omega), if_neg (by omega)]

set_option maxHeartbeats 400000 in
theorem orderBytes_any (F G : Nat → Prop) (a b : List Int) (v u : Value) (w : World) (hF : ∀ k, F k → k < w.heap.size) (hG : ∀ k, G k → k < w.heap.size) (ha : Bs F w v a) (hb : Bs G w u b) :
    Calls Try.prog 24 #[v, u] w fun e w' => e = .returned (.int .i64 (cmpB a b)) ∧ Below w.heap.size w w' := by
  obtain ⟨hal, har, aa, ac, rfl, hac, hap⟩ := ha
  obtain ⟨hbl, hbr, ba, bc, rfl, hbc, hbp⟩ := hb
  have Hap := Lib.hid hap; clear hap
  have Hbp := Lib.hid hbp; clear hbp
  have HF := Lib.hid hF; clear hF
  have HG := Lib.hid hG; clear hG
  have Har := Lib.hid har; clear har
  have Hbr := Lib.hid hbr; clear hbr
  go_enter Try.func24, Try.ntmps24
  go_wp2_with fail
  go_loopw [5] (fun i wr => ∃ k : Nat, k ≤ a.length ∧ k ≤ b.length ∧ i = .int .i64 k ∧ Hid (Below w.heap.size w wr ∧ cmpB (a.drop k) (b.drop k) = cmpB a b)) (fun i _ => a.length - (intOf i).toNat)
  case atStart => exact ⟨0, Nat.zero_le _, Nat.zero_le _, rfl, Below.refl _ _, rfl⟩
  case round =>
    obtain ⟨k, hka, hkb, rfl, hI⟩ := hrel
    by_cases hlt : k < a.length ∧ k < b.length
    · obtain ⟨hlta, hltb⟩ := hlt
      obtain ⟨g, off, rfl, hg, hc⟩ := Hap.out (by omega)
      obtain ⟨g', off', rfl, hg', hc'⟩ := Hbp.out (by omega)
      have c0 := (hI.out.1.cell (p := ⟨g, off + k, none⟩) (HF.out g hg)).trans (hc k _ (List.getElem?_eq_getElem hlta))
      have c1 := (hI.out.1.cell (p := ⟨g', off' + k, none⟩) (HG.out g' hg')).trans (hc' k _ (List.getElem?_eq_getElem hltb))
      have hk0 : (0 : Int) ≤ (k : Int) := by omega
      have hk1 : (k : Int) < (a.length : Int) := by omega
      have hk2 : (k : Int) < (b.length : Int) := by omega
      have hd := cmpB_drop a b k hlta hltb
      have Hd := Lib.hid hd; clear hd
      clear hc hc' hg hg'
      have hra := Har.out a[k] (List.getElem_mem hlta)
      have hrb := Hbr.out b[k] (List.getElem_mem hltb)
      obtain ⟨hra0, hra1⟩ := hra
      obtain ⟨hrb0, hrb1⟩ := hrb
      by_cases he : a[k] = b[k]
      · have t : (a[k] != b[k]) = false := by rw [he]; simp
        have He := Lib.hid he; clear he
        go_wp2_with fail
        go_quiet (fail)
        go_wp2_with fail
        go_roundw
        case rel =>
          refine ⟨k + 1, by omega, by omega, by go_num, bdrewN hI.out.1 nq, ?_⟩
          have h1 := Hd.out
          have h2 := He.out
          rw [if_neg (by omega), if_neg (by omega)] at h1
          rw [← h1]
          exact hI.out.2
        case measure => simp [intOf]; omega
      · have t : (a[k] != b[k]) = true := by simpa using he
        have quiet30 : ∀ w', Calls Try.prog 30 #[.int .i64 a[k], .int .i64 b[k]] w' fun e w'' => e = .returned (.int .i64 (ordI a[k] b[k])) ∧ w'' = w' := fun w' => (order_any _ _ w').mono fun _ _ h => ⟨h.1, h.2.symm⟩
        have He := Lib.hid he; clear he
        go_wp2_with fail
        go_quiet (fail)
        obtain ⟨w2, hw2⟩ : ∃ w2, w2 = wr.drewN nq := ⟨_, rfl⟩
        rw [← hw2]
        have hb2 : Hid (Below w.heap.size w w2) := by rw [hw2]; exact bdrewN hI.out.1 nq
        have c0' : w2.cell? ⟨g, off + k, none⟩ = some (.int .u8 a[k]) := by rw [hw2]; exact c0
        have c1' : w2.cell? ⟨g', off' + k, none⟩ = some (.int .u8 b[k]) := by rw [hw2]; exact c1
        clear hw2 c0 c1
        have hwa : IntKind.i64.wrap a[k] = a[k] := IntWalk.i64_in _ (by omega)
        have hwb : IntKind.i64.wrap b[k] = b[k] := IntWalk.i64_in _ (by omega)
        go_wp2_with fail
        go_quiet ((go_at_call 30; exact Calls.quiet_of_same (quiet30 _)))
        go_wp2_with fail
        go_ret
        refine ⟨ret_int ?_, bdrewN hb2.out _⟩
        rw [← hI.out.2, Hd.out]
        unfold ordI
        have := He.out
        split
        · rfl
        · rw [if_pos (by omega), if_pos (by omega)]
    · have he := cmpB_end a b k (by omega) hka hkb
      have He := Lib.hid he; clear he
      by_cases hlta : k < a.length
      · have hltb : ¬ k < b.length := by omega
        clear hlt
        go_wp2_with (go_at_call 30; refine (order_any _ _ _).mono ?_; rintro e w' ⟨rfl, rfl⟩)
        go_ret
        exact ⟨ret_int (by rw [← hI.out.2, He.out]), hI.out.1⟩
      · clear hlt
        go_wp2_with (go_at_call 30; refine (order_any _ _ _).mono ?_; rintro e w' ⟨rfl, rfl⟩)
        go_ret
        exact ⟨ret_int (by rw [← hI.out.2, He.out]), hI.out.1⟩

end Go.Proofs.Ytjhjcigappkebaa
