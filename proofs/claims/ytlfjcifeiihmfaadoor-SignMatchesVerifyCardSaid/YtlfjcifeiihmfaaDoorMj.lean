/-
  Walks: secret numbers, challenges (the program's and the reference's).
-/
import Derived.Test.YtlfjcifeiihmfaaDoorMi
import Derived.Test.YtlfjcifeiihmfaaDoorMg
import Derived.Test.YtlfjcifeiihmfaaDoorFg
namespace Go.Proofs.YtlfjcifeiihmfaaDoor
open Go.RowKit

/-- The number of a tagged digest. -/
def dg (s : ByteArray) (b : List Int) : Int := num ((sha (hmsg (strB s) b)).take 8)
theorem dg_range (s : ByteArray) (b : List Int) : 0 ≤ dg s b ∧ dg s b < 18446744073709551616 := by
  have := num_range (sha (hmsg (strB s) b)) (sha_range _) 8 (by rw [sha_length]; omega)
  unfold dg
  exact this

def secS : ByteArray := ⟨#[115, 101, 99, 114, 101, 116]⟩
def nonS : ByteArray := ⟨#[110, 111, 110, 99, 101]⟩
def chaS : ByteArray := ⟨#[99, 104, 97, 108, 108, 101, 110, 103, 101]⟩

/-- The secret number that a tag and bytes determine. -/
def secF (s : ByteArray) (b : List Int) : Int := 1 + dg s b % 1152921504606845398
theorem secF_range (s : ByteArray) (b : List Int) : 1 ≤ secF s b ∧ secF s b < 1152921504606845399 := by
  have := dg_range s b
  unfold secF; omega

def chal (r p : Int) (m : List Int) : Int := dg chaS (nb r ++ (nb p ++ m)) % 1152921504606845399
theorem chal_range (r p : Int) (m : List Int) : 0 ≤ chal r p m ∧ chal r p m < 1152921504606845399 := by
  unfold chal; omega

set_option maxHeartbeats 1000000 in
theorem secretFrom_any (s : ByteArray) (b : List Int) (v : Value) (w : World) (hk : KOk w) (hv : Bs (fun k => k < w.heap.size) w v b) (hs : s.size ≤ 1000) (hb : b.length ≤ 1000000) :
    Calls Tryd.prog 29 #[.string s, v] w fun e w' => e = .returned (.int .u64 (secF s b)) ∧ Below w.heap.size w w' := by
  have H := tagged_any s b v w hk hv (by omega) (by omega)
  have hN : ∀ w', Calls Tryd.prog 27 #[.agg (byteVals (sha (hmsg (strB s) b))).toArray] w' fun e w'' => e = .returned (.int .u64 (dg s b)) ∧ Below w'.heap.size w' w'' := fun w' => number_any _ w' (sha_length _) (sha_range _)
  have hr := dg_range s b
  unfold secF
  generalize dg s b = z at *
  generalize (byteVals (sha (hmsg (strB s) b))).toArray = D at *
  have HN := Lib.hid hN; clear hN hv hk
  go_enter Tryd.func29, Tryd.ntmps29
  go_wp2_with (first | (go_at_call 28; refine H.mono ?_; rintro e w1 ⟨rfl, hb1⟩; have Hb1 := Lib.hid hb1; clear hb1) | (go_at_call 27; refine (HN.out _).mono ?_; rintro e w2 ⟨rfl, hb2⟩; have Hb2 := Lib.hid hb2; clear hb2))
  go_ret
  exact ⟨rfl, Hb1.out.trans (Hb2.out.mono Hb1.out.size)⟩

set_option maxHeartbeats 1000000 in
theorem secret_ok (b : List Int) (a : Option Addr) (c : Nat) (w : World) (hk : KOk w) (hv : Bs (fun k => k < w.heap.size) w (.slice a b.length c) b) (h0 : 0 < b.length) (h1 : b.length ≤ 64) :
    Calls Tryd.prog 13 #[.slice a b.length c] w fun e w' => e = .returned (.tuple #[.int .u64 (secF secS b), .int .i64 0]) ∧ Below w.heap.size w w' := by
  have H := secretFrom_any secS b _ w hk hv (by decide) (by omega)
  generalize secF secS b = z at *
  generalize b.length = n at *
  clear hv
  have hn0 : ((n : Int) == 0) = false := by rw [beq_eq_false_iff_ne]; omega
  go_enter Tryd.func13, Tryd.ntmps13
  go_wp2_with (go_at_call 29; refine H.mono ?_; rintro e w1 ⟨rfl, hb1⟩; have Hb1 := Lib.hid hb1; clear hb1)
  go_ret2
  exact ⟨rfl, Hb1.out⟩

set_option maxHeartbeats 1000000 in
theorem secret_bad (n : Nat) (a : Option Addr) (c : Nat) (w : World) (h : n = 0 ∨ 64 < n) :
    Calls Tryd.prog 13 #[.slice a n c] w fun e w' => e = .returned (.tuple #[.int .u64 0, .int .i64 1]) ∧ w = w' := by
  obtain ⟨z, hz⟩ : ∃ z : Int, z = (n : Int) := ⟨_, rfl⟩
  rcases h with rfl | h
  · go_enter Tryd.func13, Tryd.ntmps13
    go_wp2
    go_ret2
    exact ⟨rfl, rfl⟩
  · have h' : ¬ n = 0 := by omega
    go_enter Tryd.func13, Tryd.ntmps13
    go_wp2
    go_ret2
    exact ⟨rfl, rfl⟩

set_option maxHeartbeats 1000000 in
theorem rsecret_ok (b : List Int) (a : Option Addr) (c : Nat) (w : World) (hv : Bs (fun k => k < w.heap.size) w (.slice a b.length c) b) (h0 : 0 < b.length) (h1 : b.length ≤ 64) :
    Calls Tryd.prog 14 #[.slice a b.length c] w fun e w' => e = .returned (.tuple #[.int .u64 (secF secS b), .int .i64 0]) ∧ Below w.heap.size w w' := by
  have H := rtagged_any secS b _ w hv (by decide) (by omega)
  have hN : ∀ w', Calls Tryd.prog 30 #[.agg (byteVals (sha (hmsg (strB secS) b))).toArray] w' fun e w'' => e = .returned (.int .u64 (dg secS b)) ∧ Below w'.heap.size w' w'' := fun w' => rnumber_any _ w' (sha_length _) (sha_range _)
  have hr := dg_range secS b
  unfold secF
  rw [Int.add_comm]
  generalize dg secS b = z at *
  generalize (byteVals (sha (hmsg (strB secS) b))).toArray = D at *
  have HN := Lib.hid hN; clear hN hv
  generalize b.length = n at *
  go_enter Tryd.func14, Tryd.ntmps14
  go_wp2_with (first | (go_at_call 31; refine H.mono ?_; rintro e w1 ⟨rfl, hb1⟩; have Hb1 := Lib.hid hb1; clear hb1) | (go_at_call 30; refine (HN.out _).mono ?_; rintro e w2 ⟨rfl, hb2⟩; have Hb2 := Lib.hid hb2; clear hb2))
  go_ret2
  exact ⟨rfl, Hb1.out.trans (Hb2.out.mono Hb1.out.size)⟩

set_option maxHeartbeats 1000000 in
theorem rsecret_bad (n : Nat) (a : Option Addr) (c : Nat) (w : World) (h : n = 0 ∨ 64 < n) :
    Calls Tryd.prog 14 #[.slice a n c] w fun e w' => e = .returned (.tuple #[.int .u64 0, .int .i64 1]) ∧ w = w' := by
  rcases h with rfl | h
  · go_enter Tryd.func14, Tryd.ntmps14
    go_wp2
    go_ret2
    exact ⟨rfl, rfl⟩
  · go_enter Tryd.func14, Tryd.ntmps14
    go_wp2
    go_ret2
    exact ⟨rfl, rfl⟩

end Go.Proofs.YtlfjcifeiihmfaaDoor
