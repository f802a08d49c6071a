/-
  Walks of the reference: Sign.
-/
import Derived.Test.YtlfjcifeiihmfaaDoorRc
namespace Go.Proofs.YtlfjcifeiihmfaaDoor
open Go.RowKit

set_option maxHeartbeats 2000000 in
theorem rsign_ok (x : Nat) (m : List Int) (v : Value) (w : World) (hv : Bs (fun k => k < w.heap.size) w v m) (h0 : 0 < x) (h1 : x < 1152921504606845399) (hm : m.length ≤ 2000) :
    Calls Tryd.prog 18 #[.int .u64 (x : Int), v] w fun e w' => e = .returned (.tuple #[.agg #[.int .u64 (sigC x m), .int .u64 (sigS x m)], .int .i64 0]) ∧ Below w.heap.size w w' := by
  obtain ⟨va, vc, rfl⟩ := bs_slice hv
  have A1 := Lib.hid (fun w => rpublic_ok x w h0 h1)
  have HV := Lib.hid hv
  have A2 := Lib.hid (fun w => rbytes_any (x : Int) w (by omega) (by omega))
  have TG := Lib.hid (fun (W : World) (u : Value) hv => rtagged_any nonS (nb (x : Int) ++ m) u W hv (by decide) (by simp [nb_length]; omega))
  have NM : Hid (∀ w', Calls Tryd.prog 30 #[.agg (byteVals (sha (hmsg (strB nonS) (nb (x : Int) ++ m)))).toArray] w' fun e w'' => e = .returned (.int .u64 (dg nonS (nb (x : Int) ++ m))) ∧ Below w'.heap.size w' w'') := Lib.hid (fun w' => rnumber_any _ w' (sha_length _) (sha_range _))
  have hkr := sigK_range x m
  have hkz : dg nonS (nb (x : Int) ++ m) % 1152921504606845398 + 1 = (sigK x m : Int) := by
    rw [sigK_cast]; unfold secF; omega
  have hz := dg_range nonS (nb (x : Int) ++ m)
  have P1 := Lib.hid (fun w => rpowP_any 4 (sigK x m) w (by decide) (by omega))
  have D1 := Lib.hid (fun (W : World) hv => rchallenge_any (powP 4 (sigK x m) : Int) (powP 4 x : Int) m (.slice va m.length vc) W hv (by have := powP_lt' 4 (sigK x m); omega) (by have := powP_lt' 4 x; omega) (by omega))
  have hcr := chal_range (powP 4 (sigK x m)) (powP 4 x) m
  have e4 : ((4 : Nat) : Int) = 4 := rfl
  rw [e4] at P1
  have hS : sigS x m = ((sigK x m : Int) + sigC x m * (x : Int) % 1152921504606845399) % 1152921504606845399 := rfl
  have hC : sigC x m = chal (powP 4 (sigK x m)) (powP 4 x) m := rfl
  rw [← hC] at D1 hcr
  obtain ⟨c, hcn⟩ : ∃ c : Nat, sigC x m = (c : Int) := ⟨(sigC x m).toNat, by omega⟩
  have T1 := Lib.hid (fun (w : World) => rtimes_any c x 1152921504606845399 w (by omega) (by decide) (by omega))
  have hT : ((c * x % 1152921504606845399 : Nat) : Int) = sigC x m * (x : Int) % 1152921504606845399 := by
    rw [hcn, Int.natCast_emod, Int.natCast_mul]; rfl
  rw [hT, ← hcn] at T1
  have eq' : ((1152921504606845399 : Nat) : Int) = 1152921504606845399 := rfl
  rw [eq'] at T1
  have lnb := Lib.hid (nb_length (x : Int)); have rnb := Lib.hid (nb_range (x : Int))
  obtain ⟨X, hX⟩ : ∃ z : Int, z = (x : Int) := ⟨_, rfl⟩
  rw [← hX] at A1 A2 TG NM hS T1 lnb rnb hkz hz ⊢
  generalize sigC x m = C at *
  generalize sigS x m = S at *
  obtain ⟨K, hK⟩ : ∃ z : Int, z = (sigK x m : Int) := ⟨_, rfl⟩
  rw [← hK] at P1 hS hkz
  have hK1 : 1 ≤ K ∧ K < 1152921504606845399 := by omega
  generalize (powP 4 (sigK x m) : Int) = R at *
  generalize (powP 4 x : Int) = PX at *
  have hTr : 0 ≤ C * X % 1152921504606845399 ∧ C * X % 1152921504606845399 < 1152921504606845399 := by omega
  generalize C * X % 1152921504606845399 = T at *
  subst hS
  clear hC hX hK hkr h0 h1 e4 hv hcn hT eq'
  have Hm := Lib.hid hm; clear hm
  have hml : (m.length : Int) ≤ 65536 := by have := Hm.out; omega
  generalize dg nonS (nb X ++ m) = z at *
  generalize (byteVals (sha (hmsg (strB nonS) (nb X ++ m)))).toArray = DD at *
  generalize hM : m.length = M at *
  go_enter Tryd.func18, Tryd.ntmps18
  go_wp2_with fail
  have B1 := Lib.hid (Kp.start w)
  refine (A1.out _).mono ?_
  rintro e w1 ⟨rfl, rfl⟩
  go_wp2_with fail
  refine (A2.out _).mono ?_
  rintro e w2 ⟨u1, rfl, h2⟩
  obtain ⟨a1, k1, rfl⟩ := h2.len
  have B2 := Lib.hid (B1.out.next h2.2)
  obtain ⟨v3, w3, hr3, hd3⟩ := app_pds h2 (HV.out.up2 (fun k hk => B2.out.1.block k hk) B2.out.1.size) (by rw [lnb.out]; have := Hm.out; omega)
  have B3 := Lib.hid (B1.out.next hd3.2)
  have R3 := Lib.hid hr3
  have hrr : ∀ y ∈ nb X ++ m, 0 ≤ y ∧ y ≤ 255 := by
    intro y hy
    rcases List.mem_append.1 hy with hy | hy
    · exact rnb.out y hy
    · exact HV.out.2.1 y hy
  have TG2 := Lib.hid (TG.out w3 v3 (hd3.bs (by rw [List.length_append, lnb.out]; have := Hm.out; omega) hrr))
  clear hr3 hd3 hrr h2
  go_wp2_with (at_builtin; refine wp_app rfl rfl rfl (.tmp 25) (.tmp 26) rfl rfl rfl R3.out ?_)
  refine TG2.out.mono ?_
  rintro e w4 ⟨rfl, hb4⟩
  have B4 := Lib.hid (B3.out.next hb4); clear hb4
  go_wp2_with fail
  refine (NM.out _).mono ?_
  rintro e w5 ⟨rfl, hb5⟩
  have B5 := Lib.hid (B4.out.next hb5); clear hb5
  go_wp2_with fail
  refine (P1.out _).mono ?_
  rintro e w6 ⟨rfl, rfl⟩
  have D2 := Lib.hid (D1.out w5 (HV.out.up2 (fun k hk => B5.out.1.block k hk) B5.out.1.size))
  go_wp2_with fail
  refine D2.out.mono ?_
  rintro e w7 ⟨rfl, hb7⟩
  have B7 := Lib.hid (B5.out.next hb7); clear hb7
  go_wp2_with fail
  refine (T1.out _).mono ?_
  rintro e w8 ⟨rfl, rfl⟩
  have Hg8 := Lib.hid B7.out.2
  go_wp2_with (refine wpList_store_row rfl 31 (.tmp 4) (.tmp 45) rfl w.heap.size #[.int .u64 C, .int .u64 ((K + T) % 1152921504606845399)] rfl rfl 31 _ Hg8.out size31 rfl (all2 _ _) ?_)
  refine bodyPost_ret (results_cell_slot rfl _ _ w.heap.size 31 #[.int .u64 C, .int .u64 ((K + T) % 1152921504606845399)] (0, 0) _ (.int .i64 0) rfl rfl (setRow_heap _ _ _ _ _ _ Hg8.out) Tryd.underlying31 rfl size31) rfl ?_
  exact ⟨rfl, bsetRow B7.out.1 (Nat.le_refl _) _⟩

set_option maxHeartbeats 400000 in
theorem rsign_badkey (x : Int) (va : Option Addr) (M vc : Nat) (w : World) (hx : x = 0 ∨ 1152921504606845399 ≤ x) (hx0 : 0 ≤ x) (hx1 : x < 18446744073709551616) :
    Calls Tryd.prog 18 #[.int .u64 x, .slice va M vc] w fun e w' => e = .returned (.tuple #[.agg #[.int .u64 0, .int .u64 0], .int .i64 30]) ∧ Below w.heap.size w w' := by
  have A1 : Hid (∀ w : World, Calls Tryd.prog 16 #[.int .u64 x] w fun e w' => e = .returned (.tuple #[.int .u64 0, .int .i64 30]) ∧ w = w') := Lib.hid (fun w => by
    have := rpublic_bad x.toNat w (by omega)
    rw [Int.toNat_of_nonneg hx0] at this
    exact this)
  clear hx hx0 hx1
  go_enter Tryd.func18, Tryd.ntmps18
  go_wp2_with fail
  have B0 := Lib.hid (Kp.start w)
  refine (A1.out _).mono ?_
  rintro e w1 ⟨rfl, rfl⟩
  have Hg1 := Lib.hid B0.out.2
  go_wp2_with (refine wpList_store_row rfl 31 (.tmp 4) (.tmp 18) rfl w.heap.size #[.int .u64 0, .int .u64 0] rfl rfl 31 _ Hg1.out size31 rfl (all2 _ _) ?_)
  refine bodyPost_ret (results_cell_slot rfl _ _ w.heap.size 31 #[.int .u64 0, .int .u64 0] (0, 0) _ (.int .i64 30) rfl rfl (setRow_heap _ _ _ _ _ _ Hg1.out) Tryd.underlying31 rfl size31) rfl ?_
  exact ⟨rfl, bsetRow B0.out.1 (Nat.le_refl _) _⟩

set_option maxHeartbeats 400000 in
theorem rsign_long (x : Nat) (va : Option Addr) (M vc : Nat) (w : World) (h0 : 0 < x) (h1 : x < 1152921504606845399) (hM : 65536 < M) :
    Calls Tryd.prog 18 #[.int .u64 (x : Int), .slice va M vc] w fun e w' => e = .returned (.tuple #[.agg #[.int .u64 0, .int .u64 0], .int .i64 2]) ∧ Below w.heap.size w w' := by
  have A1 := Lib.hid (fun w => rpublic_ok x w h0 h1)
  generalize (powP 4 x : Int) = PX at *
  generalize (x : Int) = X at *
  have hM' : 65536 < (M : Int) := by omega
  clear h0 h1 hM
  go_enter Tryd.func18, Tryd.ntmps18
  go_wp2_with fail
  have B0 := Lib.hid (Kp.start w)
  refine (A1.out _).mono ?_
  rintro e w1 ⟨rfl, rfl⟩
  have Hg1 := Lib.hid B0.out.2
  go_wp2_with (refine wpList_store_row rfl 31 (.tmp 4) (.tmp 23) rfl w.heap.size #[.int .u64 0, .int .u64 0] rfl rfl 31 _ Hg1.out size31 rfl (all2 _ _) ?_)
  refine bodyPost_ret (results_cell_slot rfl _ _ w.heap.size 31 #[.int .u64 0, .int .u64 0] (0, 0) _ (.int .i64 2) rfl rfl (setRow_heap _ _ _ _ _ _ Hg1.out) Tryd.underlying31 rfl size31) rfl ?_
  exact ⟨rfl, bsetRow B0.out.1 (Nat.le_refl _) _⟩

end Go.Proofs.YtlfjcifeiihmfaaDoor
