/-
  Walks of the reference: Verify.
-/
import Derived.Test.YtlfjcifeiihmfaaDoorRs
namespace Go.Proofs.YtlfjcifeiihmfaaDoor
open Go.RowKit

set_option maxHeartbeats 1000000 in
theorem rverify_ok (p c g : Nat) (m : List Int) (v : Value) (w : World) (hv : Bs (fun k => k < w.heap.size) w v m) (hp : p < 18446744073709551616) (hvp : vld p = true) (hc : c < 1152921504606845399) (hg : g < 1152921504606845399) (hm : m.length ≤ 2000) :
    Calls Tryd.prog 20 #[.int .u64 (p : Int), v, .agg #[.int .u64 (c : Int), .int .u64 (g : Int)]] w fun e w' => e = .returned (.bool (chal (resid p c g) p m == (c : Int))) ∧ Below w.heap.size w w' := by
  obtain ⟨va, vc, rfl⟩ := bs_slice hv
  have A1 := Lib.hid (fun w => rvalid_any p w hp)
  rw [hvp] at A1
  have HV := Lib.hid hv
  have P1 := Lib.hid (fun w => rpowP_any 4 g w (by decide) (by omega))
  have P2 := Lib.hid (fun w => rpowP_any p (1152921504606845399 - c) w hp (by omega))
  have T1 := Lib.hid (fun (w : World) => rtimes_any (powP 4 g) (powP p (1152921504606845399 - c)) 2305843009213690799 w (powP_lt _ _) (by decide) (powP_lt' _ _))
  have hrs : powP 4 g * powP p (1152921504606845399 - c) % 2305843009213690799 = resid p c g := rfl
  rw [hrs] at T1
  have ec : ((2305843009213690799 : Nat) : Int) = 2305843009213690799 := rfl
  rw [ec] at T1
  have l3 := resid_lt p c g
  have D1 := Lib.hid (fun (W : World) hv => rchallenge_any (resid p c g : Int) (p : Int) m (.slice va m.length vc) W hv (by omega) (by omega) (by omega))
  have e4 : ((4 : Nat) : Int) = 4 := rfl
  rw [e4] at P1
  have hq : (1152921504606845399 : Int) - (c : Int) = ((1152921504606845399 - c : Nat) : Int) := by omega
  generalize chal (resid p c g) p m = Z at *
  obtain ⟨N, hN⟩ : ∃ z : Int, z = ((1152921504606845399 - c : Nat) : Int) := ⟨_, rfl⟩
  rw [← hN] at P2 hq
  obtain ⟨C, hC⟩ : ∃ z : Int, z = (c : Int) := ⟨_, rfl⟩
  obtain ⟨G, hG⟩ : ∃ z : Int, z = (g : Int) := ⟨_, rfl⟩
  obtain ⟨PX, hPX⟩ : ∃ z : Int, z = (p : Int) := ⟨_, rfl⟩
  obtain ⟨R, hR⟩ : ∃ z : Int, z = (resid p c g : Int) := ⟨_, rfl⟩
  rw [← hC] at hq
  have hC0 : 0 ≤ C := by omega
  have hC1 : C < 1152921504606845399 := by omega
  have hG1 : G < 1152921504606845399 := by omega
  rw [← hR] at T1 D1
  rw [← hPX] at A1 P2 D1
  rw [← hG] at P1
  rw [← hC, ← hG, ← hPX]
  generalize (powP 4 g : Int) = U at *
  generalize (powP p (1152921504606845399 - c) : Int) = V at *
  have hwN : IntKind.u64.wrap N = N := by rw [IntKind.wrap_u64]; omega
  have P2' : Hid (∀ w : World, Calls Tryd.prog 24 #[.int .u64 PX, .int .u64 (IntKind.u64.wrap N)] w fun e w' => e = .returned (.int .u64 V) ∧ w = w') := Lib.hid (fun w => by rw [hwN]; exact P2.out w)
  have hml : (m.length : Int) ≤ 2000 := by omega
  clear hN hC hG hPX hR e4 ec hrs l3 hv hp hvp hc hg hm
  generalize hM : m.length = M at *
  have B0 := Lib.hid (Kq.start w C G)
  go_enter Tryd.func20, Tryd.ntmps20
  have c0 := B0.out.c0
  have c1 := B0.out.c1
  go_wp2_with fail
  refine (A1.out _).mono ?_
  rintro e w1 ⟨rfl, rfl⟩
  have z0 := B0.out
  clear B0
  generalize w.alloc (Obj.cells #[Value.int .u64 C, Value.int .u64 G] 31) = w0 at *
  go_wp2_with fail
  go_region_held3 (fun w' => w'.cell? ⟨w.heap.size, 0, none⟩ = some (.int .u64 C) ∧ w'.cell? ⟨w.heap.size, 1, none⟩ = some (.int .u64 G) ∧ Kq w C G w') (first | (with_reducible exact Kq.all (by with_reducible assumption)) | (with_reducible exact Kq.all (Kq.drew (by with_reducible assumption))))
    (first | (go_at_call 38; refine (T1.out _).mono ?_; rintro e wc ⟨rfl, rfl⟩) | (go_at_call 24; have hva := mk1; refine (P2.out _).mono ?_; rintro e wb ⟨rfl, rfl⟩; clear hva) | (go_at_call 24; (fail_if_success (have hva := mk1)); refine (P1.out _).mono ?_; rintro e wa ⟨rfl, rfl⟩; have mk1 : True := trivial))
  have D2 := Lib.hid (fun (W' : World) (hb : Below w0.heap.size w0 W') => D1.out W' (HV.out.up2 (fun k hk => (z0.1.trans (hb.mono z0.1.size)).block k hk) (z0.1.trans (hb.mono z0.1.size)).size))
  have z1 := Kq.drew z0
  go_wp2_with fail
  go_region_held3 (fun w' => w'.cell? ⟨w.heap.size, 0, none⟩ = some (.int .u64 C) ∧ w'.cell? ⟨w.heap.size, 1, none⟩ = some (.int .u64 G) ∧ Kq w C G w') (first | (with_reducible exact Kq.all (by with_reducible assumption)) | (with_reducible exact Kq.all (Kq.drew (by with_reducible assumption))))
    (first | (go_at_call 37; refine (D2.out _ (Below.drew (Below.drew (Below.refl _ _)))).mono ?_; rintro e wd ⟨rfl, hbd⟩; have z2 := Kq.next (Kq.drew z1) hbd; clear hbd))
  go_wp2_with fail
  go_ret
  exact ⟨rfl, z2.1⟩

set_option maxHeartbeats 1000000 in
theorem rverify_bad (p c g : Nat) (va : Option Addr) (M vc : Nat) (w : World) (hp : p < 18446744073709551616) (hcl : c < 18446744073709551616) (hgl : g < 18446744073709551616)
    (h : vld p = false ∨ 65536 < M ∨ 1152921504606845399 ≤ c ∨ 1152921504606845399 ≤ g) :
    Calls Tryd.prog 20 #[.int .u64 (p : Int), .slice va M vc, .agg #[.int .u64 (c : Int), .int .u64 (g : Int)]] w fun e w' => e = .returned (.bool false) ∧ Below w.heap.size w w' := by
  have A1 := Lib.hid (fun w => rvalid_any p w hp)
  obtain ⟨C, hC⟩ : ∃ z : Int, z = (c : Int) := ⟨_, rfl⟩
  obtain ⟨G, hG⟩ : ∃ z : Int, z = (g : Int) := ⟨_, rfl⟩
  obtain ⟨PX, hPX⟩ : ∃ z : Int, z = (p : Int) := ⟨_, rfl⟩
  have h' : vld p = false ∨ 65536 < (M : Int) ∨ 1152921504606845399 ≤ C ∨ 1152921504606845399 ≤ G := by
    rcases h with h | h | h | h
    · exact .inl h
    · exact .inr (.inl (by omega))
    · exact .inr (.inr (.inl (by omega)))
    · exact .inr (.inr (.inr (by omega)))
  rw [← hPX] at A1
  rw [← hC, ← hG, ← hPX]
  generalize vld p = v at *
  clear hC hG hPX hp hcl hgl h
  have B0 := Lib.hid (Kq.start w C G)
  have c0 := B0.out.c0
  have c1 := B0.out.c1
  by_cases hM : 65536 < (M : Int)
  · clear h'
    go_enter Tryd.func20, Tryd.ntmps20
    go_wp2
    go_ret
    exact ⟨rfl, B0.out.1⟩
  · have hM' : (M : Int) ≤ 65536 := by omega
    by_cases hC : 1152921504606845399 ≤ C
    · clear h' hM
      go_enter Tryd.func20, Tryd.ntmps20
      go_wp2
      go_ret
      exact ⟨rfl, B0.out.1⟩
    · have hC' : C < 1152921504606845399 := by omega
      by_cases hG : 1152921504606845399 ≤ G
      · clear h' hM hC
        go_enter Tryd.func20, Tryd.ntmps20
        go_wp2
        go_ret
        exact ⟨rfl, B0.out.1⟩
      · have hG' : G < 1152921504606845399 := by omega
        have hv : v = false := by
          rcases h' with h | h | h | h
          · exact h
          · omega
          · omega
          · omega
        subst hv
        clear h' hM hC hG
        go_enter Tryd.func20, Tryd.ntmps20
        go_wp2_with fail
        refine (A1.out _).mono ?_
        rintro e w1 ⟨rfl, rfl⟩
        go_wp2
        go_ret
        exact ⟨rfl, B0.out.1⟩

end Go.Proofs.YtlfjcifeiihmfaaDoor
