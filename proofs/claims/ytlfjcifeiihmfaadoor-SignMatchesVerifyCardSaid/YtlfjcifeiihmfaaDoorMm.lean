/-
  Walks: Verify.
-/
import Derived.Test.YtlfjcifeiihmfaaDoorMl
namespace Go.Proofs.YtlfjcifeiihmfaaDoor
open Go.RowKit

/-- The residue that belongs to a signature and a key. -/
def resid (p c g : Nat) : Nat := powP 4 g * powP p (1152921504606845399 - c) % 2305843009213690799
theorem resid_lt (p c g : Nat) : resid p c g < 2305843009213690799 := Nat.mod_lt _ (by decide)

/-- Since w nothing below has changed, and the first new block holds the two numbers. -/
def Kq (w : World) (a b : Int) (wk : World) : Prop := Below w.heap.size w wk ∧ wk.heap[w.heap.size]? = some (Obj.cells #[Value.int .u64 a, Value.int .u64 b] 31)
theorem Kq.start (w : World) (a b : Int) : Kq w a b (w.alloc (Obj.cells #[Value.int .u64 a, Value.int .u64 b] 31)) := ⟨ball (Below.refl _ _) _, heap_alloc_new _ _⟩
theorem Kq.lt {w wk : World} {a b : Int} (h : Kq w a b wk) : w.heap.size < wk.heap.size := (Array.getElem?_eq_some_iff.1 h.2).1
theorem Kq.next {w wk w' : World} {a b : Int} (h : Kq w a b wk) (hb : Below wk.heap.size wk w') : Kq w a b w' :=
  ⟨h.1.trans (hb.mono h.1.size), (hb.block _ h.lt).trans h.2⟩
theorem Kq.alloc {w wk : World} {a b : Int} (h : Kq w a b wk) (o : Obj) : Kq w a b (wk.alloc o) := h.next (ball (Below.refl _ _) _)
theorem Kq.c0 {w wk : World} {a b : Int} (h : Kq w a b wk) : wk.cell? ⟨w.heap.size, 0, none⟩ = some (.int .u64 a) := by
  rw [cell_of_row wk w.heap.size 0 _ 31 (0, 0) h.2]; rfl
theorem Kq.c1 {w wk : World} {a b : Int} (h : Kq w a b wk) : wk.cell? ⟨w.heap.size, 1, none⟩ = some (.int .u64 b) := by
  rw [cell_of_row wk w.heap.size 1 _ 31 (0, 0) h.2]; rfl

/-- .. and the block g holds the modulus. -/
structure VS (w : World) (g : Nat) (a b : Int) (w' : World) : Prop where
  q : Kq w a b w'
  m : w'.heap[g]? = some (Obj.cells #[Value.int .u64 2305843009213690799] 23)

theorem VS.next {w w' w2 : World} {g : Nat} {a b : Int} (h : VS w g a b w') (hb : Below w'.heap.size w' w2) : VS w g a b w2 :=
  ⟨h.q.next hb, (hb.block _ (Array.getElem?_eq_some_iff.1 h.m).1).trans h.m⟩
theorem VS.drew {w w' : World} {g : Nat} {a b : Int} (h : VS w g a b w') : VS w g a b w'.drew := h.next (Below.drew (Below.refl _ _))
theorem VS.all {w w' : World} {g : Nat} {a b : Int} (h : VS w g a b w') : w'.cell? ⟨w.heap.size, 0, none⟩ = some (.int .u64 a) ∧ w'.cell? ⟨w.heap.size, 1, none⟩ = some (.int .u64 b) ∧ VS w g a b w' := ⟨h.q.c0, h.q.c1, h⟩

set_option maxHeartbeats 1000000 in
theorem verify_ok (p c g : Nat) (m : List Int) (v : Value) (w : World) (hk : KOk w) (hv : Bs (fun k => k < w.heap.size) w v m) (hp : p < 18446744073709551616) (hvp : vld p = true) (hc : c < 1152921504606845399) (hg : g < 1152921504606845399) (hm : m.length ≤ 65536) :
    Calls Tryd.prog 19 #[.int .u64 (p : Int), v, .agg #[.int .u64 (c : Int), .int .u64 (g : Int)]] w fun e w' => e = .returned (.bool ((c : Int) == chal (resid p c g) p m)) ∧ Below w.heap.size w w' := by
  obtain ⟨va, vc, rfl⟩ : ∃ a c, v = .slice a m.length c := by
    obtain ⟨_, _, a, c, h, _⟩ := hv
    exact ⟨a, c, h⟩
  have A1 := Lib.hid (fun w => valid_any p w hp)
  rw [hvp] at A1
  have HV := Lib.hid hv; have HK := Lib.hid hk
  have P1 := Lib.hid (fun w => powP_any 4 g w (by decide) (by omega))
  have P2 := Lib.hid (fun w => powP_any p (1152921504606845399 - c) w hp (by omega))
  have l1 := powP_lt' 4 g
  have l2 := powP_lt' p (1152921504606845399 - c)
  have T1 := Lib.hid (fun (k : Nat) (w : World) hg => times_P (powP 4 g : Int) (powP p (1152921504606845399 - c) : Int) k w hg (by omega) (by omega) (by omega) (by omega))
  have hT : (powP 4 g : Int) * (powP p (1152921504606845399 - c) : Int) % 2305843009213690799 = (resid p c g : Int) := by
    unfold resid
    rw [Int.natCast_emod, Int.natCast_mul]; rfl
  rw [hT] at T1
  have l3 := resid_lt p c g
  have D1 := Lib.hid (fun (W : World) hk hv => challenge_any (resid p c g : Int) (p : Int) m (.slice va m.length vc) W hk hv (by omega) (by omega) (by omega))
  have e4 : ((4 : Nat) : Int) = 4 := rfl
  rw [e4] at P1
  have hq : (1152921504606845399 : Int) - (c : Int) = ((1152921504606845399 - c : Nat) : Int) := by omega
  generalize chal (resid p c g) p m = Z at *
  obtain ⟨N, hN⟩ : ∃ z : Int, z = ((1152921504606845399 - c : Nat) : Int) := ⟨_, rfl⟩
  rw [← hN] at P2 hq
  obtain ⟨C, hC⟩ : ∃ z : Int, z = (c : Int) := ⟨_, rfl⟩
  obtain ⟨G, hG⟩ : ∃ z : Int, z = (g : Int) := ⟨_, rfl⟩
  obtain ⟨PX, hPX⟩ : ∃ z : Int, z = (p : Int) := ⟨_, rfl⟩
  obtain ⟨R, hR⟩ : ∃ z : Int, z = (resid p c g : Int) := ⟨_, rfl⟩
  rw [← hC] at hq
  have hC1 : C < 1152921504606845399 := by omega
  have hG1 : G < 1152921504606845399 := by omega
  rw [← hR] at T1 D1
  rw [← hPX] at A1 P2 D1
  rw [← hG] at P1
  rw [← hC, ← hG, ← hPX]
  generalize (powP 4 g : Int) = U at *
  generalize (powP p (1152921504606845399 - c) : Int) = V at *
  have hwN : IntKind.u64.wrap N = N := by rw [IntKind.wrap_u64]; omega
  have P2' : Hid (∀ w : World, Calls Tryd.prog 23 #[.int .u64 PX, .int .u64 (IntKind.u64.wrap N)] w fun e w' => e = .returned (.int .u64 V) ∧ Below w.heap.size w w') := Lib.hid (fun w => by rw [hwN]; exact P2.out w)
  have hml : (m.length : Int) ≤ 65536 := by omega
  clear hwN P2 hN hC hG hPX hR e4 hT l1 l2 l3 hk hv hp hvp hc hg hm
  generalize hM : m.length = M at *
  have B0 := Lib.hid (Kq.start w C G)
  go_enter Tryd.func19, Tryd.ntmps19
  go_wp2_with fail
  refine (A1.out _).mono ?_
  rintro e w1 ⟨rfl, hb1⟩
  have B1 := Lib.hid (B0.out.next hb1); clear hb1
  have c0 := B1.out.c0
  have c1 := B1.out.c1
  have H7 := pm_any 2305843009213690799 w1
  go_wp2_with fail
  refine H7.mono ?_
  rintro e w2 ⟨rfl, rfl⟩
  have B2 := Lib.hid (B1.out.alloc (Obj.cells #[Value.int .u64 2305843009213690799] 23))
  have v0 : VS w w1.heap.size C G (w1.alloc (Obj.cells #[Value.int .u64 2305843009213690799] 23)) := ⟨B2.out, heap_alloc_new _ _⟩
  clear c0 c1 H7 B2
  generalize w1.alloc (Obj.cells #[Value.int .u64 2305843009213690799] 23) = w2 at *
  have c0 := v0.q.c0
  have c1 := v0.q.c1
  go_wp2_with fail
  go_region_held3 (fun w' => w'.cell? ⟨w.heap.size, 0, none⟩ = some (.int .u64 C) ∧ w'.cell? ⟨w.heap.size, 1, none⟩ = some (.int .u64 G) ∧ VS w w1.heap.size C G w') (first | (with_reducible exact VS.all (by with_reducible assumption)) | (with_reducible exact VS.all (VS.drew (by with_reducible assumption))))
    (first | (go_at_call 45; refine (T1.out _ _ vs2.m).mono ?_; rintro e wc ⟨rfl, hbc⟩; have vs3 := VS.next vs2 hbc; clear hbc) | (go_at_call 23; have hva := vs1; refine (P2'.out _).mono ?_; rintro e wb ⟨rfl, hbb⟩; have vs2 := VS.next hva hbb; clear hbb hva) | (go_at_call 23; (fail_if_success (have hva := vs1)); refine (P1.out _).mono ?_; rintro e wa ⟨rfl, hba⟩; have vs1 := VS.next (VS.drew v0) hba; clear hba))
  have D2 := Lib.hid (fun W' hb => D1.out W' (HK.out.below (vs3.q.1.trans (Below.mono (B := wc.heap.size) hb vs3.q.1.size))) (HV.out.up2 (fun k hk => (vs3.q.1.trans (Below.mono (B := wc.heap.size) hb vs3.q.1.size)).block k hk) (vs3.q.1.trans (Below.mono (B := wc.heap.size) hb vs3.q.1.size)).size))
  go_wp2_with fail
  go_region_held3 (fun w' => w'.cell? ⟨w.heap.size, 0, none⟩ = some (.int .u64 C) ∧ w'.cell? ⟨w.heap.size, 1, none⟩ = some (.int .u64 G) ∧ VS w w1.heap.size C G w') (first | (with_reducible exact VS.all (by with_reducible assumption)) | (with_reducible exact VS.all (VS.drew (by with_reducible assumption))))
    (first | (go_at_call 34; refine (D2.out _ (Below.drew (Below.refl _ _))).mono ?_; rintro e wd ⟨rfl, hbd⟩; have vs4 := VS.next (VS.drew vs3) hbd; clear hbd))
  go_wp2_with fail
  go_ret
  exact ⟨rfl, vs4.q.1⟩

set_option maxHeartbeats 1000000 in
theorem verify_bad (p c g : Nat) (va : Option Addr) (M vc : Nat) (w : World) (hp : p < 18446744073709551616) (hcl : c < 18446744073709551616) (hgl : g < 18446744073709551616)
    (h : vld p = false ∨ 65536 < M ∨ 1152921504606845399 ≤ c ∨ 1152921504606845399 ≤ g) :
    Calls Tryd.prog 19 #[.int .u64 (p : Int), .slice va M vc, .agg #[.int .u64 (c : Int), .int .u64 (g : Int)]] w fun e w' => e = .returned (.bool false) ∧ Below w.heap.size w w' := by
  have A1 := Lib.hid (fun w => valid_any p w hp)
  obtain ⟨C, hC⟩ : ∃ z : Int, z = (c : Int) := ⟨_, rfl⟩
  obtain ⟨G, hG⟩ : ∃ z : Int, z = (g : Int) := ⟨_, rfl⟩
  obtain ⟨PX, hPX⟩ : ∃ z : Int, z = (p : Int) := ⟨_, rfl⟩
  have h' : vld p = false ∨ 65536 < (M : Int) ∨ 1152921504606845399 ≤ C ∨ 1152921504606845399 ≤ G := by
    rcases h with h | h | h | h
    · exact .inl h
    · exact .inr (.inl (by omega))
    · exact .inr (.inr (.inl (by omega)))
    · exact .inr (.inr (.inr (by omega)))
  rw [← hPX] at A1
  rw [← hC, ← hG, ← hPX]
  generalize vld p = v at *
  clear hC hG hPX hp hcl hgl h
  have B0 := Lib.hid (Kq.start w C G)
  cases v with
  | false =>
    clear h'
    go_enter Tryd.func19, Tryd.ntmps19
    go_wp2_with fail
    refine (A1.out _).mono ?_
    rintro e w1 ⟨rfl, hb1⟩
    have B1 := Lib.hid (B0.out.next hb1); clear hb1
    go_wp2
    go_ret
    exact ⟨rfl, B1.out.1⟩
  | true =>
    by_cases hM : 65536 < (M : Int)
    · clear h'
      go_enter Tryd.func19, Tryd.ntmps19
      go_wp2_with fail
      refine (A1.out _).mono ?_
      rintro e w1 ⟨rfl, hb1⟩
      have B1 := Lib.hid (B0.out.next hb1); clear hb1
      go_wp2
      go_ret
      exact ⟨rfl, B1.out.1⟩
    · have hM' : (M : Int) ≤ 65536 := by omega
      by_cases hC : 1152921504606845399 ≤ C
      · clear h' hM
        go_enter Tryd.func19, Tryd.ntmps19
        go_wp2_with fail
        refine (A1.out _).mono ?_
        rintro e w1 ⟨rfl, hb1⟩
        have B1 := Lib.hid (B0.out.next hb1); clear hb1
        have c0 := B1.out.c0
        have c1 := B1.out.c1
        go_wp2
        go_ret
        exact ⟨rfl, B1.out.1⟩
      · have hG : 1152921504606845399 ≤ G := by
          rcases h' with h | h | h | h
          · cases h
          · omega
          · omega
          · exact h
        clear h' hM
        have hC' : C < 1152921504606845399 := by omega
        clear hC
        go_enter Tryd.func19, Tryd.ntmps19
        go_wp2_with fail
        refine (A1.out _).mono ?_
        rintro e w1 ⟨rfl, hb1⟩
        have B1 := Lib.hid (B0.out.next hb1); clear hb1
        have c0 := B1.out.c0
        have c1 := B1.out.c1
        go_wp2
        go_ret
        exact ⟨rfl, B1.out.1⟩

end Go.Proofs.YtlfjcifeiihmfaaDoor
