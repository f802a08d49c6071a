/-
  Walks: Sign.
-/
import Derived.Test.YtlfjcifeiihmfaaDoorMk
namespace Go.Proofs.YtlfjcifeiihmfaaDoor
open Go.RowKit

/-- The nonce, the challenge and the response of a signature. -/
def sigK (x : Nat) (m : List Int) : Nat := (secF nonS (nb x ++ m)).toNat
def sigC (x : Nat) (m : List Int) : Int := chal (powP 4 (sigK x m)) (powP 4 x) m
def sigS (x : Nat) (m : List Int) : Int := ((sigK x m : Int) + sigC x m * (x : Int) % 1152921504606845399) % 1152921504606845399

theorem sigK_range (x : Nat) (m : List Int) : 1 ≤ sigK x m ∧ sigK x m < 1152921504606845399 := by
  have := secF_range nonS (nb x ++ m)
  unfold sigK; omega
theorem sigK_cast (x : Nat) (m : List Int) : (sigK x m : Int) = secF nonS (nb x ++ m) := by
  have := secF_range nonS (nb x ++ m)
  unfold sigK; omega

theorem results_cell_slot {P : Program} {fn : Func} {p q : Tmp} {ty : TypeId} (h : fn.results = #[.cell p ty, .tmp q]) (tmps : Array Value) (w : World) (g : Nat) (t : TypeId) (cs : Array Value) (fr : Nat × Nat) (d : TypeDesc) (x : Value)
    (hp : tmps.getD p undef = .pointer (some ⟨g, 0, none⟩)) (hq : tmps.getD q undef = x) (hg : w.heap[g]? = some (.cells cs t fr))
    (hu : P.underlying ty = some d) (hd : (match d with | .struct _ | .array _ _ => true | _ => false) = true) (hi : (P.info? ty).map (·.size) = some cs.size) :
    (results fn tmps).run P w = .ok (.tuple #[.agg cs, x]) w := by
  have hp' : tmps[p]?.getD undef = .pointer (some ⟨g, 0, none⟩) := by simpa using hp
  have hq' : tmps[q]?.getD undef = x := by simpa using hq
  simp [results, h, hp', hq', asAddr, run_loadVar_row w g t ty cs fr d hg hu hd hi]

theorem all2 (a b : Int) : ((#[Value.int .u64 a, Value.int .u64 b] : Array Value).all (·.oneCell')) = true := by simp [Value.oneCell']
theorem size31 : (Tryd.prog.info? 31).map (·.size) = some 2 := by kernel_rfl

/-- Since w nothing below has changed, and the result's block (the first new one) is as it was laid. -/
def Kp (w wk : World) : Prop := Below w.heap.size w wk ∧ wk.heap[w.heap.size]? = some (Obj.cells #[Value.int .u64 0, Value.int .u64 0] 31)
theorem Kp.start (w : World) : Kp w (w.alloc (Obj.cells #[Value.int .u64 0, Value.int .u64 0] 31)) := ⟨ball (Below.refl _ _) _, heap_alloc_new _ _⟩
theorem Kp.lt {w wk : World} (h : Kp w wk) : w.heap.size < wk.heap.size := (Array.getElem?_eq_some_iff.1 h.2).1
theorem Kp.next {w wk w' : World} (h : Kp w wk) (hb : Below wk.heap.size wk w') : Kp w w' :=
  ⟨h.1.trans (hb.mono h.1.size), (hb.block _ h.lt).trans h.2⟩
theorem Kp.alloc {w wk : World} (h : Kp w wk) (o : Obj) : Kp w (wk.alloc o) := h.next (ball (Below.refl _ _) _)

set_option maxHeartbeats 1000000 in
theorem sign_ok (x : Nat) (m : List Int) (v : Value) (w : World) (hk : KOk w) (hv : Bs (fun k => k < w.heap.size) w v m) (h0 : 0 < x) (h1 : x < 1152921504606845399) (hm : m.length ≤ 65536) :
    Calls Tryd.prog 17 #[.int .u64 (x : Int), v] w fun e w' => e = .returned (.tuple #[.agg #[.int .u64 (sigC x m), .int .u64 (sigS x m)], .int .i64 0]) ∧ Below w.heap.size w w' := by
  obtain ⟨va, vc, rfl⟩ : ∃ a c, v = .slice a m.length c := by
    obtain ⟨_, _, a, c, h, _⟩ := hv
    exact ⟨a, c, h⟩
  have A1 := Lib.hid (fun w => public_ok x w h0 h1)
  have HV := Lib.hid hv; have HK := Lib.hid hk
  have A2 := Lib.hid (fun w => bytesOf_any (x : Int) w (by omega) (by omega))
  have C1 := Lib.hid (fun (W : World) (va' : Value) ha hb => cat2 W va' (.slice va m.length vc) (nb (x : Int)) m ha hb (by rw [nb_length]; omega))
  have S1 := Lib.hid (fun (W : World) (u : Value) hk hv => secretFrom_any nonS (nb (x : Int) ++ m) u W hk hv (by decide) (by simp [nb_length]; omega))
  have hkr := sigK_range x m
  have P1 := Lib.hid (fun w => powP_any 4 (sigK x m) w (by decide) (by omega))
  have D1 := Lib.hid (fun (W : World) hk hv => challenge_any (powP 4 (sigK x m) : Int) (powP 4 x : Int) m (.slice va m.length vc) W hk hv (by have := powP_lt' 4 (sigK x m); omega) (by have := powP_lt' 4 x; omega) (by omega))
  have hcr := chal_range (powP 4 (sigK x m)) (powP 4 x) m
  have e4 : ((4 : Nat) : Int) = 4 := rfl
  rw [e4] at P1
  rw [← sigK_cast] at S1
  have hS : sigS x m = ((sigK x m : Int) + sigC x m * (x : Int) % 1152921504606845399) % 1152921504606845399 := rfl
  have hC : sigC x m = chal (powP 4 (sigK x m)) (powP 4 x) m := rfl
  rw [← hC] at D1 hcr
  have lnb := Lib.hid (nb_length (x : Int)); have rnb := Lib.hid (nb_range (x : Int))
  obtain ⟨X, hX⟩ : ∃ z : Int, z = (x : Int) := ⟨_, rfl⟩
  rw [← hX] at A1 A2 C1 S1 hS lnb rnb ⊢
  have hX1 : 1 ≤ X ∧ X < 1152921504606845399 := by omega
  generalize sigC x m = C at *
  generalize sigS x m = S at *
  obtain ⟨K, hK⟩ : ∃ z : Int, z = (sigK x m : Int) := ⟨_, rfl⟩
  rw [← hK] at S1 P1 hS
  have hK1 : 1 ≤ K ∧ K < 1152921504606845399 := by omega
  generalize (powP 4 (sigK x m) : Int) = R at *
  generalize (powP 4 x : Int) = PX at *
  have T1 := Lib.hid (fun (g : Nat) (w : World) hg => times_Q C X g w hg (by omega) (by omega) (by omega) (by omega))
  have hT : 0 ≤ C * X % 1152921504606845399 ∧ C * X % 1152921504606845399 < 1152921504606845399 := by omega
  generalize C * X % 1152921504606845399 = T at *
  subst hS
  clear hC hX hK hkr h0 h1 e4 hv hk
  have Hm := Lib.hid hm; clear hm
  have hml : (m.length : Int) ≤ 65536 := by have := Hm.out; omega
  generalize hM : m.length = M at *
  generalize nb X = NB at *
  go_enter Tryd.func17, Tryd.ntmps17
  go_wp2_with fail
  have B0 := Lib.hid (Kp.start w)
  refine (A1.out _).mono ?_
  rintro e w1 ⟨rfl, hb1⟩
  have B1 := Lib.hid (B0.out.next hb1); clear hb1
  go_wp2_with fail
  refine (A2.out _).mono ?_
  rintro e w2 ⟨u1, rfl, h2⟩
  obtain ⟨a1, k1, rfl⟩ := h2.len
  have c1 := h2.bs (by rw [lnb.out]; decide) rnb.out
  have B2 := Lib.hid (B1.out.next h2.2); clear h2
  have C2 := Lib.hid (C1.out w2 _ c1 (HV.out.up2 (fun k hk => B2.out.1.block k hk) B2.out.1.size)); clear c1
  go_wp2_with fail
  refine C2.out.mono ?_
  rintro e w3 ⟨u3, rfl, hb3, hv3⟩
  obtain ⟨a3, k3, rfl⟩ : ∃ a c, u3 = .slice a (NB ++ m).length c := by
    obtain ⟨_, _, a, c, h, _⟩ := hv3
    exact ⟨a, c, h⟩
  have B3 := Lib.hid (B2.out.next hb3); clear hb3
  have S2 := Lib.hid (S1.out w3 _ (HK.out.below B3.out.1) hv3); clear hv3
  generalize (NB ++ m).length = M2 at *
  go_wp2_with fail
  refine S2.out.mono ?_
  rintro e w4 ⟨rfl, hb4⟩
  have B4 := Lib.hid (B3.out.next hb4); clear hb4
  go_wp2_with fail
  refine (P1.out _).mono ?_
  rintro e w5 ⟨rfl, hb5⟩
  have B5 := Lib.hid (B4.out.next hb5); clear hb5
  have D2 := Lib.hid (D1.out w5 (HK.out.below B5.out.1) (HV.out.up2 (fun k hk => B5.out.1.block k hk) B5.out.1.size))
  go_wp2_with fail
  refine D2.out.mono ?_
  rintro e w6 ⟨rfl, hb6⟩
  have B6 := Lib.hid (B5.out.next hb6); clear hb6
  have H7 := pm_any 1152921504606845399 w6
  go_wp2_with fail
  refine H7.mono ?_
  rintro e w7 ⟨rfl, rfl⟩
  have T2 := T1.out w6.heap.size _ (heap_alloc_new w6 (Obj.cells #[Value.int .u64 1152921504606845399] 23))
  have B7 := Lib.hid (B6.out.alloc (Obj.cells #[Value.int .u64 1152921504606845399] 23))
  go_wp2_with fail
  refine T2.mono ?_
  rintro e w8 ⟨rfl, hb8⟩
  have B8 := Lib.hid (B7.out.next hb8); clear hb8
  have Hg8 := Lib.hid B8.out.2
  clear T2 H7
  go_wp2_with (refine wpList_store_row rfl 31 (.tmp 4) (.tmp 43) rfl w.heap.size #[.int .u64 C, .int .u64 ((K + T) % 1152921504606845399)] rfl rfl 31 _ Hg8.out size31 rfl (all2 _ _) ?_)
  refine bodyPost_ret (results_cell_slot rfl _ _ w.heap.size 31 #[.int .u64 C, .int .u64 ((K + T) % 1152921504606845399)] (0, 0) _ (.int .i64 0) rfl rfl (setRow_heap _ _ _ _ _ _ Hg8.out) Tryd.underlying31 rfl size31) rfl ?_
  exact ⟨rfl, bsetRow B8.out.1 (Nat.le_refl _) _⟩

set_option maxHeartbeats 400000 in
theorem sign_badkey (x : Int) (va : Option Addr) (M vc : Nat) (w : World) (hx : x = 0 ∨ 1152921504606845399 ≤ x) (hx0 : 0 ≤ x) (hx1 : x < 18446744073709551616) :
    Calls Tryd.prog 17 #[.int .u64 x, .slice va M vc] w fun e w' => e = .returned (.tuple #[.agg #[.int .u64 0, .int .u64 0], .int .i64 30]) ∧ Below w.heap.size w w' := by
  have A1 : Hid (∀ w : World, Calls Tryd.prog 15 #[.int .u64 x] w fun e w' => e = .returned (.tuple #[.int .u64 0, .int .i64 30]) ∧ Below w.heap.size w w') := Lib.hid (fun w => by
    have := public_bad x.toNat w (by omega)
    rw [Int.toNat_of_nonneg hx0] at this
    exact this)
  clear hx hx0 hx1
  go_enter Tryd.func17, Tryd.ntmps17
  go_wp2_with fail
  have B0 := Lib.hid (Kp.start w)
  refine (A1.out _).mono ?_
  rintro e w1 ⟨rfl, hb1⟩
  have B1 := Lib.hid (B0.out.next hb1); clear hb1
  have Hg1 := Lib.hid B1.out.2
  go_wp2_with (refine wpList_store_row rfl 31 (.tmp 4) (.tmp 17) rfl w.heap.size #[.int .u64 0, .int .u64 0] rfl rfl 31 _ Hg1.out size31 rfl (all2 _ _) ?_)
  refine bodyPost_ret (results_cell_slot rfl _ _ w.heap.size 31 #[.int .u64 0, .int .u64 0] (0, 0) _ (.int .i64 30) rfl rfl (setRow_heap _ _ _ _ _ _ Hg1.out) Tryd.underlying31 rfl size31) rfl ?_
  exact ⟨rfl, bsetRow B1.out.1 (Nat.le_refl _) _⟩

set_option maxHeartbeats 400000 in
theorem sign_long (x : Nat) (va : Option Addr) (M vc : Nat) (w : World) (h0 : 0 < x) (h1 : x < 1152921504606845399) (hM : 65536 < M) :
    Calls Tryd.prog 17 #[.int .u64 (x : Int), .slice va M vc] w fun e w' => e = .returned (.tuple #[.agg #[.int .u64 0, .int .u64 0], .int .i64 2]) ∧ Below w.heap.size w w' := by
  have A1 := Lib.hid (fun w => public_ok x w h0 h1)
  generalize (powP 4 x : Int) = PX at *
  generalize (x : Int) = X at *
  have hM' : 65536 < (M : Int) := by omega
  clear h0 h1 hM
  go_enter Tryd.func17, Tryd.ntmps17
  go_wp2_with fail
  have B0 := Lib.hid (Kp.start w)
  refine (A1.out _).mono ?_
  rintro e w1 ⟨rfl, hb1⟩
  have B1 := Lib.hid (B0.out.next hb1); clear hb1
  have Hg1 := Lib.hid B1.out.2
  go_wp2_with (refine wpList_store_row rfl 31 (.tmp 4) (.tmp 22) rfl w.heap.size #[.int .u64 0, .int .u64 0] rfl rfl 31 _ Hg1.out size31 rfl (all2 _ _) ?_)
  refine bodyPost_ret (results_cell_slot rfl _ _ w.heap.size 31 #[.int .u64 0, .int .u64 0] (0, 0) _ (.int .i64 2) rfl rfl (setRow_heap _ _ _ _ _ _ Hg1.out) Tryd.underlying31 rfl size31) rfl ?_
  exact ⟨rfl, bsetRow B1.out.1 (Nat.le_refl _) _⟩

end Go.Proofs.YtlfjcifeiihmfaaDoor
