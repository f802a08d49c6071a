/-
  The statement 'Rows.SignLimitsCardSaid': for all seeds, messages and numbers the law of the limits returns true; the arguments read as they did.
-/
import Derived.Test.YtlfjcifeiihmfaaDoorNv
import Derived.Test.YtlfjcifeiihmfaaDoorMs
import Derived.Test.YtlfjcifeiihmfaaDoorLw
import Derived.ChangeMaps5
namespace Go.Proofs.YtlfjcifeiihmfaaDoor.signLimits
open Go.ChangeShapes Go.WideShapes Go.ChangeAt Go.RowKit
set_option linter.unusedVariables false

theorem vld_mid (x : Nat) (h : 2 ≤ x) (h1 : x < 2305843009213690799) : vld x = decide (powP x 1152921504606845399 = 1) := by
  unfold vld
  rw [decide_eq_true h, decide_eq_true h1, Bool.true_and, Bool.true_and]

theorem powP_iff (x n : Nat) (h : x ^ n % PP = 1 ↔ ¬ ((PP - x) ^ n % PP = 1)) : powP x n = 1 ↔ ¬ powP (PP - x) n = 1 := h

theorem vld_neg (x : Nat) (h : 2 ≤ x) (h1 : x < 2305843009213690798) : vld (2305843009213690799 - x) = !vld x := by
  rw [vld_mid x h (by omega), vld_mid _ (by omega) (by omega), lit_Q, lit_P]
  have hh := powP_iff x _ (halves (x := x) (by omega) (by rw [← lit_P]; omega))
  by_cases c : powP x QQ = 1
  · rw [decide_eq_true c, decide_eq_false (hh.1 c), Bool.not_true]
  · have : powP (PP - x) QQ = 1 := Classical.byContradiction fun n => c (hh.2 n)
    rw [decide_eq_false c, decide_eq_true this, Bool.not_false]

theorem vld_range (x : Nat) (h : vld x = true) : 2 ≤ x ∧ x < 2305843009213690798 := by
  have hne : x ≠ 2305843009213690798 := by
    rintro rfl
    have : vld 2305843009213690798 = false := by unfold vld; rw [powP_pw _ _ (by decide)]; decide +kernel
    rw [this] at h; cases h
  unfold vld at h
  rw [Bool.and_eq_true, Bool.and_eq_true, decide_eq_true_iff, decide_eq_true_iff] at h
  omega

theorem vld_minus (x : Nat) (h : vld x = true) : vld (2305843009213690799 - x) = false := by
  obtain ⟨h1, h2⟩ := vld_range x h
  rw [vld_neg x h1 h2, h, Bool.not_true]

theorem vld_plus (x : Nat) : vld (x + 2305843009213690799) = false := by
  unfold vld
  rw [decide_eq_false (show ¬ x + 2305843009213690799 < 2305843009213690799 by omega), Bool.false_and, Bool.and_false]

/-- The three signatures of the law lie in the blocks p, g, h. -/
structure LS (w : World) (p g h : Nat) (C G : Int) (w' : World) : Prop where
  b : Below w.heap.size w w'
  s : w'.heap[p]? = some (Obj.cells #[Value.int .u64 C, Value.int .u64 G] 31)
  x : w'.heap[g]? = some (Obj.cells #[Value.int .u64 (C + 1152921504606845399), Value.int .u64 G] 31)
  y : w'.heap[h]? = some (Obj.cells #[Value.int .u64 C, Value.int .u64 (G + 1152921504606845399)] 31)

theorem LS.next {w w' w2 : World} {p g h : Nat} {C G : Int} (H : LS w p g h C G w') (hb : Below w'.heap.size w' w2) : LS w p g h C G w2 :=
  ⟨H.b.trans (hb.mono H.b.size), (hb.block _ (Array.getElem?_eq_some_iff.1 H.s).1).trans H.s, (hb.block _ (Array.getElem?_eq_some_iff.1 H.x).1).trans H.x, (hb.block _ (Array.getElem?_eq_some_iff.1 H.y).1).trans H.y⟩

theorem cell2 {w : World} {p : Nat} {a b : Int} (h : w.heap[p]? = some (Obj.cells #[Value.int .u64 a, Value.int .u64 b] 31)) : w.cell? ⟨p, 0, none⟩ = some (.int .u64 a) ∧ w.cell? ⟨p, 1, none⟩ = some (.int .u64 b) :=
  ⟨by rw [cell_of_row w p 0 _ 31 (0, 0) h]; rfl, by rw [cell_of_row w p 1 _ 31 (0, 0) h]; rfl⟩

theorem LS.all {w w' : World} {p g h : Nat} {C G : Int} (H : LS w p g h C G w') :
    w'.cell? ⟨p, 0, none⟩ = some (.int .u64 C) ∧ w'.cell? ⟨p, 1, none⟩ = some (.int .u64 G) ∧ w'.cell? ⟨g, 0, none⟩ = some (.int .u64 (C + 1152921504606845399)) ∧ w'.cell? ⟨g, 1, none⟩ = some (.int .u64 G) ∧ w'.cell? ⟨h, 0, none⟩ = some (.int .u64 C) ∧ w'.cell? ⟨h, 1, none⟩ = some (.int .u64 (G + 1152921504606845399)) :=
  ⟨(cell2 H.s).1, (cell2 H.s).2, (cell2 H.x).1, (cell2 H.x).2, (cell2 H.y).1, (cell2 H.y).2⟩

set_option maxRecDepth 100000 in
set_option maxHeartbeats 4000000 in
theorem walk (b m : List Int) (a : Option Addr) (k : Nat) (a' : Option Addr) (k' : Nat) (d : Int) (w : World) (hk : KOk w) (hv : Bs (fun k => k < w.heap.size) w (.slice a b.length k) b) (hv' : Bs (fun k => k < w.heap.size) w (.slice a' m.length k') m) (hd : 0 ≤ d ∧ d < 18446744073709551616) :
    Calls Tryd.prog 10 #[.slice a b.length k, .slice a' m.length k', .int .u64 d] w fun e w' => e = .returned (.bool true) ∧ Below w.heap.size w w' := by
  have HK := Lib.hid hk; have HV := Lib.hid hv; have HV' := Lib.hid hv'
  clear hk hv hv'
  by_cases h1 : 1 ≤ b.length
  · by_cases h2 : b.length ≤ 64
    · by_cases h3 : m.length ≤ 200
      · obtain ⟨x, hx⟩ : ∃ x : Nat, (x : Int) = secF secS b := ⟨(secF secS b).toNat, by have := secF_range secS b; omega⟩
        have hxr := secF_range secS b
        have x0 : 0 < x := by omega
        have x1 : x < 1152921504606845399 := by omega
        have S1 := Lib.hid (fun W hk hv => secret_ok b a k W hk hv (by omega) h2)
        rw [← hx] at S1
        have P1 := Lib.hid (fun w => public_ok x w x0 x1)
        have G1 := Lib.hid (fun W hk hv => sign_ok x m (.slice a' m.length k') W hk hv x0 x1 (by omega))
        have L1 := Lib.hid (fun (g : Option Addr) w => sign_long x g 65537 65537 w x0 x1 (by decide))
        obtain ⟨c, g, hc, hg, cl, gl, _⟩ := sig_nat x m
        have hvp := vld_pub x x0 x1
        have pl := powP_lt' 4 x
        obtain ⟨p1, p2⟩ := vld_range _ hvp
        have F1 := Lib.hid (fun (g' : Option Addr) w => verify_bad (powP 4 x) c g g' 65537 65537 w pl (by omega) (by omega) (.inr (.inl (by decide))))
        have F2 := Lib.hid (fun w => verify_bad (powP 4 x) (c + 1152921504606845399) g a' m.length k' w pl (by omega) (by omega) (.inr (.inr (.inl (by omega)))))
        have F3 := Lib.hid (fun w => verify_bad (powP 4 x) c (g + 1152921504606845399) a' m.length k' w pl (by omega) (by omega) (.inr (.inr (.inr (by omega)))))
        have F4 := Lib.hid (fun w => verify_bad (2305843009213690799 - powP 4 x) c g a' m.length k' w (by omega) (by omega) (by omega) (.inl (vld_minus _ hvp)))
        have F5 := Lib.hid (fun w => verify_bad (powP 4 x + 2305843009213690799) c g a' m.length k' w (by omega) (by omega) (by omega) (.inl (vld_plus _)))
        obtain ⟨D, hD⟩ : ∃ D : Nat, (D : Int) = 1152921504606845399 + d % 1152921504606845399 := ⟨(1152921504606845399 + d % 1152921504606845399).toNat, by omega⟩
        have F6 := Lib.hid (fun w => verify_bad (powP 4 x) D g a' m.length k' w pl (by omega) (by omega) (.inr (.inr (.inl (by omega)))))
        rw [hc, hg] at G1
        rw [hD] at F6
        obtain ⟨X, hX⟩ : ∃ z : Int, z = (x : Int) := ⟨_, rfl⟩
        obtain ⟨C, hC⟩ : ∃ z : Int, z = (c : Int) := ⟨_, rfl⟩
        obtain ⟨G, hG⟩ : ∃ z : Int, z = (g : Int) := ⟨_, rfl⟩
        obtain ⟨PX, hPX⟩ : ∃ z : Int, z = (powP 4 x : Int) := ⟨_, rfl⟩
        have C1 : 0 ≤ C ∧ C < 1152921504606845399 := by omega
        have G2 : 0 ≤ G ∧ G < 1152921504606845399 := by omega
        have PX1 : 2 ≤ PX ∧ PX < 2305843009213690798 := by omega
        have e2 : ((c + 1152921504606845399 : Nat) : Int) = C + 1152921504606845399 := by omega
        have e3 : ((g + 1152921504606845399 : Nat) : Int) = G + 1152921504606845399 := by omega
        have e4 : ((2305843009213690799 - powP 4 x : Nat) : Int) = 2305843009213690799 - PX := by omega
        have e5 : ((powP 4 x + 2305843009213690799 : Nat) : Int) = PX + 2305843009213690799 := by omega
        rw [e2] at F2
        rw [e3] at F3
        rw [e4] at F4
        rw [e5] at F5
        rw [← hX] at S1 P1 G1 L1
        rw [← hPX] at P1 F1 F2 F3 F6
        rw [← hC, ← hG] at G1 F1 F4 F5
        rw [← hG] at F2 F6
        rw [← hC] at F3
        have hd0 := hd.1
        clear hX hC hG hPX hvp pl hc hg cl gl hx hxr x0 x1 e2 e3 e4 e5 p1 p2 hD hd
        have l1 : 1 ≤ (b.length : Int) := by omega
        have l2 : (b.length : Int) ≤ 64 := by omega
        have l3 : (m.length : Int) ≤ 200 := by omega
        clear h1 h2 h3
        generalize hM : m.length = M at *
        generalize hN : b.length = N at *
        go_enter Tryd.func10, Tryd.ntmps10
        go_wp2_with fail
        refine (sane_true _).mono ?_
        rintro e w1 ⟨rfl, hb1⟩
        have B1 := Lib.hid hb1; clear hb1
        have S2 := Lib.hid (S1.out w1 (HK.out.below B1.out) (HV.out.up2 (fun k hk => B1.out.block k hk) B1.out.size))
        go_wp2_with fail
        refine S2.out.mono ?_
        rintro e w2 ⟨rfl, hb2⟩
        have B2 := Lib.hid (B1.out.trans (hb2.mono B1.out.size)); clear hb2
        go_wp2_with fail
        refine (P1.out _).mono ?_
        rintro e w3 ⟨rfl, hb3⟩
        have B3 := Lib.hid (B2.out.trans (hb3.mono B2.out.size)); clear hb3
        have G3 := Lib.hid (G1.out w3 (HK.out.below B3.out) (HV'.out.up2 (fun k hk => B3.out.block k hk) B3.out.size))
        go_wp2_with fail
        refine G3.out.mono ?_
        rintro e w4 ⟨rfl, hb4⟩
        have B4 := Lib.hid (B3.out.trans (hb4.mono B3.out.size)); clear hb4
        obtain ⟨w5, hw5⟩ : ∃ w5, w5 = w4.alloc (Obj.cells #[Value.int .u64 C, Value.int .u64 G] 31) := ⟨_, rfl⟩
        have Q5 := Lib.hid (show Kq w4 C G w5 by rw [hw5]; exact Kq.start w4 C G)
        obtain ⟨o, ho⟩ : ∃ o, o = Obj.cells (madeCells #[Value.int .u8 0] 65537) 5 := ⟨_, rfl⟩
        have hmk : (Instr.makeSlice 22 (.int .i64 65537) (.int .i64 65537)).run Tryd.prog (w4.alloc (Obj.cells #[Value.int .u64 C, Value.int .u64 G] 31)) = .ok (.slice (some ⟨(w4.alloc (Obj.cells #[Value.int .u64 C, Value.int .u64 G] 31)).heap.size, 0, none⟩) 65537 65537) ((w4.alloc (Obj.cells #[Value.int .u64 C, Value.int .u64 G] 31)).alloc o) := by
          rw [ho]; exact run_makeN 65537 (by decide) _
        clear ho
        go_wp2_with fail
        refine (L1.out _ _).mono ?_
        rintro e w6 ⟨rfl, hb6⟩
        rw [← hw5] at hb6
        have Q6 := Lib.hid ((Q5.out.alloc o).next hb6); clear hb6 hmk
        have c0 := (Q6.out.alloc (Obj.cells #[Value.int .u64 0, Value.int .u64 0] 31)).c0
        have c1 := (Q6.out.alloc (Obj.cells #[Value.int .u64 0, Value.int .u64 0] 31)).c1
        have d0 := ((Q6.out.alloc (Obj.cells #[Value.int .u64 0, Value.int .u64 0] 31)).alloc (Obj.cells #[Value.int .u64 (C + 1152921504606845399), Value.int .u64 G] 31)).c0
        have d1 := ((Q6.out.alloc (Obj.cells #[Value.int .u64 0, Value.int .u64 0] 31)).alloc (Obj.cells #[Value.int .u64 (C + 1152921504606845399), Value.int .u64 G] 31)).c1
        have hL : LS w w4.heap.size (w6.heap.size + 1) (w6.heap.size + 1 + 1) C G (((w6.alloc (Obj.cells #[Value.int .u64 0, Value.int .u64 0] 31)).alloc (Obj.cells #[Value.int .u64 (C + 1152921504606845399), Value.int .u64 G] 31)).alloc (Obj.cells #[Value.int .u64 C, Value.int .u64 (G + 1152921504606845399)] 31)) := by
          have A3 := (((Q6.out.alloc (Obj.cells #[Value.int .u64 0, Value.int .u64 0] 31)).alloc (Obj.cells #[Value.int .u64 (C + 1152921504606845399), Value.int .u64 G] 31)).alloc (Obj.cells #[Value.int .u64 C, Value.int .u64 (G + 1152921504606845399)] 31))
          refine ⟨B4.out.trans (A3.1.mono B4.out.size), A3.2, ?_, ?_⟩
          · have h1 := heap_alloc_new (w6.alloc (Obj.cells #[Value.int .u64 0, Value.int .u64 0] 31)) (Obj.cells #[Value.int .u64 (C + 1152921504606845399), Value.int .u64 G] 31)
            have e1 : (w6.alloc (Obj.cells #[Value.int .u64 0, Value.int .u64 0] 31)).heap.size = w6.heap.size + 1 := by simp
            rw [e1] at h1
            exact (heap_alloc_old _ _ (by simp)).trans h1
          · have h1 := heap_alloc_new ((w6.alloc (Obj.cells #[Value.int .u64 0, Value.int .u64 0] 31)).alloc (Obj.cells #[Value.int .u64 (C + 1152921504606845399), Value.int .u64 G] 31)) (Obj.cells #[Value.int .u64 C, Value.int .u64 (G + 1152921504606845399)] 31)
            have e1 : ((w6.alloc (Obj.cells #[Value.int .u64 0, Value.int .u64 0] 31)).alloc (Obj.cells #[Value.int .u64 (C + 1152921504606845399), Value.int .u64 G] 31)).heap.size = w6.heap.size + 1 + 1 := by simp
            rw [e1] at h1
            exact h1
        have L7 := Lib.hid hL
        obtain ⟨x0, x1, x2, x3, x4, x5⟩ := hL.all
        clear hL
        go_wp2_with fail
        refine (F1.out _ _).mono ?_
        rintro e w7 ⟨rfl, hb7⟩
        have L8 := Lib.hid (L7.out.next hb7); clear hb7 L7 x0 x1 x2 x3 x4 x5 c0 c1 d0 d1
        obtain ⟨x0, x1, x2, x3, x4, x5⟩ := L8.out.all
        go_wp2_with fail
        refine (F2.out _).mono ?_
        rintro e w8 ⟨rfl, hb8⟩
        have L9 := Lib.hid (L8.out.next hb8); clear hb8 L8 x0 x1 x2 x3 x4 x5
        obtain ⟨x0, x1, x2, x3, x4, x5⟩ := L9.out.all
        go_wp2_with fail
        refine (F3.out _).mono ?_
        rintro e w9 ⟨rfl, hb9⟩
        have L10 := Lib.hid (L9.out.next hb9); clear hb9 L9 x0 x1 x2 x3 x4 x5
        obtain ⟨x0, x1, x2, x3, x4, x5⟩ := L10.out.all
        go_wp2_with fail
        refine (F4.out _).mono ?_
        rintro e w10 ⟨rfl, hb10⟩
        have L11 := Lib.hid (L10.out.next hb10); clear hb10 L10 x0 x1 x2 x3 x4 x5
        obtain ⟨x0, x1, x2, x3, x4, x5⟩ := L11.out.all
        go_wp2_with fail
        refine (F5.out _).mono ?_
        rintro e w11 ⟨rfl, hb11⟩
        have L12 := Lib.hid (L11.out.next hb11); clear hb11 L11 x0 x1 x2 x3 x4 x5
        obtain ⟨x0, x1, x2, x3, x4, x5⟩ := L12.out.all
        go_wp2_with fail
        refine (F6.out _).mono ?_
        rintro e w12 ⟨rfl, hb12⟩
        have L13 := Lib.hid (L12.out.next hb12); clear hb12 L12 x0 x1 x2 x3 x4 x5
        go_wp2
        go_ret
        exact ⟨rfl, L13.out.b⟩
      · have l3 : 200 < (m.length : Int) := by omega
        clear h1 h2 h3
        generalize m.length = M at *
        generalize b.length = N at *
        go_enter Tryd.func10, Tryd.ntmps10
        go_wp2_with fail
        refine (sane_true _).mono ?_
        rintro e w1 ⟨rfl, hb1⟩
        have B1 := Lib.hid hb1; clear hb1
        go_wp2
        all_goals go_ret
        all_goals exact ⟨rfl, B1.out⟩
    · have l3 : 64 < (b.length : Int) := by omega
      clear h1 h2
      generalize m.length = M at *
      generalize b.length = N at *
      go_enter Tryd.func10, Tryd.ntmps10
      go_wp2_with fail
      refine (sane_true _).mono ?_
      rintro e w1 ⟨rfl, hb1⟩
      have B1 := Lib.hid hb1; clear hb1
      go_wp2
      all_goals go_ret
      all_goals exact ⟨rfl, B1.out⟩
  · have l3 : (b.length : Int) < 1 := by omega
    clear h1
    generalize m.length = M at *
    generalize b.length = N at *
    go_enter Tryd.func10, Tryd.ntmps10
    go_wp2_with fail
    refine (sane_true _).mono ?_
    rintro e w1 ⟨rfl, hb1⟩
    have B1 := Lib.hid hb1; clear hb1
    go_wp2
    all_goals go_ret
    all_goals exact ⟨rfl, B1.out⟩


/-- The door's own heap meets the condition. -/
theorem door_met (os : Os) (args : Array Value) : laidMetH Tryd.prog Rows.signLimitsRow.laid ((World.doorLaid Tryd.prog 400 os).forCall (fun _ _ => 0) ⟨#[], args, []⟩).memory :=
  laidMetH_of_parts3 (fuel := 8) (laidMet_of_run' 8 (by kernel_rfl) (by kernel_rfl)) (by kernel_rfl) (by kernel_rfl)

set_option maxRecDepth 100000 in
theorem lifted (os : Os) (started : os.Started) (H : Type) (enc : TypeId × Value → H) :
    ReturnsInHanded {} Tryd.checked os 10 .any (fun w args => (Rows.signLimitsSpec.pre enc Tryd.prog Tryd.f10 [] false w args ∧ laidMetH Tryd.prog Rows.signLimitsRow.laid w) ∧ sizedMet enc Tryd.prog Tryd.f10 (OpenSpec.ofChange Rows.signLimitsSpec) false w args)
      (Rows.signLimitsSpec.post enc Tryd.prog Tryd.f10 false true false false) := by
  refine returnsInHanded_of_change_and (C := Tryd.checked) (X := fun w _ => laidMetH Tryd.prog Rows.signLimitsRow.laid w) (fun _ _ _ hh h => h.of_heap hh) own started (by kernel_rfl) Tryd.func10
    (ChangeSpec.witness_shaped (enc := enc) (C := Tryd.checked) (os := os) (X := fun w _ => laidMetH Tryd.prog Rows.signLimitsRow.laid w) false (World.doorLaid Tryd.prog 400 os) #[.slice none 0 0, .slice none 0 0, .int .u64 0] 8 rfl (World.shaped_of_RefB (by kernel_rfl) (by kernel_rfl)) (by kernel_rfl) (by kernel_rfl) (by kernel_rfl) (door_met os _)) ?_
  intro W base args ds gs before hval0 hW _ hsz0 hL _
  have hsz : (DataW.weightsEach Tryd.prog (Tryd.f10.params.toList ++ Rows.signLimitsSpec.plain.varTypes Tryd.prog) (ds ++ gs)).all (· ≤ reachBytes) = true := hsz0
  have hval : ∀ (j : Nat) t v, Tryd.f10.params[j]? = some t → args[j]? = some v → Value.okWide Tryd.prog W .any base t v := hval0
  clear hsz0 hval0
  have hW' := hW
  obtain ⟨p, q, hA0, hV, rfl, hfz, hnd⟩ := hW
  have hA : DataW.TrodAll enc Tryd.prog W 0 (fun _ => true) true Tryd.f10.params.toList args.toList ds p := hA0
  rw [Tryd.params10] at hA hval hsz
  obtain ⟨v0, vs0, d0, ds0, p0, q0, hargs, rfl, rfl, h0, r0⟩ := trodAll_cons hA
  obtain ⟨v1, vs1, d1, ds1, p1, q1, rfl, rfl, rfl, h1, r1⟩ := trodAll_cons r0
  obtain ⟨v2, vs2, d2, ds2, p2, q2, rfl, rfl, rfl, h2, r2⟩ := trodAll_cons r1
  obtain ⟨rfl, rfl, rfl⟩ := trodAll_nil r2
  obtain rfl : args = #[v0, v1, v2] := by cases args; simp_all
  obtain ⟨rfl, rfl⟩ := trodVars_none hV
  have hw0 : ∀ n ∈ d0.weights Tryd.prog 22, n ≤ reachBytes := by
    intro n hn
    have := List.all_eq_true.1 hsz n (DataW.weights_mem_each (t := 22) (d := d0) (j := 0) rfl rfl n hn)
    simpa using this
  obtain ⟨oa0, ol0, oc0, rfl⟩ := okWide_slice Tryd.underlying22 (hval 0 22 v0 rfl rfl)
  obtain ⟨fu0, hf0⟩ := h0
  obtain ⟨b0, hb0⟩ := openB (v := .slice oa0 ol0 oc0) hf0 hw0
  obtain rfl : ol0 = b0.length := by
    obtain ⟨_, _, _, _, e, _⟩ := hb0
    simp only [Value.slice.injEq] at e
    exact e.2.1
  have hw1 : ∀ n ∈ d1.weights Tryd.prog 22, n ≤ reachBytes := by
    intro n hn
    have := List.all_eq_true.1 hsz n (DataW.weights_mem_each (t := 22) (d := d1) (j := 1) rfl rfl n hn)
    simpa using this
  obtain ⟨oa1, ol1, oc1, rfl⟩ := okWide_slice Tryd.underlying22 (hval 1 22 v1 rfl rfl)
  obtain ⟨fu1, hf1⟩ := h1
  obtain ⟨b1, hb1⟩ := openB (v := .slice oa1 ol1 oc1) hf1 hw1
  obtain rfl : ol1 = b1.length := by
    obtain ⟨_, _, _, _, e, _⟩ := hb1
    simp only [Value.slice.injEq] at e
    exact e.2.1
  obtain ⟨a2, rfl, rfl, rfl, wf2⟩ := open_int Tryd.underlying23 (hval 2 23 v2 rfl rfl) h2
  have ru2 : 0 ≤ a2 ∧ a2 < 18446744073709551616 := u64_wf wf2
  clear hA0
  refine (walk b0 b1 oa0 oc0 oa1 oc1 a2 W (kok_of_laid hL) hb0 hb1 ru2).mono fun e W' ⟨he, hbw⟩ => ?_
  subst he
  refine ⟨_, rfl, post_law laidOut ?_ rfl rfl hW' rfl rfl rfl hbw⟩
  intro t ht
  rw [Tryd.params10] at ht
  have hm : t ∈ [22, 23] := by simp at ht; simp; omega
  have hall : ([22, 23].all fun u => Tryd.prog.readableRec u && decide (u < Tryd.prog.types.size)) = true := by kernel_rfl
  have := List.all_eq_true.1 hall t hm
  simpa using this

theorem over : Rows.signLimitsRow.holds Tryd.pinned (OpenSpec.ofChange Rows.signLimitsSpec) :=
  OpenClaim.holds_of_wide 10 Tryd.f10 rfl rfl rfl rfl rfl rfl rfl ⟨rfl, rfl, rfl, rfl, rfl⟩ rfl rfl rfl rfl rfl (by kernel_rfl) Tryd.func10 (by kernel_rfl)
    (of_decide_eq_true (by kernel_rfl)) (by unfold Func.isWrapper; first | (rw [if_pos (by decide +kernel)]; kernel_rfl) | (rw [if_neg (by decide +kernel)]; exact ⟨rfl, rfl⟩))
    (fun os started H enc _ => lifted os started H enc)

/-- THE STATEMENT. -/
theorem proved : Rows.SignLimitsCardSaid :=
  Claim7.holds_tied_plain_at .later [] [.data] true (true, "f6b8e2bca58b870a70669e1a5b4edbfcbd882eeab9a8bd45ca4f43270d351360") false
    over (fun _ h => by cases h) (by kernel_rfl) (fun _ h => by cases h) signLimits_row_tie rfl ⟨rfl, rfl⟩ (by kernel_rfl) rfl
    (fun f fn hf hfn => by
      obtain rfl : f = 10 := Option.some.inj ((show Tryd.prog.funcNamed "wagonpool/wagonpoollaw03.SignLimits" = some 10 by kernel_rfl).symm.trans hf) |>.symm
      obtain rfl : fn = Tryd.f10 := (Option.some.inj (Tryd.func10.symm.trans hfn)).symm
      exact ⟨by kernel_rfl, fun j t ht => by
        rw [Tryd.params10] at ht
        have hm : t ∈ [22, 23] := by have := Array.mem_of_getElem? ht; simp at this; simp; omega
        have hall : ([22, 23].all fun u => !Tryd.prog.wantsStandIn u) = true := by kernel_rfl
        exact (show Tryd.prog.wantsStandIn t = false by simpa using List.all_eq_true.1 hall t hm)⟩)
    (by kernel_rfl)
#print axioms proved
end Go.Proofs.YtlfjcifeiihmfaaDoor.signLimits
