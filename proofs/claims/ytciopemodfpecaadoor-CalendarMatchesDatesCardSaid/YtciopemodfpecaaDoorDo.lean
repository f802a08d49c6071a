/-
  Walks of the dates: the date of a day, on both sides.
-/
import Derived.Test.YtciopemodfpecaaDoorDn
namespace Go.Proofs.YtciopemodfpecaaDoor
open Go.RowKit
set_option linter.unusedVariables false
set_option linter.unusedSimpArgs false

theorem results_cell_slot {P : Program} {fn : Func} {p q : Tmp} {ty : TypeId} (h : fn.results = #[.cell p ty, .tmp q]) (tmps : Array Value) (w : World) (g : Nat) (t : TypeId) (cs : Array Value) (fr : Nat × Nat) (d : TypeDesc) (x : Value)
    (hp : tmps.getD p undef = .pointer (some ⟨g, 0, none⟩)) (hq : tmps.getD q undef = x) (hg : w.heap[g]? = some (.cells cs t fr))
    (hu : P.underlying ty = some d) (hd : (match d with | .struct _ | .array _ _ => true | _ => false) = true) (hi : (P.info? ty).map (·.size) = some cs.size) :
    (results fn tmps).run P w = .ok (.tuple #[.agg cs, x]) w := by
  have hp' : tmps[p]?.getD undef = .pointer (some ⟨g, 0, none⟩) := by simpa using hp
  have hq' : tmps[q]?.getD undef = x := by simpa using hq
  simp [results, h, hp', hq', asAddr, run_loadVar_row w g t ty cs fr d hg hu hd hi]

theorem bsetRow {B : Nat} {a w : World} (h : Below B a w) {k : Nat} (hk : B ≤ k) (cs : Array Value) : Below B a (w.setRow k cs) :=
  h.trans ⟨rfl, rfl, rfl, by simp, fun i hi => setRow_other _ _ _ _ (by omega)⟩
theorem size40 : (Tryd.prog.info? 40).map (·.size) = some 3 := by kernel_rfl
theorem all3 (a b c : Int) : ((#[Value.int .i64 a, Value.int .i64 b, Value.int .i64 c] : Array Value).all (·.oneCell')) = true := by simp [Value.oneCell']

/-- What DateOf returns for n. -/
def DU (n Y M D E : Int) : Prop := (0 ≤ n ∧ n ≤ 745654 ∧ E = 0 ∧ IsDate n Y M D) ∨ (¬ (0 ≤ n ∧ n ≤ 745654) ∧ Y = 0 ∧ M = 0 ∧ D = 0 ∧ E = 1)
theorem du_exists (n : Int) : ∃ Y M D E, DU n Y M D E := by
  by_cases h : 0 ≤ n ∧ n ≤ 745654
  · obtain ⟨Y, M, D, hd⟩ := isDate_exists n h.1
    exact ⟨Y, M, D, 0, .inl ⟨h.1, h.2, rfl, hd⟩⟩
  · exact ⟨0, 0, 0, 1, .inr ⟨h, rfl, rfl, rfl, rfl⟩⟩

theorem mo_range (Y : Int) (k : Nat) (hk : k ≤ 12) : 0 ≤ mo Y k ∧ mo Y k ≤ 366 := by
  have a := mo_mono Y (Nat.zero_le k)
  have b := mo_mono Y hk
  have c := mo_12 Y
  have d := ylen_b Y
  have e : mo Y 0 = 0 := rfl
  omega

/-- The facts of a valid day's date. -/
theorem date_facts {n Y M D : Int} (hn : n ≤ 745654) (h : IsDate n Y M D) : ∃ (i j : Nat), Y = 2000 + (i : Int) ∧ M = (j : Int) + 1 ∧ j < 12 ∧ i ≤ 2042 ∧ 1 ≤ D ∧ D ≤ mlen Y M ∧ D ≤ 31 ∧ yr i ≤ n ∧ n < yr (i + 1) ∧ n = yr i + mo Y j + D - 1 ∧ 0 ≤ yr i := by
  obtain ⟨i, j, rfl, rfl, hj, hd1, hd2, he⟩ := h
  have hm := mo_range (2000 + (i : Int)) j (by omega)
  have hm2 := mo_range (2000 + (i : Int)) (j + 1) (by omega)
  have hs : mo (2000 + (i : Int)) (j + 1) = mo (2000 + (i : Int)) j + mlen (2000 + (i : Int)) ((j : Int) + 1) := rfl
  have hb := yr_bound i
  have e : yr (i + 1) = yr i + ylen (2000 + i) := rfl
  have h12 := mo_mono (2000 + (i : Int)) (show j + 1 ≤ 12 by omega)
  rw [mo_12] at h12
  have hx := mlen_b (2000 + (i : Int)) ((j : Int) + 1)
  exact ⟨i, j, rfl, rfl, hj, by omega, hd1, hd2, by omega, by omega, by omega, he, by omega⟩

set_option maxRecDepth 100000 in
set_option maxHeartbeats 2000000 in
theorem dateOf_any (n Y M D E : Int) (hn64 : I64 n) (h : DU n Y M D E) (w : World) (hk : MOk w) :
    Calls Tryd.prog 24 #[.int .i64 n] w fun e w' => e = .returned (.tuple #[.agg #[.int .i64 Y, .int .i64 M, .int .i64 D], .int .i64 E]) ∧ Below w.heap.size w w' := by
  have hW : Below w.heap.size w (w.alloc (.cells #[.int .i64 0, .int .i64 0, .int .i64 0] 40)) := ball (Below.refl _ _) _
  have hg := heap_alloc_new w (.cells #[.int .i64 0, .int .i64 0, .int .i64 0] 40)
  have hK1 := hk.alloc (.cells #[.int .i64 0, .int .i64 0, .int .i64 0] 40)
  have hc := isDay_any n (w.alloc (.cells #[.int .i64 0, .int .i64 0, .int .i64 0] 40))
  rcases h with ⟨h0, h1, rfl, hd⟩ | ⟨hbad, rfl, rfl, rfl, rfl⟩
  · rw [decide_eq_true ⟨h0, h1⟩] at hc
    obtain ⟨i, j, hY, hM, hj, hi, hD1, hD2, hD3, hy1, hy2, hn, hy0⟩ := date_facts h1 hd
    have hY2 : 2000 ≤ Y ∧ Y ≤ 5000 := by omega
    obtain ⟨hY3, hY4⟩ := hY2
    have hM2 : 1 ≤ M ∧ M ≤ 12 := by omega
    obtain ⟨hM3, hM4⟩ := hM2
    have hyo := yearOf_any n i h0 h1 hy1 hy2 Y hY (w.alloc (.cells #[.int .i64 0, .int .i64 0, .int .i64 0] 40))
    have hyb := yearBegin_any Y (by omega) (by omega) (yr i) (by rw [show (Y - 2000).toNat = i by omega]) (w.alloc (.cells #[.int .i64 0, .int .i64 0, .int .i64 0] 40))
    obtain ⟨S, hS⟩ : ∃ S, S = yr i := ⟨_, rfl⟩
    rw [← hS] at hyb hy0 hn
    have hSn : S ≤ n := by omega
    generalize hWW : w.alloc (.cells #[.int .i64 0, .int .i64 0, .int .i64 0] 40) = W at *
    have HC := Lib.hid hc; have HYO := Lib.hid hyo; have HYB := Lib.hid hyb; have HK := Lib.hid hK1; have HG := Lib.hid hg; have HW := Lib.hid hW; have HN := Lib.hid hn; have HM := Lib.hid hM; have HD2 := Lib.hid hD2; have HI := Lib.hid hn64
    clear hc hyo hyb hK1 hg hW hn hM hd hD2 hy1 hy2 hS hk hY hi hn64
    go_enter Tryd.func24, Tryd.ntmps24
    go_wp2_with fail
    clear hWW
    refine HC.out.mono ?_
    rintro e w1 ⟨rfl, rfl⟩
    clear HC
    go_wp2_with fail
    refine HYO.out.mono ?_
    rintro e w1 ⟨rfl, rfl⟩
    clear HYO
    go_wp2_with fail
    refine HYB.out.mono ?_
    rintro e w1 ⟨rfl, rfl⟩
    clear HYB
    go_wp2
    go_loopw [5, 6] (fun s t wr => ∃ (G N : Int), 0 ≤ G ∧ G ≤ 800000 ∧ 1 ≤ N ∧ N ≤ M ∧ s = .int .i64 G ∧ t = .int .i64 N ∧ Hid (G = n - S - mo Y (N - 1).toNat) ∧ W = wr) (fun _ t _ => 13 - (intOf t).toNat)
    case atStart => exact ⟨n - S, 1, by omega, by omega, by omega, by omega, rfl, rfl, Lib.hid (by simp [mo]), rfl⟩
    case round =>
      obtain ⟨G, N, hG1, hG2, hN1, hN2, rfl, rfl, HGG, rfl⟩ := hrel
      obtain ⟨X, hX⟩ : ∃ X, X = mlen Y N := ⟨_, rfl⟩
      have hml := monthLength_any Y N (by omega) hN1 (by omega) X hX W HK.out
      have hxb := mlen_b Y N
      rw [← hX] at hxb
      obtain ⟨hx1, hx2⟩ := hxb
      have HML := Lib.hid hml
      by_cases hlt : N < M
      · have hs : mo Y ((N - 1).toNat + 1) = mo Y (N - 1).toNat + mlen Y (((N - 1).toNat : Int) + 1) := rfl
        rw [show ((N - 1).toNat : Int) + 1 = N by omega, ← hX] at hs
        have hle := mo_mono Y (show (N - 1).toNat + 1 ≤ j by have := HM.out; omega)
        have hge : X ≤ G := by have := HGG.out; have := HN.out; omega
        have hst : G - X = n - S - mo Y (N + 1 - 1).toNat := by
          rw [show (N + 1 - 1).toNat = (N - 1).toNat + 1 by omega, hs, HGG.out]
          omega
        have HST := Lib.hid hst
        clear hml hX hs hle hst HGG
        go_wp2_with fail
        refine HML.out.mono ?_
        rintro e w1 ⟨rfl, rfl⟩
        go_wp2_with fail
        refine HML.out.mono ?_
        rintro e w1 ⟨rfl, rfl⟩
        go_wp2
        go_roundw
        case rel => exact ⟨G - X, N + 1, by omega, by omega, by omega, by omega, rfl, rfl, Lib.hid HST.out, trivial⟩
        case measure => simp [intOf]; omega
      · have hNM : N = M := by omega
        subst hNM
        have hGD : G = D - 1 := by
          have := HM.out
          have e := HGG.out
          rw [show (N - 1).toNat = j by omega] at e
          have := HN.out
          omega
        subst hGD
        have hge : ¬ X ≤ D - 1 := by rw [hX]; have := HD2.out; omega
        have hz : D - 1 + 1 = D := by omega
        clear hml hX HGG hlt
        go_wp2_with fail
        refine HML.out.mono ?_
        rintro e w1 ⟨rfl, rfl⟩
        go_wp2_with (refine wpList_store_row rfl 40 (.tmp 2) (.tmp 33) rfl w.heap.size #[.int .i64 Y, .int .i64 N, .int .i64 D] rfl rfl 40 _ HG.out size40 rfl (all3 _ _ _) ?_)
        refine bodyPost_ret (results_cell_slot rfl _ _ w.heap.size 40 #[.int .i64 Y, .int .i64 N, .int .i64 D] (0, 0) _ (.int .i64 0) rfl rfl (setRow_heap _ _ _ _ _ _ HG.out) Tryd.underlying40 rfl size40) rfl ?_
        exact ⟨rfl, bsetRow HW.out (Nat.le_refl _) _⟩
  · rw [decide_eq_false hbad] at hc
    generalize hWW : w.alloc (.cells #[.int .i64 0, .int .i64 0, .int .i64 0] 40) = W at *
    have HC := Lib.hid hc; have HG := Lib.hid hg; have HW := Lib.hid hW
    clear hc hg hW hK1 hk hbad hn64
    go_enter Tryd.func24, Tryd.ntmps24
    go_wp2_with fail
    clear hWW
    refine HC.out.mono ?_
    rintro e w1 ⟨rfl, rfl⟩
    go_wp2_with (refine wpList_store_row rfl 40 (.tmp 2) (.tmp 10) rfl w.heap.size #[.int .i64 0, .int .i64 0, .int .i64 0] rfl rfl 40 _ HG.out size40 rfl (all3 _ _ _) ?_)
    refine bodyPost_ret (results_cell_slot rfl _ _ w.heap.size 40 #[.int .i64 0, .int .i64 0, .int .i64 0] (0, 0) _ (.int .i64 1) rfl rfl (setRow_heap _ _ _ _ _ _ HG.out) Tryd.underlying40 rfl size40) rfl ?_
    exact ⟨rfl, bsetRow HW.out (Nat.le_refl _) _⟩

set_option maxRecDepth 100000 in
set_option maxHeartbeats 2000000 in
theorem rdateOf_any (n Y M D E : Int) (hn64 : I64 n) (h : DU n Y M D E) (w : World) :
    Calls Tryd.prog 25 #[.int .i64 n] w fun e w' => e = .returned (.tuple #[.agg #[.int .i64 Y, .int .i64 M, .int .i64 D], .int .i64 E]) ∧ Below w.heap.size w w' := by
  have hW : Below w.heap.size w (w.alloc (.cells #[.int .i64 0, .int .i64 0, .int .i64 0] 40)) := ball (Below.refl _ _) _
  have hg := heap_alloc_new w (.cells #[.int .i64 0, .int .i64 0, .int .i64 0] 40)
  rcases h with ⟨h0, h1, rfl, hd⟩ | ⟨hbad, rfl, rfl, rfl, rfl⟩
  · skip
    obtain ⟨i, j, hY, hM, hj, hi, hD1, hD2, hD3, hy1, hy2, hn, hy0⟩ := date_facts h1 hd
    have hY2 : 2000 ≤ Y ∧ Y ≤ 5000 := by omega
    obtain ⟨hY3, hY4⟩ := hY2
    have hM2 : 1 ≤ M ∧ M ≤ 12 := by omega
    obtain ⟨hM3, hM4⟩ := hM2
    have hst : (n / 366).toNat ≤ i := by
      rcases Nat.lt_or_ge i (n / 366).toNat with h | h
      · have a := yr_mono (show i + 1 ≤ (n / 366).toNat from h)
        have b := yr_bound (n / 366).toNat
        omega
      · exact h
    generalize hWW : w.alloc (.cells #[.int .i64 0, .int .i64 0, .int .i64 0] 40) = W at *
    have hyb := rfirst_any i (by omega) Y (yr i) hY rfl W
    obtain ⟨S, hS⟩ : ∃ S, S = yr i := ⟨_, rfl⟩
    rw [← hS] at hyb hy0 hn
    have hSn : S ≤ n := by omega
    have HYB := Lib.hid hyb; have HG := Lib.hid hg; have HW := Lib.hid hW; have HN := Lib.hid hn; have HM := Lib.hid hM; have HD2 := Lib.hid hD2; have HI := Lib.hid hn64
    have H1 := Lib.hid hy1; have H2 := Lib.hid hy2; have HST := Lib.hid hst; have HY := Lib.hid hY; have Hi := Lib.hid hi
    clear hyb hg hW hn hM hd hD2 hy1 hy2 hS hY hi hn64 hst
    go_enter Tryd.func25, Tryd.ntmps25
    go_wp2_with fail
    clear hWW
    go_loopw [4] (fun s wr => ∃ (V : Int), 2000 ≤ V ∧ V ≤ 5000 ∧ s = .int .i64 V ∧ Hid (V ≤ 2000 + (i : Int)) ∧ W = wr) (fun s _ => (2000 + i + 1) - (intOf s).toNat)
    case atStart => exact ⟨2000 + n / 366, by omega, by omega, rfl, Lib.hid (by have := HST.out; omega), rfl⟩
    case round =>
      obtain ⟨V, hV1, hV2, rfl, HV, rfl⟩ := hrel
      obtain ⟨q, hq⟩ : ∃ q : Nat, q = (V + 1 - 2000).toNat := ⟨_, rfl⟩
      obtain ⟨R, hR⟩ : ∃ R, R = yr q := ⟨_, rfl⟩
      have hc := rfirst_any q (by omega) (V + 1) R (by omega) hR W
      by_cases hlt : V < Y
      · have hle : R ≤ n := by
          have a := yr_mono (show q ≤ i by have := HY.out; omega)
          have := H1.out
          omega
        have hlt2 : (V + 1 ≤ 2000 + (i : Int)) := by have := HY.out; omega
        have HC := Lib.hid hc; have HL2 := Lib.hid hlt2
        clear hc hR hq hlt hlt2
        go_wp2_with fail
        refine HC.out.mono ?_
        rintro e w1 ⟨rfl, rfl⟩
        go_wp2
        go_roundw
        case rel => exact ⟨V + 1, by omega, by have := Hi.out; have := HL2.out; omega, rfl, Lib.hid HL2.out, trivial⟩
        case measure => have := HL2.out; simp [intOf]; omega
      have hVY : V = Y := by have := HV.out; have := HY.out; omega
      subst hVY
      have hgt : ¬ R ≤ n := by
        have e : q = i + 1 := by have := HY.out; omega
        rw [hR, e]
        have := H2.out
        omega
      have HC := Lib.hid hc
      clear hc hR hlt hq
      go_wp2_with fail
      refine HC.out.mono ?_
      rintro e w1 ⟨rfl, rfl⟩
      clear HC
      go_wp2_with fail
      refine HYB.out.mono ?_
      rintro e w1 ⟨rfl, rfl⟩
      go_wp2
      go_loopw [0, 5] (fun s t wr => ∃ (G N : Int), 0 ≤ G ∧ G ≤ 800000 ∧ 1 ≤ N ∧ N ≤ M ∧ s = .int .i64 G ∧ t = .int .i64 N ∧ Hid (G = n - S - mo V (N - 1).toNat) ∧ W = wr) (fun _ t _ => 13 - (intOf t).toNat)
      case atStart => exact ⟨n - S, 1, by omega, by omega, by omega, by omega, rfl, rfl, Lib.hid (by simp [mo]), rfl⟩
      case round =>
        obtain ⟨G, N, hG1, hG2, hN1, hN2, rfl, rfl, HGG, rfl⟩ := hrel
        obtain ⟨X, hX⟩ : ∃ X, X = mlen V N := ⟨_, rfl⟩
        have hml := rlength_any V N (by omega) hN1 (by omega) X hX W
        have hxb := mlen_b V N
        rw [← hX] at hxb
        obtain ⟨hx1, hx2⟩ := hxb
        have HML := Lib.hid hml
        by_cases hlt : N < M
        · have hs : mo V ((N - 1).toNat + 1) = mo V (N - 1).toNat + mlen V (((N - 1).toNat : Int) + 1) := rfl
          rw [show ((N - 1).toNat : Int) + 1 = N by omega, ← hX] at hs
          have hle := mo_mono V (show (N - 1).toNat + 1 ≤ j by have := HM.out; omega)
          have hge : X ≤ G := by have := HGG.out; have := HN.out; omega
          have hst : G - X = n - S - mo V (N + 1 - 1).toNat := by
            rw [show (N + 1 - 1).toNat = (N - 1).toNat + 1 by omega, hs, HGG.out]
            omega
          have HST := Lib.hid hst
          clear hml hX hs hle hst HGG
          go_wp2_with fail
          refine HML.out.mono ?_
          rintro e w1 ⟨rfl, rfl⟩
          go_wp2_with fail
          refine HML.out.mono ?_
          rintro e w1 ⟨rfl, rfl⟩
          go_wp2
          go_roundw
          case rel => exact ⟨G - X, N + 1, by omega, by omega, by omega, by omega, rfl, rfl, Lib.hid HST.out, trivial⟩
          case measure => simp [intOf]; omega
        · have hNM : N = M := by omega
          subst hNM
          have hGD : G = D - 1 := by
            have := HM.out
            have e := HGG.out
            rw [show (N - 1).toNat = j by omega] at e
            have := HN.out
            omega
          subst hGD
          have hge : ¬ X ≤ D - 1 := by rw [hX]; have := HD2.out; omega
          have hz : D - 1 + 1 = D := by omega
          clear hml hX HGG hlt
          go_wp2_with fail
          refine HML.out.mono ?_
          rintro e w1 ⟨rfl, rfl⟩
          go_wp2_with (refine wpList_store_row rfl 40 (.tmp 2) (.tmp 43) rfl w.heap.size #[.int .i64 V, .int .i64 N, .int .i64 D] rfl rfl 40 _ HG.out size40 rfl (all3 _ _ _) ?_)
          refine bodyPost_ret (results_cell_slot rfl _ _ w.heap.size 40 #[.int .i64 V, .int .i64 N, .int .i64 D] (0, 0) _ (.int .i64 0) rfl rfl (setRow_heap _ _ _ _ _ _ HG.out) Tryd.underlying40 rfl size40) rfl ?_
          exact ⟨rfl, bsetRow HW.out (Nat.le_refl _) _⟩
  · have HG := Lib.hid hg; have HW := Lib.hid hW
    have hcase : n < 0 ∨ (0 ≤ n ∧ ¬ n ≤ 745654) := by omega
    clear hg hW hbad hn64
    rcases hcase with c | ⟨c0, c1⟩
    all_goals
      go_enter Tryd.func25, Tryd.ntmps25
      go_wp2_with (refine wpList_store_row rfl 40 (.tmp 2) (.tmp 12) rfl w.heap.size #[.int .i64 0, .int .i64 0, .int .i64 0] rfl rfl 40 _ HG.out size40 rfl (all3 _ _ _) ?_)
      refine bodyPost_ret (results_cell_slot rfl _ _ w.heap.size 40 #[.int .i64 0, .int .i64 0, .int .i64 0] (0, 0) _ (.int .i64 1) rfl rfl (setRow_heap _ _ _ _ _ _ HG.out) Tryd.underlying40 rfl size40) rfl ?_
      exact ⟨rfl, bsetRow HW.out (Nat.le_refl _) _⟩
end Go.Proofs.YtciopemodfpecaaDoor
