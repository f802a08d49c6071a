/-
  Walks: the reference's search among the holidays, and a day's working minutes.
-/
import Derived.Test.YtciopemodfpecaaDoorKc
import Derived.Test.YtciopemodfpecaaDoorDr
namespace Go.Proofs.YtciopemodfpecaaDoor
open Go.RowKit
set_option linter.unusedVariables false
set_option linter.unusedSimpArgs false

set_option maxRecDepth 100000 in
set_option maxHeartbeats 4000000 in
theorem holiday_any (cs : Array Value) (op : List (Int × Int)) (hol : List Int) (d : Int) (w : World) (h : Cal (fun k => k < w.heap.size) w cs op hol) (hd : I64 d) (hs : holB (-1) hol = true) (V : Bool) (hV : V = true ↔ d ∈ hol) :
    Calls Tryd.prog 64 #[.agg cs, .int .i64 d] w fun e w' => e = .returned (.bool V) ∧ Below w.heap.size w w' := by
  have hW : Below w.heap.size w (w.alloc (.cells cs 27)) := ball (Below.refl _ _) _
  have hbox := heap_alloc_new w (.cells cs 27)
  obtain ⟨_, _, a, cap, hc14, hhl⟩ := h.box hbox
  have hhl1 : Hl (fun k => k < (w.alloc (.cells cs 27)).heap.size) (w.alloc (.cells cs 27)) (.slice a hol.length cap) hol := hhl.kept (fun k hk => hW.block k hk) (fun k hk => Nat.lt_of_lt_of_le hk hW.size)
  obtain ⟨n, hn⟩ : ∃ n, n = hol.length := ⟨_, rfl⟩
  have hnn := hhl.1
  rw [← hn] at hc14 hhl1 hnn
  have hlt := hol_sorted hol (-1) hs
  have HN := Lib.hid hn; have HH := Lib.hid hhl1; have HW := Lib.hid hW; have HV := Lib.hid hV; have HSO := Lib.hid hlt; have HS := Lib.hid hs
  clear hn hhl1 hhl hW hbox h hV hlt hs
  generalize hWW : w.alloc (.cells cs 27) = W at *
  go_enter Tryd.func64, Tryd.ntmps64
  go_wp2
  clear hWW
  go_loopw [5, 6] (fun s t wr => ∃ (lo hi : Nat), lo ≤ hi ∧ hi ≤ n ∧ s = .int .i64 (lo : Int) ∧ t = .int .i64 (hi : Int) ∧ Hid ((∀ i x, hol[i]? = some x → i < lo → x < d) ∧ (∀ i x, hol[i]? = some x → hi ≤ i → d ≤ x)) ∧ W = wr) (fun s t _ => (intOf t).toNat - (intOf s).toNat)
  case atStart => exact ⟨0, n, by omega, by omega, rfl, rfl, Lib.hid ⟨fun i x _ h => by omega, fun i x hi h => by have := (List.getElem?_eq_some_iff.1 hi).1; have := HN.out; omega⟩, rfl⟩
  case round =>
    obtain ⟨lo, hi, hlh, hhn, rfl, rfl, HI, rfl⟩ := hrel
    by_cases hlt : lo < hi
    · have hlt2 : (lo : Int) < (hi : Int) := by omega
      obtain ⟨m, hm⟩ : ∃ m, m = (lo + hi) / 2 := ⟨_, rfl⟩
      have hmid : ((lo : Int) + (hi : Int)) / 2 = (m : Int) := by omega
      have hm1 : lo ≤ m ∧ m < hi := by omega
      obtain ⟨hm2, hm3⟩ := hm1
      have hmn : m < n := by omega
      obtain ⟨g, off, x, rfl, hg, hx, hxi, c0, hcap⟩ := HH.out.pick m (by have := HN.out; omega)
      by_cases c1 : x < d
      · have d1 : decide (x < d) = true := decide_eq_true c1
        have HI2 : Hid ((∀ i x, hol[i]? = some x → i < m + 1 → x < d) ∧ (∀ i x, hol[i]? = some x → hi ≤ i → d ≤ x)) := Lib.hid ⟨fun i z hz hi2 => by
          rcases (show i < m ∨ i = m by omega) with e | e
          · have := HSO.out i m z x e hz hx; omega
          · subst e; rw [hx] at hz; have := Option.some.inj hz; omega, HI.out.2⟩
        clear hx HI hm
        go_wp2
        go_roundw
        case rel => exact ⟨m + 1, hi, by omega, by omega, by go_num, rfl, HI2, trivial⟩
        case measure => simp [intOf]; omega
      · have d1 : decide (x < d) = false := decide_eq_false c1
        have HI2 : Hid ((∀ i x, hol[i]? = some x → i < lo → x < d) ∧ (∀ i x, hol[i]? = some x → m ≤ i → d ≤ x)) := Lib.hid ⟨HI.out.1, fun i z hz hi2 => by
          rcases (show m < i ∨ i = m by omega) with e | e
          · have := HSO.out m i x z e hx hz; omega
          · subst e; rw [hx] at hz; have := Option.some.inj hz; omega⟩
        clear hx HI hm
        go_wp2
        go_roundw
        case rel => exact ⟨lo, m, by omega, by omega, rfl, congrArg (Value.int IntKind.i64) hmid, HI2, trivial⟩
        case measure => simp [intOf]; omega
    · obtain rfl : lo = hi := by omega
      have hlt2 : ¬ ((lo : Int) < (lo : Int)) := by omega
      have hJ : JI hol d lo := ⟨by have := HN.out; omega, fun i x hx => ⟨fun h => by
        rcases Nat.lt_or_ge i lo with e | e
        · exact e
        · have := HI.out.2 i x hx e; omega, fun h => HI.out.1 i x hx h⟩⟩
      have hmem := ji_mem HS.out hJ
      by_cases c0 : lo < n
      · have c0' : (lo : Int) < (n : Int) := by omega
        obtain ⟨g, off, x, rfl, hg, hx, hxi, c2, hcap⟩ := HH.out.pick lo (by have := HN.out; omega)
        have e0 : (x == d) = V := by
          rw [Bool.eq_iff_iff, HV.out, hmem, hx]
          simp
        have HE0 := Lib.hid e0
        clear hx hJ hmem HI hlt
        go_wp2
        go_ret
        refine ⟨retB ?_, HW.out⟩
        first | rfl | exact HE0.out
      · have hf : V = false := by
          cases hc : V with
          | false => rfl
          | true =>
            have := hmem.1 (HV.out.1 hc)
            have := (List.getElem?_eq_some_iff.1 this).1
            have := HN.out
            omega
        subst hf
        have c0' : ¬ ((lo : Int) < (n : Int)) := by omega
        clear hJ hmem HI hlt
        go_wp2
        go_ret
        exact ⟨rfl, HW.out⟩

theorem ret1 {a b c d : Int} (h1 : c = a) (h2 : d = b) : Ending.returned (Value.agg #[Value.int .i64 a, Value.int .i64 b]) = Ending.returned (Value.agg #[Value.int .i64 c, Value.int .i64 d]) := by rw [h1, h2]
theorem dsp_get {op : List (Int × Int)} {d : Int} {s : Int × Int} (hs : op[(wday d).toNat]? = some s) : dsp op d = s := by
  unfold dsp; rw [List.getD_eq_getElem?_getD, hs]; rfl

set_option maxRecDepth 100000 in
set_option maxHeartbeats 4000000 in
/-- A day's working minutes: (P, Q); (0, 0) on a holiday. -/
theorem today_any (cs : Array Value) (op : List (Int × Int)) (hol : List Int) (d f t : Int) (w : World) (h : Cal (fun k => k < w.heap.size) w cs op hol) (ho : opOk op) (hs : holB (-1) hol = true)
    (hd : 0 ≤ d ∧ d ≤ 745654) (hf : 0 ≤ f ∧ f ≤ 1073741824) (ht : 0 ≤ t ∧ t ≤ 1073741824) (P Q : Int) (hP : P = if d ∈ hol then 0 else (tday op d f t).1) (hQ : Q = if d ∈ hol then 0 else (tday op d f t).2) :
    Calls Tryd.prog 44 #[.agg cs, .int .i64 d, .int .i64 f, .int .i64 t] w fun e w' => e = .returned (.agg #[.int .i64 P, .int .i64 Q]) ∧ Below w.heap.size w w' := by
  obtain ⟨hd0, hd1⟩ := hd
  obtain ⟨hf0, hf1⟩ := hf
  obtain ⟨ht0, ht1⟩ := ht
  have hW : Below w.heap.size w ((w.alloc (.cells cs 27)).alloc (.cells #[.int .i64 0, .int .i64 0] 23)) := ball (ball (Below.refl _ _) _) _
  have hbox : ((w.alloc (.cells cs 27)).alloc (.cells #[.int .i64 0, .int .i64 0] 23)).heap[w.heap.size]? = some (.cells cs 27 (0, 0)) := (heap_alloc_old _ _ (by simp)).trans (heap_alloc_new w _)
  have hres : ((w.alloc (.cells cs 27)).alloc (.cells #[.int .i64 0, .int .i64 0] 23)).heap[w.heap.size + 1]? = some (.cells #[.int .i64 0, .int .i64 0] 23 (0, 0)) := by
    have := heap_alloc_new (w.alloc (.cells cs 27)) (.cells #[.int .i64 0, .int .i64 0] 23)
    simpa using this
  obtain ⟨V, hV⟩ : ∃ V : Bool, V = true ↔ d ∈ hol := ⟨decide (d ∈ hol), decide_eq_true_iff⟩
  have hc := holiday_any cs op hol d _ (h.on hW) (by unfold I64; omega) hs V hV
  have hlen := ho.1
  obtain ⟨s, hss⟩ : ∃ s, op[(wday d).toNat]? = some s := ⟨_, List.getElem?_eq_getElem (by rw [hlen]; unfold wday; omega)⟩
  have hdsp := dsp_get hss
  have hsr := dsp_ok ho d
  rw [hdsp] at hsr
  obtain ⟨x, y⟩ := s
  obtain ⟨_, hcell, _⟩ := h.box hbox
  obtain ⟨e0, e1⟩ := hcell _ _ hss
  have hwd := fun w => rweekday_any d (by unfold I64; omega) (wday d) (by unfold wkd wday; rw [if_pos ⟨hd0, hd1⟩]) w
  obtain ⟨k, hk⟩ : ∃ k, k = (wday d).toNat := ⟨_, rfl⟩
  have hk7 : k < 7 := by rw [hk]; unfold wday; omega
  have hkw : wday d = (k : Int) := by rw [hk]; unfold wday; omega
  rw [hkw] at hwd
  rw [← hk] at e0 e1
  have hPQ : V = false → P = max (1440 * d + x) f ∧ Q = min (1440 * d + y) t := by
    intro hv
    have hnd : ¬ d ∈ hol := fun hm => by rw [hV.2 hm] at hv; cases hv
    rw [hP, hQ, if_neg hnd, if_neg hnd]
    unfold tday
    rw [hdsp]
    exact ⟨rfl, rfl⟩
  have hPQ0 : V = true → P = 0 ∧ Q = 0 := by
    intro hv
    rw [hP, hQ, if_pos (hV.1 hv), if_pos (hV.1 hv)]
    exact ⟨rfl, rfl⟩
  simp only at hsr e0 e1
  obtain ⟨hx0, hxy, hy1⟩ := hsr
  have hsz : ((w.alloc (.cells cs 27)).alloc (.cells #[.int .i64 0, .int .i64 0] 23)).heap.size = w.heap.size + 2 := by simp
  have HB := Lib.hid hbox; have HS := Lib.hid h.size; have HC := Lib.hid hc; have HRES := Lib.hid hres; have HW := Lib.hid hW; have HWD := Lib.hid hwd
  clear hbox hc hres hW hwd hcell hss hdsp hP hQ h ho hs hlen hk hkw
  generalize hWW : (w.alloc (.cells cs 27)).alloc (.cells #[.int .i64 0, .int .i64 0] 23) = W at *
  cases V with
  | true =>
    obtain ⟨rfl, rfl⟩ := hPQ0 rfl
    clear hPQ hPQ0 hV
    go_enter Tryd.func44, Tryd.ntmps44
    go_wp2_with (first | (refine wpList_load_row rfl 27 (.tmp 4) rfl w.heap.size rfl 27 cs (0, 0) _ HB.out Tryd.underlying27 rfl (size27 HS.out) ?_) | (go_at_call 64; refine HC.out.mono ?_; rintro e w1 ⟨rfl, hb1⟩; have HR1 := Lib.hid ((hb1.block (w.heap.size + 1) (by omega)).trans HRES.out)) | (refine wpList_store_row rfl 23 (.tmp 8) (.tmp 13) rfl (w.heap.size + 1) #[.int .i64 0, .int .i64 0] rfl rfl 23 _ HR1.out size23 rfl (all2 _ _) ?_))
    refine bodyPost_ret (results_cell_row (cs := #[.int .i64 0, .int .i64 0]) rfl _ _ (w.heap.size + 1) 23 (0, 0) _ rfl (setRow_heap _ _ _ _ _ _ HR1.out) Tryd.underlying23 rfl size23) rfl ?_
    exact ⟨rfl, bsetRow (HW.out.trans (hb1.mono HW.out.size)) (by omega) _⟩
  | false =>
    obtain ⟨hp, hq⟩ := hPQ rfl
    clear hPQ hPQ0 hV
    have HP := Lib.hid hp; have HQ := Lib.hid hq
    clear hp hq
    by_cases c1 : 1440 * d + x < f <;> by_cases c2 : 1440 * d + y ≤ t
    · go_enter Tryd.func44, Tryd.ntmps44
      go_wp2_with (first | (refine wpList_load_row rfl 27 (.tmp 4) rfl w.heap.size rfl 27 cs (0, 0) _ HB.out Tryd.underlying27 rfl (size27 HS.out) ?_) | (go_at_call 64; refine HC.out.mono ?_; rintro e w1 ⟨rfl, hb1⟩; have HR1 := Lib.hid ((heap_alloc_old w1 (.cells #[.int .i64 x, .int .i64 y] 23) (by have := hb1.size; omega)).trans ((hb1.block (w.heap.size + 1) (by omega)).trans HRES.out)); have d0 := (hb1.cell (p := ⟨w.heap.size, k * 2, none⟩) (by simp only; omega)).trans e0; have d1 := (hb1.cell (p := ⟨w.heap.size, k * 2 + 1, none⟩) (by simp only; omega)).trans e1) | (go_at_call 31; refine (HWD.out _).mono ?_; rintro e w2 ⟨rfl, rfl⟩) | (refine wpList_store_row rfl 23 (.tmp 8) (.tmp 33) rfl (w.heap.size + 1) #[.int .i64 (f), .int .i64 (1440 * d + y)] rfl rfl 23 _ HR1.out size23 rfl (all2 _ _) ?_))
      refine bodyPost_ret (results_cell_row (cs := #[.int .i64 (f), .int .i64 (1440 * d + y)]) rfl _ _ (w.heap.size + 1) 23 (0, 0) _ rfl (setRow_heap _ _ _ _ _ _ HR1.out) Tryd.underlying23 rfl size23) rfl ?_
      refine ⟨ret1 ?_ ?_, bsetRow ((HW.out.trans (hb1.mono HW.out.size)).alloc (Nat.le_trans HW.out.size hb1.size) _) (by omega) _⟩
      · rw [HP.out]; omega
      · rw [HQ.out]; omega
    · go_enter Tryd.func44, Tryd.ntmps44
      go_wp2_with (first | (refine wpList_load_row rfl 27 (.tmp 4) rfl w.heap.size rfl 27 cs (0, 0) _ HB.out Tryd.underlying27 rfl (size27 HS.out) ?_) | (go_at_call 64; refine HC.out.mono ?_; rintro e w1 ⟨rfl, hb1⟩; have HR1 := Lib.hid ((heap_alloc_old w1 (.cells #[.int .i64 x, .int .i64 y] 23) (by have := hb1.size; omega)).trans ((hb1.block (w.heap.size + 1) (by omega)).trans HRES.out)); have d0 := (hb1.cell (p := ⟨w.heap.size, k * 2, none⟩) (by simp only; omega)).trans e0; have d1 := (hb1.cell (p := ⟨w.heap.size, k * 2 + 1, none⟩) (by simp only; omega)).trans e1) | (go_at_call 31; refine (HWD.out _).mono ?_; rintro e w2 ⟨rfl, rfl⟩) | (refine wpList_store_row rfl 23 (.tmp 8) (.tmp 33) rfl (w.heap.size + 1) #[.int .i64 (f), .int .i64 (t)] rfl rfl 23 _ HR1.out size23 rfl (all2 _ _) ?_))
      refine bodyPost_ret (results_cell_row (cs := #[.int .i64 (f), .int .i64 (t)]) rfl _ _ (w.heap.size + 1) 23 (0, 0) _ rfl (setRow_heap _ _ _ _ _ _ HR1.out) Tryd.underlying23 rfl size23) rfl ?_
      refine ⟨ret1 ?_ ?_, bsetRow ((HW.out.trans (hb1.mono HW.out.size)).alloc (Nat.le_trans HW.out.size hb1.size) _) (by omega) _⟩
      · rw [HP.out]; omega
      · rw [HQ.out]; omega
    · go_enter Tryd.func44, Tryd.ntmps44
      go_wp2_with (first | (refine wpList_load_row rfl 27 (.tmp 4) rfl w.heap.size rfl 27 cs (0, 0) _ HB.out Tryd.underlying27 rfl (size27 HS.out) ?_) | (go_at_call 64; refine HC.out.mono ?_; rintro e w1 ⟨rfl, hb1⟩; have HR1 := Lib.hid ((heap_alloc_old w1 (.cells #[.int .i64 x, .int .i64 y] 23) (by have := hb1.size; omega)).trans ((hb1.block (w.heap.size + 1) (by omega)).trans HRES.out)); have d0 := (hb1.cell (p := ⟨w.heap.size, k * 2, none⟩) (by simp only; omega)).trans e0; have d1 := (hb1.cell (p := ⟨w.heap.size, k * 2 + 1, none⟩) (by simp only; omega)).trans e1) | (go_at_call 31; refine (HWD.out _).mono ?_; rintro e w2 ⟨rfl, rfl⟩) | (refine wpList_store_row rfl 23 (.tmp 8) (.tmp 33) rfl (w.heap.size + 1) #[.int .i64 (1440 * d + x), .int .i64 (1440 * d + y)] rfl rfl 23 _ HR1.out size23 rfl (all2 _ _) ?_))
      refine bodyPost_ret (results_cell_row (cs := #[.int .i64 (1440 * d + x), .int .i64 (1440 * d + y)]) rfl _ _ (w.heap.size + 1) 23 (0, 0) _ rfl (setRow_heap _ _ _ _ _ _ HR1.out) Tryd.underlying23 rfl size23) rfl ?_
      refine ⟨ret1 ?_ ?_, bsetRow ((HW.out.trans (hb1.mono HW.out.size)).alloc (Nat.le_trans HW.out.size hb1.size) _) (by omega) _⟩
      · rw [HP.out]; omega
      · rw [HQ.out]; omega
    · go_enter Tryd.func44, Tryd.ntmps44
      go_wp2_with (first | (refine wpList_load_row rfl 27 (.tmp 4) rfl w.heap.size rfl 27 cs (0, 0) _ HB.out Tryd.underlying27 rfl (size27 HS.out) ?_) | (go_at_call 64; refine HC.out.mono ?_; rintro e w1 ⟨rfl, hb1⟩; have HR1 := Lib.hid ((heap_alloc_old w1 (.cells #[.int .i64 x, .int .i64 y] 23) (by have := hb1.size; omega)).trans ((hb1.block (w.heap.size + 1) (by omega)).trans HRES.out)); have d0 := (hb1.cell (p := ⟨w.heap.size, k * 2, none⟩) (by simp only; omega)).trans e0; have d1 := (hb1.cell (p := ⟨w.heap.size, k * 2 + 1, none⟩) (by simp only; omega)).trans e1) | (go_at_call 31; refine (HWD.out _).mono ?_; rintro e w2 ⟨rfl, rfl⟩) | (refine wpList_store_row rfl 23 (.tmp 8) (.tmp 33) rfl (w.heap.size + 1) #[.int .i64 (1440 * d + x), .int .i64 (t)] rfl rfl 23 _ HR1.out size23 rfl (all2 _ _) ?_))
      refine bodyPost_ret (results_cell_row (cs := #[.int .i64 (1440 * d + x), .int .i64 (t)]) rfl _ _ (w.heap.size + 1) 23 (0, 0) _ rfl (setRow_heap _ _ _ _ _ _ HR1.out) Tryd.underlying23 rfl size23) rfl ?_
      refine ⟨ret1 ?_ ?_, bsetRow ((HW.out.trans (hb1.mono HW.out.size)).alloc (Nat.le_trans HW.out.size hb1.size) _) (by omega) _⟩
      · rw [HP.out]; omega
      · rw [HQ.out]; omega
end Go.Proofs.YtciopemodfpecaaDoor
