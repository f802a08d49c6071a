/-
  Walk of the reference: integer.
-/
import Derived.Test.YtjhjcigappkebaaPd
namespace Go.Proofs.Ytjhjcigappkebaa
set_option linter.unusedVariables false
set_option linter.unusedSimpArgs false
open Go.RowKit

theorem PdS.base {w w1 wk : World} {v : Value} {l : List Int} (h : PdS w1 v l wk) (hb : Below w.heap.size w w1) : PdS w v l wk := by
  refine ⟨?_, hb.trans (h.2.mono hb.size)⟩
  obtain ⟨h1, h2⟩ := h.1
  refine ⟨h1, ?_⟩
  rcases h2 with h2 | ⟨g, cap, cur, h3, h4, h5⟩
  · exact Or.inl h2
  · exact Or.inr ⟨g, cap, cur, h3, Nat.le_trans hb.size h4, h5⟩

theorem digI (x n : Int) (w : World) (hx : x = n) (h0 : 0 ≤ n) (h1 : n ≤ 9223372036854775807) :
    Calls Try.prog 61 #[.int .i64 x] w fun e w' => ∃ a c, e = .returned (.slice a (wid n) c) ∧ PdS w (.slice a (wid n) c) (digs n (wid n)) w' := by
  subst hx
  refine (rdigits_any x w h0 h1).mono ?_
  rintro e w' ⟨u, rfl, h⟩
  obtain ⟨a, c, rfl⟩ := h.len
  rw [digs_length] at h ⊢
  exact ⟨a, c, rfl, h⟩

theorem enc_pos (n : Int) (h : 0 ≤ n) : encInt n = (32 + (wid n : Int)) :: digs n (wid n) := by
  unfold encInt; rw [if_neg (by omega)]
theorem enc_neg (n : Int) (h : n < 0) : encInt n = (31 - (wid (-n - 1) : Int)) :: (digs (-n - 1) (wid (-n - 1))).map (255 - ·) := by
  unfold encInt; rw [if_pos h]
  have : mag n = -n - 1 := by unfold mag; rw [if_pos h]
  rw [this]

set_option maxRecDepth 100000 in
set_option maxHeartbeats 2000000 in
theorem rinteger_any (n : Int) (w : World) (hn : I64 n) :
    Calls Try.prog 48 #[.int .i64 n] w fun e w' => ∃ u, e = .returned u ∧ PdS w u (encInt n) w' := by
  obtain ⟨hn0, hn1⟩ := hn
  by_cases h0 : 0 ≤ n
  · have hd := digI n n w rfl h0 hn1
    have hw8 := wid_le n
    have hr := digs_range n (wid n)
    have hl := digs_length n (wid n)
    rw [enc_pos n h0]
    obtain ⟨L, hL⟩ : ∃ L, L = wid n := ⟨_, rfl⟩
    obtain ⟨ds, hds⟩ : ∃ ds, ds = digs n (wid n) := ⟨_, rfl⟩
    rw [← hds] at hd hr hl ⊢
    rw [← hL] at hd hl hw8 ⊢
    have HD := Lib.hid hd; have HR := Lib.hid hr; have HL := Lib.hid hl
    have g0 : decide (0 ≤ n) = true := decide_eq_true h0
    clear hd hr hl hL hds
    go_enter Try.func48, Try.ntmps48
    go_wp2_with fail
    refine HD.out.mono ?_
    rintro e w1 ⟨da, dc, rfl, h1⟩
    obtain ⟨v6, w6, hr6, h6⟩ := (PdS.one w1 (32 + (L : Int))).push (fun k => k < w1.heap.size) (u := .slice da L dc) (b := ds) (Bs.kept (h1.bs (by have := HL.out; omega) HR.out) (fun k hk => heap_alloc_old _ _ hk) (fun _ hk => hk)) (by have := HL.out; simp; omega)
    have H6 := Lib.hid (h6.base h1.2); have R6 := Lib.hid hr6
    clear h6 hr6 h1
    have ew : IntKind.u8.wrap (32 + (L : Int)) = 32 + (L : Int) := by rw [IntKind.wrap_u8]; omega
    go_wp2_with (first | (at_builtin; refine wp_app rfl rfl rfl (.tmp 17) (.tmp 18) rfl rfl rfl R6.out ?_))
    go_ret
    exact ⟨_, rfl, H6.out⟩
  · obtain ⟨m, hm⟩ : ∃ m, m = -n - 1 := ⟨_, rfl⟩
    have hm0 : 0 ≤ m := by omega
    have hm1 : m ≤ 9223372036854775807 := by omega
    have hd := fun x (hx : x = m) => digI x m w hx hm0 hm1
    have hw8 := wid_le m
    have hr := digs_range m (wid m)
    have hl := digs_length m (wid m)
    rw [enc_neg n (by omega), ← hm]
    obtain ⟨L, hL⟩ : ∃ L, L = wid m := ⟨_, rfl⟩
    obtain ⟨ds, hds⟩ : ∃ ds, ds = digs m (wid m) := ⟨_, rfl⟩
    rw [← hds] at hr hl ⊢
    simp only [← hds] at hd
    simp only [← hL] at hd
    rw [← hL] at hl hw8 ⊢
    have HD := Lib.hid hd; have HR := Lib.hid hr; have HL := Lib.hid hl; have HM := Lib.hid hm
    have g0 : decide (0 ≤ n) = false := decide_eq_false h0
    have hneg : n < 0 := by omega
    clear hd hr hl hL hds hm h0
    go_enter Try.func48, Try.ntmps48
    go_wp2_with fail
    refine (HD.out _ (by have := HM.out; omega)).mono ?_
    rintro e w1 ⟨da, dc, rfl, h1⟩
    have hbs := h1.bs (by have := HL.out; omega) HR.out
    have HBS := Lib.hid hbs; have HB1 := Lib.hid h1.2
    have HP := Lib.hid (PdS.one w1 (31 - (L : Int)))
    have ew : IntKind.u8.wrap (31 - (L : Int)) = 31 - (L : Int) := by rw [IntKind.wrap_u8]; omega
    clear h1 hbs
    go_wp2_with fail
    go_loopw [6, 7] (fun x i wr => ∃ k : Nat, k ≤ L ∧ i = .int .i64 k ∧ Hid (PdS w1 x ((31 - (L : Int)) :: (ds.take k).map (255 - ·)) wr)) (fun _ i _ => L - (intOf i).toNat)
    case atStart => exact ⟨0, by omega, rfl, HP⟩
    case round =>
      clear HP
      obtain ⟨k, hk, rfl, H⟩ := hrel
      by_cases hlt : k < L
      · have hlt2 : (k : Int) < (L : Int) := by omega
        obtain ⟨g, off, cap, hv, hcap, hg, hcell⟩ := HBS.out.at (by have := HL.out; omega)
        simp only [Value.slice.injEq] at hv
        obtain ⟨rfl, hLL, rfl⟩ := hv
        clear hLL
        obtain ⟨x, hx⟩ : ∃ x, ds[k]? = some x := ⟨_, List.getElem?_eq_getElem (by have := HL.out; omega)⟩
        have hxr := HR.out x (List.mem_of_getElem? hx)
        have hc : wr.cell? ⟨g, off + k, none⟩ = some (.int .u8 x) := (World.cell?_of_block (w := w1) (a := ⟨g, off + k, none⟩) (H.out.2.block g hg)).trans (hcell k x hx)
        obtain ⟨v6, w6, hr6, h6⟩ := H.out.pushOne (255 - x) (by omega) (by have := HL.out; simp; omega)
        have htk : (31 - (L : Int)) :: (ds.take k).map (255 - ·) ++ [255 - x] = (31 - (L : Int)) :: (ds.take (k + 1)).map (255 - ·) := by
          rw [List.take_add_one, hx]; simp
        rw [htk] at h6
        obtain ⟨xa, xc, rfl⟩ := H.out.len
        have e9 : IntKind.u8.wrap (255 - x) = 255 - x := by rw [IntKind.wrap_u8]; omega
        have H6 := Lib.hid h6; have R6 := Lib.hid hr6
        clear h6 hr6 htk hx hcell hg
        go_wp2_with (first | (at_builtin; refine wp_app rfl rfl rfl (.tmp 35) (.tmp 41) rfl rfl rfl R6.out ?_))
        go_roundw
        case rel => exact ⟨k + 1, by omega, by go_num, H6⟩
        case measure => simp [intOf]; omega
      · have hk2 : k = L := by omega
        subst hk2
        have hlt2 : ¬ ((k : Int) < (k : Int)) := by omega
        have hT : ds.take k = ds := List.take_of_length_le (by have := HL.out; omega)
        rw [hT] at H
        have HF := Lib.hid (H.out.base HB1.out)
        clear H
        go_wp2
        go_ret
        exact ⟨_, rfl, HF.out⟩
end Go.Proofs.Ytjhjcigappkebaa
