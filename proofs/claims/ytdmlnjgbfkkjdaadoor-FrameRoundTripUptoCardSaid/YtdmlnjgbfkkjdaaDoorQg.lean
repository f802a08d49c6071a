/-
  The statement 'Rows.FrameRoundTripUptoCardSaid': for all lists of byte sequences of bounded bulk the law of the round trip answers true; the argument reads as it did. Condition: the table of the checksum lies as the program's text lays it.
-/
import Derived.Test.YtdmlnjgbfkkjdaaDoorFx
import Derived.ChangeMaps5
namespace Go.Proofs.YtdmlnjgbfkkjdaaDoor.frameRoundTrip
open Go.ChangeShapes Go.WideShapes Go.ChangeAt Go.RowKit Go.Lib
set_option linter.unusedVariables false
set_option linter.unusedSimpArgs false

def gd (l : List (List Int)) : List (List Int) := l.filter fun b => decide (b.length ≤ 8192)
theorem gd_next (l : List (List Int)) (k : Nat) (h : k < l.length) : gd (l.take (k + 1)) = gd (l.take k) ++ if l[k].length ≤ 8192 then [l[k]] else [] := by
  unfold gd
  rw [List.take_succ_eq_append_getElem h, List.filter_append]
  by_cases hc : l[k].length ≤ 8192 <;> simp [List.filter_cons, hc]
theorem gd_len (l : List (List Int)) : (gd l).length ≤ l.length := List.length_filter_le _ _
theorem gd_flat (l : List (List Int)) : (gd l).flatten.length ≤ l.flatten.length := by
  induction l with
  | nil => simp [gd]
  | cons b l ih =>
    unfold gd at ih ⊢
    rw [List.filter_cons]
    split
    · simp only [List.flatten_cons, List.length_append]; omega
    · simp only [List.flatten_cons, List.length_append]; omega
theorem take_flat (l : List (List Int)) (k : Nat) : (l.take k).flatten.length ≤ l.flatten.length := by
  have e : l.flatten = (l.take k).flatten ++ (l.drop k).flatten := by rw [← List.flatten_append, List.take_append_drop]
  rw [e, List.length_append]; omega
theorem frms_len (l : List (List Int)) : (l.flatMap frm).length ≤ 2 * l.flatten.length + 10 * l.length ∧ (l.flatMap frmT).length ≤ 2 * l.flatten.length + 10 * l.length := by
  induction l with
  | nil => simp
  | cons b l ih =>
    have h := (frm_len b).2
    have h2 : (frmT b).length = (frm b).length - 1 := by unfold frmT; simp
    simp only [List.flatMap_cons, List.length_append, List.flatten_cons, List.length_cons]
    omega

/-- Three slices of the call's own. -/
structure RT (w0 : World) (B : Nat) (S H : List Int) (L : List (List Int)) (vs vh vw : Value) (w : World) : Prop where
  s : w.ownsRow B 5 1 vs S.length (byteVals S)
  h : w.ownsRow B 5 1 vh H.length (byteVals H)
  x : ∃ xs, w.ownsRow B 22 1 vw xs.length xs ∧ EL (fun k => k < w0.heap.size) w xs L
  d1 : ∀ g, vs.ownBlock = some g → vh.ownBlock ≠ some g
  d2 : ∀ g, vs.ownBlock = some g → vw.ownBlock ≠ some g
  d3 : ∀ g, vh.ownBlock = some g → vw.ownBlock ≠ some g
  below : Below w0.heap.size w0 w
  hB : w0.heap.size ≤ B
  hw : B ≤ w.heap.size
section
variable {w0 w w' : World} {B : Nat} {S H : List Int} {L : List (List Int)} {vs vh vw : Value}
theorem RT.call (h : RT w0 B S H L vs vh vw w) (hb : Below w.heap.size w w') : RT w0 B S H L vs vh vw w' := by
  obtain ⟨xs, h1, h2⟩ := h.x
  refine ⟨own_kept h.s fun g hg => hb.block g (own_lt h.s hg).2, own_kept h.h fun g hg => hb.block g (own_lt h.h hg).2, ⟨xs, own_kept h1 fun g hg => hb.block g (own_lt h1 hg).2, h2.kept (fun k hk => hb.block k (Nat.lt_of_lt_of_le hk h.below.size)) (fun _ hk => hk)⟩,
    h.d1, h.d2, h.d3, btrans h.below hb, h.hB, Nat.le_trans h.hw hb.size⟩
theorem blk_new {u v : Value} {x y : Value} (hb : u.ownBlock = v.ownBlock ∨ ∃ g, u.ownBlock = some g ∧ w.heap.size ≤ g) {g : Nat} (hu : u.ownBlock = some g) : v.ownBlock = some g ∨ w.heap.size ≤ g := by
  rcases hb with e | ⟨g', e, hg⟩
  · rw [e] at hu; exact Or.inl hu
  · rw [e] at hu; cases hu; exact Or.inr hg
theorem RT.putS {vs' : Value} {S' : List Int} (h : RT w0 B S H L vs vh vw w) (ha : Apd B w vs w' vs' S') : RT w0 B S' H L vs' vh vw w' := by
  obtain ⟨xs, h1, h2⟩ := h.x
  have hg : ∀ k, k < w.heap.size → vs.ownBlock ≠ some k → w'.heap[k]? = w.heap[k]? := fun k hk hne => ha.grown.block k hk (fun e => hne e.symm)
  refine ⟨ha.own, own_kept h.h fun g hgh => hg g (own_lt h.h hgh).2 (fun e => h.d1 g e hgh), ⟨xs, own_kept h1 fun g hgh => hg g (own_lt h1 hgh).2 (fun e => h.d2 g e hgh), h2.kept (fun k hk => hg k (Nat.lt_of_lt_of_le hk h.below.size) (fun e => by have := (own_lt h.s e).1; have := h.hB; omega)) (fun _ hk => hk)⟩,
    fun g hgs e => ?_, fun g hgs e => ?_, h.d3, below_grown h.below ha.grown (fun g hg => by have := (own_lt h.s hg).1; have := h.hB; omega), h.hB, Nat.le_trans h.hw ha.grown.size⟩
  · rcases blk_new (w := w) (x := vs) (y := vs) ha.blk hgs with e2 | e2
    · exact h.d1 g e2 e
    · have := (own_lt h.h e).2; omega
  · rcases blk_new (w := w) (x := vs) (y := vs) ha.blk hgs with e2 | e2
    · exact h.d2 g e2 e
    · have := (own_lt h1 e).2; omega
theorem RT.putH {vh' : Value} {H' : List Int} (h : RT w0 B S H L vs vh vw w) (ha : Apd B w vh w' vh' H') : RT w0 B S H' L vs vh' vw w' := by
  obtain ⟨xs, h1, h2⟩ := h.x
  have hg : ∀ k, k < w.heap.size → vh.ownBlock ≠ some k → w'.heap[k]? = w.heap[k]? := fun k hk hne => ha.grown.block k hk (fun e => hne e.symm)
  refine ⟨own_kept h.s fun g hgh => hg g (own_lt h.s hgh).2 (fun e => h.d1 g hgh e), ha.own, ⟨xs, own_kept h1 fun g hgh => hg g (own_lt h1 hgh).2 (fun e => h.d3 g e hgh), h2.kept (fun k hk => hg k (Nat.lt_of_lt_of_le hk h.below.size) (fun e => by have := (own_lt h.h e).1; have := h.hB; omega)) (fun _ hk => hk)⟩,
    fun g hgs e => ?_, h.d2, fun g hgs e => ?_, below_grown h.below ha.grown (fun g hg => by have := (own_lt h.h hg).1; have := h.hB; omega), h.hB, Nat.le_trans h.hw ha.grown.size⟩
  · rcases blk_new (w := w) (x := vs) (y := vs) ha.blk e with e2 | e2
    · exact h.d1 g hgs e2
    · have := (own_lt h.s hgs).2; omega
  · rcases blk_new (w := w) (x := vs) (y := vs) ha.blk hgs with e2 | e2
    · exact h.d3 g e2 e
    · have := (own_lt h1 e).2; omega
theorem RT.putW {vw' u : Value} {b : List Int} {xs : List Value} (h : RT w0 B S H L vs vh vw w) (h1 : w.ownsRow B 22 1 vw xs.length xs) (h2 : EL (fun k => k < w0.heap.size) w xs L) (ha : ApL B w vw w' vw' (xs ++ [u])) (hu : Bs (fun k => k < w0.heap.size) w u b) : RT w0 B S H (L ++ [b]) vs vh vw' w' := by
  have hg : ∀ k, k < w.heap.size → vw.ownBlock ≠ some k → w'.heap[k]? = w.heap[k]? := fun k hk hne => ha.grown.block k hk (fun e => hne e.symm)
  have hold : ∀ k, k < w0.heap.size → w'.heap[k]? = w.heap[k]? := fun k hk => hg k (Nat.lt_of_lt_of_le hk h.below.size) (fun e => by have := (own_lt h1 e).1; have := h.hB; omega)
  refine ⟨own_kept h.s fun g hgh => hg g (own_lt h.s hgh).2 (fun e => h.d2 g hgh e), own_kept h.h fun g hgh => hg g (own_lt h.h hgh).2 (fun e => h.d3 g hgh e),
    ⟨xs ++ [u], ha.own, (h2.kept hold (fun _ hk => hk)).app (EL.one (hu.kept hold (fun _ hk => hk)))⟩, h.d1, fun g hgs e => ?_, fun g hgs e => ?_, below_grown h.below ha.grown (fun g hg => by have := (own_lt h1 hg).1; have := h.hB; omega), h.hB, Nat.le_trans h.hw ha.grown.size⟩
  · rcases blk_new (w := w) (x := vs) (y := vs) ha.blk e with e2 | e2
    · exact h.d2 g hgs e2
    · have := (own_lt h.s hgs).2; omega
  · rcases blk_new (w := w) (x := vs) (y := vs) ha.blk e with e2 | e2
    · exact h.d3 g hgs e2
    · have := (own_lt h.h hgs).2; omega
end
set_option maxRecDepth 100000 in
set_option maxHeartbeats 16000000 in
theorem walk (l : List (List Int)) (v : Value) (w : World) (hk : KOk w) (hv : Ls (fun k => k < w.heap.size) w v l) (hs1 : l.length ≤ 1048576) (hs2 : l.flatten.length ≤ 1048576) :
    Calls Tryd.prog 5 #[v] w fun e w' => e = .returned (.bool true) ∧ Below w.heap.size w w' := by
  have HK := Lib.hid hk; have HV := Lib.hid hv
  obtain ⟨a, c, rfl⟩ := hv.shape
  obtain ⟨n, hn⟩ : ∃ n, n = l.length := ⟨_, rfl⟩
  rw [← hn] at HV hs1 ⊢
  have HN := Lib.hid hn; have HS2 := Lib.hid hs2
  clear hk hv hn hs2
  go_enter Tryd.func5, Tryd.ntmps5
  go_wp2_with fail
  refine (sane_true w HK.out).mono ?_
  rintro e w1 ⟨rfl, hb1⟩
  have HB1 := Lib.hid hb1
  obtain ⟨W, hW⟩ : ∃ W, W = ((w1.alloc (.cells #[] 5)).alloc (.cells #[.int .u8 126] 5)).alloc (.cells #[] 22) := ⟨_, rfl⟩
  have hbW : Below w1.heap.size w1 W := by rw [hW]; exact ball (ball (ball (Below.refl _ _) _) _) _
  have hW0 : W.heap[w1.heap.size]? = some (.cells #[] 5 (0, 0)) := by rw [hW]; exact bold (bold (bnew _ _))
  have hW1 : W.heap[w1.heap.size + 1]? = some (.cells #[.int .u8 126] 5 (0, 0)) := by
    rw [hW]; have h := bnew (w1.alloc (.cells #[] 5)) (.cells #[.int .u8 126] 5); have h2 := bold (o' := .cells #[] 22) h; simpa using h2
  have hW2 : W.heap[w1.heap.size + 1 + 1]? = some (.cells #[] 22 (0, 0)) := by
    rw [hW]; have h := bnew ((w1.alloc (.cells #[] 5)).alloc (.cells #[.int .u8 126] 5)) (.cells #[] 22); simpa using h
  have HRT := Lib.hid (show RT w w1.heap.size [] [126] [] (.slice (some ⟨w1.heap.size, 0, none⟩) 0 0) (.slice (some ⟨w1.heap.size + 1, 0, none⟩) 1 1) (.slice (some ⟨w1.heap.size + 1 + 1, 0, none⟩) 0 0) W from
    ⟨⟨rfl, Or.inr ⟨_, 0, _, rfl, Nat.le_refl _, hW0, Nat.le_refl _, by unfold maxLen; omega, rfl, rfl⟩⟩, ⟨rfl, Or.inr ⟨_, 1, _, rfl, by omega, hW1, Nat.le_refl _, by unfold maxLen; omega, rfl, rfl⟩⟩,
      ⟨[], ⟨rfl, Or.inr ⟨_, 0, _, rfl, by omega, hW2, Nat.le_refl _, by unfold maxLen; omega, rfl, rfl⟩⟩, EL.nil _ _⟩,
      fun g h e => by simp [Value.ownBlock] at h e; omega, fun g h e => by simp [Value.ownBlock] at h e; omega, fun g h e => by simp [Value.ownBlock] at h e; omega, btrans hb1 hbW, hb1.size, hbW.size⟩)
  have HW := Lib.hid hW
  clear hb1 hbW hW0 hW1 hW2 hW
  go_wp2
  rw [← HW.out]
  clear HW
  go_loopw [3, 4, 5, 6] (fun x3 x4 x5 i wr => ∃ k : Nat, k ≤ n ∧ i = .int .i64 k ∧ ∃ vs vh vw : Value, vs = x3 ∧ vh = x4 ∧ vw = x5 ∧ Hid (RT w w1.heap.size ((gd (l.take k)).flatMap frm) (126 :: (gd (l.take k)).flatMap frmT) (gd (l.take k)) vs vh vw wr)) (fun _ _ _ i _ => n - (intOf i).toNat)
  case atStart => exact ⟨0, by omega, rfl, _, _, _, rfl, rfl, rfl, HRT⟩
  case round =>
    obtain ⟨k, hk, rfl, vs, vh, vw, rfl, rfl, rfl, H⟩ := hrel
    by_cases hlt : k < n
    · have hkl : k < l.length := by rw [← HN.out]; exact hlt
      have hnx := gd_next l k hkl
      obtain ⟨g, off, u, rfl, hg, hu, hub⟩ := HV.out.pick k hkl
      have hb0 := H.out.below
      have hu1 := (hb0.cell (p := ⟨g, off + k, none⟩) hg).trans hu
      have HUB := Lib.hid hub
      obtain ⟨ua, uc, rfl⟩ := hub.shape
      obtain ⟨b, hb⟩ : ∃ b, b = l[k] := ⟨_, rfl⟩
      rw [← hb] at HUB hnx hu hu1
      obtain ⟨m, hm⟩ : ∃ m, m = b.length := ⟨_, rfl⟩
      rw [← hm] at HUB hnx hu hu1
      have HM := Lib.hid hm
      have hl1 := gd_len (l.take k); have hl2 := gd_flat (l.take k); have hl3 := take_flat l k; have hl4 := (frms_len (gd (l.take k)))
      have hl5 : (l.take k).length ≤ n := by simp; omega
      have hl6 := HS2.out
      have HG1 := Lib.hid hg
      obtain ⟨GK, hGK⟩ : ∃ GK, GK = gd (l.take k) := ⟨_, rfl⟩
      rw [← hGK] at hnx hl1 hl2 hl4 H
      have HU0 := Lib.hid hu
      clear hGK hub hb hm hu
      by_cases h8 : m ≤ 8192
      · rw [if_pos h8] at hnx
        have hfl := frm_len b
        have hrg : Rg8 b := HUB.out.2.1
        have hfr := frm_rg hrg
        have hT2 : (frmT b).length = (frm b).length - 1 := by unfold frmT; simp
        rw [← HM.out] at hfl
        have HMK := Lib.hid (show ∀ wx, Below w.heap.size w wx → Calls Tryd.prog 11 #[.slice ua m uc] wx (MkOf wx b) from fun wx hx => make_any b _ wx (HK.out.below hx) (HUB.out.on hx) (by rw [← HM.out]; exact h8))
        have HNX := Lib.hid hnx
        have HLE := Lib.hid (show (GK.flatMap frm).length ≤ 20000000 ∧ (GK.flatMap frmT).length ≤ 20000000 ∧ GK.length ≤ 1048576 by omega)
        have HFF := Lib.hid (show (frm b).length ≤ 20000 ∧ 6 ≤ (frm b).length by omega)
        have HFR := Lib.hid hfr
        have h8' : (m : Int) ≤ 8192 := by omega
        clear hnx hl1 hl2 hl3 hl4 hl5 hl6 hfl hrg hfr hT2
        have HBW := Lib.hid hb0
        clear hb0
        go_wp2_with fail
        refine (HMK.out wr HBW.out).mono ?_
        rintro e w2 ⟨vf, rfl, hb2, hof⟩
        have HU := Lib.hid hu1
        have hu2 := (hb2.cell (p := ⟨g, off + k, none⟩) (Nat.lt_of_lt_of_le HG1.out HBW.out.size)).trans hu1
        have H2 := H.out.call hb2
        have hbf := Bs.ofOwn hof (by have := HFF.out; omega) HFR.out
        obtain ⟨gf, of, cf, hvf, hcf, _, _⟩ := hbf.at (by have := HFF.out; omega)
        subst hvf
        obtain ⟨nf, hnf⟩ : ∃ nf, nf = (frm b).length := ⟨_, rfl⟩
        rw [← hnf] at hbf hcf HFF ⊢
        have hbt := hbf.tail1 hnf (by have := HFF.out; omega) hcf
        obtain ⟨vs', w3, hr3, hap3⟩ := append_run _ w1.heap.size w2 vs (.slice (some ⟨gf, of, none⟩) nf cf) _ (frm b) 22 H2.s hbf (by have := HLE.out; have := HFF.out; omega) H2.hw
        have H3 := H2.putS hap3
        have hbt3 : Bs (fun k => wr.heap.size ≤ k ∧ k < w2.heap.size) w3 (.slice (some ⟨gf, of + 1, none⟩) (nf - 1) (cf - 1)) ((frm b).drop 1) :=
          hbt.kept (fun k hk => hap3.grown.block k hk.2.1 (fun e => by have := (own_lt H.out.s e.symm).2; have := hk.1; omega)) (fun k hk => ⟨hk.1, hk.2.1⟩)
        have hl1 : ((frm b).drop 1).length ≤ 20000 := by have := HFF.out; simp; omega
        obtain ⟨vh', w4, hr4, hap4⟩ := append_run _ w1.heap.size w3 vh (.slice (some ⟨gf, of + 1, none⟩) (nf - 1) (cf - 1)) _ ((frm b).drop 1) 22 H3.h hbt3 (by have := HLE.out; simp only [List.length_cons]; omega) H3.hw
        have H4 := H3.putH hap4
        obtain ⟨xs, hx1, hx2⟩ := H4.x
        have hu4 : w4.cell? ⟨g, off + k, none⟩ = some (.slice ua m uc) := (H4.below.cell (p := ⟨g, off + k, none⟩) HG1.out).trans HU0.out
        have HU4 := Lib.hid hu4
        have HA0 := Lib.hid (ApL.start hx1)
        have HX1 := Lib.hid hx1; have HX2 := Lib.hid hx2
        have HXL := Lib.hid (show (xs.length + 1) * 24 ≤ 140737488355328 by have h1 := hx2.1; have := HLE.out; omega)
        have HX3 := Lib.hid H4
        have R3 := Lib.hid hr3; have R4 := Lib.hid hr4
        have HHW := Lib.hid H4.hw
        have hn1 : 6 ≤ nf := by have := HFF.out; omega
        have hn2 : ¬ ((nf : Int) < 2) := by omega
        have hn3 : (1 : Int) ≤ (nf : Int) := by omega
        have hn4 : nf ≤ cf := hcf
        have hn5 : 1 ≤ nf := by omega
        have hn6 : 1 ≤ cf := by omega
        have hn7 : ¬ (cf = 1) := by omega
        have hn8 : (1 : Int) ≤ (cf : Int) := by omega
        clear H2 H3 H4 hbf hbt hbt3 hr3 hr4 hap3 hap4 hx1 hx2 hl1 hnf hof hb2 hcf hu1 hu4 HFF
        go_upto_region 15 with (fail)
        go_wp2_with (first
          | (at_builtin; refine wp_app rfl rfl rfl (.tmp 48) (.tmp 49) rfl rfl rfl R3.out ?_)
          | (at_builtin; refine wp_app rfl rfl rfl (.tmp 51) (.tmp 53) rfl rfl rfl R4.out ?_; have hu5 := HU4.out)
          | (at_builtin; refine wp_putL rfl rfl (.tmp 55) (.tmp 60) rfl w4 vw xs (.slice ua m uc) rfl _ _ HA0.out rfl rfl rfl HXL.out HHW.out ?_; intro vw' w5 hap5; have HAP5 := Lib.hid hap5; clear hap5))
        go_roundw
        case rel =>
          refine ⟨k + 1, by omega, by go_num, vs', vh', vw', rfl, rfl, rfl, ?_⟩
          have h5 := HX3.out.putW HX1.out HX2.out HAP5.out (HUB.out.kept (fun k hk => HX3.out.below.block k hk) (fun _ hk => hk))
          show RT w w1.heap.size _ _ _ vs' vh' vw' w5
          rw [HNX.out, List.flatMap_append, List.flatMap_append]
          simpa [frmT] using h5
        case measure => simp [intOf]; omega
      · rw [if_neg h8, List.append_nil] at hnx
        have HNX := Lib.hid hnx
        have h8' : (8192 : Int) < (m : Int) := by omega
        have HMK := Lib.hid (show ∀ wx, Below w.heap.size w wx → Calls Tryd.prog 11 #[.slice ua m uc] wx fun e w' => e = .returned (.tuple #[.slice none 0 0, .int .i64 2]) ∧ wx = w' from fun wx hx => make_big b _ wx (HUB.out.on hx) (by rw [← HM.out]; omega))
        have HBW := Lib.hid hb0
        clear hnx hl1 hl2 hl3 hl4 hl5 hl6 hb0 h8
        go_wp2_with fail
        refine (HMK.out wr HBW.out).mono ?_
        rintro e w2 ⟨rfl, rfl⟩
        go_wp2
        go_roundw
        case rel =>
          refine ⟨k + 1, by omega, by go_num, vs, vh, vw, rfl, rfl, rfl, ?_⟩
          show RT w w1.heap.size _ _ _ vs vh vw wr
          rw [HNX.out]
          exact H.out
        case measure => simp [intOf]; omega
    · obtain rfl : k = n := by omega
      have hT : l.take k = l := by rw [HN.out, List.take_length]
      have hR := H.out
      rw [hT] at hR
      clear H hT
      have hl1 := gd_len l; have hl2 := gd_flat l; have hl4 := frms_len (gd l); have hl6 := HS2.out
      rw [← HN.out] at hl1
      have hall : ∀ b ∈ gd l, Rg8 b ∧ b.length ≤ 8192 := by
        intro b hb
        obtain ⟨h1, h2⟩ := List.mem_filter.1 hb
        obtain ⟨j, hj, rfl⟩ := List.mem_iff_getElem.1 h1
        obtain ⟨_, _, _, _, _, _, hbs⟩ := HV.out.pick j hj
        exact ⟨hbs.2.1, of_decide_eq_true h2⟩
      generalize gd l = G at *
      obtain ⟨xs, hx1, hx2⟩ := hR.x
      obtain ⟨xa, xc, hvw⟩ := own_shape hx1
      rw [hx2.1] at hvw
      have hrs : Rg8 (G.flatMap frm) := by
        intro u hu
        obtain ⟨b, hb, hu⟩ := List.mem_flatMap.1 hu
        exact frm_rg (hall b hb).1 u hu
      have hrt : Rg8 (126 :: G.flatMap frmT) := by
        intro u hu
        rcases List.mem_cons.1 hu with rfl | hu
        · omega
        · obtain ⟨b, hb, hu⟩ := List.mem_flatMap.1 hu
          exact frm_rg (hall b hb).1 u (List.mem_of_mem_drop hu)
      have hbs := Bs.own hR.s (by omega) hrs
      have hbh := Bs.own hR.h (by simp only [List.length_cons]; omega) hrt
      have hlw := own_ls hx1 (hx2.kept (fun _ _ => rfl) (fun k hk => Nat.lt_of_lt_of_le hk hR.below.size)) (by omega)
      have HBR := Lib.hid hR.below
      subst hvw
      by_cases hG : G.length = 0
      · rw [hG]
        clear hl1 hl2 hl4 hl6 hrs hrt hbs hbh hlw hR hall hx1 hx2
        go_wp2
        go_ret
        exact ⟨rfl, HBR.out⟩
      · obtain ⟨s1, s2, s3⟩ := frames_all G hall st0 flag_first (fun e => hG (by rw [e]; rfl))
        obtain ⟨t1, t2, t3⟩ := shared_one G hall
        have HR1 := Lib.hid (show Calls Tryd.prog 19 #[vs, .slice xa G.length xc, .int .i64 ((0 : Nat) : Int)] wr fun e w' => e = .returned (.bool true) ∧ Below wr.heap.size wr w' from
          receives_any _ G 0 _ _ wr (HK.out.below HBR.out) hbs hlw (by omega) s1 s2 s3)
        have HR2 := Lib.hid (show ∀ wx, Below wr.heap.size wr wx → Calls Tryd.prog 19 #[vh, .slice xa G.length xc, .int .i64 ((0 : Nat) : Int)] wx fun e w' => e = .returned (.bool true) ∧ Below wx.heap.size wx w' from fun wx hx =>
          receives_any _ G 0 _ _ wx ((HK.out.below HBR.out).below hx) (hbh.on hx) (hlw.on hx) (by simp only [List.length_cons]; omega) t1 t2 t3)
        obtain ⟨q, hq⟩ : ∃ q, q = G.length := ⟨_, rfl⟩
        rw [← hq] at hG HR1 HR2 ⊢
        have hq0 : ((q : Int) == 0) = false := by simp; omega
        clear hl1 hl2 hl4 hl6 hrs hrt hbs hbh hlw hR hall hx1 hx2 s1 s2 s3 t1 t2 t3 hq
        go_wp2_with fail
        refine HR1.out.mono ?_
        rintro e w8 ⟨rfl, hb8⟩
        have HB8 := Lib.hid hb8; clear hb8
        go_wp2_with fail
        refine (HR2.out w8 HB8.out).mono ?_
        rintro e w9 ⟨rfl, hb9⟩
        have HB9 := Lib.hid (btrans (btrans HBR.out HB8.out) hb9); clear hb9
        go_wp2
        go_ret
        exact ⟨rfl, HB9.out⟩

/-- The door's own heap meets the condition. -/
theorem door_met (os : Os) (args : Array Value) : laidMetH Tryd.prog Rows.frameRoundTripUptoRow.laid ((World.doorLaid Tryd.prog 400 os).forCall (fun _ _ => 0) ⟨#[], args, []⟩).memory :=
  laidMetH_of_parts3 (fuel := 8) (laidMet_of_run' 8 (by kernel_rfl) (by kernel_rfl)) (by kernel_rfl) (by kernel_rfl)

set_option maxRecDepth 100000 in
theorem lifted (os : Os) (started : os.Started) (H : Type) (enc : TypeId × Value → H) (F : Stop.Interp) :
    ReturnsInHanded {} Tryd.checked os 5 .any (fun w args => ((Rows.OpenSpec.upto Rows.frameRoundTripSpec).pre enc Tryd.prog Tryd.f5 [] false w args ∧ laidMetH Tryd.prog Rows.frameRoundTripUptoRow.laid w) ∧ sizedMet enc Tryd.prog Tryd.f5 (Rows.OpenSpec.upto Rows.frameRoundTripSpec) false w args)
      (((Rows.OpenSpec.upto Rows.frameRoundTripSpec).at F).post enc Tryd.prog Tryd.f5 false true false false) := by
  refine returnsUpto (C := Tryd.checked) (s := (Rows.OpenSpec.upto Rows.frameRoundTripSpec)) (k := Rows.uptoSmall) rfl own started (by kernel_rfl) Tryd.func5
    (World.doorLaid Tryd.prog 400 os) #[.slice none 0 0] 8 rfl (World.shaped_of_RefB (by kernel_rfl) (by kernel_rfl)) (by kernel_rfl)
    (x := ([.nil], [], [])) (by kernel_rfl) rfl (by kernel_rfl) (door_met os _) ?_
  intro W base args ds gs before hval0 hW hk hL
  have hval : ∀ (j : Nat) t v, Tryd.f5.params[j]? = some t → args[j]? = some v → Value.okWide Tryd.prog W .any base t v := hval0
  clear hval0
  have hW' := hW
  obtain ⟨p, q, hA0, hV, rfl, hfz, hnd⟩ := hW
  have hA : DataW.TrodAll enc Tryd.prog W 0 (fun _ => true) true Tryd.f5.params.toList args.toList ds p := hA0
  rw [Tryd.params5] at hA hval
  obtain ⟨v0, vs0, d0, ds0, p0, q0, hargs, rfl, rfl, h0, r0⟩ := trodAll_cons hA
  obtain ⟨rfl, rfl, rfl⟩ := trodAll_nil r0
  obtain rfl : args = #[v0] := by cases args; simp_all
  obtain ⟨rfl, rfl⟩ := trodVars_none hV
  have hbk := of_decide_eq_true hk
  simp only [List.append_nil, Rows.uptoBulkAll] at hbk
  obtain ⟨oa0, ol0, oc0, rfl⟩ := okWide_slice Tryd.underlying32 (hval 0 32 v0 rfl rfl)
  obtain ⟨fu0, hf0⟩ := h0
  obtain ⟨b0, hb0, hbl0, hbf0⟩ := openUL (v := .slice oa0 ol0 oc0) hf0 (by show Rows.uptoBulk d0 ≤ _; omega)
  clear hA0
  refine (walk b0 _ W (kok_of_laid hL) hb0 (Nat.le_trans hbl0 (by show Rows.uptoBulk d0 ≤ _; omega)) (Nat.le_trans hbf0 (by show Rows.uptoBulk d0 ≤ _; omega))).mono fun e W' ⟨he, hbw⟩ => ?_
  subst he
  refine ⟨_, rfl, post_law laidOut ?_ rfl rfl hW' rfl rfl rfl hbw⟩
  intro t ht
  rw [Tryd.params5] at ht
  have hm : t ∈ [32] := by
    simp at ht
    subst ht; simp
  have hall : ([32].all fun u => Tryd.prog.readableRec u && decide (u < Tryd.prog.types.size)) = true := by kernel_rfl
  have := List.all_eq_true.1 hall t hm
  simpa using this

theorem over : Rows.frameRoundTripUptoRow.holds Tryd.pinned (Rows.OpenSpec.upto Rows.frameRoundTripSpec) :=
  OpenClaim.holds_of_cond 5 Tryd.f5 rfl rfl rfl rfl rfl rfl rfl ⟨rfl, rfl, rfl, rfl, rfl⟩ rfl rfl rfl rfl rfl (by kernel_rfl) Tryd.func5 (by kernel_rfl)
    (of_decide_eq_true (by kernel_rfl)) (by unfold Func.isWrapper; first | (rw [if_pos (by decide +kernel)]; kernel_rfl) | (rw [if_neg (by decide +kernel)]; exact ⟨rfl, rfl⟩))
    (fun os started H enc _ F => lifted os started H enc F)

/-- THE STATEMENT. -/
theorem proved : Rows.FrameRoundTripUptoCardSaid :=
  Claim7.holds_tied_plain_at .later [] [.data] true (true, "77527d3cf38f6b3763f46bed1e18cdecc3d688c4d8546000962d453ae035ff12") false
    over (fun _ h => by cases h) (by kernel_rfl) (fun _ h => by cases h) frameRoundTripUpto_row_tie rfl ⟨rfl, rfl⟩ (by kernel_rfl) rfl
    (fun f fn hf hfn => by
      obtain rfl : f = 5 := Option.some.inj ((show Tryd.prog.funcNamed "wagonpool/wagonpoollaw10.FrameRoundTrip" = some 5 by kernel_rfl).symm.trans hf) |>.symm
      obtain rfl : fn = Tryd.f5 := (Option.some.inj (Tryd.func5.symm.trans hfn)).symm
      exact ⟨by kernel_rfl, fun j t ht => by
        rw [Tryd.params5] at ht
        have hm : t ∈ [32] := by
          have := Array.mem_of_getElem? ht
          simp at this
          subst this; simp
        have hall : ([32].all fun u => !Tryd.prog.wantsStandIn u) = true := by kernel_rfl
        exact (show Tryd.prog.wantsStandIn t = false by simpa using List.all_eq_true.1 hall t hm)⟩)
    (by kernel_rfl)
#print axioms proved
end Go.Proofs.YtdmlnjgbfkkjdaaDoor.frameRoundTrip
