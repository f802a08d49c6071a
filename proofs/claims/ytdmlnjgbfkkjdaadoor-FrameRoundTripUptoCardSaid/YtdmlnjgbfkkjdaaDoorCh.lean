/-
  Walks of the reference: Joined, Sealed, Wrapped, Make.
-/
import Derived.Test.YtdmlnjgbfkkjdaaDoorCd
namespace Go.Proofs.YtdmlnjgbfkkjdaaDoor
open Go.RowKit
set_option linter.unusedVariables false
set_option linter.unusedSimpArgs false

/-- A new slice of bytes of the call's own. -/
def OwnOf (w : World) (b : List Int) (e : Ending) (w' : World) : Prop := ∃ v, e = .returned v ∧ Below w.heap.size w w' ∧ w'.ownsRow w.heap.size 5 1 v b.length (byteVals b)
theorem grown_below {B : Nat} {w0 w wa : World} {v : Value} (hb : Below B w0 w) (hg : w.grownBy wa v.ownBlock) (hs : B ≤ w.heap.size) (ho : ∀ g, v.ownBlock = some g → B ≤ g) : Below B w0 wa :=
  hb.trans ⟨hg.os, hg.tape, hg.output, hg.size, fun k hk => hg.block k (Nat.lt_of_lt_of_le hk hs) (fun e => by have := ho k e.symm; omega)⟩
theorem own_lt0 {w : World} {base e size n : Nat} {v : Value} {xs : List Value} (h : w.ownsRow base e size v n xs) {g : Nat} (hg : v.ownBlock = some g) : base ≤ g ∧ g < w.heap.size := by
  rcases h.2 with ⟨rfl, _⟩ | ⟨g', cap, cur, rfl, h3, h4, h5⟩
  · simp [Value.ownBlock] at hg
  · simp only [Value.ownBlock, Option.some.injEq] at hg
    subst hg
    exact ⟨h3, blt h4⟩
theorem own_mt (w : World) : (w.alloc (.cells #[] 5)).ownsRow w.heap.size 5 1 (.slice (some ⟨w.heap.size, 0, none⟩) 0 0) ([] : List Int).length (byteVals []) :=
  World.ownsRow_made w #[] 0 (Nat.le_refl _) (by unfold maxLen; omega) (by simp)

set_option maxHeartbeats 400000 in
theorem joined_any (a b : List Int) (va vb : Value) (w : World) (ha : Bs (fun k => k < w.heap.size) w va a) (hb : Bs (fun k => k < w.heap.size) w vb b) (hlen : a.length + b.length ≤ 140737488355328) :
    Calls Tryd.prog 20 #[va, vb] w (OwnOf w (a ++ b)) := by
  have h0 := own_mt w
  have hb0 : Below w.heap.size w (w.alloc (.cells #[] 5)) := ball (Below.refl _ _) _
  obtain ⟨v1, w1, hr1, h1⟩ := append_run _ w.heap.size _ _ va [] a 22 h0 (ha.on hb0) (by simp; omega) hb0.size
  rw [List.nil_append] at h1
  have hb1 : Below w.heap.size w w1 := grown_below hb0 h1.grown hb0.size (fun g hg => by simp [Value.ownBlock] at hg; omega)
  obtain ⟨v2, w2, hr2, h2⟩ := append_run _ w.heap.size _ _ vb a b 22 h1.own (hb.on hb1) hlen hb1.size
  have hb2 : Below w.heap.size w w2 := grown_below hb1 h2.grown hb1.size (fun g hg => (own_lt0 h1.own hg).1)
  have H2 := Lib.hid h2; have HB2 := Lib.hid hb2
  have R1 := Lib.hid hr1; have R2 := Lib.hid hr2
  clear h0 hb0 h1 hb1 h2 hb2 ha hb hlen hr1 hr2
  go_enter Tryd.func20, Tryd.ntmps20
  go_wp2_with (first | (at_builtin; refine wp_app rfl rfl rfl (.tmp 7) (.tmp 8) rfl rfl rfl R1.out ?_) | (at_builtin; refine wp_app rfl rfl rfl (.tmp 10) (.tmp 11) rfl rfl rfl R2.out ?_))
  go_ret
  exact ⟨_, rfl, HB2.out, H2.out.own⟩

theorem sumB_walk (C : Nat) (hC : C < 4294967296) : [(C : Int) / 16777216, (C : Int) / 65536 % 256, (C : Int) / 256 % 256, (C : Int) % 256] = sumB C := by
  unfold sumB; simp; omega
set_option maxHeartbeats 400000 in
theorem sealed_any (b : List Int) (C : Nat) (vb : Value) (w : World) (hC : C < 4294967296) (hb : Bs (fun k => k < w.heap.size) w vb b) (hlen : b.length + 4 ≤ 140737488355328) :
    Calls Tryd.prog 22 #[vb, .int .u32 (C : Nat)] w (OwnOf w (sealF b C)) := by
  have h0 := own_mt w
  have hb0 : Below w.heap.size w (w.alloc (.cells #[] 5)) := ball (Below.refl _ _) _
  obtain ⟨v1, w1, hr1, h1⟩ := append_run _ w.heap.size _ _ vb [] b 22 h0 (hb.on hb0) (by simp; omega) hb0.size
  rw [List.nil_append] at h1
  have hb1 : Below w.heap.size w w1 := grown_below hb0 h1.grown hb0.size (fun g hg => by simp [Value.ownBlock] at hg; omega)
  have HA := Lib.hid (Apd.start h1.own)
  have HO := Lib.hid h1.own
  have HL := Lib.hid hlen
  have HB1 := Lib.hid hb1
  have R1 := Lib.hid hr1
  clear h0 hb0 h1 hb1 hb hlen hr1
  go_enter Tryd.func22, Tryd.ntmps22
  go_wp2_with (first | (at_builtin; refine wp_app rfl rfl rfl (.tmp 7) (.tmp 8) rfl rfl rfl R1.out ?_) | (at_builtin; refine wp_put rfl rfl (.tmp 10) (.tmp 22) rfl _ _ _ [(C : Int) / 16777216, (C : Int) / 65536 % 256, (C : Int) / 256 % 256, (C : Int) % 256] _ _ _ HA.out rfl rfl rfl rfl (by have := HL.out; simp; omega) HB1.out.size ?_; intro v2 w2 hA2; have HA2 := Lib.hid hA2; clear hA2))
  go_ret
  have h := HA2.out
  rw [sumB_walk C hC] at h
  exact ⟨_, rfl, grown_below HB1.out h.grown HB1.out.size (fun g hg => (own_lt0 HO.out hg).1), h.own⟩

/-- A slice of bytes of the call's own, and nothing of the old memory has changed. -/
def OW (w wr : World) (v : Value) (l : List Int) : Prop := Below w.heap.size w wr ∧ wr.ownsRow w.heap.size 5 1 v l.length (byteVals l)
theorem OW.put {w wr w' : World} {v v' : Value} {l l' : List Int} (h : OW w wr v l) (ha : Apd w.heap.size wr v w' v' l') : OW w w' v' l' :=
  ⟨grown_below h.1 ha.grown h.1.size (fun g hg => (own_lt0 h.2 hg).1), ha.own⟩
theorem OW.one (w : World) (x : Int) : OW w (w.alloc (.cells #[.int .u8 x] 5)) (.slice (some ⟨w.heap.size, 0, none⟩) 1 1) [x] :=
  ⟨ball (Below.refl _ _) _, World.ownsRow_lit w #[.int .u8 x] 1 (Nat.le_refl _) (by unfold maxLen; omega) rfl⟩
theorem OW.apd {w wr : World} {v : Value} {l : List Int} (h : OW w wr v l) : Apd w.heap.size wr v wr v l := Apd.start h.2
theorem esc_take_le' (b : List Int) (k : Nat) : (esc (b.take k)).length ≤ (esc b).length := by
  have e : esc b = esc (b.take k) ++ esc (b.drop k) := by rw [← esc_append, List.take_append_drop]
  rw [e, List.length_append]; omega
set_option maxHeartbeats 1000000 in
theorem wrapped_any (b : List Int) (vb : Value) (w : World) (hb : Bs (fun k => k < w.heap.size) w vb b) (hlen : (esc b).length + 2 ≤ 140737488355328) :
    Calls Tryd.prog 21 #[vb] w (OwnOf w (wrapF b)) := by
  obtain ⟨hbl, hrg, a, cap, rfl, hcap, hp⟩ := hb
  have Hp := Lib.hid hp; clear hp
  have Hrg := Lib.hid hrg; clear hrg
  have HO := Lib.hid (OW.one w 126)
  go_enter Tryd.func21, Tryd.ntmps21
  go_wp2
  go_loopw [3, 4] (fun x3 i wr => ∃ k : Nat, k ≤ b.length ∧ i = .int .i64 k ∧ ∃ v : Value, v = x3 ∧ Hid (OW w wr v ([126] ++ esc (b.take k)))) (fun _ i _ => b.length - (intOf i).toNat)
  case atStart => exact ⟨0, Nat.zero_le _, rfl, _, rfl, Lib.hid (by simpa [esc] using HO.out)⟩
  case round =>
    obtain ⟨k, hk, rfl, v, rfl, hA2⟩ := hrel
    by_cases hlt : k < b.length
    · obtain ⟨g, off, rfl, hg, hc⟩ := Hp.out (by omega)
      have d0 := (hA2.out.1.cell (p := ⟨g, off + k, none⟩) hg).trans (hc k b[k] (List.getElem?_eq_getElem hlt))
      obtain ⟨h0, h255⟩ := Hrg.out b[k] (List.getElem_mem hlt)
      have hn := esc_next b k hlt
      have hle := esc_take_le' b (k + 1)
      have hws := hA2.out.1.size
      have HA := Lib.hid hA2.out.apd
      clear hc
      by_cases hz : b[k] = 126 ∨ b[k] = 125
      · have hn2 : esc (b.take (k + 1)) = esc (b.take k) ++ [125, x32 b[k]] := by rw [hn]; unfold eb; rw [if_pos hz]
        rw [hn2, List.length_append] at hle
        have Hn := Lib.hid hn2; clear hn hn2
        have hle' : (esc (b.take k)).length + 2 ≤ (esc b).length := by simpa using hle
        clear hle
        rcases hz with hz | hz
        · have ht : (b[k] == 126) = true := by rw [hz]; rfl
          clear hz
          go_wp2_with (at_builtin; refine wp_put rfl rfl (.tmp 24) (.tmp 30) rfl _ _ _ [125, x32 b[k]] _ _ _ HA.out rfl rfl rfl rfl (by simp; omega) (by omega) ?_; intro v2 w2 hA3'; have hA3 := Lib.hid hA3'; clear hA3')
          go_roundw
          case rel =>
            refine ⟨k + 1, by omega, by go_num, v2, rfl, ?_⟩
            show OW w w2 v2 ([126] ++ esc (b.take (k + 1)))
            rw [Hn.out, ← List.append_assoc]
            exact hA2.out.put hA3.out
          case measure => simp [intOf]; omega
        · have ht : (b[k] == 125) = true := by rw [hz]; rfl
          have ht2 : (b[k] == 126) = false := by rw [hz]; rfl
          clear hz
          go_wp2_with (at_builtin; refine wp_put rfl rfl (.tmp 24) (.tmp 30) rfl _ _ _ [125, x32 b[k]] _ _ _ HA.out rfl rfl rfl rfl (by simp; omega) (by omega) ?_; intro v2 w2 hA3'; have hA3 := Lib.hid hA3'; clear hA3')
          go_roundw
          case rel =>
            refine ⟨k + 1, by omega, by go_num, v2, rfl, ?_⟩
            show OW w w2 v2 ([126] ++ esc (b.take (k + 1)))
            rw [Hn.out, ← List.append_assoc]
            exact hA2.out.put hA3.out
          case measure => simp [intOf]; omega
      · have hn2 : esc (b.take (k + 1)) = esc (b.take k) ++ [b[k]] := by rw [hn]; unfold eb; rw [if_neg hz]
        rw [hn2, List.length_append] at hle
        have Hn := Lib.hid hn2; clear hn hn2
        have hle' : (esc (b.take k)).length + 1 ≤ (esc b).length := by simpa using hle
        clear hle
        simp only [not_or] at hz
        have ht : (b[k] == 126) = false := by simpa using hz.1
        have ht2 : (b[k] == 125) = false := by simpa using hz.2
        clear hz
        go_wp2_with (at_builtin; refine wp_put rfl rfl (.tmp 32) (.tmp 37) rfl _ _ _ [b[k]] _ _ _ HA.out rfl rfl rfl rfl (by simp; omega) (by omega) ?_; intro v2 w2 hA3'; have hA3 := Lib.hid hA3'; clear hA3')
        go_roundw
        case rel =>
          refine ⟨k + 1, by omega, by go_num, v2, rfl, ?_⟩
          show OW w w2 v2 ([126] ++ esc (b.take (k + 1)))
          rw [Hn.out, ← List.append_assoc]
          exact hA2.out.put hA3.out
        case measure => simp [intOf]; omega
    · have hk' : k = b.length := by omega
      subst hk'
      rw [List.take_length] at hA2
      have HA := Lib.hid hA2.out.apd
      go_wp2_with (at_builtin; refine wp_put rfl rfl (.tmp 39) (.tmp 40) rfl _ _ _ [126] _ _ _ HA.out rfl rfl rfl rfl (by simp; omega) hA2.out.1.size ?_; intro v2 w2 hA3'; have hA3 := Lib.hid hA3'; clear hA3')
      go_ret
      have h := hA2.out.put hA3.out
      exact ⟨_, rfl, h.1, h.2⟩

set_option maxHeartbeats 1000000 in
theorem rmake_big (b : List Int) (v : Value) (w : World) (hv : Bs (fun k => k < w.heap.size) w v b) (hb : 8192 < b.length) :
    Calls Tryd.prog 12 #[v] w fun e w' => e = .returned (.tuple #[.slice none 0 0, .int .i64 2]) ∧ w = w' := by
  obtain ⟨a, c, rfl⟩ := hv.shape
  clear hv
  generalize b.length = n at *
  have hb' : (8192 : Int) < (n : Int) := by omega
  go_enter Tryd.func12, Tryd.ntmps12
  go_wp2
  go_ret2
  exact ⟨rfl, rfl⟩
theorem Bs.own {w : World} {base : Nat} {v : Value} {b : List Int} (h : w.ownsRow base 5 1 v b.length (byteVals b)) (hl : b.length ≤ 140737488355328) (hr : Rg8 b) : Bs (fun k => k < w.heap.size) w v b :=
  (Bs.ofOwn h hl hr).kept (fun _ _ => rfl) (fun k hk => hk.2.1)
set_option maxHeartbeats 1000000 in
theorem rmake_any (b : List Int) (v : Value) (w : World) (hv : Bs (fun k => k < w.heap.size) w v b) (hb : b.length ≤ 8192) :
    Calls Tryd.prog 12 #[v] w (MkOf w b) := by
  have hrg : Rg8 b := hv.2.1
  have HR := Lib.hid (show ∀ wx, Below w.heap.size w wx → Calls Tryd.prog 14 #[v] wx fun e w' => e = .returned (.int .u32 (crcI b : Nat)) ∧ wx = w' from fun wx hx => rcrc_any b v wx (hv.on hx))
  have HS := Lib.hid (sealed_any b (crcI b) v w (crcI_lt hrg) hv (by omega))
  have l1 := (esc_len (sealF b (crcI b))).2
  rw [seal_len] at l1
  have HW := Lib.hid (show ∀ w1 v1, OW w w1 v1 (sealF b (crcI b)) → Calls Tryd.prog 21 #[v1] w1 (OwnOf w1 (frm b)) from fun w1 v1 h => wrapped_any _ v1 w1 (Bs.own h.2 (by rw [seal_len]; omega) (seal_rg hrg _)) (by omega))
  obtain ⟨a, c, rfl⟩ := hv.shape
  have HB := Lib.hid hb
  clear hv l1 hrg
  generalize crcI b = C at *
  obtain ⟨n, hn⟩ : ∃ n, n = b.length := ⟨_, rfl⟩
  rw [← hn] at HR HS hb ⊢
  clear hn HB
  go_enter Tryd.func12, Tryd.ntmps12
  go_wp2_with fail
  refine (HR.out _ (Below.refl _ _)).mono ?_
  rintro e w1 ⟨rfl, rfl⟩
  go_wp2_with fail
  refine HS.out.mono ?_
  rintro e w2 ⟨v2, rfl, hb2, ho2⟩
  have HO := Lib.hid (show OW w w2 v2 (sealF b C) from ⟨hb2, ho2⟩)
  clear hb2 ho2
  go_wp2_with fail
  refine (HW.out _ _ HO.out).mono ?_
  rintro e w3 ⟨v3, rfl, hb3, ho3⟩
  have HB3 := Lib.hid (btrans HO.out.1 hb3)
  have HO3 := Lib.hid (owns_base ho3 HO.out.1.size)
  clear hb3 ho3
  go_wp2
  go_ret2
  exact ⟨_, rfl, HB3.out, HO3.out⟩
end Go.Proofs.YtdmlnjgbfkkjdaaDoor
