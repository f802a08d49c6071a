/-
  Walks: appendEscaped; Make.
-/
import Derived.Test.YtdmlnjgbfkkjdaaDoorCb
namespace Go.Proofs.YtdmlnjgbfkkjdaaDoor
open Go.RowKit
set_option linter.unusedVariables false
set_option linter.unusedSimpArgs false

def PutOf (base : Nat) (w : World) (v : Value) (bs : List Int) (e : Ending) (w' : World) : Prop := ∃ v', e = .returned v' ∧ Apd base w v w' v' bs
theorem esc_take_le (b : List Int) (k : Nat) : (esc (b.take k)).length ≤ (esc b).length := by
  have e : esc b = esc (b.take k) ++ esc (b.drop k) := by rw [← esc_append, List.take_append_drop]
  rw [e, List.length_append]; omega

set_option maxHeartbeats 1000000 in
theorem appendEsc_any (F : Nat → Prop) (base : Nat) (w : World) (vin u : Value) (bs b : List Int) (hF : ∀ k, F k → k < base) (hbase : base ≤ w.heap.size) (hv : w.ownsRow base 5 1 vin bs.length (byteVals bs)) (hu : Bs F w u b)
    (hsz : bs.length + (esc b).length ≤ 140737488355328) : Calls Tryd.prog 24 #[vin, u] w (PutOf base w vin (bs ++ esc b)) := by
  obtain ⟨hbl, hrg, a, cap, rfl, hcap, hp⟩ := hu
  have hA := Apd.start hv
  have HA := Lib.hid hA; clear hA hv
  have Hp := Lib.hid hp; clear hp
  have Hrg := Lib.hid hrg; clear hrg
  have HF := Lib.hid hF; clear hF
  go_enter Tryd.func24, Tryd.ntmps24
  go_wp2
  go_loopw [0, 9] (fun v i wr => ∃ k : Nat, k ≤ b.length ∧ i = .int .i64 k ∧ Hid (Apd base w vin wr v (bs ++ esc (b.take k)))) (fun _ i _ => b.length - (intOf i).toNat)
  case atStart => exact ⟨0, Nat.zero_le _, rfl, Lib.hid (by simpa [esc] using HA.out)⟩
  case round =>
    obtain ⟨k, hk, rfl, hA2⟩ := hrel
    by_cases hlt : k < b.length
    · obtain ⟨g, off, rfl, hg, hc⟩ := Hp.out (by omega)
      have hgw := HF.out g hg
      have hgb : wr.heap[g]? = w.heap[g]? := hA2.out.grown.block g (by omega) (by
        intro e
        have := (HA.out.own.lt g e.symm).1
        omega)
      have d0 := (World.cell?_of_block (w := w) (a := ⟨g, off + k, none⟩) hgb).trans (hc k b[k] (List.getElem?_eq_getElem hlt))
      obtain ⟨h0, h255⟩ := Hrg.out b[k] (List.getElem_mem hlt)
      have hn := esc_next b k hlt
      have hle := esc_take_le b (k + 1)
      have hws := hA2.out.grown.size
      clear hc hgb
      by_cases hz : b[k] = 126 ∨ b[k] = 125
      · have hn2 : esc (b.take (k + 1)) = esc (b.take k) ++ [125, x32 b[k]] := by rw [hn]; unfold eb; rw [if_pos hz]
        rw [hn2, List.length_append] at hle
        have Hn := Lib.hid hn2; clear hn hn2
        have hle' : (esc (b.take k)).length + 2 ≤ (esc b).length := by simpa using hle
        clear hle
        rcases hz with hz | hz
        · have ht : (b[k] == 126) = true := by rw [hz]; rfl
          clear hz
          go_wp2_with (at_builtin; refine wp_put rfl rfl (.tmp 19) (.tmp 22) rfl _ _ _ [125, x32 b[k]] _ _ _ hA2.out rfl rfl rfl rfl (by simp; omega) (by omega) ?_; intro v2 w2 hA3'; have hA3 := Lib.hid hA3'; clear hA3')
          go_roundw
          case rel =>
            refine ⟨k + 1, by omega, by go_num, ?_⟩
            show Apd base w vin w2 v2 (bs ++ esc (b.take (k + 1)))
            rw [Hn.out, ← List.append_assoc]
            exact hA3.out
          case measure => simp [intOf]; omega
        · have ht : (b[k] == 125) = true := by rw [hz]; rfl
          have ht2 : (b[k] == 126) = false := by rw [hz]; rfl
          clear hz
          go_wp2_with (at_builtin; refine wp_put rfl rfl (.tmp 19) (.tmp 22) rfl _ _ _ [125, x32 b[k]] _ _ _ hA2.out rfl rfl rfl rfl (by simp; omega) (by omega) ?_; intro v2 w2 hA3'; have hA3 := Lib.hid hA3'; clear hA3')
          go_roundw
          case rel =>
            refine ⟨k + 1, by omega, by go_num, ?_⟩
            show Apd base w vin w2 v2 (bs ++ esc (b.take (k + 1)))
            rw [Hn.out, ← List.append_assoc]
            exact hA3.out
          case measure => simp [intOf]; omega
      · have hn2 : esc (b.take (k + 1)) = esc (b.take k) ++ [b[k]] := by rw [hn]; unfold eb; rw [if_neg hz]
        rw [hn2, List.length_append] at hle
        have Hn := Lib.hid hn2; clear hn hn2
        have hle' : (esc (b.take k)).length + 1 ≤ (esc b).length := by simpa using hle
        clear hle
        simp only [not_or] at hz
        have ht : (b[k] == 126) = false := by simpa using hz.1
        have ht2 : (b[k] == 125) = false := by simpa using hz.2
        clear hz
        go_wp2_with (at_builtin; refine wp_put rfl rfl (.tmp 24) (.tmp 26) rfl _ _ _ [b[k]] _ _ _ hA2.out rfl rfl rfl rfl (by simp; omega) (by omega) ?_; intro v2 w2 hA3'; have hA3 := Lib.hid hA3'; clear hA3')
        go_roundw
        case rel =>
          refine ⟨k + 1, by omega, by go_num, ?_⟩
          show Apd base w vin w2 v2 (bs ++ esc (b.take (k + 1)))
          rw [Hn.out, ← List.append_assoc]
          exact hA3.out
        case measure => simp [intOf]; omega
    · have hk' : k = b.length := by omega
      subst hk'
      rw [List.take_length] at hA2
      go_wp2
      go_ret
      exact ⟨_, rfl, hA2.out⟩

theorem sum_bs {w : World} {B : Nat} {l : List Int} (h : RowB w B 42 l) (hl : l.length = 4) (hr : Rg8 l) : Bs (fun k => k = B) w (.slice (some ⟨B, 0, none⟩) 4 4) l := by
  have := Bs.ofRow (F := fun k => k = B) h rfl hr 4 4 (by omega) (by omega) (by omega)
  rwa [List.take_of_length_le (by omega)] at this

theorem Apd.below {base : Nat} {w0 w : World} {v : Value} {bs : List Int} (h : Apd base w0 (.slice none 0 0) w v bs) : Below w0.heap.size w0 w :=
  ⟨h.grown.os, h.grown.tape, h.grown.output, h.grown.size, fun k hk => h.grown.block k hk (by simp [Value.ownBlock])⟩
theorem apd_nil (w : World) : Apd w.heap.size w (.slice none 0 0) w (.slice none 0 0) [] := Apd.start (World.ownsRow_nil _ _ _ _)
theorem Bs.mono {F G : Nat → Prop} {w : World} {v : Value} {b : List Int} (h : Bs F w v b) (hF : ∀ k, F k → G k) : Bs G w v b := h.kept (fun _ _ => rfl) hF
theorem row_world (w w1 : World) (C : List Int) (hb : Below w.heap.size w w1) : ∃ W, (w1.alloc (.cells #[.int .u8 0, .int .u8 0, .int .u8 0, .int .u8 0] 42)).setRow w1.heap.size (byteVals C).toArray = W ∧ RowB W w1.heap.size 42 C ∧ W.heap.size = w1.heap.size + 1 ∧ Below w.heap.size w W := by
  have h0 : RowB (w1.alloc (.cells #[.int .u8 0, .int .u8 0, .int .u8 0, .int .u8 0] 42)) w1.heap.size 42 [0, 0, 0, 0] := RowB.new' w1 rfl rfl
  exact ⟨_, rfl, RowB.put h0, by simp, bsetRow (ball hb _) hb.size _⟩
def MkOf (w : World) (b : List Int) (e : Ending) (w' : World) : Prop := ∃ v, e = .returned (.tuple #[v, .int .i64 0]) ∧ Below w.heap.size w w' ∧ w'.ownsRow w.heap.size 5 1 v (frm b).length (byteVals (frm b))
set_option maxHeartbeats 1000000 in
theorem make_big (b : List Int) (v : Value) (w : World) (hv : Bs (fun k => k < w.heap.size) w v b) (hb : 8192 < b.length) :
    Calls Tryd.prog 11 #[v] w fun e w' => e = .returned (.tuple #[.slice none 0 0, .int .i64 2]) ∧ w = w' := by
  obtain ⟨a, c, rfl⟩ := hv.shape
  clear hv
  generalize b.length = n at *
  have hb' : (8192 : Int) < (n : Int) := by omega
  go_enter Tryd.func11, Tryd.ntmps11
  go_wp2
  go_ret2
  exact ⟨rfl, rfl⟩
set_option maxHeartbeats 1000000 in
theorem make_any (b : List Int) (v : Value) (w : World) (hk : KOk w) (hv : Bs (fun k => k < w.heap.size) w v b) (hb : b.length ≤ 8192) :
    Calls Tryd.prog 11 #[v] w (MkOf w b) := by
  have HC := Lib.hid (sum_any b v w hk hv)
  have HV := Lib.hid hv
  obtain ⟨C, hC⟩ : ∃ C : List Int, C = sumB (crcI b) := ⟨_, rfl⟩
  have hCl : C.length = 4 := by rw [hC]; rfl
  have hCr : Rg8 C := by rw [hC]; exact sumB_rg _
  have HF := Lib.hid (show frm b = [126] ++ esc b ++ esc C ++ [126] by rw [hC]; unfold frm wrapF sealF; rw [esc_append]; simp)
  have l1 := (esc_len b).2
  have l2 := (esc_len C).2
  rw [hCl] at l2
  rw [← hC] at HC
  obtain ⟨a, c, rfl⟩ := hv.shape
  clear hv hC
  have HCL := Lib.hid hCl; clear hCl
  have HCR := Lib.hid hCr; clear hCr hk
  have HB := Lib.hid hb
  obtain ⟨n, hn⟩ : ∃ n, n = b.length := ⟨_, rfl⟩
  rw [← hn] at HC HV hb ⊢
  have HN := Lib.hid hn; clear hn
  go_enter Tryd.func11, Tryd.ntmps11
  go_wp2_with fail
  refine HC.out.mono ?_
  rintro e w1 ⟨rfl, hb1⟩
  have HB1 := Lib.hid hb1; clear hb1 HC
  have h0 : RowB (w1.alloc (.cells #[.int .u8 0, .int .u8 0, .int .u8 0, .int .u8 0] 42)) w1.heap.size 42 [0, 0, 0, 0] := RowB.new' w1 rfl rfl
  have HSZ := Lib.hid (show (byteVals [0, 0, 0, 0]).toArray.size = (byteVals C).toArray.size by simp [byteVals_length, HCL.out])
  go_wp2_with (first
    | (refine wpList_store_row rfl 42 (.tmp 4) (.tmp 9) rfl w1.heap.size _ rfl rfl 42 _ h0 (size42 _ HCL.out) HSZ.out (all_byteVals _) ?_; obtain ⟨W, hW, h3⟩ := row_world w w1 C HB1.out; rw [hW]; have H := Lib.hid h3; clear hW h3 h0; have HA := Lib.hid (apd_nil W))
    | (at_builtin; refine wp_put rfl rfl (.tmp 10) (.tmp 11) rfl _ _ _ [126] _ _ _ HA.out rfl rfl rfl rfl (by simp) (Nat.le_refl _) ?_; intro v1 w2 hA1; have HA1 := Lib.hid hA1; clear hA1 HA)
    | (go_at_call 24; refine (appendEsc_any (fun k => k < w.heap.size) W.heap.size _ _ _ ([] ++ [126]) b (fun k hk => Nat.lt_of_lt_of_le hk H.out.2.2.size) HA1.out.grown.size HA1.out.own ((HV.out.below (fun _ h => h) H.out.2.2).below (fun k hk => Nat.lt_of_lt_of_le hk H.out.2.2.size) HA1.out.below) (by simp; have := HB.out; omega)).mono ?_; rintro e w3 ⟨v2, rfl, hA2⟩; have HA2 := Lib.hid (HA1.out.trans hA2); clear hA2 HA1)
    | (go_at_call 24; refine (appendEsc_any (fun k => k = w1.heap.size) W.heap.size _ _ _ (([] ++ [126]) ++ esc b) C (fun k hk => by have := H.out.2.1; omega) HA2.out.grown.size HA2.out.own ((sum_bs H.out.1 HCL.out HCR.out).kept (fun k hk => HA2.out.below.block k (by have := H.out.2.1; omega)) (fun _ h => h)) (by simp; have := HB.out; omega)).mono ?_; rintro e w4 ⟨v3, rfl, hA3⟩; have HA3 := Lib.hid (HA2.out.trans hA3); clear hA3 HA2)
    | (at_builtin; refine wp_put rfl rfl (.tmp 19) (.tmp 20) rfl _ _ _ [126] _ _ _ HA3.out rfl rfl rfl rfl (by simp; have := HB.out; omega) HA3.out.grown.size ?_; intro v4 w5 hA4; have HA4 := Lib.hid hA4; clear hA4))
  go_ret2
  refine ⟨_, rfl, btrans H.out.2.2 HA4.out.below, ?_⟩
  have h := HA4.out.own
  rw [HF.out]
  exact owns_base h H.out.2.2.size
end Go.Proofs.YtdmlnjgbfkkjdaaDoor
