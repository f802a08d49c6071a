/-
  Walks: Times, Between, Edge.
-/
import Derived.Test.YtbeoldklpklbfaaPn
namespace Go.Proofs.Ytbeoldklpklbfaa
open Go.RowKit
set_option linter.unusedVariables false
set_option linter.unusedSimpArgs false

theorem hl_lit1 (w : World) (x : Int) (hx : I64 x) : Hl (fun k => k < (w.alloc (.cells #[.int .i64 x] 3)).heap.size) (w.alloc (.cells #[.int .i64 x] 3)) (.slice (some ⟨w.heap.size, 0, none⟩) 1 1) [x] := by
  refine ⟨by simp, by simpa using hx, _, 1, rfl, by simp, fun _ => ⟨_, 0, rfl, by rw [World.size_alloc]; omega, fun j y hj => ?_⟩⟩
  rw [Nat.zero_add]
  refine cells_new1 w [.int .i64 x] 3 j _ ?_
  cases j with
  | zero => simp at hj; subst hj; rfl
  | succ j => simp at hj
theorem hl_lit2 (w : World) (x y : Int) (hx : I64 x) (hy : I64 y) : Hl (fun k => k < (w.alloc (.cells #[.int .i64 x, .int .i64 y] 3)).heap.size) (w.alloc (.cells #[.int .i64 x, .int .i64 y] 3)) (.slice (some ⟨w.heap.size, 0, none⟩) 2 2) [x, y] := by
  refine ⟨by simp, by simp [hx, hy], _, 2, rfl, by simp, fun _ => ⟨_, 0, rfl, by rw [World.size_alloc]; omega, fun j z hj => ?_⟩⟩
  rw [Nat.zero_add]
  refine cells_new1 w [.int .i64 x, .int .i64 y] 3 j _ ?_
  match j, hj with
  | 0, hj => simp at hj; subst hj; rfl
  | 1, hj => simp at hj; subst hj; rfl
  | j + 2, hj => simp at hj
theorem run_field63 (a : Option Addr) (n c B : Nat) (v2 : Value) (w : World) : (Instr.field 63 (.agg #[.slice a n c, .map (some B), v2]) 1).run Try.prog w = .ok (.map (some B)) w := by
  kernel_rfl
/-- The times are within bounds. -/
theorem ival {n : Nat} {L : List Int} (hn : n ≤ 512) (h1 : ∀ p, dv L p ≤ 100000 * n) (h2 : ∀ p, -1 ≤ dv L p) (p : Nat) : -1 ≤ dv L p ∧ dv L p ≤ 60000000 := ⟨h2 p, by have := h1 p; omega⟩

set_option maxRecDepth 100000 in
set_option maxHeartbeats 4000000 in
theorem timesP_any {V : Value} {ps : List Pc} {eds : List Ed} {w : World} (h : Nw w V ps eds) (f : Int) (hf : I64 f) :
    Calls Try.prog 15 #[V, .int .i64 f] w fun e w' => ∃ (a : Option Addr) (k c : Nat) (L : List Int) (E : Int), e = .returned (.tuple #[.slice a k c, .int .i64 E]) ∧ Below w.heap.size w w' ∧ Hl (fun k => k < w'.heap.size) w' (.slice a k c) L ∧ TR ps eds f L E ∧ (∀ p, -1 ≤ dv L p ∧ dv L p ≤ 60000000) := by
  obtain ⟨va, vc, vb, vd, rfl, h1, h2⟩ := h.shape
  obtain ⟨n, hn⟩ : ∃ n, n = ps.length := ⟨_, rfl⟩
  obtain ⟨m, hm⟩ : ∃ m, m = eds.length := ⟨_, rfl⟩
  rw [← hn, ← hm] at h ⊢
  have HN := Lib.hid hn; have HM := Lib.hid hm
  obtain ⟨W, hW⟩ : ∃ W, W = w.alloc (.cells #[.slice va n vc, .slice vb m vd] 25) := ⟨_, rfl⟩
  have hB : Below w.heap.size w W := by rw [hW]; exact ball (Below.refl w.heap.size w) _
  have e0 : W.heap[w.heap.size]? = some (.cells #[.slice va n vc, .slice vb m vd] 25 (0, 0)) := by rw [hW]; exact bnew _ _
  have hV := h.on hB
  obtain ⟨b0, b1⟩ := box2 e0
  have hl1 := ball (Below.refl W.heap.size W) (.cells #[.int .i64 f] 3)
  obtain ⟨E, hE⟩ : ∃ E, E = cerr ps eds [f] := ⟨_, rfl⟩
  have hlit := hl_lit1 W f hf
  rw [show W.heap.size = w.heap.size + 1 by rw [hW, World.size_alloc]] at hlit
  have HC := Lib.hid (ccall_any (hV.on hl1) hlit E hE)
  have HB := Lib.hid hB; have HE0 := Lib.hid e0; have HL1 := Lib.hid hl1; have HV := Lib.hid hV; have HEE := Lib.hid hE
  clear h h1 h2 hn hm hB e0 hV hl1 hE hlit
  by_cases c0 : E = 0
  · subst c0
    obtain ⟨hc, hp⟩ := cerr_zero HEE.out.symm
    obtain ⟨es, hval⟩ := chk_val hc
    obtain ⟨fn, rfl, hfn⟩ := plc_mem hp (p := f) (by simp)
    have HFN := Lib.hid hfn
    have HGR := Lib.hid (fun (w' : World) (hb : Below W.heap.size W w') => graph_any (n := n) (by have := HV.out.on hb; rw [hval.1] at this; exact this) HN.out.symm (by have := hval.2.2.1; have := HN.out; omega) (by have := hval.2.2.2; omega) (by rw [HN.out]; exact hval.2.1))
    have HVAL := Lib.hid hval
    clear hc hp hval hfn hf
    go_enter Try.func15, Try.ntmps15
    go_wp2_with fail
    rw [← hW]
    clear hW
    refine HC.out.mono ?_
    rintro e w1 ⟨rfl, hb⟩
    have hbb := btrans HL1.out hb
    have HG := Lib.hid (HGR.out w1 hbb)
    have HB1 := Lib.hid (btrans HB.out hbb)
    obtain ⟨d0, d1⟩ := box2 (bon HE0.out hbb)
    clear hb hbb b0 b1 HC HV HE0 HGR
    go_wp2_with fail
    refine HG.out.mono ?_
    rintro e w2 ⟨ea, en, ec, B, G, rfl, hb2, hgr⟩
    have ht := times_any hgr (by rw [HN.out]; exact HVAL.out.2.1) (by have := HVAL.out.2.2.1; have := HN.out; omega) (f := fn) (by rw [HN.out]; exact HFN.out)
    have HT := Lib.hid ht; have HB2 := Lib.hid (btrans HB1.out hb2)
    clear ht hgr hb2 d0 d1 HG HB1
    go_wp2_with fail
    refine HT.out.mono ?_
    rintro e w3 ⟨a, c, L, rfl, hb3, hh, htm, htop⟩
    have HF := Lib.hid (And.intro (btrans HB2.out hb3) (And.intro hh (And.intro htm htop)))
    clear hb3 hh htm htop
    go_wp2
    go_ret2
    refine ⟨_, _, _, L, 0, rfl, HF.out.1, HF.out.2.1, ⟨HEE.out, fun h => absurd rfl h, fun _ => ⟨es, fn, HVAL.out, rfl, HFN.out, by rw [← HN.out]; exact HF.out.2.2.1⟩⟩, fun p => ival (n := n) (by have := HVAL.out.2.2.1; have := HN.out; omega) HF.out.2.2.2 HF.out.2.2.1.2.low p⟩
  · have d0 : (E != 0) = true := by simpa using c0
    have HC0 := Lib.hid c0
    clear c0
    go_enter Try.func15, Try.ntmps15
    go_wp2_with fail
    rw [← hW]
    clear hW
    refine HC.out.mono ?_
    rintro e w1 ⟨rfl, hb⟩
    have HB1 := Lib.hid (btrans HB.out (btrans HL1.out hb))
    clear hb b0 b1 HC HV
    go_wp2
    go_ret2
    exact ⟨_, _, _, [], E, rfl, HB1.out, hl_nil _ _ _ _, ⟨HEE.out, fun _ => rfl, fun h => absurd h HC0.out⟩, fun p => by simp [dv]⟩

set_option maxRecDepth 100000 in
set_option maxHeartbeats 4000000 in
theorem betweenP_any {V : Value} {ps : List Pc} {eds : List Ed} {w : World} (h : Nw w V ps eds) (a b : Int) (ha : I64 a) (hb : I64 b) :
    Calls Try.prog 16 #[V, .int .i64 a, .int .i64 b] w fun e w' => ∃ (T E : Int), e = .returned (.tuple #[.int .i64 T, .int .i64 E]) ∧ Below w.heap.size w w' ∧ BR ps eds a b T E ∧ 0 ≤ T ∧ T ≤ 60000000 := by
  obtain ⟨va, vc, vb, vd, rfl, h1, h2⟩ := h.shape
  obtain ⟨n, hn⟩ : ∃ n, n = ps.length := ⟨_, rfl⟩
  obtain ⟨m, hm⟩ : ∃ m, m = eds.length := ⟨_, rfl⟩
  rw [← hn, ← hm] at h ⊢
  have HN := Lib.hid hn; have HM := Lib.hid hm
  obtain ⟨W, hW⟩ : ∃ W, W = w.alloc (.cells #[.slice va n vc, .slice vb m vd] 25) := ⟨_, rfl⟩
  have hB : Below w.heap.size w W := by rw [hW]; exact ball (Below.refl w.heap.size w) _
  have e0 : W.heap[w.heap.size]? = some (.cells #[.slice va n vc, .slice vb m vd] 25 (0, 0)) := by rw [hW]; exact bnew _ _
  have hV := h.on hB
  obtain ⟨b0, b1⟩ := box2 e0
  have hl1 := ball (Below.refl W.heap.size W) (.cells #[.int .i64 a, .int .i64 b] 3)
  obtain ⟨E, hE⟩ : ∃ E, E = cerr ps eds [a, b] := ⟨_, rfl⟩
  have hlit := hl_lit2 W a b ha hb
  rw [show W.heap.size = w.heap.size + 1 by rw [hW, World.size_alloc]] at hlit
  have HC := Lib.hid (ccall_any (hV.on hl1) hlit E hE)
  have HB := Lib.hid hB; have HE0 := Lib.hid e0; have HL1 := Lib.hid hl1; have HV := Lib.hid hV; have HEE := Lib.hid hE
  clear h h1 h2 hn hm hB e0 hV hl1 hE hlit
  by_cases c0 : E = 0
  · subst c0
    obtain ⟨hc, hp⟩ := cerr_zero HEE.out.symm
    obtain ⟨es, hval⟩ := chk_val hc
    obtain ⟨an, rfl, han⟩ := plc_mem hp (p := a) (by simp)
    have HAN := Lib.hid han
    obtain ⟨bn, rfl, hbn⟩ := plc_mem hp (p := b) (by simp)
    have HBN := Lib.hid hbn
    have HGR := Lib.hid (fun (w' : World) (hb : Below W.heap.size W w') => graph_any (n := n) (by have := HV.out.on hb; rw [hval.1] at this; exact this) HN.out.symm (by have := hval.2.2.1; have := HN.out; omega) (by have := hval.2.2.2; omega) (by rw [HN.out]; exact hval.2.1))
    have HVAL := Lib.hid hval
    have hbn2 : (bn : Int) < (n : Int) := by have := HN.out; omega
    clear hc hp hval han hbn ha hb
    go_enter Try.func16, Try.ntmps16
    go_wp2_with fail
    rw [← hW]
    clear hW
    refine HC.out.mono ?_
    rintro e w1 ⟨rfl, hb⟩
    have hbb := btrans HL1.out hb
    have HG := Lib.hid (HGR.out w1 hbb)
    have HB1 := Lib.hid (btrans HB.out hbb)
    obtain ⟨d0, d1⟩ := box2 (bon HE0.out hbb)
    clear hb hbb b0 b1 HC HV HE0 HGR
    go_wp2_with fail
    refine HG.out.mono ?_
    rintro e w2 ⟨ea, en, ec, B, G, rfl, hb2, hgr⟩
    have ht := times_any hgr (by rw [HN.out]; exact HVAL.out.2.1) (by have := HVAL.out.2.2.1; have := HN.out; omega) (f := an) (by rw [HN.out]; exact HAN.out)
    have HT := Lib.hid ht; have HB2 := Lib.hid (btrans HB1.out hb2)
    clear ht hgr hb2 d0 d1 HG HB1
    go_wp2_with fail
    refine HT.out.mono ?_
    rintro e w3 ⟨ta, tc, L, rfl, hb3, hh, htm, htop⟩
    obtain ⟨g, off, y, rfl, hg, hy, hyi, k0, hcap⟩ := hh.pick bn (by rw [htm.1, HN.out]; exact HBN.out)
    have hdy := dv_get hy
    have HF := Lib.hid (And.intro (btrans HB2.out hb3) (And.intro htm htop)); have HDY := Lib.hid hdy
    clear hb3 hh htm htop hg hy hyi hcap hdy
    by_cases hneg : y < 0
    · have d0 : decide (y < 0) = true := decide_eq_true hneg
      have HNG := Lib.hid hneg
      clear hneg
      go_wp2
      go_ret2
      exact ⟨0, 80, rfl, HF.out.1, Or.inr ⟨HEE.out.symm, es, an, bn, L, HVAL.out, rfl, rfl, HAN.out, HBN.out, by rw [← HN.out]; exact HF.out.2.1, Or.inl ⟨by rw [HDY.out]; exact HNG.out, rfl, rfl⟩⟩, by omega, by omega⟩
    · have d0 : decide (y < 0) = false := decide_eq_false hneg
      have HNG := Lib.hid hneg
      clear hneg
      go_wp2
      go_ret2
      have hi := ival (n := n) (by have := HVAL.out.2.2.1; have := HN.out; omega) HF.out.2.2 HF.out.2.1.2.low bn
      rw [HDY.out] at hi
      exact ⟨y, 0, rfl, HF.out.1, Or.inr ⟨HEE.out.symm, es, an, bn, L, HVAL.out, rfl, rfl, HAN.out, HBN.out, by rw [← HN.out]; exact HF.out.2.1, Or.inr ⟨by rw [HDY.out]; have := HNG.out; omega, rfl, HDY.out.symm⟩⟩, by have := HNG.out; omega, hi.2⟩
  · have d0 : (E != 0) = true := by simpa using c0
    have HC0 := Lib.hid c0
    clear c0
    go_enter Try.func16, Try.ntmps16
    go_wp2_with fail
    rw [← hW]
    clear hW
    refine HC.out.mono ?_
    rintro e w1 ⟨rfl, hb⟩
    have HB1 := Lib.hid (btrans HB.out (btrans HL1.out hb))
    clear hb b0 b1 HC HV
    go_wp2
    go_ret2
    exact ⟨0, E, rfl, HB1.out, Or.inl ⟨by rw [← HEE.out]; exact HC0.out, HEE.out, rfl⟩, by omega, by omega⟩

set_option maxRecDepth 100000 in
set_option maxHeartbeats 4000000 in
theorem edgeP_any {V : Value} {ps : List Pc} {eds : List Ed} {w : World} (h : Nw w V ps eds) (a b : Int) (ha : I64 a) (hb : I64 b) :
    Calls Try.prog 18 #[V, .int .i64 a, .int .i64 b] w fun e w' => ∃ (I E : Int), e = .returned (.tuple #[.int .i64 I, .int .i64 E]) ∧ Below w.heap.size w w' ∧ ER ps eds a b I E := by
  obtain ⟨va, vc, vb, vd, rfl, h1, h2⟩ := h.shape
  obtain ⟨n, hn⟩ : ∃ n, n = ps.length := ⟨_, rfl⟩
  obtain ⟨m, hm⟩ : ∃ m, m = eds.length := ⟨_, rfl⟩
  rw [← hn, ← hm] at h ⊢
  have HN := Lib.hid hn; have HM := Lib.hid hm
  obtain ⟨W, hW⟩ : ∃ W, W = w.alloc (.cells #[.slice va n vc, .slice vb m vd] 25) := ⟨_, rfl⟩
  have hB : Below w.heap.size w W := by rw [hW]; exact ball (Below.refl w.heap.size w) _
  have e0 : W.heap[w.heap.size]? = some (.cells #[.slice va n vc, .slice vb m vd] 25 (0, 0)) := by rw [hW]; exact bnew _ _
  have hV := h.on hB
  obtain ⟨b0, b1⟩ := box2 e0
  have hl1 := ball (Below.refl W.heap.size W) (.cells #[.int .i64 a, .int .i64 b] 3)
  obtain ⟨E, hE⟩ : ∃ E, E = cerr ps eds [a, b] := ⟨_, rfl⟩
  have hlit := hl_lit2 W a b ha hb
  rw [show W.heap.size = w.heap.size + 1 by rw [hW, World.size_alloc]] at hlit
  have HC := Lib.hid (ccall_any (hV.on hl1) hlit E hE)
  have HB := Lib.hid hB; have HE0 := Lib.hid e0; have HL1 := Lib.hid hl1; have HV := Lib.hid hV; have HEE := Lib.hid hE
  clear h h1 h2 hn hm hB e0 hV hl1 hE hlit
  by_cases c0 : E = 0
  · subst c0
    obtain ⟨hc, hp⟩ := cerr_zero HEE.out.symm
    obtain ⟨es, hval⟩ := chk_val hc
    obtain ⟨an, rfl, han⟩ := plc_mem hp (p := a) (by simp)
    have HAN := Lib.hid han
    obtain ⟨bn, rfl, hbn⟩ := plc_mem hp (p := b) (by simp)
    have HBN := Lib.hid hbn
    have HGR := Lib.hid (fun (w' : World) (hb : Below W.heap.size W w') => graph_any (n := n) (by have := HV.out.on hb; rw [hval.1] at this; exact this) HN.out.symm (by have := hval.2.2.1; have := HN.out; omega) (by have := hval.2.2.2; omega) (by rw [HN.out]; exact hval.2.1))
    have HVAL := Lib.hid hval
    have hbn2 : (bn : Int) < (n : Int) := by have := HN.out; omega
    clear hc hp hval han hbn ha hb
    go_enter Try.func18, Try.ntmps18
    go_wp2_with fail
    rw [← hW]
    clear hW
    refine HC.out.mono ?_
    rintro e w1 ⟨rfl, hb⟩
    have hbb := btrans HL1.out hb
    have HG := Lib.hid (HGR.out w1 hbb)
    have HB1 := Lib.hid (btrans HB.out hbb)
    obtain ⟨d0, d1⟩ := box2 (bon HE0.out hbb)
    clear hb hbb b0 b1 HC HV HE0 HGR
    go_wp2_with fail
    refine HG.out.mono ?_
    rintro e w2 ⟨ea, en, ec, B, G, rfl, hb2, hgr⟩
    obtain ⟨NN, hM⟩ := hgr.M
    obtain ⟨c, hlk, hcc⟩ := hM.ok (p := an) (q := bn) (by have := HAN.out; have := HVAL.out.2.2.1; omega) (by have := HBN.out; have := HVAL.out.2.2.1; omega)
    have HB2 := Lib.hid (btrans HB1.out hb2)
    cases hfd : fd es an bn with
    | none =>
      rw [hfd] at hlk
      have hlk2 : (Instr.lookup 60 (.map (some B)) (.agg #[.int .i64 (an : Int), .int .i64 (bn : Int)]) true).run Try.prog w2 = .ok (.tuple #[.int .i64 c, .bool false]) w2 := hlk
      have hf63 := run_field63 ea en ec B (.slice (some ⟨G, 0, none⟩) n n) w2
      have HFD := Lib.hid hfd
      clear hlk hfd hM hcc hgr hb2 d0 d1 HG HB1
      go_wp2
      go_ret2
      exact ⟨0, 80, rfl, HB2.out, Or.inr ⟨HEE.out.symm, es, an, bn, HVAL.out, rfl, rfl, HAN.out, HBN.out, Or.inl ⟨HFD.out, rfl, rfl⟩⟩⟩
    | some i =>
      rw [hfd] at hlk
      obtain rfl := hcc i hfd
      have hlk2 : (Instr.lookup 60 (.map (some B)) (.agg #[.int .i64 (an : Int), .int .i64 (bn : Int)]) true).run Try.prog w2 = .ok (.tuple #[.int .i64 (i : Int), .bool true]) w2 := hlk
      have hf63 := run_field63 ea en ec B (.slice (some ⟨G, 0, none⟩) n n) w2
      have HFD := Lib.hid hfd
      clear hlk hfd hM hcc hgr hb2 d0 d1 HG HB1
      go_wp2
      go_ret2
      exact ⟨i, 0, rfl, HB2.out, Or.inr ⟨HEE.out.symm, es, an, bn, HVAL.out, rfl, rfl, HAN.out, HBN.out, Or.inr ⟨i, HFD.out, rfl, rfl⟩⟩⟩
  · have d0 : (E != 0) = true := by simpa using c0
    have HC0 := Lib.hid c0
    clear c0
    go_enter Try.func18, Try.ntmps18
    go_wp2_with fail
    rw [← hW]
    clear hW
    refine HC.out.mono ?_
    rintro e w1 ⟨rfl, hb⟩
    have HB1 := Lib.hid (btrans HB.out (btrans HL1.out hb))
    clear hb b0 b1 HC HV
    go_wp2
    go_ret2
    exact ⟨0, E, rfl, HB1.out, Or.inl ⟨by rw [← HEE.out]; exact HC0.out, HEE.out, rfl⟩⟩
end Go.Proofs.Ytbeoldklpklbfaa
