/-
  Walks: the least costs of chains of swaps.
-/
import Derived.Test.YtijdjbkmkopmnaaCd
namespace Go.Proofs.Ytijdjbkmkopmnaa
open Go.RowKit
set_option linter.unusedVariables false
set_option linter.unusedSimpArgs false

def toSw (t : Tr) : Sw := ⟨t.a, t.b, t.c⟩
/-- A row of costs. -/
def iv (c : Nat) : Value := .int .i64 (c : Int)
def CS (w : World) (B : Nat) (L : List Nat) : Prop := w.heap[B]? = some (.cells (L.map iv).toArray 82 (0, 0))
theorem CS.get {w : World} {B : Nat} {L : List Nat} (h : CS w B L) {k : Nat} (hk : k < L.length) : w.cell? ⟨B, k, none⟩ = some (.int .i64 (cv L k : Int)) := by
  rw [cell_of_row w B k _ 82 (0, 0) h]
  simp [cv, iv, List.getElem?_eq_getElem hk]
theorem CS.thaw {w : World} {B : Nat} {L : List Nat} (h : CS w B L) (k : Nat) : w.frozen? ⟨B, k, none⟩ = false := frozen_of_row w B k _ 82 h
theorem CS.set {w : World} {B : Nat} {L : List Nat} (h : CS w B L) (k v : Nat) : CS (w.setCell ⟨B, k, none⟩ (.int .i64 (v : Int))) B (L.set k v) := by
  unfold CS
  rw [heap_setCell_same w B k _ 82 _ h]
  congr 2
  apply Array.toList_inj.1
  simp [iv, List.map_set]
theorem CS.kept {w w' : World} {B : Nat} {L : List Nat} (h : CS w B L) (e : w'.heap[B]? = w.heap[B]?) : CS w' B L := e.trans h
theorem CS.lt {w : World} {B : Nat} {L : List Nat} (h : CS w B L) : B < w.heap.size := blt h
def z32 : Array Value := Array.replicate 32 (.int .i64 0)
theorem z32_cs : z32 = ((List.replicate 32 0).map iv).toArray := by
  apply Array.toList_inj.1
  simp [z32, iv]
theorem alloc82 (ρ : Operand → Value) (w : World) (o : Oper) (ho : o.op = .alloc 82) : (execOp ρ o).run Try.prog w = .ok (.value (.pointer (some ⟨w.heap.size, 0, none⟩))) (w.alloc (.cells z32 82)) := by
  unfold execOp
  simp only [ho]
  kernel_rfl
theorem sz82 (L : List Nat) (h : L.length = 32) : (Try.prog.info? 82).map (·.size) = some ((L.map iv).toArray).size := by
  have e : (Try.prog.info? 82).map (·.size) = some 32 := by kernel_rfl
  rw [e]; simp [h]
theorem all82 (L : List Nat) : ((L.map iv).toArray).all (·.oneCell') = true := all_oneCell_toArray (by
  intro v hv
  obtain ⟨x, _, rfl⟩ := List.mem_map.1 hv
  rfl)
/-- Costs in memory that are those of chains. -/
structure LS (W0 : World) (B : Nat) (es : List Tr) (f : Nat) (w : World) (L : List Nat) : Prop where
  below : Below W0.heap.size W0 w
  ge : W0.heap.size ≤ B
  cs : CS w B L
  att : Att es f L
theorem LS.on {W0 : World} {B f : Nat} {es : List Tr} {w w' : World} {L : List Nat} (h : LS W0 B es f w L) (hb : Below w.heap.size w w') : LS W0 B es f w' L :=
  ⟨btrans h.below hb, h.ge, h.cs.kept (hb.block B h.cs.lt), h.att⟩
theorem cv_lt {es : List Tr} {f : Nat} {L : List Nat} (h : Att es f L) {t : Nat} (ht : t < 32) : cv L t ≤ 32000000000 := by
  rcases h.att t ht with e | ⟨e, _⟩ <;> omega

set_option maxRecDepth 100000 in
set_option maxHeartbeats 8000000 in
theorem costs_any {w : World} {a : Option Addr} {n c nT f : Nat} {es : List Tr} (hn : n = es.length) (hl : Ss (fun k => k < w.heap.size) w (.slice a n c) (es.map toSw)) (ho : Oks nT es) (hf : f < nT) (hT : nT ≤ 32) :
    Calls Try.prog 30 #[.slice a n c, .int .i64 (f : Int)] w fun e w' => ∃ L, e = .returned (.agg (L.map iv).toArray) ∧ Below w.heap.size w w' ∧ Least es f L := by
  have HN := Lib.hid hn; have HL := Lib.hid hl; have HO := Lib.hid ho
  have hn1 : n ≤ 70368744177664 := by have := hl.1; simp at this; omega
  clear hn hl ho
  go_enter Try.func30, Try.ntmps30
  go_wp2_with (refine Great.wpList_runTo rfl (some 4) rfl _ _ (alloc82 _ _ _ rfl) ?_)
  obtain ⟨B, hB⟩ : ∃ B, B = w.heap.size := ⟨_, rfl⟩
  have hcs0 : CS (w.alloc (.cells z32 82)) B (List.replicate 32 0) := by rw [hB]; unfold CS; rw [← z32_cs]; exact bnew _ _
  have H0 : Hid (Below w.heap.size w (w.alloc (.cells z32 82)) ∧ ∃ L, L.length = 32 ∧ (∀ j, j < 0 → cv L j = 32000000000) ∧ CS (w.alloc (.cells z32 82)) B L) := Lib.hid ⟨ball (Below.refl _ _) _, _, List.length_replicate, fun j hj => by omega, hcs0⟩
  have HBB := Lib.hid hB
  rw [← hB]
  clear hcs0 hB
  generalize w.alloc (.cells z32 82) = w1 at *
  go_loopw [10] (fun s wr => ∃ k : Nat, k ≤ 32 ∧ s = .int .i64 (k : Int) ∧ Hid (Below w.heap.size w wr ∧ ∃ L, L.length = 32 ∧ (∀ j, j < k → cv L j = 32000000000) ∧ CS wr B L)) (fun s _ => 32 - (intOf s).toNat)
  case atStart => exact ⟨0, by omega, rfl, H0⟩
  case round =>
    obtain ⟨k, hk, rfl, HI⟩ := hrel
    by_cases hlt : k < 32
    · have hlt2 : (k : Int) < 32 := by omega
      obtain ⟨hb, L, hL, hU, hcs⟩ := HI.out
      have f0 := hcs.get (k := k) (by omega)
      have f1 := hcs.thaw k
      have HI2 : Hid (Below w.heap.size w (wr.setCell ⟨B, k, none⟩ (.int .i64 32000000000)) ∧ ∃ L, L.length = 32 ∧ (∀ j, j < k + 1 → cv L j = 32000000000) ∧ CS (wr.setCell ⟨B, k, none⟩ (.int .i64 32000000000)) B L) := Lib.hid (by
        refine ⟨Below.setCell hb (by rw [HBB.out]; exact Nat.le_refl _) _, L.set k 32000000000, by rw [List.length_set]; exact hL, fun j hj => ?_, hcs.set k 32000000000⟩
        rw [cv_set (by omega)]
        by_cases e : k = j
        · rw [if_pos e]
        · rw [if_neg e]; exact hU j (by omega))
      clear hb hL hU hcs HI
      go_wp2
      go_roundw
      case rel => exact ⟨k + 1, by omega, by go_num, HI2⟩
      case measure => simp [intOf]; omega
    · obtain rfl : k = 32 := by omega
      have hlt3 : ¬ (((32 : Nat) : Int) < 32) := by omega
      obtain ⟨hb, L, hL, hU, hcs⟩ := HI.out
      have hf32 : f < 32 := by omega
      have hff : (f : Int) < 32 := by omega
      have f0 := hcs.get (k := f) (by omega)
      have f1 := hcs.thaw f
      have hL0 : L.set f 0 = L0 f := by
        unfold L0
        congr 1
        refine List.ext_getElem (by rw [hL, List.length_replicate]) fun j h1 h2 => ?_
        have := hU j (by omega)
        unfold cv at this
        rw [List.getD_eq_getElem?_getD, List.getElem?_eq_getElem h1] at this
        rw [List.getElem_replicate]
        exact this
      have hls : LS w B es f (wr.setCell ⟨B, f, none⟩ (.int .i64 0)) (L0 f) := ⟨Below.setCell hb (by rw [HBB.out]; exact Nat.le_refl _) _, by rw [HBB.out]; exact Nat.le_refl _, by rw [← hL0]; exact hcs.set f 0, att0 es hf32⟩
      have HLS := Lib.hid hls
      clear hb hL hU hcs HI hL0 hls HBB
      go_wp2
      clear f0 f1
      generalize wr.setCell ⟨B, f, none⟩ (.int .i64 0) = w2 at *
      go_loopg [6] (2 * lsum (L0 f) + 1) (fun M s6 wr => ∃ b : Nat, s6 = .bool (decide (b = 1)) ∧ Hid (b ≤ 1 ∧ ∃ L, M = 2 * lsum L + b ∧ LS w B es f wr L ∧ (b = 0 → Fx es L)))
      case atStart => exact ⟨1, rfl, Lib.hid ⟨by omega, _, rfl, HLS.out, fun h => by omega⟩⟩
      case round =>
        clear HLS
        obtain ⟨b, rfl, HI⟩ := hrel
        by_cases hb1 : b = 1
        · obtain ⟨_, L, hM, hls, _⟩ := HI.out
          rw [decide_eq_true hb1]
          have HM : Hid (gk = 2 * lsum L + 1) := Lib.hid (by rw [hM, hb1])
          have HLS := Lib.hid hls
          clear HI hM hls hb1
          go_wp2
          go_loopw [6, 21] (fun s6 s21 wr => ∃ (k b : Nat), k ≤ n ∧ s6 = .bool (decide (b = 1)) ∧ s21 = .int .i64 (k : Int) ∧ Hid (b ≤ 1 ∧ ∃ L', LS w B es f wr L' ∧ (b = 1 → lsum L' < lsum L) ∧ (b = 0 → L' = L ∧ ∀ j x, j < k → es[j]? = some x → cv L x.b ≤ cv L x.a + x.c))) (fun _ s21 _ => n - (intOf s21).toNat)
          case atStart => exact ⟨0, 0, by omega, rfl, rfl, Lib.hid ⟨by omega, L, HLS.out, fun h => by omega, fun _ => ⟨rfl, fun j x hj => by omega⟩⟩⟩
          case round =>
            obtain ⟨k, b, hk, rfl, rfl, HI⟩ := hrel
            by_cases hlt : k < n
            · have hlt4 : (k : Int) < (n : Int) := by omega
              obtain ⟨hbl, L', hls, hd1, hd0⟩ := HI.out
              obtain ⟨x, hx⟩ : ∃ x, es[k]? = some x := ⟨_, List.getElem?_eq_getElem (by have := HN.out; omega)⟩
              have hxs : (es.map toSw)[k]? = some (toSw x) := by rw [List.getElem?_map, hx]; rfl
              obtain ⟨g, off, y, rfl, hg, hy, _, hra, _⟩ := HL.out.pick k (by rw [List.length_map]; have := HN.out; omega)
              rw [hxs] at hy
              cases hy
              have hk3 := HO.out x (List.mem_of_getElem? hx)
              have hrr : wr.rangeAt g (off + k * 3) [.int .i64 (x.a : Int), .int .i64 (x.b : Int), .int .i64 (x.c : Int)] := rangeAt_kept hra (hls.below.block g hg)
              obtain ⟨wx, hwx⟩ : ∃ wx, wx = wr.alloc (.cells #[.int .i64 (x.a : Int), .int .i64 (x.b : Int), .int .i64 (x.c : Int)] 62) := ⟨_, rfl⟩
              have hbx : Below wr.heap.size wr wx := by rw [hwx]; exact ball (Below.refl _ _) _
              have hwb : wx.heap[wr.heap.size]? = some (.cells #[.int .i64 (x.a : Int), .int .i64 (x.b : Int), .int .i64 (x.c : Int)] 62 (0, 0)) := by rw [hwx]; exact bnew _ _
              have hlx := hls.on hbx
              have e0 : wx.cell? ⟨wr.heap.size, 0, none⟩ = some (.int .i64 (x.a : Int)) := by rw [cell_of_row wx _ 0 _ 62 (0, 0) hwb]; rfl
              have e1 : wx.cell? ⟨wr.heap.size, 1, none⟩ = some (.int .i64 (x.b : Int)) := by rw [cell_of_row wx _ 1 _ 62 (0, 0) hwb]; rfl
              have e2 : wx.cell? ⟨wr.heap.size, 2, none⟩ = some (.int .i64 (x.c : Int)) := by rw [cell_of_row wx _ 2 _ 62 (0, 0) hwb]; rfl
              have hlen := hls.att.len
              have g0 := hlx.cs.get (k := x.a) (by omega)
              have g1 := hlx.cs.get (k := x.b) (by omega)
              have g2 := hlx.cs.thaw x.b
              have hua := cv_lt hls.att (t := x.a) (by omega)
              obtain ⟨P, hP⟩ : ∃ P : Nat, P = cv L' x.a := ⟨_, rfl⟩
              obtain ⟨Q, hQ⟩ : ∃ Q : Nat, Q = cv L' x.b := ⟨_, rfl⟩
              have hrl := Att.rl hls.att HO.out hT (List.mem_of_getElem? hx)
              have hrlE : rl x L' = if P + x.c < Q then L'.set x.b (P + x.c) else L' := by rw [hP, hQ]; rfl
              rw [← hP, ← hQ] at hrl
              rw [← hP] at g0 hua
              rw [← hQ] at g1
              have hw1 : IntKind.i64.wrap ((P : Int) + (x.c : Int)) = ((P + x.c : Nat) : Int) := by rw [wrap_in (by omega) (by omega)]; omega
              have ha32 : (x.a : Int) < 32 := by omega
              have hb32 : (x.b : Int) < 32 := by omega
              have ha32' : x.a < 32 := by omega
              have hb32' : x.b < 32 := by omega
              have HWX := Lib.hid hwx; have HRR := Lib.hid hrr; have HLX := Lib.hid hlx
              have HRL := Lib.hid hrl; have HRE := Lib.hid hrlE; have HPQ := Lib.hid (And.intro hP hQ)
              have HXX := Lib.hid hx; have HBL := Lib.hid hbl; have HD1 := Lib.hid hd1; have HD0 := Lib.hid hd0
              clear hbl hls hd1 hd0 hx hxs hg hra hk3 hrr hwx hbx hwb hlx hlen hua hrl hrlE hP hQ HI
              go_wp2_with (refine wpList_load_mid rfl 62 (.tmp 23) rfl g (off + k * 3) rfl [.int .i64 (x.a : Int), .int .i64 (x.b : Int), .int .i64 (x.c : Int)] _ HRR.out Try.underlying62 rfl (by kernel_rfl) ?_)
              rw [← HWX.out]
              go_quiet (fail)
              have e1' : (wx.drewN nq).cell? ⟨wr.heap.size, 1, none⟩ = some (.int .i64 (x.b : Int)) := e1
              have g1' : (wx.drewN nq).cell? ⟨B, x.b, none⟩ = some (.int .i64 (Q : Int)) := g1
              have g2' : (wx.drewN nq).frozen? ⟨B, x.b, none⟩ = false := g2
              have HL7 : Hid (LS w B es f (wx.drewN nq) L') := Lib.hid (HLX.out.on (bdrewN (Below.refl _ _) _))
              generalize wx.drewN nq = w7 at *
              obtain ⟨D, hD⟩ : ∃ D, D = P + x.c := ⟨_, rfl⟩
              have hsum : (P : Int) + (x.c : Int) = (D : Int) := by omega
              rw [hsum]
              rw [← hD] at HRL HRE
              have HDD := Lib.hid hD
              clear hsum e0 e1 e2 g0 g1 g2 hD HLX HRR HWX hw1 ha32 ha32'
              by_cases hc : D < Q
              · have hc2 : (D : Int) < (Q : Int) := by omega
                have HL8 : Hid (1 ≤ 1 ∧ ∃ L', LS w B es f (w7.setCell ⟨B, x.b, none⟩ (.int .i64 (D : Int))) L' ∧ (1 = 1 → lsum L' < lsum L) ∧ (1 = 0 → L' = L ∧ ∀ j x, j < k + 1 → es[j]? = some x → cv L x.b ≤ cv L x.a + x.c)) := Lib.hid (by
                  refine ⟨by omega, rl x L', ⟨Below.setCell HL7.out.below HL7.out.ge _, HL7.out.ge, ?_, HRL.out.1⟩, fun _ => ?_, fun h => by omega⟩
                  · rw [HRE.out, if_pos hc]; exact HL7.out.cs.set x.b D
                  · have := HRL.out.2.1 hc
                    rcases Nat.lt_or_ge b 1 with h | h
                    · rw [(HD0.out (by omega)).1] at this ⊢; exact this
                    · have := HD1.out (by have := HBL.out; omega); omega)
                clear HL7 hc HRL HRE
                go_wp2
                go_roundw
                case rel => exact ⟨k + 1, 1, by omega, rfl, by go_num, HL8⟩
                case measure => simp [intOf]; omega
              · have hc2 : ¬ ((D : Int) < (Q : Int)) := by omega
                have HL8 : Hid (b ≤ 1 ∧ ∃ L', LS w B es f w7 L' ∧ (b = 1 → lsum L' < lsum L) ∧ (b = 0 → L' = L ∧ ∀ j x, j < k + 1 → es[j]? = some x → cv L x.b ≤ cv L x.a + x.c)) := Lib.hid (by
                  refine ⟨HBL.out, L', HL7.out, HD1.out, fun h => ⟨(HD0.out h).1, fun j y hj hy => ?_⟩⟩
                  by_cases hjk : j < k
                  · exact (HD0.out h).2 j y hjk hy
                  · obtain rfl : j = k := by omega
                    have hxy := HXX.out
                    rw [hy] at hxy
                    cases hxy
                    obtain ⟨p1, p2⟩ := HPQ.out
                    have e := (HD0.out h).1
                    rw [e] at p1 p2
                    have := HDD.out
                    omega)
                clear HL7 hc HRL HRE
                go_wp2
                go_roundw
                case rel => exact ⟨k + 1, b, by omega, rfl, by go_num, HL8⟩
                case measure => simp [intOf]; omega
            · obtain rfl : k = n := by omega
              have hlt5 : ¬ ((k : Int) < (k : Int)) := by omega
              obtain ⟨hbl, L', hls, hd1, hd0⟩ := HI.out
              have HE : Hid (b ≤ 1 ∧ ∃ L, 2 * lsum L' + b = 2 * lsum L + b ∧ LS w B es f wr L ∧ (b = 0 → Fx es L)) := Lib.hid ⟨hbl, L', rfl, hls, fun h => by
                obtain ⟨e, h2⟩ := hd0 h
                rw [e]
                intro x hx
                obtain ⟨j, hj⟩ := List.getElem?_of_mem hx
                exact h2 j x (by have := HN.out; have := (List.getElem?_eq_some_iff.1 hj).1; omega) hj⟩
              have hmeas : 2 * lsum L' + b < gk := by
                have := HM.out
                rcases Nat.lt_or_ge b 1 with h | h
                · rw [(hd0 (by omega)).1]; omega
                · have := hd1 (by omega); omega
              have HMS := Lib.hid hmeas
              clear hbl hls hd1 hd0 HI HM hmeas
              go_wp2
              go_roundg (2 * lsum L' + b)
              case measure => exact HMS.out
              case rel => exact ⟨b, rfl, HE⟩
        · obtain ⟨hb2, L, hM, hls, hfx⟩ := HI.out
          rw [decide_eq_false hb1]
          have hb0 : b = 0 := by omega
          have hle : Least es f L := ⟨hls.att, hfx hb0⟩
          have hlen := hls.att.len
          have HLE := Lib.hid hle; have HCS := Lib.hid hls.cs; have HBL := Lib.hid hls.below; have HAT := Lib.hid hls.ge
          clear hb2 hM hls hfx hb0 hle HI hb1
          go_wp2_with (first | (refine wpList_load_row rfl 82 (.tmp 4) rfl B rfl 82 _ (0, 0) _ HCS.out Try.underlying82 rfl (sz82 L hlen) ?_) | (refine wpList_store_row rfl 82 (.tmp 4) (.tmp 43) rfl B _ rfl rfl 82 _ HCS.out (sz82 L hlen) rfl (all82 L) ?_))
          refine bodyPost_ret (results_cell_row rfl _ _ B 82 _ (0, 0) _ rfl (setRow_heap _ _ _ _ _ _ HCS.out) Try.underlying82 rfl (sz82 L hlen)) rfl ?_
          exact ⟨L, rfl, bsetRow HBL.out HAT.out _, HLE.out⟩
end Go.Proofs.Ytijdjbkmkopmnaa
