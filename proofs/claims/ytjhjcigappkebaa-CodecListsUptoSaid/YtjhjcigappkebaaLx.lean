/-
  The statement 'Rows.CodecListsUptoSaid': for all lists of values of bounded bulk the law of lists returns true; the argument reads as it did.
-/
import Derived.Test.YtjhjcigappkebaaNe
import Derived.Test.YtjhjcigappkebaaJa
namespace Go.Proofs.Ytjhjcigappkebaa.codecLists
open Go.ChangeShapes Go.WideShapes Go.ChangeAt Go.RowKit
set_option linter.unusedVariables false
set_option linter.unusedSimpArgs false

theorem own : ownKnob Try.prog.godebug = none := by kernel_rfl
theorem laidOut : laidOutB Try.prog = true := by kernel_rfl

/-- Bytes under way: v holds l, in memory of the call's own. -/
def PdS (w : World) (v : Value) (l : List Int) (wr : World) : Prop := wr.ownsRow w.heap.size 5 1 v l.length (byteVals l) ∧ Below w.heap.size w wr

theorem PdS.len {w : World} {v : Value} {l : List Int} {wr : World} (h : PdS w v l wr) : ∃ a c, v = .slice a l.length c := by
  rcases h.1.2 with ⟨rfl, h0⟩ | ⟨g, cap, cur, rfl, _⟩
  · exact ⟨none, 0, by rw [h0]⟩
  · exact ⟨_, _, rfl⟩

theorem PdS.next {w wk w' : World} {v : Value} {l : List Int} (h : PdS w v l wk) (hb : Below wk.heap.size wk w') : PdS w v l w' :=
  ⟨h.1.kept (row := none) ⟨hb.os, hb.tape, hb.output, hb.size, fun i hi _ => hb.block i hi⟩ (by cases hx : v.ownBlock <;> simp), h.2.trans (hb.mono h.2.size)⟩

theorem PdS.one (w : World) (c : Int) : PdS w (.slice (some ⟨w.heap.size, 0, none⟩) 1 1) [c] (w.alloc (.cells #[.int .u8 c] 5)) :=
  ⟨⟨by simp [byteVals], .inr ⟨w.heap.size, 1, #[.int .u8 c], rfl, Nat.le_refl _, heap_alloc_new w _, Nat.le_refl _, by unfold maxLen; omega, by simp, by simp [byteVals]⟩⟩, ball (Below.refl _ _) _⟩

theorem PdS.push {w wk : World} {v u : Value} {l b : List Int} (h : PdS w v l wk) (F : Nat → Prop) (hu : Bs F wk u b) (hl : l.length + b.length ≤ 140737488355328) :
    ∃ v' w', (Builtin.append_ #[22, 22] 22 #[v, u]).run Try.prog wk = .ok v' w' ∧ PdS w v' (l ++ b) w' := by
  obtain ⟨v', w', hr, hA⟩ := append_run F w.heap.size wk v u l b 22 h.1 hu hl h.2.size
  exact ⟨v', w', hr, hA.own, h.2.grown hA.grown h.2.size (by intro k hk; exact (h.1.lt k hk).1)⟩

theorem PdS.bs {w : World} {v : Value} {l : List Int} {wr : World} (h : PdS w v l wr) (hl : l.length ≤ 140737488355328) (hr : ∀ u ∈ l, 0 ≤ u ∧ u ≤ 255) : Bs (fun k => k < wr.heap.size) wr v l :=
  (Bs.ofOwn h.1 hl hr).kept (fun _ _ => rfl) (fun k hk => hk.2.1)

/-- 'append(v, x)' of a new slice of one byte. -/
theorem PdS.pushOne {w wr : World} {v : Value} {l : List Int} (h : PdS w v l wr) (c : Int) (hc : 0 ≤ c ∧ c ≤ 255) (hl : l.length ≤ 140737488355000) :
    ∃ v' w', (Builtin.append_ #[22, 22] 22 #[v, .slice (some ⟨wr.heap.size, 0, none⟩) 1 1]).run Try.prog (wr.alloc (.cells #[.int .u8 c] 5)) = .ok v' w' ∧ PdS w v' (l ++ [c]) w' :=
  (h.next (ball (Below.refl _ _) _)).push (fun k => k < (wr.alloc (.cells #[.int .u8 c] 5)).heap.size) (u := .slice (some ⟨wr.heap.size, 0, none⟩) 1 1) (b := [c])
    ⟨by simp, by intro u hu; simp at hu; omega, some ⟨wr.heap.size, 0, none⟩, 1, rfl, Nat.le_refl _, fun _ => ⟨wr.heap.size, 0, rfl, by simp, fun j u hj => by
      have hj0 : j = 0 := by have := (List.getElem?_eq_some_iff.1 hj).1; simp at this; omega
      subst hj0
      simp at hj
      subst hj
      rw [cell_of_row _ wr.heap.size 0 _ 5 (0, 0) (heap_alloc_new wr _)]
      rfl⟩⟩ (by simp; omega)

def TL (ts : List T) : T := .mk 3 0 [] ts
theorem enc_TL (ts : List T) : enc (TL ts) = 64 :: (encL ts ++ [0]) := by
  show enc (.mk 3 0 [] ts) = _
  unfold enc
  rw [if_neg (by decide), if_neg (by decide)]
theorem shape_TL (ts : List T) : shape (TL ts) = shapeL ts := by
  show shape (.mk 3 0 [] ts) = _
  unfold shape
  rw [if_neg (by decide), if_neg (by decide), if_pos rfl]
  simp
theorem shapeL_all (ts : List T) (h : ∀ (j : Nat) (t : T), ts[j]? = some t → shape t = true) : shapeL ts = true := by
  induction ts with
  | nil => rfl
  | cons x xs ih =>
    simp only [shapeL, Bool.and_eq_true]
    exact ⟨h 0 x rfl, ih (fun j t hj => h (j + 1) t (by simpa using hj))⟩
theorem chk_shape {t : T} (h : chk t = 0) : shape t = true := by
  unfold chk at h
  split at h
  · rename_i hs; exact hs
  · cases h

set_option maxRecDepth 100000 in
set_option maxHeartbeats 4000000 in
theorem walk (ts : List T) (oa : Option Addr) (oc : Nat) (w : World) (hr : Rd (fun k => k < w.heap.size) w (TL ts) (.agg #[.int .i64 3, .int .i64 0, .slice none 0 0, .slice oa ts.length oc])) (hsz : (enc (TL ts)).length ≤ 90000000) :
    Calls Try.prog 10 #[.slice oa ts.length oc] w fun e w' => e = .returned (.bool true) ∧ Below w.heap.size w w' := by
  have hel : (encL ts).length ≤ 90000000 := by rw [enc_TL] at hsz; simp at hsz; omega
  have HR := Lib.hid hr
  have hR0 := hr
  unfold TL Rd at hr
  obtain ⟨vb0, pa, pc, he, _, _, _, hl1, hl2, hl3⟩ := hr
  simp only [Value.agg.injEq] at he
  have he' := congrArg Array.toList he
  simp only [List.cons.injEq, and_true, Value.slice.injEq, true_and] at he'
  obtain ⟨rfl, rfl, rfl⟩ := he'
  clear he
  have HL := Lib.hid hl3
  have hrange := enc_range (TL ts) _ hR0
  have HRG := Lib.hid hrange
  have Hsz := Lib.hid hsz
  have Hel := Lib.hid hel
  have hlen8 : ts.length ≤ 2199023255552 := hl1
  have hbd : ∀ k, (encL (ts.take k)).length ≤ 90000000 := fun k => Nat.le_trans (encL_take_le ts k) hel
  have HBD := Lib.hid hbd
  clear hl1 hl2 hl3 hR0 hrange hsz hel hbd
  go_enter Try.func10, Try.ntmps10
  go_wp2_with fail
  refine (sane_true _).mono ?_
  rintro e w1 ⟨rfl, hb1⟩
  have HB1 := Lib.hid hb1
  have HP1 := Lib.hid (PdS.one w1 64)
  clear hb1
  go_wp2_with fail
  go_loopw [3, 4, 5, 6] (fun x i _ _ wr => ∃ k : Nat, k ≤ ts.length ∧ i = .int .i64 k ∧ Hid (PdS w1 x (64 :: encL (ts.take k)) wr) ∧ Hid (∀ j t, j < k → ts[j]? = some t → shape t = true)) (fun _ i _ _ _ => ts.length - (intOf i).toNat)
  case atStart => exact ⟨0, by omega, rfl, HP1, Lib.hid (fun j t hj => by omega)⟩
  case round =>
    clear HP1
    obtain ⟨k, hk, rfl, H, HC⟩ := hrel
    have HBw := Lib.hid (nextB HB1.out H.out.2)
    by_cases hlt : k < ts.length
    · have hlt2 : (k : Int) < (ts.length : Int) := by omega
      obtain ⟨g, off, rfl, hg, hll⟩ := HL.out (by omega)
      obtain ⟨u, hu⟩ : ∃ u, ts[k]? = some u := ⟨_, List.getElem?_eq_getElem hlt⟩
      obtain ⟨x2, y2, x3, y3, c0, c1, c2, c3, hru⟩ := hll.cells k u hu
      have hru2 : Rd (fun k => k < wr.heap.size) wr u (.agg #[.int .i64 u.kind, .int .i64 u.num, .slice x2 u.bs.length y2, .slice x3 u.els.length y3]) := Rd.kept (fun k hk => HBw.out.block k hk) (fun k hk => Nat.lt_of_lt_of_le hk HBw.out.size) _ _ hru
      have d0 := (HBw.out.cell (p := ⟨g, off + k * 4, none⟩) hg).trans c0
      have d1 := (HBw.out.cell (p := ⟨g, off + k * 4 + 1, none⟩) hg).trans c1
      have d2 := (HBw.out.cell (p := ⟨g, off + k * 4 + 2, none⟩) hg).trans c2
      have d3 := (HBw.out.cell (p := ⟨g, off + k * 4 + 3, none⟩) hg).trans c3
      have hul : (enc u).length ≤ 90000000 := Nat.le_trans (encL_at k u hu) Hel.out
      have Hul := Lib.hid hul
      have HRU := Lib.hid hru2
      have HCELL := Lib.hid (And.intro hg (And.intro c0 (And.intro c1 (And.intro c2 c3))))
      rcases chk_cases u with hc | hc
      · have hs := chk_shape hc
        have hen := encode_any _ u wr _ (fun _ h => h) hru2 (by omega)
        have htk : encL (ts.take (k + 1)) = encL (ts.take k) ++ enc u := by
          rw [encL_next ts k hlt]
          have : ts[k] = u := by rw [List.getElem?_eq_getElem hlt] at hu; exact Option.some.inj hu
          rw [this]
        have hnc : ∀ j t, j < k + 1 → ts[j]? = some t → shape t = true := by
          intro j t hj ht
          rcases Nat.lt_or_ge j k with h | h
          · exact HC.out j t h ht
          · have : j = k := by omega
            subst this
            rw [hu] at ht
            cases ht
            exact hs
        have hgood : Calls Try.prog 14 #[.agg #[.int .i64 u.kind, .int .i64 u.num, .slice x2 u.bs.length y2, .slice x3 u.els.length y3]] wr fun e w' => ∃ a c, e = .returned (.tuple #[.slice a (enc u).length c, .int .i64 0]) ∧ Below wr.heap.size wr w' ∧ Bs (fun k => k < w'.heap.size) w' (.slice a (enc u).length c) (enc u) := by
          refine hen.mono ?_
          rintro e w' ⟨vb, rfl, hb, hB, _⟩
          have hB' := hB hc
          obtain ⟨a, c, rfl⟩ : ∃ a c, vb = .slice a (enc u).length c := by
            obtain ⟨_, _, a, c, h, _⟩ := hB'
            exact ⟨a, c, h⟩
          exact ⟨a, c, by rw [hc], hb, Bs.kept hB' (fun _ _ => rfl) (fun k hk => hk.2)⟩
        have HG := Lib.hid hgood; have HT := Lib.hid htk; have HNC := Lib.hid hnc
        clear hgood htk hnc hen hs hc c0 c1 c2 c3 hru hru2 hll hu hul
        go_wp2_with fail
        refine HG.out.mono ?_
        rintro e w2 ⟨ba, bc, rfl, hb2, hbs⟩
        obtain ⟨v6, w6, hr6, h6⟩ := (H.out.next hb2).push _ hbs (by have := HBD.out k; have := Hul.out; simp; omega)
        rw [List.cons_append, ← HT.out] at h6
        have H6 := Lib.hid h6; have R6 := Lib.hid hr6
        clear h6 hr6 hb2 hbs HG d0 d1 d2 d3
        go_wp2_with (first | (at_builtin; refine wp_app rfl rfl rfl (.tmp 35) (.tmp 36) rfl rfl rfl R6.out ?_))
        go_roundw
        case rel => exact ⟨k + 1, by omega, by go_num, H6, HNC⟩
        case measure => simp [intOf]; omega
      · obtain ⟨cc, hcc⟩ : ∃ cc, cc = chk u := ⟨_, rfl⟩
        have hne : cc = 2 ∨ cc = 10 := by rw [hcc]; exact hc
        have hbad : Calls Try.prog 14 #[.agg #[.int .i64 u.kind, .int .i64 u.num, .slice x2 u.bs.length y2, .slice x3 u.els.length y3]] wr fun e w' => e = .returned (.tuple #[.slice none 0 0, .int .i64 cc]) ∧ Below wr.heap.size wr w' := by
          refine (encode_any _ u wr _ (fun _ h => h) hru2 (by omega)).mono ?_
          rintro e w' ⟨vb, rfl, hb, _, hn⟩
          obtain rfl := hn (by rw [← hcc]; rcases hne with h | h <;> omega)
          rw [← hcc]
          exact ⟨rfl, hb⟩
        have hchk : ∀ w2, Below wr.heap.size wr w2 → Calls Try.prog 16 #[.agg #[.int .i64 u.kind, .int .i64 u.num, .slice x2 u.bs.length y2, .slice x3 u.els.length y3]] w2 fun e w' => e = .returned (.int .i64 cc) ∧ Below w2.heap.size w2 w' := by
          intro w2 hb
          rw [hcc]
          exact check_any _ u w2 _ (fun _ h => h) (Rd.kept (F' := fun k => k < w2.heap.size) (fun k hk => hb.block k hk) (fun k hk => Nat.lt_of_lt_of_le hk hb.size) _ _ HRU.out) (by have := Hul.out; omega)
        have HBAD := Lib.hid hbad; have HCHK := Lib.hid hchk
        have hn0 : (cc == 0) = false := by rw [beq_eq_false_iff_ne]; rcases hne with h | h <;> omega
        clear hbad hchk hne hcc hc c0 c1 c2 c3 hru hru2 hll hu hul HC
        go_wp2_with fail
        refine HBAD.out.mono ?_
        rintro e w2 ⟨rfl, hb2⟩
        obtain ⟨hg2, c0, c1, c2, c3⟩ := HCELL.out
        have HB2 := Lib.hid (nextB HBw.out hb2)
        have f0 := (HB2.out.cell (p := ⟨g, off + k * 4, none⟩) hg2).trans c0
        have f1 := (HB2.out.cell (p := ⟨g, off + k * 4 + 1, none⟩) hg2).trans c1
        have f2 := (HB2.out.cell (p := ⟨g, off + k * 4 + 2, none⟩) hg2).trans c2
        have f3 := (HB2.out.cell (p := ⟨g, off + k * 4 + 3, none⟩) hg2).trans c3
        have HCW := Lib.hid (HCHK.out w2 hb2)
        clear hb2 d0 d1 d2 d3 c0 c1 c2 c3 HCHK HBAD
        go_wp2_with fail
        refine HCW.out.mono ?_
        rintro e w3 ⟨rfl, hb3⟩
        have HB3 := Lib.hid (nextB HB2.out hb3)
        clear hb3
        go_wp2
        go_ret
        exact ⟨rfl, HB3.out⟩
    · have hk2 : k = ts.length := by omega
      subst hk2
      have hlt2 : ¬ ((ts.length : Int) < (ts.length : Int)) := by omega
      rw [List.take_length] at H
      have hsh : shape (TL ts) = true := by
        rw [shape_TL]
        exact shapeL_all ts (fun j t hj => HC.out j t (List.getElem?_eq_some_iff.1 hj).1 hj)
      obtain ⟨v6, w6, hr6, h6⟩ := H.out.pushOne 0 (by omega) (by have := Hel.out; simp; omega)
      rw [List.cons_append, ← enc_TL] at h6
      have HB6 := Lib.hid (nextB HB1.out h6.2)
      obtain ⟨a6, k6, rfl⟩ := h6.len
      have H6 := Lib.hid h6; have R6 := Lib.hid hr6; have HSH := Lib.hid hsh
      have hml : ∀ w', Calls Try.prog 27 #[.slice oa ts.length oc] w' fun e w'' => e = .returned (.agg #[.int .i64 3, .int .i64 0, .slice none 0 0, .slice oa ts.length oc]) ∧ Below w'.heap.size w' w'' := fun w' => mkList_any oa ts.length oc w'
      have hRd : ∀ w', Below w.heap.size w w' → Rd (fun k => k < w'.heap.size) w' (TL ts) (.agg #[.int .i64 3, .int .i64 0, .slice none 0 0, .slice oa ts.length oc]) := fun w' hb => Rd.kept (fun k hk => hb.block k hk) (fun k hk => Nat.lt_of_lt_of_le hk hb.size) _ _ HR.out
      have HML := Lib.hid hml; have HRD := Lib.hid hRd
      obtain ⟨EN, hEN⟩ : ∃ EN, EN = (enc (TL ts)).length := ⟨_, rfl⟩
      rw [← hEN] at R6 H6
      have HEN := Lib.hid hEN
      obtain ⟨BT, hBT⟩ : ∃ BT, BT = enc (TL ts) := ⟨_, rfl⟩
      have HBT := Lib.hid hBT
      rw [← hBT] at H6
      have hrg : ∀ u ∈ BT, 0 ≤ u ∧ u ≤ 255 := by rw [hBT]; exact HRG.out
      have HRB := Lib.hid hrg
      have hbl : BT.length ≤ 140737488355328 := by rw [hBT]; have := Hsz.out; omega
      have HBLL := Lib.hid hbl
      clear hrg hbl hBT
      have hENb : EN ≤ 90000000 := by rw [hEN]; exact Hsz.out
      clear h6 hr6 hsh hml hRd H HC hEN
      by_cases hc : chk (TL ts) = 0
      · have hgood : ∀ w', Below w.heap.size w w' → Calls Try.prog 14 #[.agg #[.int .i64 3, .int .i64 0, .slice none 0 0, .slice oa ts.length oc]] w' fun e w'' => ∃ a c, e = .returned (.tuple #[.slice a EN c, .int .i64 0]) ∧ Below w'.heap.size w' w'' ∧ Bs (fun k => k < w''.heap.size) w'' (.slice a EN c) BT := by
          intro w' hb0
          refine (encode_any _ (TL ts) w' _ (fun _ h => h) (HRD.out w' hb0) (by have := Hsz.out; omega)).mono ?_
          rintro e w'' ⟨vb, rfl, hb, hB, _⟩
          have hB' := hB hc
          obtain ⟨a, c, rfl⟩ : ∃ a c, vb = .slice a (enc (TL ts)).length c := by
            obtain ⟨_, _, a, c, h, _⟩ := hB'
            exact ⟨a, c, h⟩
          rw [HEN.out, HBT.out]
          exact ⟨a, c, by rw [hc], hb, Bs.kept hB' (fun _ _ => rfl) (fun k hk => hk.2)⟩
        have hsame : ∀ w' a c b d, Bs (fun k => k < w'.heap.size) w' (.slice a EN c) BT → Bs (fun k => k < w'.heap.size) w' (.slice b EN d) BT → Calls Try.prog 18 #[.slice a EN c, .slice b EN d] w' fun e w'' => e = .returned (.bool true) ∧ Below w'.heap.size w' w'' :=
          fun w' a c b d h1 h2 => sameBytesX _ _ _ _ true _ _ w' (fun k hk => hk) (fun k hk => hk) h1 h2 (decide_eq_true rfl)
        have HG := Lib.hid hgood; have HSA := Lib.hid hsame
        clear hgood hsame hc
        go_wp2_with (first | (at_builtin; refine wp_app rfl rfl rfl (.tmp 38) (.tmp 39) rfl rfl rfl R6.out ?_))
        refine (HML.out _).mono ?_
        rintro e w7 ⟨rfl, hb7⟩
        have HB7 := Lib.hid (nextB HB6.out hb7)
        have H7 := Lib.hid (PdS.next H6.out hb7)
        clear hb7
        go_wp2_with fail
        refine (HG.out _ HB7.out).mono ?_
        rintro e w8 ⟨ga, gc, rfl, hb8, hbs⟩
        have HB8 := Lib.hid (nextB HB7.out hb8)
        have H8 := Lib.hid (PdS.next H7.out hb8)
        have HW := Lib.hid (HSA.out w8 ga gc a6 k6 hbs (PdS.bs H8.out HBLL.out HRB.out))
        clear hb8 hbs HSA
        go_wp2_with fail
        refine HW.out.mono ?_
        rintro e w9 ⟨rfl, hb9⟩
        have HB9 := Lib.hid (nextB HB8.out hb9)
        clear hb9
        go_wp2
        go_ret
        exact ⟨rfl, HB9.out⟩
      · have hc2 : chk (TL ts) = 2 ∧ (16 < nest (TL ts) ∨ 65536 < (enc (TL ts)).length) := by
          unfold chk at hc ⊢
          rw [if_pos HSH.out] at hc ⊢
          split at hc
          · rename_i h; rw [if_pos h]; exact ⟨rfl, h⟩
          · exact absurd rfl hc
        have hbad : ∀ w', Below w.heap.size w w' → Calls Try.prog 14 #[.agg #[.int .i64 3, .int .i64 0, .slice none 0 0, .slice oa ts.length oc]] w' fun e w'' => e = .returned (.tuple #[.slice none 0 0, .int .i64 2]) ∧ Below w'.heap.size w' w'' := by
          intro w' hb
          refine (encode_any _ (TL ts) w' _ (fun _ h => h) (HRD.out w' hb) (by have := Hsz.out; omega)).mono ?_
          rintro e w'' ⟨vb, rfl, hb, _, hn⟩
          obtain rfl := hn (by rw [hc2.1]; decide)
          rw [hc2.1]
          exact ⟨rfl, hb⟩
        have hns : ∀ w', Below w.heap.size w w' → Calls Try.prog 28 #[.agg #[.int .i64 3, .int .i64 0, .slice none 0 0, .slice oa ts.length oc]] w' fun e w'' => e = .returned (.int .i64 (nest (TL ts) : Int)) ∧ Below w'.heap.size w' w'' := by
          intro w' hb
          exact nesting_any (dep (TL ts) + 1) (TL ts) (Nat.lt_succ_self _) HSH.out (by have := Hsz.out; omega) w' none 0 oa oc (HRD.out w' hb)
        obtain ⟨_, hor⟩ := hc2
        rw [← HEN.out] at hor
        obtain ⟨N, hN⟩ : ∃ N, N = nest (TL ts) := ⟨_, rfl⟩
        rw [← hN] at hor hns
        have HG := Lib.hid hbad; have HNS := Lib.hid hns
        clear hbad hns hN hc
        go_wp2_with (first | (at_builtin; refine wp_app rfl rfl rfl (.tmp 38) (.tmp 39) rfl rfl rfl R6.out ?_))
        refine (HML.out _).mono ?_
        rintro e w7 ⟨rfl, hb7⟩
        have HB7 := Lib.hid (nextB HB6.out hb7)
        clear hb7
        go_wp2_with fail
        refine (HG.out _ HB7.out).mono ?_
        rintro e w8 ⟨rfl, hb8⟩
        have HB8 := Lib.hid (nextB HB7.out hb8)
        clear hb8
        by_cases hle : 65536 < EN
        · have g1 : decide (65536 < (EN : Int)) = true := decide_eq_true (by omega)
          have g2 : decide (65536 < EN) = true := decide_eq_true hle
          clear hle hor
          go_wp2
          go_ret
          exact ⟨rfl, HB8.out⟩
        · have hN16 : 16 < N := by omega
          have g1 : decide (65536 < (EN : Int)) = false := decide_eq_false (by omega)
          have g2 : decide (65536 < EN) = false := decide_eq_false hle
          have g3 : decide (16 < (N : Int)) = true := decide_eq_true (by omega)
          have g4 : decide (16 < N) = true := decide_eq_true hN16
          clear hle hor hN16
          go_wp2_with fail
          refine (HML.out _).mono ?_
          rintro e w9 ⟨rfl, hb9⟩
          have HB9 := Lib.hid (nextB HB8.out hb9)
          clear hb9
          go_wp2_with fail
          refine (HNS.out _ HB9.out).mono ?_
          rintro e w10 ⟨rfl, hb10⟩
          have HB10 := Lib.hid (nextB HB9.out hb10)
          clear hb10
          go_wp2
          go_ret
          exact ⟨rfl, HB10.out⟩

section
open Go.Joins Go.Deep
variable {H : Type} {enc0 : TypeId × Value → H} {w : World}

theorem openUL {fuel : Nat} {v : Value} {x : DataW H × List MemPlace} (h3 : DataW.trod enc0 Try.prog w 0 (fun _ => true) true fuel 23 [v] = some x) (hw : Rows.uptoBulk x.1 ≤ 1048576) :
    ∃ (ts : List T) (a : Option Addr) (c : Nat), v = .slice a ts.length c ∧ Rd (fun k => k < w.heap.size) w (TL ts) (.agg #[.int .i64 3, .int .i64 0, .slice none 0 0, .slice a ts.length c]) ∧ (enc (TL ts)).length ≤ 90000000 := by
  have i3 : I64 3 := ⟨by decide, by decide⟩
  have i0 : I64 0 := ⟨by decide, by decide⟩
  have hnil : Bs (fun k => k < w.heap.size) w (.slice none 0 0) ([] : List Int) := ⟨by simp, by simp, none, 0, rfl, by simp, by simp⟩
  rcases DataW.trod_slice Try.underlying23 h3 with ⟨hv, _⟩ | ⟨a, len, cap, elems, rest, n', rfl, hv, rfl, _, hlc, _, hel, he, _, _⟩
  · simp only [List.cons.injEq, and_true] at hv
    subst hv
    refine ⟨[], none, 0, rfl, ?_, ?_⟩
    · unfold TL Rd
      exact ⟨_, none, 0, rfl, i3, i0, hnil, by simp, by simp, by simp⟩
    · rw [enc_TL]; simp [encL]
  · simp only [List.cons.injEq, and_true] at hv
    subst hv
    have hle := bulk_len (elems.map (·.1))
    have hr := reachBytes_lt
    simp only [List.length_map] at hle
    simp only [Rows.uptoBulk] at hw
    have hbm : ∀ i (hi : i < elems.length), Rows.uptoBulk elems[i].1 ≤ Rows.uptoBulkAll (elems.map (·.1)) := by
      intro i hi
      have hmem : elems[i] ∈ elems := List.getElem_mem _
      generalize elems[i] = z at *
      clear he hle hw hel
      generalize elems = es at hmem ⊢
      induction es with
      | nil => cases hmem
      | cons e es ihe =>
        simp only [List.map_cons, Rows.uptoBulkAll]
        rcases List.mem_cons.1 hmem with h | h
        · rw [h]; omega
        · have := ihe h; omega
    have hall : ∀ i, i < len → ∃ t, (∃ x0 x1 x2 x3, w.cell? (a.add (i * 4)) = some x0 ∧ w.cell? (a.add (i * 4 + 1)) = some x1 ∧ w.cell? (a.add (i * 4 + 2)) = some x2 ∧ w.cell? (a.add (i * 4 + 3)) = some x3 ∧ Rd (fun k => k < w.heap.size) w t (.agg #[x0, x1, x2, x3])) ∧
        ∀ z, elems[i]? = some z → (enc t).length ≤ 9 * Rows.uptoBulk z.1 := by
      intro i hi
      have h5 := he i hi
      rw [cells25, List.getElem?_eq_getElem (by omega)] at h5
      obtain ⟨cs', h6, h7⟩ := Option.bind_eq_some_iff.1 h5
      obtain ⟨_, h8, h9⟩ := World.cells?_some h6
      obtain ⟨t, ht, htl⟩ := openU n' cs' _ h7 (by have := hbm i (by omega); omega)
      match cs', h8 with
      | [x0, x1, x2, x3], _ =>
        have e0 := h9 0 (by omega)
        have e1 := h9 1 (by omega)
        have e2 := h9 2 (by omega)
        have e3 := h9 3 (by omega)
        rw [Go.Deep.add_add] at e0 e1 e2 e3
        refine ⟨t, ⟨x0, x1, x2, x3, e0, e1, e2, e3, ht⟩, fun z hz => ?_⟩
        rw [List.getElem?_eq_getElem (by omega)] at hz
        cases hz
        exact htl
    obtain ⟨l, hll, hlp⟩ := choose_list _ len hall
    have hsum := bulk_mem elems l (by omega) (fun i t hi z hz => (hlp i t hi).2 z hz)
    refine ⟨l, some a, cap, by rw [hll], ?_, ?_⟩
    · unfold TL Rd
      refine ⟨_, some a, cap, rfl, i3, i0, hnil, by omega, by omega, fun hp => ?_⟩
      obtain ⟨t0, ⟨x0, _, _, _, e0, _⟩, _⟩ := hall 0 (by omega)
      obtain ⟨hs, hkb⟩ := cell_spot e0
      obtain ⟨g, off, spot⟩ := a
      have hs' : spot = none := hs
      subst hs'
      refine ⟨g, off, rfl, hkb, RdL.mk fun j t hj => ?_⟩
      obtain ⟨⟨x0, x1, x2, x3, e0, e1, e2, e3, ht⟩, _⟩ := hlp j t hj
      rw [add_off] at e0 e1 e2 e3
      exact ⟨x0, x1, x2, x3, e0, e1, e2, e3, ht⟩
    · rw [enc_TL]
      simp
      omega
end

theorem contract (H : Type) (enc0 : TypeId × Value → H) (W : World) (base : Nat) (args : Array Value) (ds gs : List (DataW H)) (before : List MemPlace)
    (hval : ∀ (j : Nat) t v, Try.f10.params[j]? = some t → args[j]? = some v → Value.okWide Try.prog W .any base t v)
    (hW : DataW.Whole enc0 Try.prog Try.f10.params.toList Rows.codecListsSpec.vars false W args.toList ds gs before) (hk : Rows.uptoSmall H (ds ++ gs) = true) :
    Calls Try.prog 10 args W fun e W' => ∃ v, e = .returned v ∧ Rows.codecListsSpec.post enc0 Try.prog Try.f10 false true false false W args v W' := by
  have hW' := hW
  obtain ⟨p, q, hA0, hV, rfl, _, _⟩ := hW
  have hA : DataW.TrodAll enc0 Try.prog W 0 (fun _ => true) true Try.f10.params.toList args.toList ds p := hA0
  rw [Try.params10] at hA hval
  obtain ⟨v0, vs0, d0, ds0, p0, q0, hargs, rfl, rfl, h0, r0⟩ := trodAll_cons hA
  obtain ⟨rfl, rfl, rfl⟩ := trodAll_nil r0
  obtain rfl : args = #[v0] := by cases args; simp_all
  obtain ⟨rfl, rfl⟩ := trodVars_none hV
  have hb := of_decide_eq_true hk
  simp only [List.append_nil, Rows.uptoBulkAll] at hb
  obtain ⟨oa0, ol0, oc0, rfl⟩ := okWide_slice Try.underlying23 (hval 0 23 v0 rfl rfl)
  obtain ⟨fu, hf⟩ := h0
  obtain ⟨ts, a, c, hve, ht, hl⟩ := openUL (v := .slice oa0 ol0 oc0) hf (by show Rows.uptoBulk d0 ≤ _; omega)
  rw [hve]
  clear hA0
  refine (walk ts a c W ht hl).mono fun e W' ⟨he, hb⟩ => ?_
  subst he
  refine ⟨_, rfl, ?_⟩
  rw [← hve]
  refine post_law laidOut ?_ rfl rfl hW' rfl rfl rfl hb
  intro t ht
  rw [Try.params10] at ht
  simp at ht
  subst ht
  exact ⟨by kernel_rfl, of_decide_eq_true (by kernel_rfl)⟩

set_option maxRecDepth 100000 in
theorem lifted (os : Os) (started : os.Started) (H : Type) (enc0 : TypeId × Value → H) (F : Stop.Interp) :
    ReturnsInHanded {} Try.checked os 10 .any ((Rows.OpenSpec.upto Rows.codecListsSpec).pre6 enc0 Try.prog Try.f10 Rows.codecListsUptoRow.domain false) (((Rows.OpenSpec.upto Rows.codecListsSpec).at F).post enc0 Try.prog Try.f10 false true false false) := by
  refine returnsInHanded_of_cond (C := Try.checked) (s := Rows.OpenSpec.upto Rows.codecListsSpec) (k := Rows.uptoSmall) rfl own started (by kernel_rfl) Try.func10
    (OpenSpec.witness (enc := enc0) (C := Try.checked) (s := Rows.OpenSpec.upto Rows.codecListsSpec) (k := Rows.uptoSmall) rfl false ⟨#[], #[.slice none 0 0], []⟩ 8 (by kernel_rfl) (by kernel_rfl) (by kernel_rfl)
      (x := ([.nil], [], [])) (by kernel_rfl) rfl (by kernel_rfl)) ?_
  intro W base args ds gs before hval hW _ hk _
  exact contract H enc0 W base args ds gs before hval hW hk

theorem over : Rows.codecListsUptoRow.holds Try.pinned (Rows.OpenSpec.upto Rows.codecListsSpec) :=
  OpenClaim.holds_of_cond 10 Try.f10 rfl rfl rfl rfl rfl rfl rfl ⟨rfl, rfl, rfl, rfl, rfl⟩ rfl rfl rfl rfl rfl (by kernel_rfl) Try.func10 (by kernel_rfl)
    (of_decide_eq_true (by kernel_rfl)) (by unfold Func.isWrapper; first | (rw [if_pos (by decide +kernel)]; kernel_rfl) | (rw [if_neg (by decide +kernel)]; exact ⟨rfl, rfl⟩))
    (fun os started H enc0 _ F => lifted os started H enc0 F)

/-- THE STATEMENT. -/
theorem proved : Rows.CodecListsUptoSaid :=
  over
#print axioms proved
end Go.Proofs.Ytjhjcigappkebaa.codecLists
