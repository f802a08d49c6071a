/-
  Walks of the reference: readList, read.
-/
import Derived.Test.YtjhjcigappkebaaXb
namespace Go.Proofs.Ytjhjcigappkebaa
set_option linter.unusedSimpArgs false
set_option linter.unusedVariables false
open Go.RowKit

theorem lstep {W wr w1 w3 : World} {v v' : Value} {n : Nat} {ts : List T} {xs : List Value} {t : T} {y0 y1 y2 y3 : Value} {o1 o2 : Obj} (own : wr.ownsRow W.heap.size 25 4 v n xs) (reads : RdX (fun k => fresh W wr k ∧ v.ownBlock ≠ some k) wr ts xs)
    (hW : W.heap.size ≤ wr.heap.size) (hb1 : Below wr.heap.size wr w1) (hrd : Rd (fresh wr w1) w1 t (.agg #[y0, y1, y2, y3])) (hgrow : ((w1.alloc o1).alloc o2).grownBy w3 v.ownBlock) (hblk : v'.ownBlock = v.ownBlock ∨ v'.ownBlock = some (w1.heap.size + 1 + 1)) :
    RdX (fun k => fresh W w3 k ∧ v'.ownBlock ≠ some k) w3 (ts ++ [t]) (xs ++ [y0, y1, y2, y3]) := by
  have hs1 := hb1.size
  have hs3 := hgrow.size
  simp only [World.size_alloc] at hs3
  have hvl := own.lt
  have hold : ∀ k, k < w1.heap.size → v.ownBlock ≠ some k → w3.heap[k]? = w1.heap[k]? := by
    intro k hk hkv
    rw [hgrow.block k (by simp; omega) (fun e => hkv e.symm)]
    exact (Below.heap_alloc (w1.alloc o1) o2 k (by simp; omega)).trans (Below.heap_alloc w1 o1 k hk)
  have hnew : ∀ k, k < w1.heap.size → v.ownBlock ≠ some k → v'.ownBlock ≠ some k := by
    intro k hk hkv e
    rcases hblk with e2 | e2
    · exact hkv (e2 ▸ e)
    · rw [e2] at e; simp at e; omega
  refine RdX.snoc ?_ ts xs ?_
  · refine Rd.kept (fun k hk => hold k hk.2 ?_) (fun k hk => ⟨⟨?_, ?_⟩, hnew k hk.2 ?_⟩) t _ hrd
    · intro e; have := (hvl k e).2; have := hk.1; omega
    · have := hk.1; omega
    · have := hk.2; omega
    · intro e; have := (hvl k e).2; have := hk.1; omega
  · refine RdX.kept (fun k hk => ?_) (fun k hk => ⟨⟨hk.1.1, ?_⟩, hnew k ?_ hk.2⟩) ts xs reads
    · rw [hold k (by have := hk.1.2; omega) hk.2]
      exact hb1.block k hk.1.2
    · have := hk.1.2; omega
    · have := hk.1.2; omega

/-- 'append(l, v)' behind the block of v, whose number is given. -/
theorem wp_putV2 {P : Program} {ops : Array Oper} {rest : List Oper} {o : Oper} {a : Act} {Q : Exit → Act → World → Prop} (hP : P = Try.prog) (hgd : o.guard = none) (s x : Operand)
    (ho : o.op = .call { callee := .builtin .append, args := #[s, x], argTypes := #[23, 23] })
    {base : Nat} (w : World) (v : Value) (n : Nat) (xs : List Value) (k i : Int) (a2 a3 : Option Addr) (l2 c2 l3 c3 c B : Nat) (hB : B = w.heap.size) (h : w.ownsRow base 25 4 v n xs) (hs : a.eval s = v)
    (hx : a.eval x = .slice (some ⟨B, 0, none⟩) 1 c) (hb : n ≤ 65536) (hbase : base ≤ w.heap.size)
    (hk : ∀ v' w', w'.ownsRow base 25 4 v' (n + 1) (xs ++ [.int .i64 k, .int .i64 i, .slice a2 l2 c2, .slice a3 l3 c3]) →
      (w.alloc (.cells #[.int .i64 k, .int .i64 i, .slice a2 l2 c2, .slice a3 l3 c3] 25)).grownBy w' v.ownBlock → (v'.ownBlock = v.ownBlock ∨ v'.ownBlock = some (w.heap.size + 1)) → wpList P ops Q rest (a.put o.dst v') w') :
    wpList P ops Q (o :: rest) a (w.alloc (.cells #[.int .i64 k, .int .i64 i, .slice a2 l2 c2, .slice a3 l3 c3] 25)) := by
  subst hB
  exact wp_putV hP hgd s x ho w v n xs k i a2 a3 l2 c2 l3 c3 c h hs hx hb hbase hk

theorem ownSlice {W wr : World} {v : Value} {n : Nat} {xs : List Value} (own : wr.ownsRow W.heap.size 25 4 v n xs) : ∃ a c, v = .slice a n c := by
  rcases own.2 with ⟨hv, hn⟩ | ⟨g, cap, cur, hv, _⟩
  · exact ⟨none, 0, by rw [hv, hn]⟩
  · exact ⟨_, _, hv⟩

theorem listRd {W wr : World} {a : Option Addr} {c : Nat} {ts : List T} {xs : List Value} (own : wr.ownsRow W.heap.size 25 4 (.slice a ts.length c) ts.length xs) (reads : RdX (fun k => fresh W wr k ∧ (Value.slice a ts.length c).ownBlock ≠ some k) wr ts xs) (hl : ts.length ≤ 65536) :
    Rd (fresh W wr) wr (.mk 3 0 [] ts) (.agg #[.int .i64 3, .int .i64 0, .slice none 0 0, .slice a ts.length c]) := by
  rcases own.2 with ⟨hv, hn⟩ | ⟨g, cap, cur, hv, hbg, hh, hnc, hcm, hcs, htk⟩
  · have hts : ts = [] := List.eq_nil_of_length_eq_zero hn
    subst hts
    exact Rd.list (by simp) (by simp) (by simp)
  · simp only [Value.slice.injEq] at hv
    obtain ⟨rfl, _, rfl⟩ := hv
    refine Rd.list hl hnc (fun _ => ⟨g, 0, rfl, ⟨hbg, (Array.getElem?_eq_some_iff.1 hh).1⟩, ?_⟩)
    refine RdX.toL ts xs 0 (RdX.kept (fun _ _ => rfl) (fun k hk => hk.1) ts xs reads) (fun i u hi => ?_)
    rw [cell_of_row wr g (0 + i) cur 25 (0, 0) hh]
    rw [← htk, List.getElem?_take] at hi
    split at hi
    · simpa using hi
    · cases hi

/-- The contract of reading a value, with fuel f. -/
def RvC (b : List Int) (va : Option Addr) (vc : Nat) (f : Nat) : Prop :=
  ∀ (w : World) (p : Nat), Bs (fun k => k < w.heap.size) w (.slice va b.length vc) b → p ≤ b.length → pVal f (b.drop p) ≠ .error 0 → Calls Try.prog 44 #[.slice va b.length vc, .int .i64 p] w (RvOf b w (pVal f (b.drop p)))

theorem pList_pos {f : Nat} {l : List Int} {r : Except Int (List T × List Int)} {ts : List T} (h : putL ts (pList f l) = r) (hne : r ≠ .error 0) : ∃ f', f = f' + 1 := by
  cases f with
  | zero => exact absurd h.symm hne
  | succ f => exact ⟨f, rfl⟩

set_option maxRecDepth 100000 in
set_option maxHeartbeats 2000000 in
theorem rlist_any (b : List Int) (va : Option Addr) (vc : Nat) (f : Nat) (hlen : b.length ≤ 65536) (ih : ∀ f', f' < f → RvC b va vc f') (w : World) (p : Nat) (hb : Bs (fun k => k < w.heap.size) w (.slice va b.length vc) b) (hp : p ≤ b.length) (hne : pList f (b.drop p) ≠ .error 0)
    (R : Except Int (T × List Int)) (hR : (match pList f (b.drop p) with | .ok (l, r) => .ok (.mk 3 0 [] l, r) | .error e => .error e) = R) :
    Calls Try.prog 56 #[.slice va b.length vc, .int .i64 p] w (RvOf b w R) := by
  generalize hr : pList f (b.drop p) = r at hR hne
  have Hr := Lib.hid hr; have HR := Lib.hid hR; have HBS := Lib.hid hb; have HNE := Lib.hid hne; have HIH := Lib.hid ih; clear hr hR hb hne ih
  go_enter Try.func56, Try.ntmps56
  go_wp2_with fail
  have HBW := Lib.hid (ball (Below.refl _ _) (.cells #[.int .i64 0, .int .i64 0, .slice none 0 0, .slice none 0 0] 25) : Below w.heap.size w _)
  have HWE : Hid (∃ W, W = w.alloc (.cells #[.int .i64 0, .int .i64 0, .slice none 0 0, .slice none 0 0] 25)) := Lib.hid ⟨_, rfl⟩
  obtain ⟨W, hW⟩ := HWE.out
  have hPn : (W.alloc (.cells #[] 25)).ownsRow W.heap.size 25 4 (.slice (some ⟨W.heap.size, 0, none⟩) 0 0) 0 [] := World.ownsRow_made W #[] 0 (Nat.le_refl _) (by unfold maxLen; omega) (by simp)
  have HPN := Lib.hid hPn
  have HPB := Lib.hid (ball (Below.refl _ _) (.cells #[] 25) : Below W.heap.size W _)
  have HW := Lib.hid hW
  clear HWE hPn
  go_loopw [1, 7] (fun pp v wr => ∃ (q f' : Nat) (ts : List T) (xs : List Value), q ≤ b.length ∧ pp = .int .i64 q ∧ Hid (wr.ownsRow W.heap.size 25 4 v ts.length xs) ∧ Hid (RdX (fun k => fresh W wr k ∧ v.ownBlock ≠ some k) wr ts xs) ∧ Hid (Below W.heap.size W wr) ∧ Hid (ts.length ≤ q ∧ f' ≤ f ∧ putL ts (pList f' (b.drop q)) = r)) (fun pp _ _ => b.length - (intOf pp).toNat)
  case atStart =>
    refine ⟨p, f, [], [], hp, rfl, by subst hW; have h := HPN.out; simp only [World.size_alloc] at h ⊢; exact Lib.hid h, Lib.hid rfl, by subst hW; exact HPB, Lib.hid ⟨by simp, Nat.le_refl _, ?_⟩⟩
    have := Hr.out; rw [this]; cases r with | ok x => rfl | error e => rfl
  case round =>
    clear hW HPN HPB
    obtain ⟨q, f', ts, xs, hq, rfl, HOW, HRX, HBL, HI⟩ := hrel
    obtain ⟨xa, xc, rfl⟩ := ownSlice HOW.out
    have hz := zeroKept (by have h := HBL.out; rw [HW.out] at h; exact h)
    obtain ⟨d0, d1, d2, d3, f0, f1, f2, f3⟩ := zeroAt hz
    have hsb := fun x0 x1 x2 x3 => setBelow (w := w) (wr := wr) (by have h := HBL.out; rw [HW.out] at h; exact h) x0 x1 x2 x3
    have HSB := Lib.hid hsb; have HZ := Lib.hid hz; clear hsb hz
    obtain ⟨f2', rfl⟩ := pList_pos HI.out.2.2 HNE.out
    cases hd : b.drop q with
    | nil =>
      have hge := drop_nil_le hd
      have he : Except.error 5 = r := by have h := HI.out.2.2; rw [hd] at h; exact h
      have HE := Lib.hid he; clear he hd
      go_wp2_with fail
      refine bodyPost_ret (v := .tuple #[.agg #[.int .i64 0, .int .i64 0, .slice none 0 0, .slice none 0 0], .int .i64 q, .int .i64 5]) (by simp [results, Try.results56, go_sem, d0, d1, d2, d3]) rfl ⟨HSB.out _ _ _ _, ?_⟩
      rw [← HR.out, ← HE.out]; exact ⟨_, rfl⟩
    | cons x rest =>
      obtain ⟨hql, hxe, hdr⟩ := drop_cons hd
      obtain ⟨g, off, cap, hv, hcap, hg, hcell⟩ := HBS.out.at (by omega)
      simp only [Value.slice.injEq] at hv
      obtain ⟨rfl, hLL, rfl⟩ := hv
      clear hLL
      have hbw : Below w.heap.size w W := by rw [HW.out]; exact HBW.out
      have hbwr : Below w.heap.size w wr := hbw.trans (HBL.out.mono hbw.size)
      have c0 := (hbwr.cell (p := ⟨g, off + q, none⟩) hg).trans (hcell q x (by rw [List.getElem?_eq_getElem hql, hxe]))
      have HBR := Lib.hid hbwr
      have htl := HI.out.1
      have hpa := HI.out.2.2
      rw [hd] at hpa
      clear hcell hbw hbwr
      by_cases hx : x = 0
      · have tx : (x == 0) = true := by rw [hx]; rfl
        have he : Except.ok (ts, rest) = r := by rw [← hpa, hx]; simp [pList, putL]
        have HE := Lib.hid he; have HDR := Lib.hid hdr; clear he hpa hx hd hdr hxe
        go_wp2_with fail
        refine bodyPost_ret (v := .tuple #[.agg #[.int .i64 3, .int .i64 0, .slice none 0 0, .slice xa ts.length xc], .int .i64 ((q + 1 : Nat) : Int), .int .i64 0]) (by simp [results, Try.results56, go_sem, d0, d1, d2, d3]) rfl ⟨HSB.out _ _ _ _, ?_⟩
        rw [← HR.out, ← HE.out]
        have hgs := grownSet4 wr w.heap.size (.int .i64 3) (.int .i64 0) (.slice none 0 0) (.slice xa ts.length xc)
        have hrd := listRd HOW.out HRX.out (by omega)
        refine ⟨none, 0, xa, xc, q + 1, rfl, Rd.kept (fun k hk => ?_) (fun k hk => ?_) _ _ hrd, by omega, HDR.out⟩
        · have h1 := hk.1; rw [HW.out] at h1; simp at h1; exact hgs.block k hk.2 (fun e => by simp at e; omega)
        · have h1 := hk.1; rw [HW.out] at h1; simp at h1; exact ⟨by omega, Nat.lt_of_lt_of_le hk.2 hgs.size⟩
      · have tx : (x == 0) = false := by simpa using hx
        rw [putL_next ts f2' x rest hx, ← hd] at hpa
        have hnep : pVal f2' (b.drop q) ≠ .error 0 := by
          intro e; rw [e] at hpa; exact HNE.out hpa.symm
        have hcall := HIH.out f2' (by have := HI.out.2.1; omega) wr q (HBS.out.up HBR.out) hq hnep
        have HPA := Lib.hid hpa; have HNP := Lib.hid hnep; have HD := Lib.hid hd
        clear hpa hd hdr hxe hx hnep
        obtain ⟨P, hP⟩ : ∃ P, P = pVal f2' (b.drop q) := ⟨_, rfl⟩
        rw [← hP] at hcall HPA HNP
        have HC := Lib.hid hcall; have HP := Lib.hid hP; clear hcall hP
        go_wp2_with fail
        refine HC.out.mono ?_
        rintro e w1 ⟨hb1, hm⟩
        clear HC d0 d1 d2 d3 f0 f1 f2 f3 c0
        have hbl1 := nextB HBL.out hb1
        have HB1 := Lib.hid hb1; have HBL1 := Lib.hid hbl1; clear hb1 hbl1
        cases P with
        | error c =>
          obtain ⟨z, rfl⟩ := hm
          have tc : (c != 0) = true := by have h := HNP.out; simp at h ⊢; exact h
          have he : Except.error c = r := HPA.out
          have HE := Lib.hid he; clear he
          have HBLa := Lib.hid (ball HBL1.out (.cells #[.int .i64 0, .int .i64 0, .slice none 0 0, .slice none 0 0] 25))
          have hz := zeroKept (by have h := HBLa.out; rw [HW.out] at h; exact h)
          obtain ⟨d0, d1, d2, d3, f0, f1, f2, f3⟩ := zeroAt hz
          have hsb := fun x0 x1 x2 x3 => setBelow (w := w) (wr := w1.alloc (.cells #[.int .i64 0, .int .i64 0, .slice none 0 0, .slice none 0 0] 25)) (by have h := HBLa.out; rw [HW.out] at h; exact h) x0 x1 x2 x3
          have HSB1 := Lib.hid hsb; have HZ1 := Lib.hid hz; clear hsb hz
          go_wp2_with fail
          refine bodyPost_ret (v := .tuple #[.agg #[.int .i64 0, .int .i64 0, .slice none 0 0, .slice none 0 0], .int .i64 q, .int .i64 c]) (by simp [results, Try.results56, go_sem, d0, d1, d2, d3]) rfl ⟨HSB1.out _ _ _ _, ?_⟩
          rw [← HR.out, ← HE.out]; exact ⟨_, rfl⟩
        | ok y =>
          obtain ⟨t, r1⟩ := y
          obtain ⟨a2, c2, a3, c3, q1, rfl, hrd, hq1, hdq1⟩ := hm
          have hpl := HPA.out
          simp only at hpl
          rw [← hdq1] at hpl
          have hlen1 : q < q1 := by
            have hl := (len_both f2').1 x rest t r1 (by rw [← HD.out]; exact HP.out.symm)
            have h1 := congrArg List.length HD.out; have h2 := congrArg List.length hdq1
            rw [List.length_drop] at h1 h2
            simp at h1; omega
          have HPL := Lib.hid hpl; have HRD := Lib.hid hrd; clear hpl hrd hdq1
          have hwz : W.heap.size ≤ w1.heap.size := HBL1.out.size
          have hbx : Below wr.heap.size wr (w1.alloc (.cells #[.int .i64 t.kind, .int .i64 t.num, .slice a2 t.bs.length c2, .slice a3 t.els.length c3] 25)) := ball HB1.out _
          have how : (w1.alloc (.cells #[.int .i64 t.kind, .int .i64 t.num, .slice a2 t.bs.length c2, .slice a3 t.els.length c3] 25)).ownsRow W.heap.size 25 4 (.slice xa ts.length xc) ts.length xs := HOW.out.kept (row := none) ⟨hbx.os, hbx.tape, hbx.output, hbx.size, fun i hi _ => hbx.block i hi⟩ (by cases hx : (Value.slice xa ts.length xc).ownBlock <;> simp)
          have HOW1 := Lib.hid how; clear how hbx
          go_wp2_with (first | (at_builtin; refine wp_putV2 rfl rfl (.tmp 37) (.tmp 39) rfl _ _ ts.length xs _ _ _ _ _ _ _ _ _ _ (by simp) HOW1.out rfl rfl (by omega) (by simp; omega) ?_; intro v2 w2 hown2 hgrow2 hblk2; have Hown2 := Lib.hid hown2; clear hown2; have Hgrow2 := Lib.hid hgrow2; clear hgrow2; have Hblk2 := Lib.hid hblk2; clear hblk2))
          go_roundw
          case rel =>
            have hbl2 : Below W.heap.size W w2 := (ball (ball HBL1.out _) _).grown Hgrow2.out (by simp; omega) (fun k hk => (HOW.out.lt k hk).1)
            refine ⟨q1, f2', ts ++ [t], _, hq1, rfl, ?_, Lib.hid (lstep HOW.out HRX.out HBL.out.size HB1.out HRD.out Hgrow2.out (by have h := Hblk2.out; simpa using h)), Lib.hid hbl2, Lib.hid ⟨by simp; omega, by have := HI.out.2.1; omega, HPL.out⟩⟩
            rw [List.length_append]; exact Hown2
          case measure => simp [intOf]; omega
end Go.Proofs.Ytjhjcigappkebaa
