/-
  Walks: the reader's list.
-/
import Derived.Test.YtjhjcigappkebaaRe
import Derived.Test.YtjhjcigappkebaaPb
namespace Go.Proofs.Ytjhjcigappkebaa
open Go.RowKit

theorem Try.info25 : (Try.prog.info? 25).map (fun i => (i.zero, i.size, i.bytes)) = some (some (.agg #[.int .i64 0, .int .i64 0, .slice none 0 0, .slice none 0 0]), 4, 64) := by kernel_rfl

/-- The cells xs read as the trees ts, four cells each. -/
def RdX (F : Nat → Prop) (w : World) : List T → List Value → Prop
  | [], xs => xs = []
  | t :: ts, xs => ∃ x0 x1 x2 x3 rest, xs = x0 :: x1 :: x2 :: x3 :: rest ∧ Rd F w t (.agg #[x0, x1, x2, x3]) ∧ RdX F w ts rest

theorem RdX.kept {F F' : Nat → Prop} {w w' : World} (hw : ∀ k, F k → w'.heap[k]? = w.heap[k]?) (hF : ∀ k, F k → F' k) : ∀ (ts : List T) (xs : List Value), RdX F w ts xs → RdX F' w' ts xs
  | [], _, h => h
  | t :: ts, xs, h => by
    obtain ⟨x0, x1, x2, x3, rest, rfl, ht, hr⟩ := h
    exact ⟨x0, x1, x2, x3, rest, rfl, Rd.kept hw hF t _ ht, RdX.kept hw hF ts rest hr⟩

theorem RdX.snoc {F : Nat → Prop} {w : World} {t : T} {y0 y1 y2 y3 : Value} (ht : Rd F w t (.agg #[y0, y1, y2, y3])) : ∀ (ts : List T) (xs : List Value), RdX F w ts xs → RdX F w (ts ++ [t]) (xs ++ [y0, y1, y2, y3])
  | [], xs, h => by
    have : xs = [] := h
    subst this
    exact ⟨y0, y1, y2, y3, [], rfl, ht, rfl⟩
  | u :: ts, xs, h => by
    obtain ⟨x0, x1, x2, x3, rest, rfl, hu, hr⟩ := h
    exact ⟨x0, x1, x2, x3, rest ++ [y0, y1, y2, y3], rfl, hu, RdX.snoc ht ts rest hr⟩

theorem RdX.toL {F : Nat → Prop} {w : World} {g : Nat} : ∀ (ts : List T) (xs : List Value) (off : Nat), RdX F w ts xs → (∀ i u, xs[i]? = some u → w.cell? ⟨g, off + i, none⟩ = some u) → RdL F w ts g off
  | [], _, _, _, _ => by unfold RdL; trivial
  | t :: ts, xs, off, h, hc => by
    obtain ⟨x0, x1, x2, x3, rest, rfl, ht, hr⟩ := h
    unfold RdL
    refine ⟨⟨x0, x1, x2, x3, hc 0 _ rfl, hc 1 _ rfl, hc 2 _ rfl, hc 3 _ rfl, ht⟩, RdX.toL ts rest (off + 4) hr (fun i u hi => ?_)⟩
    have := hc (i + 4) u (by simpa using hi)
    rw [show off + 4 + i = off + (i + 4) from by omega]
    exact this

/-- What was read, ahead of what is read. -/
def putL (acc : List T) (r : Except Int (List T × List Int)) : Except Int (List T × List Int) :=
  match r with
  | .ok (s, rest) => .ok (acc ++ s, rest)
  | .error e => .error e

theorem putL_next (acc : List T) (f : Nat) (m : Int) (l : List Int) (hm : m ≠ 0) : putL acc (pList (f + 1) (m :: l)) = match pVal f (m :: l) with | .ok (t, r) => putL (acc ++ [t]) (pList f r) | .error e => .error e := by
  simp only [pList]
  rw [if_neg hm]
  cases pVal f (m :: l) with
  | error e => rfl
  | ok x =>
    obtain ⟨t, r⟩ := x
    simp only
    cases pList f r with
    | error e => rfl
    | ok y => obtain ⟨ts, r'⟩ := y; simp [putL]

/-- The contract of reading a value, with fuel f. -/
def ValueC (B R : Nat) (vb : Value) (b : List Int) (f : Nat) : Prop :=
  ∀ (w : World) (p opn : Nat) (deep m : Int), Rs B w R vb b p deep → 0 ≤ m → m ≤ 255 → opn < p → (opn : Int) ≤ deep → pVal f (m :: b.drop p) ≠ .error 0 →
    Calls Try.prog 42 #[.pointer (some ⟨R, 0, none⟩), .int .u8 m, .int .i64 opn] w (ValOf B w R vb b deep opn (pVal f (m :: b.drop p)))

/-- The invariant of the loop. -/
structure Inv (B R : Nat) (vb : Value) (b : List Int) (w : World) (deep : Int) (opn : Nat) (f : Nat) (r : Except Int (List T × List Int)) (gk : Nat) (v : Value) (m : Int) (wr : World) (f' q : Nat) (ts : List T) (xs : List Value) : Prop where
  ghost : gk = b.length + 1 - q
  rs : Rs B wr R vb b q (max deep (opn + nestL ts))
  grown : w.grownBy wr (some R)
  own : wr.ownsRow w.heap.size 25 4 v ts.length xs
  reads : RdX (fun k => fresh w wr k ∧ v.ownBlock ≠ some k) wr ts xs
  fuel : f' ≤ f
  few : ts.length + 1 ≤ q
  opened : opn < q
  m0 : 0 ≤ m
  m1 : m ≤ 255
  left : putL ts (pList f' (m :: b.drop q)) = r

/-- 'append(l, v)' behind the block of v. -/
theorem wp_putV {P : Program} {ops : Array Oper} {rest : List Oper} {o : Oper} {a : Act} {Q : Exit → Act → World → Prop} (hP : P = Try.prog) (hgd : o.guard = none) (s x : Operand)
    (ho : o.op = .call { callee := .builtin .append, args := #[s, x], argTypes := #[23, 23] })
    {base : Nat} (w : World) (v : Value) (n : Nat) (xs : List Value) (k i : Int) (a2 a3 : Option Addr) (l2 c2 l3 c3 c : Nat) (h : w.ownsRow base 25 4 v n xs) (hs : a.eval s = v)
    (hx : a.eval x = .slice (some ⟨w.heap.size, 0, none⟩) 1 c) (hb : n ≤ 65536) (hbase : base ≤ w.heap.size)
    (hk : ∀ v' w', w'.ownsRow base 25 4 v' (n + 1) (xs ++ [.int .i64 k, .int .i64 i, .slice a2 l2 c2, .slice a3 l3 c3]) →
      (w.alloc (.cells #[.int .i64 k, .int .i64 i, .slice a2 l2 c2, .slice a3 l3 c3] 25)).grownBy w' v.ownBlock → (v'.ownBlock = v.ownBlock ∨ v'.ownBlock = some (w.heap.size + 1)) → wpList P ops Q rest (a.put o.dst v') w') :
    wpList P ops Q (o :: rest) a (w.alloc (.cells #[.int .i64 k, .int .i64 i, .slice a2 l2 c2, .slice a3 l3 c3] 25)) := by
  subst hP
  obtain ⟨i0, hi, hz0, hz1, hz2⟩ := info_parts Try.info25
  refine wpList_append_own_at _ hgd s x 23 ho base 25 i0 (.agg #[.int .i64 0, .int .i64 0, .slice none 0 0, .slice none 0 0]) 4 64 Try.underlying23 hi hz0 hz1 hz2 rfl (by decide) v n xs hs (h.alloc _) ⟨w.heap.size, 0, none⟩ 1 c [.int .i64 k, .int .i64 i, .slice a2 l2 c2, .slice a3 l3 c3] hx rfl
    (cells_new w _ 25) ?_ (by unfold maxLen; omega) (by omega) (by simp; omega) ?_
  · intro u hu
    simp only [List.mem_cons, List.not_mem_nil, or_false] at hu
    rcases hu with rfl | rfl | rfl | rfl <;> rfl
  · intro v' w' hown hgrow _ hblk
    refine hk v' w' hown hgrow ?_
    rcases hblk with e | e
    · exact Or.inl e
    · exact Or.inr (by rw [e]; simp)

theorem nestL_snoc (ts : List T) (t : T) : nestL (ts ++ [t]) = max (nestL ts) (nest t) := by
  rw [nestL_append]; simp [nestL]

theorem Inv.step {B R : Nat} {vb : Value} {b : List Int} {w : World} {deep : Int} {opn f : Nat} {r : Except Int (List T × List Int)} {gk : Nat} {v v2 : Value} {mk m2 : Int} {wr w' w2 w3 : World} {f' q q1 : Nat} {ts : List T} {xs : List Value} {t : T}
    {y0 y1 y2 y3 : Value} {o : Obj} (hI : Inv B R vb b w deep opn f r gk v mk wr (f' + 1) q ts xs) (hlt : R < w.heap.size) (hq : wr.grownBy w' (some R)) (hrd : Rd (fresh wr w') w' t (.agg #[y0, y1, y2, y3]))
    (hown2 : w2.ownsRow w.heap.size 25 4 v2 (ts.length + 1) (xs ++ [y0, y1, y2, y3])) (hgrow2 : (w'.alloc o).grownBy w2 v.ownBlock) (hblk2 : v2.ownBlock = v.ownBlock ∨ v2.ownBlock = some (w'.heap.size + 1))
    (hq3 : w2.grownBy w3 (some R)) (hrs3 : Rs B w3 R vb b (q1 + 1) (max (max deep (opn + nestL ts)) (opn + nest t))) (hq1 : q ≤ q1) (hm0 : 0 ≤ m2) (hm1 : m2 ≤ 255)
    (hl2 : putL (ts ++ [t]) (pList f' (m2 :: b.drop (q1 + 1))) = r) : Inv B R vb b w deep opn f r (b.length + 1 - (q1 + 1)) v2 m2 w3 f' (q1 + 1) (ts ++ [t]) (xs ++ [y0, y1, y2, y3]) := by
  have hws := hI.grown.size
  have hws1 := hq.size
  have hws2 := hgrow2.size
  have hws3 := hq3.size
  simp only [World.size_alloc] at hws2
  have hvl := hI.own.lt
  have hfew := hI.few
  have hopd := hI.opened
  have hfuel := hI.fuel
  refine ⟨rfl, ?_, ?_, ?_, ?_, by omega, by simp; omega, by omega, hm0, hm1, hl2⟩
  · have : (opn : Int) + ((nestL (ts ++ [t]) : Nat) : Int) = max ((opn : Int) + nestL ts) (opn + nest t) := by rw [nestL_snoc]; omega
    rw [this]
    have e : max deep (max ((opn : Int) + nestL ts) (opn + nest t)) = max (max deep (opn + nestL ts)) (opn + nest t) := by omega
    rw [e]
    exact hrs3
  · exact grow2 (grow3 (growAlloc (grow2 hI.grown hq (Or.inl rfl)) o) hgrow2 (fun g hg => (hvl g hg).1)) hq3 (Or.inl rfl)
  · have := ownReader hown2 hq3 hlt
    rw [List.length_append]
    exact this
  · have hold : ∀ k, k < w'.heap.size → k ≠ R → v.ownBlock ≠ some k → w3.heap[k]? = w'.heap[k]? := by
      intro k hk hkR hkv
      rw [hq3.block k (by omega) (fun e => hkR (by simpa using e)), hgrow2.block k (by simp; omega) (fun e => hkv e.symm)]
      exact Below.heap_alloc w' o k hk
    have hnew : ∀ k, k < w'.heap.size → v.ownBlock ≠ some k → v2.ownBlock ≠ some k := by
      intro k hk hkv e
      rcases hblk2 with e2 | e2
      · exact hkv (e2 ▸ e)
      · rw [e2] at e; simp at e; omega
    refine RdX.snoc ?_ ts xs ?_
    · refine Rd.kept (fun k hk => hold k hk.2 ?_ ?_) (fun k hk => ⟨⟨?_, ?_⟩, hnew k hk.2 ?_⟩) t _ hrd
      · have := hk.1; omega
      · intro e; have := (hvl k e).2; have := hk.1; omega
      · have := hk.1; omega
      · have := hk.2; omega
      · intro e; have := (hvl k e).2; have := hk.1; omega
    · refine RdX.kept (fun k hk => ?_) (fun k hk => ⟨⟨hk.1.1, ?_⟩, hnew k ?_ hk.2⟩) ts xs hI.reads
      · have h1 := hk.1.1
        have h2 := hk.1.2
        rw [hold k (by omega) (by omega) hk.2]
        exact hq.block k h2 (fun e => by simp at e; omega)
      · have := hk.1.2; omega
      · have := hk.1.2; omega

set_option maxHeartbeats 400000 in
theorem list_any (B R : Nat) (vb : Value) (b : List Int) (f : Nat) (hlen : b.length ≤ 65536) (ih : ∀ f', f' < f → ValueC B R vb b f') (w : World) (p opn : Nat) (deep : Int) (h : Rs B w R vb b p deep) (hop : opn ≤ p)
    (hne : pList f (b.drop p) ≠ .error 0) :
    Calls Try.prog 53 #[.pointer (some ⟨R, 0, none⟩), .int .i64 opn] w (ListOf B w R vb b deep opn (pList f (b.drop p))) := by
  have hlt := h.lt
  have hple := h.le
  obtain ⟨_, _, c2, c3, _⟩ := h.rdr.cells
  have f2 := c3 2
  clear c3
  have Ih := Lib.hid ih; clear ih
  generalize hr : pList f (b.drop p) = r at *
  have Hr := Lib.hid hr; clear hr
  have Hne := Lib.hid hne; clear hne
  have hmx : (if deep < (opn : Int) then (opn : Int) else deep) = max deep opn := by split <;> omega
  have h1 : Rs B (w.setCell ⟨R, 2, none⟩ (.int .i64 (max deep opn))) R vb b p (max deep opn) := h.moved (grownSet _ _ _ _) (h.rdr.set2 _) h.le
  have H1 := Lib.hid h1; clear h1 h
  cases hd : b.drop p with
  | nil =>
    have hcall := next_end B _ R vb b p _ H1.out hd
    have Hc := Lib.hid hcall; clear hcall
    have he : r = .error 5 := by
      have := Hr.out
      rw [hd] at this
      cases f with
      | zero => exact absurd this.symm Hne.out
      | succ f => exact this.symm
    have He := Lib.hid he; clear he hd
    go_enter Try.func53, Try.ntmps53
    go_wp2_with (go_at_call 43; refine Hc.out.mono ?_; rintro e w' ⟨rfl, hq⟩; have Hq := Lib.hid hq; clear hq)
    refine ⟨rfl, grow2 (grownSet _ _ _ _) Hq.out (Or.inl rfl), ?_⟩
    rw [He.out]
  | cons m rest =>
    have hcall := next_ok B _ R vb b p _ m rest H1.out hd
    have Hc := Lib.hid hcall; clear hcall
    have hm01 : 0 ≤ m ∧ m ≤ 255 := range_of_drop H1.out hd
    obtain ⟨hpl, _, hdr⟩ := drop_cons hd
    have hinv : ∀ w1, Rs B w1 R vb b (p + 1) (max deep opn) → (w.setCell ⟨R, 2, none⟩ (.int .i64 (max deep opn))).grownBy w1 (some R) → Inv B R vb b w deep opn f r (b.length + 1 - (p + 1)) (.slice none 0 0) m w1 f (p + 1) [] [] := by
      intro w1 hrs hg
      refine ⟨rfl, ?_, grow2 (grownSet _ _ _ _) hg (Or.inl rfl), World.ownsRow_nil _ _ _ _, rfl, Nat.le_refl _, by simp, by omega, hm01.1, hm01.2, ?_⟩
      · have : (opn : Int) + ((nestL [] : Nat) : Int) = opn := by simp [nestL]
        rw [this]; exact hrs
      · rw [hdr, ← hd, Hr.out]
        cases r with
        | ok x => rfl
        | error e => rfl
    have Hinv := Lib.hid hinv; clear hinv hm01 hd hdr
    go_enter Try.func53, Try.ntmps53
    go_wp2_with (go_at_call 43; refine Hc.out.mono ?_; rintro e w1 ⟨rfl, hq⟩; have Hi := Lib.hid (Hinv.out w1 hq.1 hq.2); clear hq)
    clear c2 f2
    go_loopg [4, 5] (b.length + 1 - (p + 1)) (fun k v mm wr => ∃ (f' q : Nat) (ts : List T) (xs : List Value) (mk : Int), mm = .int .u8 mk ∧ Hid (Inv B R vb b w deep opn f r k v mk wr f' q ts xs))
    case atStart => exact ⟨f, p + 1, [], [], m, rfl, Hi.out⟩
    case round =>
      obtain ⟨f', q, ts, xs, mk, rfl, hI⟩ := hrel
      clear Hi Hinv Hc
      by_cases hz : mk = 0
      · have tz : (mk != 0) = false := by rw [hz]; rfl
        have Hz := Lib.hid hz; clear hz
        go_wp2_with fail
        go_ret
        refine ⟨hI.out.grown, ?_⟩
        have hl := hI.out.left
        rw [Hz.out] at hl
        have he : r = .ok (ts, b.drop q) := by
          cases f' with
          | zero => exact absurd (show Except.error 0 = r from hl).symm Hne.out
          | succ f' =>
            rw [← hl]
            simp [pList, putL]
        rw [he]
        have hown := hI.out.own
        have hfew := hI.out.few
        have hqb := hI.out.rs.le
        have hrd := hI.out.reads
        rcases hown.2 with ⟨hv, hn⟩ | ⟨g, cap, cur, hv, hbg, hh, hnc, hcm, hcs, htk⟩
        · have hts : ts = [] := List.eq_nil_of_length_eq_zero hn
          subst hts
          exact ⟨none, 0, q, by rw [hv]; rfl, ⟨by simp, by simp, by simp⟩, rfl, hI.out.rs⟩
        · refine ⟨some ⟨g, 0, none⟩, cap, q, by rw [hv]; rfl, ⟨by omega, hnc, fun _ => ⟨g, 0, rfl, ⟨hbg, (Array.getElem?_eq_some_iff.1 hh).1⟩, ?_⟩⟩, rfl, hI.out.rs⟩
          refine RdX.toL ts xs 0 (RdX.kept (fun _ _ => rfl) (fun k hk => hk.1) ts xs hrd) (fun i u hi => ?_)
          rw [cell_of_row wr g (0 + i) cur 25 (0, 0) hh]
          rw [← htk, List.getElem?_take] at hi
          split at hi
          · simpa using hi
          · cases hi
      · have tz : (mk != 0) = true := by simpa using hz
        have hl := hI.out.left
        cases f' with
        | zero => exact absurd (show Except.error 0 = r from hl).symm Hne.out
        | succ f' =>
          rw [putL_next ts f' mk _ hz] at hl
          have hfl := hI.out.fuel
          have hop' := hI.out.opened
          have hdm : (opn : Int) ≤ max deep (opn + nestL ts) := by omega
          have hnep : pVal f' (mk :: b.drop q) ≠ .error 0 := by
            intro e
            rw [e] at hl
            exact Hne.out hl.symm
          have hcall := Ih.out f' (by omega) wr q opn _ mk hI.out.rs hI.out.m0 hI.out.m1 hop' hdm hnep
          have Hl := Lib.hid hl; clear hl hz hdm
          cases hpv : pVal f' (mk :: b.drop q) with
          | error c =>
            rw [hpv] at hcall
            have Hc := Lib.hid hcall; clear hcall
            have he : Except.error c = r := by
              have := Hl.out
              rw [hpv] at this
              exact this
            have He := Lib.hid he; clear he hpv hnep
            go_wp2_with (go_at_call 42; refine Hc.out.mono ?_; rintro e w' ⟨hq, rfl⟩; have Hq := Lib.hid hq; clear hq)
            refine ⟨rfl, grow2 hI.out.grown Hq.out (Or.inl rfl), ?_⟩
            rw [← He.out]
          | ok x =>
            obtain ⟨t, r1⟩ := x
            have hlen1 := (len_both f').1 _ _ _ _ hpv
            rw [hpv] at hcall
            have Hc := Lib.hid hcall; clear hcall
            have hl2 : putL (ts ++ [t]) (pList f' r1) = r := by
              have := Hl.out
              rw [hpv] at this
              exact this
            have Hl2 := Lib.hid hl2; clear hl2 hpv hnep Hl
            have hqle := hI.out.rs.le
            cases r1 with
            | nil =>
              have he : Except.error 5 = r := by
                have := Hl2.out
                cases f' with
                | zero => exact absurd (show Except.error 0 = r from this).symm Hne.out
                | succ f' => exact this
              have He := Lib.hid he; clear he
              have hq01 : True := trivial
              go_wp2_with (first | (go_at_call 42; refine Hc.out.mono ?_; rintro e w' ⟨hq, v, q1, rfl, hrd, hdr1, hrs1⟩; obtain ⟨a2, c2, a3, c3, rfl, _⟩ := hrd.form; have Hq := Lib.hid hq; clear hq; have Hrd := Lib.hid hrd; clear hrd; have Hdr1 := Lib.hid hdr1; clear hdr1; have Hrs1 := Lib.hid hrs1; clear hrs1) | (at_builtin; refine wp_putV rfl rfl (.tmp 21) (.tmp 26) rfl _ _ ts.length xs _ _ _ _ _ _ _ _ _ (ownReader hI.out.own Hq.out hlt) rfl rfl (by have := hI.out.few; omega) (by have := hI.out.grown.size; have := Hq.out.size; omega) ?_; intro v2 w2 hown2 hgrow2 hblk2; have Hown2 := Lib.hid hown2; clear hown2; have Hgrow2 := Lib.hid hgrow2; clear hgrow2; have Hblk2 := Lib.hid hblk2; clear hblk2; have Hrs2 := Lib.hid ((Hrs1.out.kept (World.grownBy_alloc w' _ none) (by simp)).kept Hgrow2.out (fun k hk => by have := (hI.out.own.lt k hk).1; omega))) | (go_at_call 43; refine (next_end B _ R vb b q1 _ Hrs2.out Hdr1.out).mono ?_; rintro e w3 ⟨rfl, hq3⟩; have Hq3 := Lib.hid hq3; clear hq3))
              refine ⟨rfl, grow2 (grow3 (growAlloc (grow2 hI.out.grown Hq.out (Or.inl rfl)) _) Hgrow2.out (fun g hg => (hI.out.own.lt g hg).1)) Hq3.out (Or.inl rfl), ?_⟩
              rw [← He.out]
            | cons m2 rest2 =>
              go_wp2_with (first | (go_at_call 42; refine Hc.out.mono ?_; rintro e w' ⟨hq, v, q1, rfl, hrd, hdr1, hrs1⟩; obtain ⟨a2, c2, a3, c3, rfl, _⟩ := hrd.form; have Hq := Lib.hid hq; clear hq; have Hrd := Lib.hid hrd; clear hrd; have Hdr1 := Lib.hid hdr1; clear hdr1; have Hrs1 := Lib.hid hrs1; clear hrs1) | (at_builtin; refine wp_putV rfl rfl (.tmp 21) (.tmp 26) rfl _ _ ts.length xs _ _ _ _ _ _ _ _ _ (ownReader hI.out.own Hq.out hlt) rfl rfl (by have := hI.out.few; omega) (by have := hI.out.grown.size; have := Hq.out.size; omega) ?_; intro v2 w2 hown2 hgrow2 hblk2; have Hown2 := Lib.hid hown2; clear hown2; have Hgrow2 := Lib.hid hgrow2; clear hgrow2; have Hblk2 := Lib.hid hblk2; clear hblk2; have Hrs2 := Lib.hid ((Hrs1.out.kept (World.grownBy_alloc w' _ none) (by simp)).kept Hgrow2.out (fun k hk => by have := (hI.out.own.lt k hk).1; omega))) | (go_at_call 43; refine (next_ok B _ R vb b q1 _ m2 rest2 Hrs2.out Hdr1.out).mono ?_; rintro e w3 ⟨rfl, hrs3, hq3⟩; have Hq3 := Lib.hid hq3; clear hq3; have Hrs3 := Lib.hid hrs3; clear hrs3))
              obtain ⟨hq1l, _, hdr2⟩ := drop_cons Hdr1.out
              have hm2 := range_of_drop Hrs2.out Hdr1.out
              have hqq : q ≤ q1 := by
                have h1 := congrArg List.length Hdr1.out
                have h2 := hlen1
                rw [List.length_drop] at h1 h2
                omega
              go_roundg (b.length + 1 - (q1 + 1))
              case measure => have := hI.out.ghost; omega
              case rel =>
                refine ⟨f', q1 + 1, ts ++ [t], _, m2, rfl, Inv.step hI.out hlt Hq.out Hrd.out Hown2.out Hgrow2.out Hblk2.out Hq3.out Hrs3.out hqq hm2.1 hm2.2 ?_⟩
                rw [hdr2]
                exact Hl2.out

end Go.Proofs.Ytjhjcigappkebaa
