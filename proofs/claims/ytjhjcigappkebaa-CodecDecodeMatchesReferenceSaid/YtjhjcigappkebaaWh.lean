/-
  Walks: appendValue.
-/
import Derived.Test.YtjhjcigappkebaaWg
import Derived.Test.YtjhjcigappkebaaDep
namespace Go.Proofs.Ytjhjcigappkebaa
open Go.RowKit

theorem wp_putg {P : Program} {ops : Array Oper} {rest : List Oper} {o : Oper} {a : Act} {Q : Exit → Act → World → Prop} (hP : P = Try.prog) (hgd : o.guard = none) (s x : Operand)
    (ho : o.op = .call { callee := .builtin .append, args := #[s, x], argTypes := #[22, 22] })
    {base : Nat} {w0 : World} {v0 : Value} (w : World) (v : Value) (bs : List Int) (ns : List Int) (cs : Array Value) (g m c : Nat) (h : Apd base w0 v0 w v bs) (hs : a.eval s = v)
    (hx : a.eval x = .slice (some ⟨g, 0, none⟩) m c) (hg : g = w.heap.size) (hcs : cs = (byteVals ns).toArray) (hm : m = ns.length) (hb : bs.length + ns.length ≤ 140737488355328) (hbase : base ≤ w.heap.size)
    (hk : ∀ v' w', Apd base w0 v0 w' v' (bs ++ ns) → wpList P ops Q rest (a.put o.dst v') w') : wpList P ops Q (o :: rest) a (w.alloc (.cells cs 5)) := by
  subst hg
  exact wp_put hP hgd s x ho w v bs ns cs m c h hs hx hcs hm hb hbase hk

theorem Apd.old {base : Nat} {w0 w : World} {v0 v : Value} {bs : List Int} (h : Apd base w0 v0 w v bs) (h0 : ∀ k, v0.ownBlock = some k → base ≤ k) (hb : base ≤ w0.heap.size) (k : Nat) (hk : k < base) : w.heap[k]? = w0.heap[k]? :=
  h.grown.block k (by omega) (fun e => by have := h0 k e.symm; omega)

theorem Rd.apd {F : Nat → Prop} {base : Nat} {w0 w : World} {v0 v u : Value} {bs : List Int} {t : T} (h : Apd base w0 v0 w v bs) (h0 : ∀ k, v0.ownBlock = some k → base ≤ k) (hb : base ≤ w0.heap.size) (hF : ∀ k, F k → k < base) (hr : Rd F w0 t u) : Rd F w t u :=
  Rd.kept (fun k hk => h.old h0 hb k (hF k hk)) (fun _ h => h) t u hr

set_option maxHeartbeats 400000 in
theorem appendValue_int (F : Nat → Prop) (base : Nat) (w : World) (vin v : Value) (t : T) (bs : List Int) (hk : t.kind = 1) (hbase : base ≤ w.heap.size) (hr : Rd F w t v)
    (hv : w.ownsRow base 5 1 vin bs.length (byteVals bs)) (hsz : bs.length + (enc t).length ≤ 140737488355328) : Calls Try.prog 35 #[vin, v] w (PutOf base w vin (bs ++ enc t)) := by
  obtain ⟨a2, c2, a3, c3, rfl, hb, hik, hin, hl1, hl2, hl3⟩ := hr.form
  cases t with
  | mk k n b l =>
    simp only [T.kind, T.num, T.bs, T.els] at *
    subst hk
    obtain ⟨hn0, hn1⟩ := hin
    clear hb hik hl1 hl2 hl3 hr
    have hc : ∀ w', base ≤ w'.heap.size → w'.ownsRow base 5 1 vin bs.length (byteVals bs) → Calls Try.prog 46 #[vin, .int .i64 n] w' (PutOf base w' vin (bs ++ enc (.mk 1 n b l))) := by
      intro w' hb' hv'
      by_cases h : n < 0
      · exact appendInteger_neg base w' vin bs n hn0 h hb' hv' hsz
      · exact appendInteger_pos base w' vin bs n (by omega) hn1 hb' hv' hsz
    have Hc := Lib.hid hc; clear hc
    have Hv := Lib.hid hv; clear hv
    go_enter Try.func35, Try.ntmps35
    go_wp2_with fail
    refine (Hc.out _ (by simp; omega) (Hv.out.alloc _)).mono ?_
    rintro e w1 ⟨v1, rfl, hA⟩
    go_wp2_with fail
    go_ret
    exact ⟨v1, rfl, ((Apd.start Hv.out).alloc _).trans hA⟩

set_option maxHeartbeats 400000 in
theorem appendValue_bytes (F : Nat → Prop) (base : Nat) (w : World) (vin v : Value) (t : T) (bs : List Int) (hk : t.kind = 2) (hF : ∀ k, F k → k < base) (hbase : base ≤ w.heap.size) (hr : Rd F w t v)
    (hv : w.ownsRow base 5 1 vin bs.length (byteVals bs)) (hsz : bs.length + (enc t).length ≤ 140737488355328) : Calls Try.prog 35 #[vin, v] w (PutOf base w vin (bs ++ enc t)) := by
  obtain ⟨a2, c2, a3, c3, rfl, hb, hik, hin, hl1, hl2, hl3⟩ := hr.form
  cases t with
  | mk k n b l =>
    simp only [T.kind, T.num, T.bs, T.els] at *
    subst hk
    obtain ⟨hn0, hn1⟩ := hin
    clear hik hl1 hl2 hl3 hr
    have hc : ∀ w', Below w.heap.size w w' → w'.ownsRow base 5 1 vin bs.length (byteVals bs) → Calls Try.prog 47 #[vin, .slice a2 b.length c2] w' (PutOf base w' vin (bs ++ enc (.mk 2 n b l))) := by
      intro w' hb' hv'
      exact appendBytes_any F base w' vin _ bs b hF (Nat.le_trans hbase hb'.size) hv' (hb.below (fun k hk => Nat.lt_of_lt_of_le (hF k hk) hbase) hb') hsz
    have Hc := Lib.hid hc; clear hc
    have Hv := Lib.hid hv; clear hv
    clear hb hF
    go_enter Try.func35, Try.ntmps35
    go_wp2_with fail
    refine (Hc.out _ (ball (Below.refl _ _) _) (Hv.out.alloc _)).mono ?_
    rintro e w1 ⟨v1, rfl, hA⟩
    go_wp2_with fail
    go_ret
    exact ⟨v1, rfl, ((Apd.start Hv.out).alloc _).trans hA⟩

set_option maxHeartbeats 400000 in
theorem appendValue_list (F : Nat → Prop) (base : Nat) (w : World) (vin v : Value) (t : T) (bs : List Int) (hk1 : t.kind ≠ 1) (hk2 : t.kind ≠ 2) (hF : ∀ k, F k → k < base) (hbase : base ≤ w.heap.size) (hr : Rd F w t v)
    (hv : w.ownsRow base 5 1 vin bs.length (byteVals bs)) (hsz : bs.length + (enc t).length ≤ 140737488355328)
    (ih : ∀ u ∈ t.els, ∀ (w' : World) (vin' v' : Value) (bs' : List Int), base ≤ w'.heap.size → Rd F w' u v' → w'.ownsRow base 5 1 vin' bs'.length (byteVals bs') → bs'.length + (enc u).length ≤ 140737488355328 →
      Calls Try.prog 35 #[vin', v'] w' (PutOf base w' vin' (bs' ++ enc u))) : Calls Try.prog 35 #[vin, v] w (PutOf base w vin (bs ++ enc t)) := by
  obtain ⟨a2, c2, a3, c3, rfl, hb, hik, hin, hl1, hl2, hl3⟩ := hr.form
  cases t with
  | mk k n b l =>
    simp only [T.kind, T.num, T.bs, T.els] at *
    have he : enc (.mk k n b l) = 64 :: (encL l ++ [0]) := by unfold enc; simp [hk1, hk2]
    rw [he] at hsz ⊢
    clear he
    have hsz' : bs.length + ((encL l).length + 2) ≤ 140737488355328 := by simpa using hsz
    clear hsz hb hik hin hr
    have e1 : (k == 1) = false := by simpa using hk1
    have e2 : (k == 2) = false := by simpa using hk2
    clear hk1 hk2
    have HB := Lib.hid (Apd.start hv)
    have HA := Lib.hid (Apd.start (hv.alloc (.cells #[.int .i64 k, .int .i64 n, .slice a2 b.length c2, .slice a3 l.length c3] 25)))
    have Hlt := Lib.hid (fun k hk => (hv.lt k hk))
    clear hv
    have Ih := Lib.hid ih; clear ih
    have Hl3 := Lib.hid hl3; clear hl3
    have HF := Lib.hid hF; clear hF
    go_enter Try.func35, Try.ntmps35
    go_wp2_with (at_builtin; refine wp_putg rfl rfl (.tmp 21) (.tmp 22) rfl _ _ _ [64] _ _ _ _ HA.out rfl rfl (by simp) rfl rfl (by simp; omega) (by simp; omega) ?_; intro v1 w1 hA1; have d3 := World.cell?_of_block (a := ⟨w.heap.size, 3, none⟩) (hA1.grown.block w.heap.size (by simp) (fun e => by have := (Hlt.out _ e.symm).2; omega)); have HA1 := Lib.hid ((HB.out.alloc _).trans hA1); clear hA1)
    go_loopw [0, 27] (fun v i wr => ∃ j : Nat, j ≤ l.length ∧ i = .int .i64 j ∧ Hid (Apd base w vin wr v (bs ++ (64 :: encL (l.take j))))) (fun _ i _ => l.length - (intOf i).toNat)
    case atStart => exact ⟨0, Nat.zero_le _, rfl, HA1.out⟩
    case round =>
      clear d3
      obtain ⟨j, hj, rfl, hA2⟩ := hrel
      by_cases hlt : j < l.length
      · obtain ⟨g, off, ha, hg, hl⟩ := Hl3.out (by omega)
        have hj' : l[j]? = some l[j] := List.getElem?_eq_getElem hlt
        obtain ⟨a2', k2, a3', k3, c0, c1, c2', c3', ht⟩ := hl.cells j l[j] hj'
        have hgw := HF.out g hg
        have hgb : wr.heap[g]? = w.heap[g]? := hA2.out.old (fun k hk => (Hlt.out k hk).1) hbase g hgw
        have d0 := (World.cell?_of_block (w := w) (a := ⟨g, off + j * 4, none⟩) hgb).trans c0
        have d1 := (World.cell?_of_block (w := w) (a := ⟨g, off + j * 4 + 1, none⟩) hgb).trans c1
        have d2 := (World.cell?_of_block (w := w) (a := ⟨g, off + j * 4 + 2, none⟩) hgb).trans c2'
        have d3 := (World.cell?_of_block (w := w) (a := ⟨g, off + j * 4 + 3, none⟩) hgb).trans c3'
        clear c0 c1 c2' c3' hj' hgb hl
        subst ha
        have Ht := Lib.hid ht; clear ht
        have he1 := encL_next l j hlt
        have hle := encL_take_le l (j + 1)
        rw [he1, List.length_append] at hle
        have He1 := Lib.hid he1; clear he1
        have hws := hA2.out.grown.size
        go_wp2_with fail
        refine (Ih.out l[j] (List.getElem_mem hlt) _ _ _ (bs ++ (64 :: encL (l.take j))) (by simp; omega) (Rd.apd (hA2.out.alloc _) (fun k hk => (Hlt.out k hk).1) hbase HF.out Ht.out) (hA2.out.alloc _).own (by simp; omega)).mono ?_
        rintro e w2 ⟨v2, rfl, hA3⟩
        have HA3 := Lib.hid ((hA2.out.alloc _).trans hA3); clear hA3
        go_wp2_with fail
        go_roundw
        case rel =>
          refine ⟨j + 1, by omega, by go_num, ?_⟩
          show Apd base w vin w2 v2 (bs ++ (64 :: encL (l.take (j + 1))))
          have := HA3.out
          rw [He1.out]
          simpa using this
        case measure => simp [intOf]; omega
      · have hj' : j = l.length := by omega
        subst hj'
        rw [List.take_length] at hA2
        have hws := hA2.out.grown.size
        go_wp2_with (at_builtin; refine wp_put rfl rfl (.tmp 35) (.tmp 36) rfl _ _ _ [0] _ _ _ hA2.out rfl rfl rfl rfl (by simp; omega) (by omega) ?_; intro v2 w2 hA3'; have hA3 := Lib.hid hA3'; clear hA3')
        go_ret
        refine ⟨v2, rfl, ?_⟩
        have := hA3.out
        simpa using this

theorem appendValue_any (F : Nat → Prop) (base : Nat) (hF : ∀ k, F k → k < base) : ∀ (N : Nat) (t : T), dep t < N → ∀ (w : World) (vin v : Value) (bs : List Int), base ≤ w.heap.size → Rd F w t v → w.ownsRow base 5 1 vin bs.length (byteVals bs) →
    bs.length + (enc t).length ≤ 140737488355328 → Calls Try.prog 35 #[vin, v] w (PutOf base w vin (bs ++ enc t)) := by
  intro N
  induction N with
  | zero => intro t h; omega
  | succ N ih =>
    intro t ht w vin v bs hbase hr hv hsz
    by_cases h1 : t.kind = 1
    · exact appendValue_int F base w vin v t bs h1 hbase hr hv hsz
    · by_cases h2 : t.kind = 2
      · exact appendValue_bytes F base w vin v t bs h2 hF hbase hr hv hsz
      · refine appendValue_list F base w vin v t bs h1 h2 hF hbase hr hv hsz ?_
        intro u hu w' vin' v' bs' hb' hr' hv' hsz'
        cases t with
        | mk k n b l =>
          have hu' : u ∈ l := hu
          have := dep_mem hu'
          have e : dep (T.mk k n b l) = depL l + 1 := rfl
          exact ih u (by omega) w' vin' v' bs' hb' hr' hv' hsz'

end Go.Proofs.Ytjhjcigappkebaa
