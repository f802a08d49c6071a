/-
  Walks of the reference: Same; the laws' receives.
-/
import Derived.Test.YtdmlnjgbfkkjdaaDoorCg
import Derived.Test.YtdmlnjgbfkkjdaaDoorCi
namespace Go.Proofs.YtdmlnjgbfkkjdaaDoor
open Go.RowKit
set_option linter.unusedVariables false
set_option linter.unusedSimpArgs false

/-- The slice v holds the byte slices ll. -/
def Ls (F : Nat → Prop) (w : World) (v : Value) (ll : List (List Int)) : Prop :=
  ll.length ≤ 140737488355328 ∧ ∃ a cap, v = .slice a ll.length cap ∧ ll.length ≤ cap ∧
    (0 < ll.length → ∃ g off, a = some ⟨g, off, none⟩ ∧ F g ∧ ∀ (j : Nat) p, ll[j]? = some p → ∃ u, w.cell? ⟨g, off + j, none⟩ = some u ∧ Bs F w u p)

theorem Ls.up2 {w w' : World} {u : Value} {b : List (List Int)} (h : Ls (fun k => k < w.heap.size) w u b) (hw : ∀ k, k < w.heap.size → w'.heap[k]? = w.heap[k]?) (hs : w.heap.size ≤ w'.heap.size) : Ls (fun k => k < w'.heap.size) w' u b := by
  obtain ⟨h0, a, cap, h1, h2, h3⟩ := h
  refine ⟨h0, a, cap, h1, h2, fun hp => ?_⟩
  obtain ⟨g, off, ha, hg, hc⟩ := h3 hp
  refine ⟨g, off, ha, Nat.lt_of_lt_of_le hg hs, fun j p hj => ?_⟩
  obtain ⟨u, hu, hb⟩ := hc j p hj
  exact ⟨u, (World.cell?_of_block (w := w) (a := ⟨g, off + j, none⟩) (hw g hg)).trans hu, hb.kept hw (fun k hk => Nat.lt_of_lt_of_le hk hs)⟩

theorem Ls.on {w w' : World} {u : Value} {b : List (List Int)} (h : Ls (fun k => k < w.heap.size) w u b) (hb : Below w.heap.size w w') : Ls (fun k => k < w'.heap.size) w' u b :=
  h.up2 (fun k hk => hb.block k hk) hb.size
theorem Ls.shape {F : Nat → Prop} {w : World} {v : Value} {l : List (List Int)} (h : Ls F w v l) : ∃ a c, v = .slice a l.length c := by
  obtain ⟨_, a, c, rfl, _⟩ := h
  exact ⟨a, c, rfl⟩
theorem Ls.pick {F : Nat → Prop} {w : World} {a : Option Addr} {m c : Nat} {l : List (List Int)} (h : Ls F w (.slice a m c) l) (k : Nat) (hk : k < l.length) :
    ∃ g off u, a = some ⟨g, off, none⟩ ∧ F g ∧ w.cell? ⟨g, off + k, none⟩ = some u ∧ Bs F w u l[k] := by
  obtain ⟨_, a', c', e, _, h4⟩ := h
  simp only [Value.slice.injEq] at e
  obtain ⟨rfl, rfl, rfl⟩ := e
  obtain ⟨g, off, rfl, hg, hc⟩ := h4 (by omega)
  obtain ⟨u, h1, h2⟩ := hc k _ (List.getElem?_eq_getElem hk)
  exact ⟨g, off, u, rfl, hg, h1, h2⟩
theorem Ls.take {F : Nat → Prop} {w : World} {a : Option Addr} {c : Nat} {l : List (List Int)} (h : Ls F w (.slice a l.length c) l) (m : Nat) (hm : m ≤ l.length) : Ls F w (.slice a m c) (l.take m) := by
  obtain ⟨h1, a', c', e, h3, h4⟩ := h
  simp only [Value.slice.injEq] at e
  obtain ⟨rfl, _, rfl⟩ := e
  have hl : (l.take m).length = m := by simp; omega
  refine ⟨by omega, a, c, by rw [hl], by omega, fun hp => ?_⟩
  obtain ⟨g, off, e, hg, hc⟩ := h4 (by omega)
  refine ⟨g, off, e, hg, fun j p hj => hc j p ?_⟩
  rw [List.getElem?_take] at hj
  split at hj
  · exact hj
  · cases hj
theorem Ls.nil (F : Nat → Prop) (w : World) (a : Option Addr) (c : Nat) : Ls F w (.slice a 0 c) [] := ⟨by simp, a, c, rfl, by simp, by simp⟩

set_option maxHeartbeats 2000000 in
theorem same_any (L K : List (List Int)) (v u : Value) (w : World) (hv : Ls (fun k => k < w.heap.size) w v L) (hu : Ls (fun k => k < w.heap.size) w u K) :
    Calls Tryd.prog 18 #[v, u] w fun e w' => e = .returned (.bool (decide (L = K))) ∧ Below w.heap.size w w' := by
  obtain ⟨R, hR⟩ : ∃ R, R = decide (L = K) := ⟨_, rfl⟩
  rw [← hR]
  have hl := hv.1
  have hl2 := hu.1
  obtain ⟨a, c, rfl⟩ := hv.shape
  obtain ⟨a', c', rfl⟩ := hu.shape
  by_cases hlen : L.length = K.length
  rotate_left
  · have hr : R = false := by rw [hR, decide_eq_false_iff_not]; intro e; exact hlen (by rw [e])
    subst hr
    have hne : ((L.length : Int) != (K.length : Int)) = true := by simp; omega
    have hne2 : ((L.length : Int) == (K.length : Int)) = false := by simp; omega
    clear hR hv hu hlen
    generalize L.length = n at *
    generalize K.length = m at *
    go_enter Tryd.func18, Tryd.ntmps18
    go_wp2
    go_ret
    exact ⟨rfl, Below.refl _ _⟩
  have HV := Lib.hid hv; have HU := Lib.hid hu; have HR := Lib.hid hR
  rw [← hlen]
  rw [← hlen] at HU
  have HLEN := Lib.hid hlen
  obtain ⟨n, hn⟩ : ∃ n, n = L.length := ⟨_, rfl⟩
  rw [← hn] at HV HU HLEN hl ⊢
  have HN := Lib.hid hn
  clear hv hu hR hlen hn hl2
  go_enter Tryd.func18, Tryd.ntmps18
  go_wp2
  go_loopw [5] (fun i wr => ∃ k : Nat, k ≤ n ∧ i = .int .i64 k ∧ Hid (Below w.heap.size w wr ∧ L.take k = K.take k)) (fun i _ => n - (intOf i).toNat)
  case atStart => exact ⟨0, by omega, rfl, Lib.hid ⟨Below.refl _ _, rfl⟩⟩
  case round =>
    obtain ⟨k, hk, rfl, H⟩ := hrel
    by_cases hlt : k < n
    · have hkL : k < L.length := by have := HN.out; omega
      have hkK : k < K.length := by have := HLEN.out; omega
      obtain ⟨g, off, x, rfl, hg, hx, hbx⟩ := (HV.out.on H.out.1).pick k hkL
      obtain ⟨g', off', y, rfl, hg', hy, hby⟩ := (HU.out.on H.out.1).pick k hkK
      obtain ⟨SA, hSA⟩ : ∃ SA, SA = strOfNums L[k] := ⟨_, rfl⟩
      obtain ⟨SB, hSB⟩ : ∃ SB, SB = strOfNums K[k] := ⟨_, rfl⟩
      have hca : ∀ n, (convert 22 9 x).run Tryd.prog (wr.drewN n) = .ok (.string SA) (wr.drewN n) := fun n => by rw [hSA]; exact conv_str (hbx.on (bdrewN (Below.refl _ _) n))
      have hcb : ∀ n, (convert 22 9 y).run Tryd.prog (wr.drewN n) = .ok (.string SB) (wr.drewN n) := fun n => by rw [hSB]; exact conv_str (hby.on (bdrewN (Below.refl _ _) n))
      obtain ⟨Q, hQ⟩ : ∃ Q, Q = decide (L[k] = K[k]) := ⟨_, rfl⟩
      have hq : (SA.toList == SB.toList) = Q := by rw [hSA, hSB, hQ]; exact nums_inj hbx.2.1 hby.2.1
      have HQ := Lib.hid hQ
      clear hSA hSB hQ hbx hby
      go_wp2
      go_quiet (fail)
      cases Q
      · have hr : R = false := by
          rw [HR.out, decide_eq_false_iff_not]
          intro e
          have h := HQ.out
          have e2 : L[k] = K[k] := by subst e; rfl
          rw [decide_eq_true e2] at h
          cases h
        subst hr
        have HB := Lib.hid (bdrewN H.out.1 nq)
        go_wp2
        go_ret
        exact ⟨rfl, HB.out⟩
      · have HE := Lib.hid (show L[k] = K[k] from of_decide_eq_true HQ.out.symm)
        have HB := Lib.hid (bdrewN H.out.1 nq)
        go_wp2
        go_roundw
        case rel =>
          refine ⟨k + 1, by omega, by go_num, HB.out, ?_⟩
          rw [List.take_succ_eq_append_getElem hkL, List.take_succ_eq_append_getElem hkK, H.out.2, HE.out]
        case measure => simp [intOf]; omega
    · have hk' : k = n := by omega
      subst hk'
      have hr : R = true := by
        rw [HR.out, decide_eq_true_iff]
        have h := H.out.2
        rwa [HN.out, List.take_length, ← HN.out, HLEN.out, List.take_length] at h
      subst hr
      have HB := Lib.hid H.out.1
      go_wp2
      go_ret
      exact ⟨rfl, HB.out⟩

/-- What a list of received contents reads as. -/
theorem LV.ls {base : Nat} {w : World} {vr vl : Value} {L : List (List Int)} {vals : List Value} (h : LV base w vr vl L vals) (hl : L.length ≤ 140737488355328) : Ls (fun k => k < w.heap.size) w vl L := by
  obtain ⟨h1, h2, h3⟩ := h
  rcases h1.2 with ⟨rfl, h0⟩ | ⟨g, cap, cur, rfl, hb, hg, hn, hm, hs, ht⟩
  · have : L = [] := List.eq_nil_of_length_eq_zero h0
    subst this
    exact Ls.nil _ _ _ _
  · refine ⟨hl, _, cap, rfl, hn, fun _ => ⟨g, 0, rfl, blt hg, fun j p hj => ?_⟩⟩
    have hjl : j < L.length := (List.getElem?_eq_some_iff.1 hj).1
    obtain ⟨u, hvj⟩ : ∃ u, vals[j]? = some u := ⟨_, List.getElem?_eq_getElem (by omega)⟩
    refine ⟨u, ?_, (h3 j _ _ hvj hj).kept (fun _ _ => rfl) (fun k hk => hk.2.1)⟩
    rw [cell_of_row w g (0 + j) cur 22 (0, 0) hg]
    rw [← ht, List.getElem?_take] at hvj
    split at hvj
    · simpa using hvj
    · cases hvj

/-- The values of a list of slices, in its cells. -/
def VL (w : World) (v : Value) (vals : List Value) : Prop := ∃ a c, v = .slice a vals.length c ∧ (0 < vals.length → ∃ g off, a = some ⟨g, off, none⟩ ∧ g < w.heap.size ∧ ∀ (j : Nat) (x : Value), vals[j]? = some x → w.cell? ⟨g, off + j, none⟩ = some x)
/-- The values read as the byte slices L. -/
def EL (F : Nat → Prop) (w : World) (vals : List Value) (L : List (List Int)) : Prop := vals.length = L.length ∧ ∀ (j : Nat) (v : Value) (l : List Int), vals[j]? = some v → L[j]? = some l → Bs F w v l
theorem VL.on {w w' : World} {v : Value} {vals : List Value} (h : VL w v vals) (hb : Below w.heap.size w w') : VL w' v vals := by
  obtain ⟨a, c, h1, h2⟩ := h
  refine ⟨a, c, h1, fun hp => ?_⟩
  obtain ⟨g, off, e, hg, hc⟩ := h2 hp
  exact ⟨g, off, e, Nat.lt_of_lt_of_le hg hb.size, fun j x hj => (hb.cell (p := ⟨g, off + j, none⟩) hg).trans (hc j x hj)⟩
theorem EL.on {w w' : World} {vals : List Value} {L : List (List Int)} (h : EL (fun k => k < w.heap.size) w vals L) (hb : Below w.heap.size w w') : EL (fun k => k < w'.heap.size) w' vals L :=
  ⟨h.1, fun j v l hv hl => (h.2 j v l hv hl).on hb⟩
theorem EL.app {F : Nat → Prop} {w : World} {u v : List Value} {L K : List (List Int)} (h : EL F w u L) (k : EL F w v K) : EL F w (u ++ v) (L ++ K) := by
  refine ⟨by rw [List.length_append, List.length_append, h.1, k.1], fun j x l hx hl => ?_⟩
  by_cases hj : j < L.length
  · rw [List.getElem?_append_left (by have := h.1; omega)] at hx
    rw [List.getElem?_append_left hj] at hl
    exact h.2 j x l hx hl
  · rw [List.getElem?_append_right (by have := h.1; omega), h.1] at hx
    rw [List.getElem?_append_right (by omega)] at hl
    exact k.2 _ x l hx hl
theorem EL.one {F : Nat → Prop} {w : World} {v : Value} {l : List Int} (h : Bs F w v l) : EL F w [v] [l] := by
  refine ⟨rfl, fun j x m hx hm => ?_⟩
  have hj : j = 0 := by have := (List.getElem?_eq_some_iff.1 hx).1; simp at this; omega
  subst hj
  simp at hx hm
  subst hx hm
  exact h
theorem EL.nil (F : Nat → Prop) (w : World) : EL F w [] [] := ⟨rfl, fun j x m hx hm => by simp at hx⟩
theorem EL.one' {F : Nat → Prop} {w : World} {vals : List Value} {L : List (List Int)} (h : EL F w vals L) : ∀ y ∈ vals, y.oneCell' = true := by
  intro y hy
  obtain ⟨j, hj, rfl⟩ := List.mem_iff_getElem.1 hy
  obtain ⟨a, c, e⟩ := (h.2 j _ (L[j]'(by have := h.1; omega)) (List.getElem?_eq_getElem hj) (List.getElem?_eq_getElem (by have := h.1; omega))).shape
  rw [e]; rfl
theorem own_cells {base n : Nat} {w : World} {v : Value} {xs : List Value} (h : w.ownsRow base 22 1 v n xs) : VL w v xs ∧ xs.length = n := by
  have hl : xs.length = n := by rw [h.1, Nat.mul_one]
  refine ⟨?_, hl⟩
  rcases h.2 with ⟨rfl, h0⟩ | ⟨g, cap, cur, rfl, hb, hg, hn, hm, hs, ht⟩
  · exact ⟨none, 0, by rw [hl, h0], fun hp => by omega⟩
  · refine ⟨_, cap, by rw [hl], fun _ => ⟨g, 0, rfl, blt hg, fun j x hj => ?_⟩⟩
    rw [cell_of_row w g (0 + j) cur 22 (0, 0) hg]
    rw [← ht, List.getElem?_take] at hj
    split at hj
    · simpa using hj
    · cases hj
theorem VL.ls {w : World} {v : Value} {vals : List Value} {L : List (List Int)} (h : VL w v vals) (k : EL (fun k => k < w.heap.size) w vals L) (hl : L.length ≤ 140737488355328) (hc : ∀ a n c, v = .slice a n c → n ≤ c) : Ls (fun k => k < w.heap.size) w v L := by
  obtain ⟨a, c, rfl, h2⟩ := h
  rw [k.1] at h2 hc ⊢
  refine ⟨hl, a, c, rfl, hc _ _ _ rfl, fun hp => ?_⟩
  obtain ⟨g, off, e, hg, hcl⟩ := h2 hp
  refine ⟨g, off, e, hg, fun j p hj => ?_⟩
  have hjl : j < vals.length := by have := (List.getElem?_eq_some_iff.1 hj).1; have := k.1; omega
  exact ⟨vals[j], hcl j _ (List.getElem?_eq_getElem hjl), k.2 j _ p (List.getElem?_eq_getElem hjl) hj⟩
theorem own_cap {w : World} {base e size n : Nat} {v : Value} {xs : List Value} (h : w.ownsRow base e size v n xs) : ∀ a m c, v = .slice a m c → m ≤ c := by
  intro a m c e
  rcases h.2 with ⟨rfl, h0⟩ | ⟨g, cap, cur, rfl, hb, hg, hn, hm, hs, ht⟩
  · cases e; omega
  · cases e; exact hn
theorem own_ls {base n : Nat} {w : World} {v : Value} {xs : List Value} {L : List (List Int)} (h : w.ownsRow base 22 1 v n xs) (k : EL (fun k => k < w.heap.size) w xs L) (hl : L.length ≤ 140737488355328) : Ls (fun k => k < w.heap.size) w v L :=
  (own_cells h).1.ls k hl (own_cap h)
theorem LV.parts {base : Nat} {w : World} {vr vl : Value} {L : List (List Int)} {vals : List Value} (h : LV base w vr vl L vals) : VL w vl vals ∧ EL (fun k => k < w.heap.size) w vals L :=
  ⟨(own_cells h.1).1, h.2.1, fun j v l hv hl => (h.2.2 j v l hv hl).mono (fun k hk => hk.2.1)⟩
/-- 'append(v, u..)' of lists of slices: the equation. -/
theorem append_runL (base : Nat) (w : World) (v u : Value) (xs ys : List Value) (hown : w.ownsRow base 22 1 v xs.length xs) (hu : VL w u ys) (h1 : ∀ y ∈ ys, y.oneCell' = true) (hlen : (xs.length + ys.length) * 24 ≤ 140737488355328) (hbase : base ≤ w.heap.size) :
    ∃ v' w', (Builtin.append_ #[32, 32] 32 #[v, u]).run Tryd.prog w = .ok v' w' ∧ ApL base w v w' v' (xs ++ ys) := by
  obtain ⟨i0, hi, hz0, hz1, hz2⟩ := info_parts Tryd.info22
  obtain ⟨a, cap, rfl, hp⟩ := hu
  by_cases h0 : ys.length = 0
  · have hb : ys = [] := List.length_eq_zero_iff.1 h0
    subst hb
    obtain ⟨sa, sl, sc, hv, hle⟩ : ∃ sa sl sc, v = .slice sa sl sc ∧ sl ≤ sc := by
      rcases hown.2 with ⟨h, _⟩ | ⟨g, c, cur, h, _, _, hn, _⟩
      · exact ⟨none, 0, 0, h, Nat.le_refl _⟩
      · exact ⟨_, _, _, h, hn⟩
    refine ⟨v, w, ?_, by rw [List.append_nil]; exact ApL.start hown⟩
    subst hv
    cases a with
    | none =>
      have hs : Src Tryd.prog i0.size 32 (.slice none 0 cap) 0 [] w := Src.ofNil w Tryd.underlying32 cap
      exact run_append_nothing w 32 32 32 22 i0 Tryd.underlying32 hi sa sl sc hle _ hs
    | some ad =>
      have hs : Src Tryd.prog i0.size 32 (.slice (some ad) 0 cap) 0 [] w := Src.ofSlice w Tryd.underlying32 ad 0 cap [] (by simp) (by simp) (by simp)
      exact run_append_nothing w 32 32 32 22 i0 Tryd.underlying32 hi sa sl sc hle _ hs
  · obtain ⟨g, off, rfl, hg, hc⟩ := hp (by omega)
    obtain ⟨v', w', hr, h2, h3, _, h5⟩ := run_append_own_at (P := Tryd.prog) w base 32 32 22 i0 (.slice none 0 0) 1 24 Tryd.underlying32 hi hz0 hz1 hz2 rfl (by decide) v xs.length xs hown ⟨g, off, none⟩ ys.length cap ys
      (by rw [Nat.mul_one]) (fun j x hj => by rw [add_off]; exact hc j x hj) h1 (by unfold maxLen; omega) (by omega) hbase
    refine ⟨v', w', hr, by rw [List.length_append]; exact h2, h3, ?_⟩
    rcases h5 with e | e
    · exact Or.inl e
    · exact Or.inr ⟨_, e, Nat.le_refl _⟩
theorem wp_appL {P : Program} {ops : Array Oper} {rest : List Oper} {o : Oper} {a : Act} {Q : Exit → Act → World → Prop} (hP : P = Tryd.prog) (hgd : o.guard = none) (hty : o.type = 32) (s x : Operand)
    (ho : o.op = .call { callee := .builtin .append, args := #[s, x], argTypes := #[32, 32] }) {w : World} {v u v' : Value} {w' : World} (hs : a.eval s = v) (hx : a.eval x = u)
    (hr : (Builtin.append_ #[32, 32] 32 #[v, u]).run Tryd.prog w = .ok v' w') (hk : wpList P ops Q rest (a.put o.dst v') w') : wpList P ops Q (o :: rest) a w := by
  subst hP
  refine wpList_plain hgd fun K hK => ?_
  unfold Oper.wp execOp
  simp only [ho, hty, resolve, invoke, builtin, Sem.run_bind, Sem.run_pure, Result.andThen_ok, List.map_toArray, List.map_cons, List.map_nil, hs, hx, hr]
  exact hK _ _ hk

theorem sv0 (F : Nat → Prop) (w : World) : SV F w (.agg #[.slice none 0 0, .bool false, .bool false, .bool false]) st0 := ⟨none, 0, rfl, ⟨by simp [st0], by simp [st0], none, 0, rfl, by simp [st0], by simp [st0]⟩⟩
theorem svF (F : Nat → Prop) (w : World) : SV F w (.agg #[.slice none 0 0, .bool true, .bool false, .bool false]) stF := ⟨none, 0, rfl, ⟨by simp [stF], by simp [stF], none, 0, rfl, by simp [stF], by simp [stF]⟩⟩

set_option maxHeartbeats 2000000 in
theorem receives_any (b : List Int) (want : List (List Int)) (d : Nat) (vb vw : Value) (w : World) (hk : KOk w) (hb : Bs (fun k => k < w.heap.size) w vb b) (hw : Ls (fun k => k < w.heap.size) w vw want) (hsz : (b.length + 1) * 24 ≤ 140737488355328)
    (h1 : FS st0 b = stF) (h2 : FL st0 b = want) (h3 : FB st0 b = d) :
    Calls Tryd.prog 19 #[vb, vw, .int .i64 (d : Nat)] w fun e w' => e = .returned (.bool true) ∧ Below w.heap.size w w' := by
  have HC := Lib.hid (feed_any st0 b _ vb w hk (sv0 _ _) hb hsz)
  rw [h1, h2, h3] at HC
  have hd : d ≤ 140737488355328 := by rw [← h3]; exact Nat.le_trans (FB_le _ _) hb.1
  obtain ⟨a, c, rfl⟩ := hb.shape
  obtain ⟨a', c', rfl⟩ := hw.shape
  have hwl := hw.1
  have HW := Lib.hid hw
  clear hb hw hsz h1 h2 h3 hk
  generalize b.length = n at *
  obtain ⟨m, hm⟩ : ∃ m, m = want.length := ⟨_, rfl⟩
  rw [← hm] at HW hwl ⊢
  have HM := Lib.hid hm; clear hm
  go_enter Tryd.func19, Tryd.ntmps19
  go_wp2_with fail
  refine HC.out.mono ?_
  rintro e w1 ⟨vx, vl, rfl, hb1, ⟨ax, cx, rfl, hsv⟩, vals, hlv⟩
  have hsv := hsv.mono (G := fun k => k < w1.heap.size) (fun k hk => hk.2)
  have HB1 := Lib.hid hb1
  have HLV := Lib.hid (hlv.ls (by rw [← HM.out]; exact hwl))
  have HSV := Lib.hid hsv
  clear hb1 hlv hsv HC
  obtain ⟨W, hW⟩ : ∃ W, W = w1.alloc (.cells #[.slice ax stF.rest.length cx, .bool stF.inn, .bool stF.esc, .bool stF.bad] 31) := ⟨_, rfl⟩
  have hB : Below w1.heap.size w1 W := by rw [hW]; exact ball (Below.refl _ _) _
  have HS := Lib.hid (show Calls Tryd.prog 17 #[.agg #[.slice ax stF.rest.length cx, .bool stF.inn, .bool stF.esc, .bool stF.bad], .agg #[.slice none 0 0, .bool true, .bool false, .bool false]] W fun e w' => e = .returned (.bool true) ∧ Below W.heap.size W w' from (sameState_any stF stF _ _ W (show SV (fun k => k < W.heap.size) W (.agg #[.slice ax stF.rest.length cx, .bool stF.inn, .bool stF.esc, .bool stF.bad]) stF from ⟨ax, cx, rfl, HSV.out.on hB⟩) (svF _ _)).mono (fun e w' h => ⟨by rw [h.1, decide_eq_true rfl], h.2⟩))
  obtain ⟨al, cl, rfl⟩ := HLV.out.shape
  have HSM := Lib.hid (show ∀ wx, Below W.heap.size W wx → Calls Tryd.prog 18 #[.slice al want.length cl, .slice a' m c'] wx fun e w' => e = .returned (.bool true) ∧ Below wx.heap.size wx w' from fun wx hx =>
    (same_any want want _ _ wx ((HLV.out.on hB).on hx) (((HW.out.on HB1.out).on hB).on hx)).mono (fun e w' h => ⟨by rw [h.1, decide_eq_true rfl], h.2⟩))
  rw [← HM.out] at HSM HLV
  rw [← HM.out]
  have HBW := Lib.hid (btrans HB1.out hB)
  have HWW := Lib.hid hW
  clear hB hW
  go_wp2_with fail
  rw [← HWW.out]
  refine HS.out.mono ?_
  rintro e w2 ⟨rfl, hb2⟩
  have HB2 := Lib.hid hb2; clear hb2
  go_wp2_with fail
  refine (HSM.out w2 HB2.out).mono ?_
  rintro e w3 ⟨rfl, hb3⟩
  have HB3 := Lib.hid (btrans (btrans HBW.out HB2.out) hb3); clear hb3
  go_wp2
  go_ret
  exact ⟨rfl, HB3.out⟩
end Go.Proofs.YtdmlnjgbfkkjdaaDoor
