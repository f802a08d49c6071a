/-
  Walks: chain (of the law of chains).
-/
import Derived.Test.YtecgcnfjpaemcaaDoorLo
import Derived.StillTailTactics
namespace Go.Proofs.YtecgcnfjpaemcaaDoor
open Go.RowKit

/-- The digest behind k links. -/
def cur (d : List Int) (ll : List (List Int)) (k : Nat) : List Int := (ll.take k).foldl link d
/-- The digests of a chain up to link k. -/
def dgs (d : List Int) (ll : List (List Int)) (k : Nat) : List (List Int) := (List.range (k + 1)).map (cur d ll)

theorem cur_zero (d : List Int) (ll : List (List Int)) : cur d ll 0 = d := rfl
theorem cur_succ (d : List Int) (ll : List (List Int)) (k : Nat) (b : List Int) (h : ll[k]? = some b) : cur d ll (k + 1) = link (cur d ll k) b := by
  obtain ⟨hl, rfl⟩ := List.getElem?_eq_some_iff.1 h
  unfold cur
  rw [List.take_succ_eq_append_getElem hl, List.foldl_append]
  rfl
theorem dgs_zero (d : List Int) (ll : List (List Int)) : dgs d ll 0 = [d] := rfl
theorem dgs_succ (d : List Int) (ll : List (List Int)) (k : Nat) : dgs d ll (k + 1) = dgs d ll k ++ [cur d ll (k + 1)] := by
  unfold dgs
  rw [List.range_succ, List.map_append]
  rfl
theorem cur_length (d : List Int) (ll : List (List Int)) (hd : d.length = 32) : ∀ k, (cur d ll k).length = 32 := by
  intro k
  induction k with
  | zero => exact hd
  | succ k ih =>
    by_cases h : k < ll.length
    · rw [cur_succ d ll k _ (List.getElem?_eq_getElem h)]
      exact sha_length _
    · have : cur d ll (k + 1) = cur d ll k := by
        unfold cur
        rw [List.take_of_length_le (by omega), List.take_of_length_le (by omega)]
      rw [this]; exact ih
theorem cur_range (d : List Int) (ll : List (List Int)) (hd : ∀ u ∈ d, 0 ≤ u ∧ u ≤ 255) : ∀ k, ∀ u ∈ cur d ll k, 0 ≤ u ∧ u ≤ 255 := by
  intro k
  induction k with
  | zero => exact hd
  | succ k ih =>
    by_cases h : k < ll.length
    · rw [cur_succ d ll k _ (List.getElem?_eq_getElem h)]
      exact sha_range _
    · have : cur d ll (k + 1) = cur d ll k := by
        unfold cur
        rw [List.take_of_length_le (by omega), List.take_of_length_le (by omega)]
      rw [this]; exact ih

theorem Tryd.info25 : (Tryd.prog.info? 25).map (fun i => (i.zero, i.size, i.bytes)) = some (some (.agg (byteVals (List.replicate 32 0)).toArray), 32, 32) := by kernel_rfl

theorem append_dig (base : Nat) (wr : World) (v : Value) (ds : List (List Int)) (D : List Int) (hown : wr.ownsRow base 25 32 v ds.length (byteVals ds.flatten)) (hbase : base ≤ wr.heap.size) (hD : D.length = 32) (hn : ds.length ≤ 1000) :
    ∃ v' w', (Builtin.append_ #[49, 49] 49 #[v, .slice (some ⟨wr.heap.size, 0, none⟩) 1 1]).run Tryd.prog (wr.alloc (.cells (byteVals D).toArray 25)) = .ok v' w' ∧ w'.ownsRow base 25 32 v' (ds ++ [D]).length (byteVals (ds ++ [D]).flatten) ∧ wr.grownBy w' v.ownBlock ∧ (∀ k, v.ownBlock = some k → base ≤ k) := by
  obtain ⟨i0, hi, hz0, hz1, hz2⟩ : ∃ i0, Tryd.prog.info? 25 = some i0 ∧ i0.zero = some (.agg (byteVals (List.replicate 32 0)).toArray) ∧ i0.size = 32 ∧ i0.bytes = 32 := by
    have := Tryd.info25
    cases hh : Tryd.prog.info? 25 with
    | none => rw [hh] at this; cases this
    | some i0 =>
      rw [hh] at this
      simp only [Option.map_some, Option.some.injEq, Prod.mk.injEq] at this
      exact ⟨i0, rfl, this.1, this.2.1, this.2.2⟩
  have ho : (wr.alloc (.cells (byteVals D).toArray 25)).ownsRow base 25 32 v ds.length (byteVals ds.flatten) := hown.kept (World.grownBy_alloc wr _ none) (by
    cases hx : v.ownBlock with
    | none => exact Or.inl rfl
    | some g => exact Or.inr (by simp))
  obtain ⟨v', w', hr, h2, h3, h4, h5⟩ := run_append_own_at (P := Tryd.prog) (wr.alloc (.cells (byteVals D).toArray 25)) base 49 49 25 i0 _ 32 32 Tryd.underlying49 hi hz0 hz1 hz2 (by simp [byteVals, Value.cells]) (by decide) v ds.length (byteVals ds.flatten) ho
    ⟨wr.heap.size, 0, none⟩ 1 1 (byteVals D) (by rw [byteVals_length, hD]) (cells_new wr (byteVals D) 25) (by
      intro u hu
      obtain ⟨n, _, rfl⟩ := List.mem_map.1 hu
      rfl) (by unfold maxLen; omega) (by omega) (by simp; omega)
  refine ⟨v', w', hr, ?_, ?_, fun k hk => (ho.lt k hk).1⟩
  · have e1 : (ds ++ [D]).length = ds.length + 1 := by simp
    have e2 : (ds ++ [D]).flatten = ds.flatten ++ D := by simp
    rw [e1, e2, byteVals_append]
    exact h2
  · exact grow2 (World.grownBy_alloc wr _ v.ownBlock) h3 (Or.inl rfl)

/-- The walk's step of an append of digests. -/
theorem wp_appd {P : Program} {ops : Array Oper} {rest : List Oper} {o : Oper} {a : Act} {Q : Exit → Act → World → Prop} (hP : P = Tryd.prog) (hgd : o.guard = none) (hty : o.type = 49) (s x : Operand)
    (ho : o.op = .call { callee := .builtin .append, args := #[s, x], argTypes := #[49, 49] }) {w : World} {v u v' : Value} {w' : World} (hs : a.eval s = v) (hx : a.eval x = u)
    (hr : (Builtin.append_ #[49, 49] 49 #[v, u]).run Tryd.prog w = .ok v' w') (hk : wpList P ops Q rest (a.put o.dst v') w') : wpList P ops Q (o :: rest) a w := by
  subst hP
  refine wpList_plain hgd fun K hK => ?_
  unfold Oper.wp execOp
  simp only [ho, hty, resolve, invoke, builtin, Sem.run_bind, Sem.run_pure, Result.andThen_ok, List.map_toArray, List.map_cons, List.map_nil, hs, hx, hr]
  exact hK _ _ hk

theorem own_one (w : World) (D : List Int) (hD : D.length = 32) : (w.alloc (.cells (byteVals D).toArray 25)).ownsRow w.heap.size 25 32 (.slice (some ⟨w.heap.size, 0, none⟩) 1 1) 1 (byteVals D) := by
  refine ⟨by simp [byteVals_length, hD], Or.inr ⟨w.heap.size, 1, (byteVals D).toArray, rfl, Nat.le_refl _, heap_alloc_new _ _, by simp, by unfold maxLen; omega, by simp [byteVals_length, hD], ?_⟩⟩
  rw [List.toList_toArray, List.take_of_length_le (by simp [byteVals_length, hD])]

/-- The chain under way: block B holds the last digest, v all of them. -/
structure ChS (w : World) (d : List Int) (ll : List (List Int)) (k : Nat) (v : Value) (wr : World) : Prop where
  row : RowB wr w.heap.size 25 (cur d ll k)
  own : wr.ownsRow (w.heap.size + 1) 25 32 v (dgs d ll k).length (byteVals (dgs d ll k).flatten)
  below : Below w.heap.size w wr
  size : w.heap.size < wr.heap.size

theorem fold_set (l : List Value) : ∀ (k : Nat) (cs : Array Value), cs.size = k + l.length → (List.foldl (fun (cs : Array Value) (x : Value × Nat) => cs.setIfInBounds x.snd x.fst) cs (l.zipIdx k)).toList = cs.toList.take k ++ l := by
  induction l with
  | nil =>
    intro k cs h
    simp only [List.zipIdx_nil, List.foldl_nil, List.append_nil]
    rw [List.take_of_length_le (by simpa using Nat.le_of_eq h)]
  | cons x l ih =>
    intro k cs h
    rw [List.zipIdx_cons, List.foldl_cons, ih (k + 1) _ (by simp only [Array.size_setIfInBounds]; simp at h; omega)]
    have hk : k < cs.toList.length := by simp at h ⊢; omega
    have e : (cs.setIfInBounds k x).toList = cs.toList.set k x := by simp
    rw [e, List.take_succ_eq_append_getElem (by simpa using hk), List.getElem_set_self, List.take_set]
    rw [List.set_eq_of_length_le (by rw [List.length_take]; omega), List.append_assoc]
    rfl

theorem fold_dig (d : List Int) (hd : d.length = 32) : List.foldl (fun (cs : Array Value) (x : Value × Nat) => cs.setIfInBounds x.snd x.fst) #[Value.int .u8 0, Value.int .u8 0, Value.int .u8 0, Value.int .u8 0, Value.int .u8 0, Value.int .u8 0, Value.int .u8 0, Value.int .u8 0, Value.int .u8 0, Value.int .u8 0, Value.int .u8 0, Value.int .u8 0, Value.int .u8 0, Value.int .u8 0, Value.int .u8 0, Value.int .u8 0, Value.int .u8 0, Value.int .u8 0, Value.int .u8 0, Value.int .u8 0, Value.int .u8 0, Value.int .u8 0, Value.int .u8 0, Value.int .u8 0, Value.int .u8 0, Value.int .u8 0, Value.int .u8 0, Value.int .u8 0, Value.int .u8 0, Value.int .u8 0, Value.int .u8 0, Value.int .u8 0] (byteVals d).zipIdx = (byteVals d).toArray := by
  apply Array.toList_inj.1
  have := fold_set (byteVals d) 0 #[Value.int .u8 0, Value.int .u8 0, Value.int .u8 0, Value.int .u8 0, Value.int .u8 0, Value.int .u8 0, Value.int .u8 0, Value.int .u8 0, Value.int .u8 0, Value.int .u8 0, Value.int .u8 0, Value.int .u8 0, Value.int .u8 0, Value.int .u8 0, Value.int .u8 0, Value.int .u8 0, Value.int .u8 0, Value.int .u8 0, Value.int .u8 0, Value.int .u8 0, Value.int .u8 0, Value.int .u8 0, Value.int .u8 0, Value.int .u8 0, Value.int .u8 0, Value.int .u8 0, Value.int .u8 0, Value.int .u8 0, Value.int .u8 0, Value.int .u8 0, Value.int .u8 0, Value.int .u8 0] (by rw [byteVals_length, hd]; rfl)
  rw [List.take_zero, List.nil_append] at this
  exact this

/-- The load of a digest among operations that only read. -/
theorem still_load_dig {ops : Array Oper} {rest : List Oper} {o : Oper} {a : Act} {w : World} {Q : Act → Prop} (hw : Region.wanted o (yielded ops a.tmps) = true) (x : Operand) (ho : o.op = .load 25 x)
    (g : Nat) (hx : a.eval x = .pointer (some ⟨g, 0, none⟩)) (D : List Int) (hg : RowB w g 25 D) (hD : D.length = 32)
    (h : wpStill Tryd.prog ops w Q rest (a.put o.dst (.agg (byteVals D).toArray))) : wpStill Tryd.prog ops w Q (o :: rest) a :=
  wpStill_step fun K hK => by
    rw [if_pos hw]
    unfold Oper.still execOp
    simp only [ho, hx, Instr.loadAt, Instr.sureAddr, Sem.run_bind, Sem.run_pure, Result.andThen_ok, run_loadVar_row w g 25 25 _ (0, 0) _ hg Tryd.underlying25 rfl (size25 _ hD)]
    exact ⟨rfl, hK _ h⟩

theorem dgs_length (d : List Int) (ll : List (List Int)) (k : Nat) : (dgs d ll k).length = k + 1 := by simp [dgs]

theorem Below.grownAny {w w' : World} {g : Nat} (h0 : Below 0 w w') (hsz : w'.heap.size = w.heap.size) (ho : ∀ k, k ≠ g → w'.heap[k]? = w.heap[k]?) : w.grownBy w' (some g) :=
  ⟨h0.os, h0.tape, h0.output, Nat.le_of_eq hsz.symm, fun i _ hne => ho i (fun e => hne (by rw [e]))⟩

/-- The digests that the call owns, behind the call and the store. -/
theorem chain_own {w w4 w5 wA : World} {d : List Int} {ll : List (List Int)} {k : Nat} {v : Value} (H : ChS w d ll k v w4) (hb : Below w4.heap.size w4 w5) (hO : ∀ k, k ≠ w.heap.size → wA.heap[k]? = w5.heap[k]?) (hS : wA.heap.size = w5.heap.size)
    (hB : ∀ (B0 : Nat) (c : World), B0 ≤ w.heap.size → Below B0 c w5 → Below B0 c wA) : wA.ownsRow (w.heap.size + 1) 25 32 v (dgs d ll k).length (byteVals (dgs d ll k).flatten) := by
  have h5 : w5.ownsRow (w.heap.size + 1) 25 32 v (dgs d ll k).length (byteVals (dgs d ll k).flatten) :=
    H.own.kept (row := none) ⟨hb.os, hb.tape, hb.output, hb.size, fun i hi _ => hb.block i hi⟩ (by cases hx : v.ownBlock <;> simp)
  refine h5.kept (row := some w.heap.size) (Below.grownAny (hB 0 w5 (Nat.zero_le _) (Below.refl _ _)) hS hO) ?_
  cases hx : v.ownBlock with
  | none => exact Or.inl rfl
  | some g =>
    refine Or.inr ?_
    have := (h5.lt g hx).1
    intro e
    simp at e
    omega

set_option maxHeartbeats 1000000 in
theorem chain_any (d : List Int) (ll : List (List Int)) (a : Option Addr) (cap : Nat) (w : World) (hk : KOk w) (hd : d.length = 32) (hr : ∀ u ∈ d, 0 ≤ u ∧ u ≤ 255) (hv : Ls (fun k => k < w.heap.size) w (.slice a ll.length cap) ll) (hl : lng ll = false) :
    Calls Tryd.prog 26 #[.agg (byteVals d).toArray, .slice a ll.length cap] w fun e w' => ∃ u, e = .returned u ∧ w'.ownsRow (w.heap.size + 1) 25 32 u (ll.length + 1) (byteVals (dgs d ll ll.length).flatten) ∧ Below w.heap.size w w' := by
  have hrow : RowB (w.alloc (.cells (byteVals d).toArray 25)) w.heap.size 25 d := RowB.new w 25 d
  have HR := Lib.hid hrow
  have hlen : ll.length ≤ 8 := by
    unfold lng at hl
    rw [Bool.or_eq_false_iff, decide_eq_false_iff_not] at hl
    omega
  have hall : ∀ b ∈ ll, b.length ≤ 200 := by
    intro b hb
    unfold lng at hl
    rw [Bool.or_eq_false_iff, List.any_eq_false] at hl
    have := hl.1 b hb
    simp at this
    exact this
  have Hall := Lib.hid hall; clear hall
  obtain ⟨hl0, a', cap', he, hc, hp⟩ := hv
  simp only [Value.slice.injEq] at he
  obtain ⟨rfl, _, rfl⟩ := he
  obtain ⟨L, hL⟩ : ∃ L, L = ll.length := ⟨_, rfl⟩
  have HL := Lib.hid hL
  rw [← hL] at hl0 hc hp hlen ⊢
  clear hL
  have HP := Lib.hid hp; have HK := Lib.hid hk; have Hr := Lib.hid hr; have Hd := Lib.hid hd
  have hs0 : ChS w d ll 0 (.slice (some ⟨w.heap.size + 1, 0, none⟩) 1 1) ((w.alloc (.cells (byteVals d).toArray 25)).alloc (.cells (byteVals d).toArray 25)) := by
    have h1 := own_one (w.alloc (.cells (byteVals d).toArray 25)) d hd
    have e1 : (w.alloc (.cells (byteVals d).toArray 25)).heap.size = w.heap.size + 1 := by simp
    rw [e1] at h1
    refine ⟨hrow.kept (heap_alloc_old _ _ (by simp)), ?_, ball (ball (Below.refl _ _) _) _, by simp; omega⟩
    rw [dgs_zero]
    simpa using h1
  have HS := Lib.hid hs0
  have hf := fold_dig d hd
  have hbl : (byteVals d).length = 32 := by rw [byteVals_length, hd]
  clear hp hk hr hs0 hl hrow
  go_enter Tryd.func26, Tryd.ntmps26
  go_wp2_with (refine wpList_load_row rfl 25 (.tmp 2) rfl w.heap.size rfl 25 _ (0, 0) _ HR.out Tryd.underlying25 rfl (size25 _ hd) ?_)
  go_loopw [5, 6] (fun o i wr => ∃ k : Nat, k ≤ L ∧ i = .int .i64 k ∧ Hid (ChS w d ll k o wr)) (fun _ i _ => L - (intOf i).toNat)
  case atStart => exact ⟨0, by omega, rfl, HS⟩
  case round =>
    clear HS HR hf hbl
    obtain ⟨k, hk, rfl, H⟩ := hrel
    by_cases hlt : k < L
    · obtain ⟨g, off, rfl, hg, hcell⟩ := HP.out (by omega)
      obtain ⟨b, hb⟩ : ∃ b, ll[k]? = some b := ⟨_, List.getElem?_eq_getElem (by rw [← HL.out]; exact hlt)⟩
      obtain ⟨u, hu, hbs⟩ := hcell k b hb
      have hu2 : wr.cell? ⟨g, off + k, none⟩ = some u := (World.cell?_of_block (w := w) (a := ⟨g, off + k, none⟩) (H.out.below.block g hg)).trans hu
      obtain ⟨ua, uc, rfl⟩ : ∃ a c, u = .slice a b.length c := by
        obtain ⟨_, _, a, c, h, _⟩ := hbs
        exact ⟨a, c, h⟩
      have hl8 : k < 8 := by omega
      go_wp2_with fail
      refine wp_region_still_tail 5 (by kernel_rfl) (by kernel_rfl) ?_
      simp only [List.take_succ_cons, List.take_zero, List.drop_succ_cons, List.drop_zero]
      refine still_load_dig (by rfl) (.tmp 2) rfl w.heap.size rfl (cur d ll k) H.out.row (cur_length d ll Hd.out k) ?_
      change wpStill _ _ wr.drew _ _ _
      have hu3 : wr.drew.cell? ⟨g, off + k, none⟩ = some (.slice ua b.length uc) := hu2
      still_step
      still_step
      still_step
      still_step
      refine wpStill_nil ?_
      change wpList _ _ _ _ _ wr.drew
      have H4 : ChS w d ll k _ wr.drew := ⟨H.out.row, ownsDrew H.out.own, H.out.below.trans (Below.drew (Below.refl _ _)), H.out.size⟩
      generalize wr.drew = w4 at *
      have hbs4 : Bs (fun k => k < w4.heap.size) w4 (.slice ua b.length uc) b := hbs.up2 (fun k hk => H4.below.block k hk) H4.below.size
      have NX := Lib.hid (next_any (cur d ll k) b _ w4 (HK.out.below H4.below) (cur_length d ll Hd.out k) (cur_range d ll Hr.out k) hbs4 (by have := Hall.out b (List.mem_of_getElem? hb); omega))
      rw [← cur_succ d ll k b hb] at NX
      have H5 := Lib.hid H4
      clear H H4 hu hu2 hu3 hbs hbs4 hcell
      obtain ⟨D, hD⟩ : ∃ D, D = cur d ll (k + 1) := ⟨_, rfl⟩
      have hDl : D.length = 32 := by rw [hD]; exact cur_length d ll Hd.out _
      rw [← hD] at NX
      have HD := Lib.hid hD
      have hf := fold_dig D hDl
      have hbl : (byteVals D).length = 32 := by rw [byteVals_length, hDl]
      clear hD
      go_wp2_with fail
      refine NX.out.mono ?_
      rintro e w5 ⟨rfl, hb5⟩
      have hrow5 : RowB w5 w.heap.size 25 (cur d ll k) := H5.out.row.kept (hb5.block _ H5.out.size)
      have B5 := Lib.hid hb5; clear hb5
      have hck := cur_length d ll Hd.out k
      go_wp2_with (first | (refine st25 rfl (.tmp 2) (.tmp 24) rfl w.heap.size D (cur d ll k) rfl rfl hrow5 hck hDl ?_; intro wA rA oA sA bA; have RA := Lib.hid rA; have OA := Lib.hid oA; have SA := Lib.hid sA; have BA := Lib.hid bA; clear rA oA sA bA) | (refine wpList_load_row rfl 25 (.tmp 2) rfl w.heap.size rfl 25 _ (0, 0) _ RA.out Tryd.underlying25 rfl (size25 _ hDl) ?_; obtain ⟨v', w', hr', ho', hg', hn'⟩ := append_dig (w.heap.size + 1) wA _ (dgs d ll k) D (chain_own H5.out B5.out OA.out SA.out BA.out) (by rw [SA.out]; exact Nat.le_trans H5.out.size B5.out.size) hDl (by rw [dgs_length]; omega); have R' := Lib.hid hr'; have O' := Lib.hid ho'; have G' := Lib.hid hg'; have N' := Lib.hid hn'; clear hr' ho' hg' hn') | (at_builtin; refine wp_appd rfl rfl rfl (.tmp 25) (.tmp 27) rfl rfl rfl R'.out ?_))
      refine ⟨⟨k + 1, by omega, by go_num, Lib.hid ?_⟩, by simp [intOf]; omega⟩
      refine ⟨?_, ?_, ?_, ?_⟩
      · rw [← HD.out]
        refine RowB.kept RA.out (G'.out.block _ (by rw [SA.out]; exact Nat.lt_of_lt_of_le H5.out.size B5.out.size) (fun e => ?_))
        have := N'.out _ e.symm
        omega
      · rw [dgs_succ, ← HD.out]
        exact O'.out
      · have hA : Below w.heap.size w wA := BA.out _ _ (Nat.le_refl _) (H5.out.below.trans (B5.out.mono H5.out.below.size))
        exact hA.grown G'.out hA.size (by intro k hk; have := N'.out k hk; omega)
      · exact Nat.lt_of_lt_of_le (by rw [SA.out]; exact Nat.lt_of_lt_of_le H5.out.size B5.out.size) G'.out.size
    · have hk' : k = L := by omega
      subst hk'
      have hO := H.out.own
      rw [dgs_length] at hO
      have HO := Lib.hid hO; clear hO
      have hLl : ll.length = k := HL.out.symm
      have HLl := Lib.hid hLl; clear hLl
      go_wp2
      go_ret
      refine ⟨_, rfl, ?_, H.out.below⟩
      exact HO.out

end Go.Proofs.YtecgcnfjpaemcaaDoor
