/-
  Walks: Parse of the program; what is laid and stays laid.
-/
import Derived.Test.YtempnbchiofghaaGreatDoorSe
import Derived.Shelf.Strconv.ErrVarAll
namespace Go.Proofs.YtempnbchiofghaaGreatDoor
open Go.RowKit Go.Lib Go.PlainAid
set_option linter.unusedVariables false
set_option linter.unusedSimpArgs false

/-- What the laws need of the laid variables. -/
structure LK (w : World) : Prop where
  tab : Lib.TabIs Tryz.prog w "internal/strconv.uint64pow10" .u64 Lib.pow10Tab
  err : ∃ tp p, w.var? Tryz.prog "strconv.ErrRange" = some #[.iface tp p]
theorem var_below {w w' : World} {name : String} {cs : Array Value} (h : w.var? Tryz.prog name = some cs) (hb : Below w.heap.size w w') : w'.var? Tryz.prog name = some cs := by
  unfold World.var? at *
  cases hg : Tryz.prog.globalNamed name with
  | none => simp [hg] at h
  | some g =>
    simp only [hg, Option.bind_some] at h ⊢
    have hlt : g < w.heap.size := by
      rcases Nat.lt_or_ge g w.heap.size with h1 | h1
      · exact h1
      · rw [Array.getElem?_eq_none h1] at h
        simp at h
    rw [hb.block g hlt]
    exact h
theorem LK.on {w w' : World} (h : LK w) (hb : Below w.heap.size w w') : LK w' := by
  obtain ⟨tp, p, he⟩ := h.err
  exact ⟨(Lib.tabBelow_of_tabIs h.tab) w' hb, tp, p, var_below he hb⟩

theorem atoi_any (S : ByteArray) (hS : S.size ≤ 281474976710656) (w : World) (hk : LK w) (r : Lib.NumEnd Int) (hr : Lib.atoiAll S.data.toList = r) (hns : r = .range ∨ ∃ x, r = .ok x) :
    Calls Tryz.prog 49 #[.string S] w fun e w' => ∃ (v : Int) (ev : Value), e = .returned (.tuple #[.int .i64 v, ev]) ∧ Below w.heap.size w w' ∧ ((∃ x, r = .ok x ∧ v = x ∧ ev = .nilIface) ∨ (r = .range ∧ ∃ t p, ev = .iface t (.pointer (some p)))) := by
  rcases hns.symm with ⟨x, rfl⟩ | rfl
  · have H := Any.strconv_Atoi_ok Tryz.atoiL S (by omega) x hr w
    change Calls Tryz.prog 49 _ _ _ at H
    refine H.mono ?_
    rintro e w' ⟨rfl, hw⟩
    refine ⟨x, _, rfl, ?_, Or.inl ⟨x, rfl, rfl, rfl⟩⟩
    rcases hw with rfl | ⟨t, rfl⟩
    · exact Below.refl _ _
    · exact Lib.bytesWorld_below _ _ _
  · obtain ⟨tp, p, he⟩ := hk.err
    have H := Any.strconv_Atoi_range_var Tryz.atoiL S hS hr tp p w he
    change Calls Tryz.prog 49 _ _ _ at H
    refine H.mono ?_
    rintro e w' ⟨N, rfl, _, _, hb⟩
    exact ⟨_, _, rfl, hb, Or.inr ⟨rfl, _, _, rfl⟩⟩

set_option maxRecDepth 100000 in
set_option maxHeartbeats 8000000 in
theorem parse_any (S : ByteArray) (hS : S.size ≤ 140737488355328) (C E : Int) (hP : PV S.data.toList C E) (w : World) (hk : LK w) :
    Calls Tryz.prog 25 #[.string S] w fun e w' => e = .returned (.tuple #[.int .i64 C, .int .i64 E]) ∧ Below w.heap.size w w' := by
  have H1 := Lib.hid (hund_any S (by omega) w)
  have HPV := Lib.hid hP; have HK := Lib.hid hk; have HS := Lib.hid hS
  clear hP hk hS
  go_enter Tryz.func25, Tryz.ntmps25
  go_wp2_with fail
  refine H1.out.mono ?_
  rintro e w1 ⟨N, ok, rfl, hb1, hv⟩
  have HB1 := Lib.hid hb1
  rcases hv with ⟨rfl, neg, u, c1, c0, hf, hN⟩ | ⟨rfl, hn⟩
  · have hne : u ++ [c1, c0] ≠ [] := by simp
    have hd : ∀ c ∈ u ++ [c1, c0], isD c := by
      intro c hc
      rcases List.mem_append.1 hc with h | h
      · exact hf.dig c h
      · simp only [List.mem_cons, List.not_mem_nil, or_false] at h
        rcases h with rfl | rfl
        · exact hf.d1
        · exact hf.d0
    have hat := atoi_digits neg (u ++ [c1, c0]) hne hd
    rw [← hN] at hat
    have hpv := HPV.out.good hf
    have hsz : N.size ≤ 281474976710656 ∨ True := Or.inr trivial
    have hlen : N.size ≤ S.size := by
      rw [ba_size, ba_size, hN, hf.eq]
      simp only [List.length_append, List.length_cons, List.length_nil]
      omega
    obtain ⟨M, hM⟩ : ∃ M, numA 0 (u ++ [c1, c0]) = M := ⟨_, rfl⟩
    rw [hM] at hat hpv
    obtain ⟨r, hr⟩ : ∃ r, Lib.atoiAll N.data.toList = r := ⟨_, rfl⟩
    rw [hr] at hat
    have hns : r = .range ∨ ∃ x, r = .ok x := by
      rw [hat]
      split
      · first | exact Or.inr ⟨_, rfl⟩ | exact Or.inl rfl
      · first | exact Or.inr ⟨_, rfl⟩ | exact Or.inl rfl
    have HAT := Lib.hid (atoi_any N (by have := HS.out; omega) w1 (HK.out.on hb1) r hr hns)
    have HRV := Lib.hid hat; have HPV2 := Lib.hid hpv
    clear hne hd hat hpv hlen hM hr hns hf hN hb1
    go_wp2_with fail
    refine HAT.out.mono ?_
    rintro e w2 ⟨v, ev, rfl, hb2, hres⟩
    have HB2 := Lib.hid (btrans HB1.out hb2)
    clear hb2
    rcases hres with ⟨x, hrx, rfl, rfl⟩ | ⟨hrx, t, p, rfl⟩
    · have h1 := HRV.out
      rw [hrx] at h1
      have hx : v = (if neg then -(M : Int) else (M : Int)) := by
        split at h1
        · cases h1; rfl
        · cases h1
      have H3 := checked_any v
      have hce : (C, E) = chk v := by
        rw [HPV2.out]
        unfold resP chk
        rw [hx]
        by_cases hM : M ≤ 9007199254740992
        · rw [if_pos hM]
          cases neg with
          | true =>
            show (-(M : Int), (0 : Int)) = if inR (-(M : Int)) then (-(M : Int), 0) else (0, 3)
            rw [if_pos ⟨by omega, by omega⟩]
          | false =>
            show ((M : Int), (0 : Int)) = if inR (M : Int) then ((M : Int), 0) else (0, 3)
            rw [if_pos ⟨by omega, by omega⟩]
        · rw [if_neg hM]
          cases neg with
          | true =>
            show ((0 : Int), (3 : Int)) = if inR (-(M : Int)) then (-(M : Int), 0) else (0, 3)
            rw [if_neg (fun h => by obtain ⟨h1, h2⟩ := h; omega)]
          | false =>
            show ((0 : Int), (3 : Int)) = if inR (M : Int) then ((M : Int), 0) else (0, 3)
            rw [if_neg (fun h => by obtain ⟨h1, h2⟩ := h; omega)]
      rw [← hce] at H3
      replace H3 := Lib.hid H3
      clear h1 hx hce hrx
      go_wp2_with fail
      refine (H3.out _).mono ?_
      rintro e w' ⟨rfl, rfl⟩
      go_wp2
      go_ret2
      exact ⟨rfl, HB2.out⟩
    · have h1 := HRV.out
      rw [hrx] at h1
      have hce : Hid ((C, E) = ((0 : Int), (3 : Int))) := Lib.hid (by
        rw [HPV2.out]
        unfold resP
        rw [if_neg]
        intro hM
        rw [if_pos ⟨fun _ => by omega, fun _ => by omega⟩] at h1
        cases h1)
      clear h1 hrx
      go_wp2
      go_ret2
      have := hce.out
      simp only [Prod.mk.injEq] at this
      exact ⟨retP ⟨this.1.symm, this.2.symm⟩, HB2.out⟩
  · have hce := Lib.hid (HPV.out.bad hn)
    clear hn hb1
    go_wp2
    go_ret2
    exact ⟨retP ⟨hce.out.1.symm, hce.out.2.symm⟩, HB1.out⟩
end Go.Proofs.YtempnbchiofghaaGreatDoor
