/-
  Walks: Path.
-/
import Derived.Test.YthmpeeipbclhkaaDoorGk
namespace Go.Proofs.YthmpeeipbclhkaaDoor
open Go.RowKit

/-- The path of leaf i. -/
def pathD (l : List (List Int)) (i : Nat) : List (List Int) := sibs prt pdd l 0 i (dpt l.length)
theorem pathD_length (l : List (List Int)) (i : Nat) : (pathD l i).length = dpt l.length := sibs_length _ _ _ _ _ _
theorem pathD_get (l : List (List Int)) (i t : Nat) (ht : t < dpt l.length) : (pathD l i)[t]? = some (nd prt pdd l t (sib (i / 2 ^ t))) := by
  have := sibs_get prt pdd l (dpt l.length) 0 i t ht
  rw [Nat.zero_add] at this
  exact this
theorem pathD_dg (l : List (List Int)) (i : Nat) (h : ∀ x ∈ l, Dg x) : ∀ x ∈ pathD l i, Dg x := by
  intro x hx
  obtain ⟨t, ht⟩ := List.getElem?_of_mem hx
  have htl := (List.getElem?_eq_some_iff.1 ht).1
  rw [pathD_length] at htl
  rw [pathD_get l i t htl] at ht
  simp only [Option.some.injEq] at ht
  rw [← ht]
  exact nd_dg l _ _ h

set_option maxRecDepth 100000 in
set_option maxHeartbeats 1000000 in
theorem pathBad_any (l : List (List Int)) (a : Option Addr) (cap : Nat) (i : Int) (w : World) (hl : l.length ≤ 65536) (hi : i < 0 ∨ ((2 ^ dpt l.length : Nat) : Int) ≤ i) :
    Calls Tryd.prog 17 #[.slice a l.length cap, .int .i64 i] w fun e w' => e = .returned (.tuple #[.slice none 0 0, .int .i64 1]) ∧ Below w.heap.size w w' := by
  have h16 := dpt_le16 hl
  have hd : ∀ w', Calls Tryd.prog 24 #[.int .i64 (l.length : Int)] w' fun e w'' => e = .returned (.int .i64 (dpt l.length : Int)) ∧ w' = w'' := by
    intro w'
    have := depth_any (l.length : Int) w'
    rw [dep_nat _ hl] at this
    exact this.mono (fun e w2 h => ⟨h.1, h.2.symm⟩)
  obtain ⟨d, hdd⟩ : ∃ d, d = dpt l.length := ⟨_, rfl⟩
  rw [← hdd] at hd h16 hi
  have HDP := Lib.hid hd
  clear hd hdd
  have f1 : ¬ (65536 < (l.length : Int)) := by omega
  obtain ⟨Q, hQ⟩ : ∃ Q, Q = 2 ^ d := ⟨_, rfl⟩
  have hQ1 : 2 ^ d ≤ 2 ^ 16 := Nat.pow_le_pow_right (by decide) h16
  have e : wrap64 (2 ^ d) = (Q : Int) := by
    have e1 : (2 : Int) ^ d = (Q : Int) := by rw [hQ]; simp
    have hQ2 : Q ≤ 65536 := by rw [hQ]; simpa using hQ1
    rw [e1]
    exact IntWalk.wrap64_in _ (by omega)
  rw [← hQ] at hi
  clear hQ hQ1
  by_cases h0 : i < 0
  · clear hi
    go_enter Tryd.func17, Tryd.ntmps17
    go_wp2_with (first | (go_at_call 24; refine (HDP.out _).mono ?_; rintro e w2 ⟨rfl, rfl⟩))
    go_ret2
    exact ⟨rfl, Below.refl _ _⟩
  · have h2 : (Q : Int) ≤ i := by omega
    clear hi
    go_enter Tryd.func17, Tryd.ntmps17
    go_wp2_with (first | (go_at_call 24; refine (HDP.out _).mono ?_; rintro e w2 ⟨rfl, rfl⟩))
    go_ret2
    exact ⟨rfl, Below.refl _ _⟩

set_option maxRecDepth 100000 in
set_option maxHeartbeats 1000000 in
theorem pathOk_any (l : List (List Int)) (a : Option Addr) (cap i : Nat) (w : World) (hk : KOk w) (hv : Dl (fun k => k < w.heap.size) w (.slice a l.length cap) l) (hl : l.length ≤ 65536) (hi : i < 2 ^ dpt l.length) :
    Calls Tryd.prog 17 #[.slice a l.length cap, .int .i64 (i : Int)] w fun e w' => ∃ v, e = .returned (.tuple #[v, .int .i64 0]) ∧ Below w.heap.size w w' ∧ Dl (fun k => w.heap.size ≤ k ∧ k < w'.heap.size) w' v (pathD l i) := by
  have h16 := dpt_le16 hl
  have hd : ∀ w', Calls Tryd.prog 24 #[.int .i64 (l.length : Int)] w' fun e w'' => e = .returned (.int .i64 (dpt l.length : Int)) ∧ w' = w'' := by
    intro w'
    have := depth_any (l.length : Int) w'
    rw [dep_nat _ hl] at this
    exact this.mono (fun e w2 h => ⟨h.1, h.2.symm⟩)
  have hbnd : ∀ t, t < dpt l.length → (sib (i / 2 ^ t) + 1) * 2 ^ t ≤ 65536 := by
    intro t ht
    have h1 : 2 ^ dpt l.length = 2 ^ (dpt l.length - t) * 2 ^ t := by rw [← Nat.pow_add]; congr 1; omega
    have h2 : i / 2 ^ t < 2 ^ (dpt l.length - t) := by
      rw [Nat.div_lt_iff_lt_mul (Nat.pow_pos (by decide)), ← h1]; exact hi
    have h3 : 2 ^ (dpt l.length - t) = 2 * 2 ^ (dpt l.length - t - 1) := by
      rw [Nat.mul_comm, ← Nat.pow_succ]; congr 1; omega
    have h4 : sib (i / 2 ^ t) + 1 ≤ 2 ^ (dpt l.length - t) := by
      rw [h3] at h2 ⊢
      generalize 2 ^ (dpt l.length - t - 1) = M at h2 ⊢
      generalize i / 2 ^ t = I at h2 ⊢
      unfold sib
      split <;> omega
    have h5 : 2 ^ dpt l.length ≤ 2 ^ 16 := Nat.pow_le_pow_right (by decide) h16
    have h6 := Nat.mul_le_mul_right (2 ^ t) h4
    rw [← h1] at h6
    omega
  have hnode : ∀ t, t < dpt l.length → ∀ w', Below w.heap.size w w' → Calls Tryd.prog 36 #[.slice a l.length cap, .int .i64 (t : Int), .int .i64 ((sib (i / 2 ^ t) : Nat) : Int)] w' fun e w'' => e = .returned (.agg (byteVals (nd prt pdd l t (sib (i / 2 ^ t)))).toArray) ∧ Below w'.heap.size w' w'' :=
    fun t ht w' hb => node_any l a cap t _ w' (hk.below hb) (hv.on hb) (by omega) (hbnd t ht)
  have hget := pathD_get l i
  have hpl := pathD_length l i
  have hpd := pathD_dg l i hv.2.1
  have hndg := fun t => nd_dg l t (sib (i / 2 ^ t)) hv.2.1
  obtain ⟨p, hp⟩ : ∃ p, p = pathD l i := ⟨_, rfl⟩
  rw [← hp] at hget hpl hpd ⊢
  obtain ⟨d, hdd⟩ : ∃ d, d = dpt l.length := ⟨_, rfl⟩
  rw [← hdd] at hd h16 hi hnode hget hpl
  have HDP := Lib.hid hd; have HN := Lib.hid hnode; have HG := Lib.hid hget; have HPD := Lib.hid hpd; have HPL := Lib.hid hpl; have HND := Lib.hid hndg
  clear hd hdd hbnd hnode hget hpd hpl hp hk hv hndg
  have f1 : ¬ (65536 < (l.length : Int)) := by omega
  have f0 : ¬ ((i : Int) < 0) := by omega
  obtain ⟨Q, hQ⟩ : ∃ Q, Q = 2 ^ d := ⟨_, rfl⟩
  have hQ1 : 2 ^ d ≤ 2 ^ 16 := Nat.pow_le_pow_right (by decide) h16
  have e : wrap64 (2 ^ d) = (Q : Int) := by
    have e1 : (2 : Int) ^ d = (Q : Int) := by rw [hQ]; simp
    have hQ2 : Q ≤ 65536 := by rw [hQ]; simpa using hQ1
    rw [e1]
    exact IntWalk.wrap64_in _ (by omega)
  have hi65 : i < 65536 := by omega
  rw [← hQ] at hi
  have f2 : ¬ ((Q : Int) ≤ (i : Int)) := by omega
  clear hQ hQ1
  go_enter Tryd.func17, Tryd.ntmps17
  go_wp2_with (first | (go_at_call 24; refine (HDP.out _).mono ?_; rintro e w2 ⟨rfl, rfl⟩))
  have g1 : decide ((i : Int) < 0) = false := decide_eq_false (by omega)
  have g2 : decide (Q ≤ i) = false := decide_eq_false (by omega)
  simp only [g1, g2, Bool.or_false]
  clear g1 g2
  go_loopw [4, 7, 23] (fun v _ t wr => ∃ k : Nat, k ≤ d ∧ t = .int .i64 k ∧ Hid (ApS w (p.take k) v wr)) (fun _ _ t _ => d - (intOf t).toNat)
  case atStart => exact ⟨0, by omega, rfl, Lib.hid (ApS.nil w)⟩
  case round =>
    obtain ⟨k, hk, rfl, H⟩ := hrel
    by_cases hlt : k < d
    · have hx := HG.out k hlt
      have hDl := (HND.out k).1
      have hc := HN.out k hlt wr H.out.below
      obtain ⟨D, hD⟩ : ∃ D, D = nd prt pdd l k (sib (i / 2 ^ k)) := ⟨_, rfl⟩
      rw [← hD] at hx hDl hc
      have htk : p.take (k + 1) = p.take k ++ [D] := by
        rw [List.take_add_one, hx]; rfl
      have hpk : (p.take k).length ≤ 1000 := by rw [List.length_take]; omega
      obtain ⟨I, hI⟩ : ∃ I, I = i / 2 ^ k := ⟨_, rfl⟩
      have hI2 : (i : Int) / 2 ^ k = (I : Int) := by rw [hI]; simp
      have hI3 : I < 65536 := by rw [hI]; exact Nat.lt_of_le_of_lt (Nat.div_le_self _ _) hi65
      have hI4 := xor1 I (by omega)
      rw [← hI] at hc
      have hf := fold_zero D hDl
      have hbl : (byteVals D).length = 32 := by rw [byteVals_length, hDl]
      have HC := Lib.hid hc; have HT := Lib.hid htk
      clear hx hc htk hD hI
      go_wp2_with fail
      refine HC.out.mono ?_
      rintro e w5 ⟨rfl, hb5⟩
      obtain ⟨v6, w6, hr6, h6⟩ := (H.out.call hb5).push D hDl hpk
      rw [← HT.out] at h6
      have H6 := Lib.hid h6; have R6 := Lib.hid hr6
      clear h6 hr6 hb5 HC
      go_wp2_with (first | (at_builtin; refine wp_appd rfl rfl rfl (.tmp 26) (.tmp 34) rfl rfl rfl R6.out ?_))
      go_roundw
      case rel => exact ⟨k + 1, by omega, by go_num, H6⟩
      case measure => simp [intOf]; omega
    · have hk2 : k = d := by omega
      subst hk2
      have hT : p.take k = p := List.take_of_length_le (by rw [HPL.out]; exact Nat.le_refl _)
      rw [hT] at H
      go_wp2
      go_ret2
      exact ⟨_, rfl, H.out.below, own_dl H.out.own HPD.out (by rw [HPL.out]; omega)⟩
end Go.Proofs.YthmpeeipbclhkaaDoor
