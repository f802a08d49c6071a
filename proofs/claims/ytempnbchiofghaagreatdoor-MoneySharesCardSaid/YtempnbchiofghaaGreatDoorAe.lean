/-
  Walks: Sum of both sides.
-/
import Derived.Test.YtempnbchiofghaaGreatDoorAd
import Derived.Laws.BitsLemmas
namespace Go.Proofs.YtempnbchiofghaaGreatDoor
open Go.RowKit
set_option linter.unusedVariables false
set_option linter.unusedSimpArgs false

theorem and32 (n : Int) : bits .and .i64 n 4294967295 = n % 4294967296 := by
  have h127 : (BitVec.ofInt 64 4294967295).toNat = 2 ^ 32 - 1 := by decide
  have key : (BitVec.ofInt 64 n &&& BitVec.ofInt 64 4294967295).toNat = (n % ((2 ^ 64 : Nat) : Int)).toNat % 2 ^ 32 := by
    rw [BitVec.toNat_and, BitVec.toNat_ofInt, h127, Nat.and_two_pow_sub_one_eq_mod]
  show IntKind.i64.wrap ((BitVec.ofInt 64 n &&& BitVec.ofInt 64 4294967295).toNat : Nat) = n % 4294967296
  rw [key, IntKind.wrap_i64]
  omega

theorem sum_take (l : List Int) (k : Nat) (x : Int) (h : l[k]? = some x) : (l.take (k + 1)).sum = (l.take k).sum + x := by
  rw [List.take_add_one, h]
  simp
theorem sum_all (l : List Int) (k : Nat) (h : l.length ≤ k) : (l.take k).sum = l.sum := by rw [List.take_of_length_le h]

/-- What the sum of a list is, from its upper and its lower parts. -/
def SumI (l : List Int) (k : Nat) (u v : Int) : Prop := u * 4294967296 + v = (l.take k).sum ∧ -2097152 * (k : Int) ≤ u ∧ u ≤ 2097152 * (k : Int) ∧ 0 ≤ v ∧ v ≤ 4294967295 * (k : Int) ∧ ∀ j x, j < k → l[j]? = some x → inR x
theorem SumI.next {l : List Int} {k : Nat} {u v x : Int} (h : SumI l k u v) (hx : l[k]? = some x) (hr : inR x) : SumI l (k + 1) (u + x / 4294967296) (v + x % 4294967296) := by
  obtain ⟨h1, h2, h3, h4, h5, h6⟩ := h
  obtain ⟨r0, r1⟩ := hr
  refine ⟨?_, by omega, by omega, by omega, by omega, fun j y hj hy => ?_⟩
  · rw [sum_take l k x hx]; omega
  · rcases Nat.lt_or_ge j k with hjk | hjk
    · exact h6 j y hjk hy
    · obtain rfl : j = k := by omega
      rw [hx] at hy
      cases hy
      exact ⟨r0, r1⟩
theorem sumV_bad {l : List Int} {k : Nat} {x : Int} (hx : l[k]? = some x) (hr : ¬ inR x) : sumV l = (0, 3) := by
  unfold sumV
  rw [if_neg]
  intro h
  exact hr (h x (List.mem_of_getElem? hx))
theorem sumV_end {l : List Int} (h : ∀ j x, j < l.length → l[j]? = some x → inR x) : sumV l = chk l.sum := by
  unfold sumV
  rw [if_pos]
  intro x hx
  obtain ⟨j, hj, rfl⟩ := List.getElem_of_mem hx
  exact h j _ hj (List.getElem?_eq_getElem hj)

set_option maxRecDepth 100000 in
set_option maxHeartbeats 4000000 in
theorem sum_any (l : List Int) (v : Value) (w : World) (h : Hl (fun k => k < w.heap.size) w v l) (hlen : l.length ≤ 2147483647) :
    Calls Tryz.prog 21 #[v] w fun e w' => e = .returned (.tuple #[.int .i64 (sumV l).1, .int .i64 (sumV l).2]) ∧ w = w' := by
  obtain ⟨oa, c, rfl⟩ := h.shape
  obtain ⟨n, hn⟩ : ∃ n, n = l.length := ⟨_, rfl⟩
  rw [← hn] at h hlen ⊢
  obtain ⟨R, hR⟩ : ∃ R, sumV l = R := ⟨_, rfl⟩
  rw [hR]
  have HN := Lib.hid hn; have HH := Lib.hid h; have HR := Lib.hid hR
  have a32 := and32
  clear hn h hR
  go_enter Tryz.func21, Tryz.ntmps21
  go_wp2
  go_loopw [4, 5, 10] (fun s t i wr => ∃ (k : Nat) (u v : Int), k ≤ n ∧ s = .int .i64 u ∧ t = .int .i64 v ∧ i = .int .i64 (k : Int) ∧ Hid (SumI l k u v) ∧ w = wr) (fun s t i _ => n - (intOf i).toNat)
  case atStart => exact ⟨0, 0, 0, by omega, rfl, rfl, rfl, Lib.hid ⟨by simp, by omega, by omega, by omega, by omega, fun j x hj => by omega⟩, rfl⟩
  case round =>
    obtain ⟨k, u, v, hk, rfl, rfl, rfl, HI, rfl⟩ := hrel
    by_cases hlt : k < n
    · have hlt2 : (k : Int) < (n : Int) := by omega
      obtain ⟨g, off, x, rfl, hg, hx, hxi, c0, hcap⟩ := HH.out.pick k (by have := HN.out; omega)
      have H1 := inRange_any x
      by_cases hr : inR x
      · have HI2 := Lib.hid (HI.out.next hx hr)
        rw [decide_eq_true hr] at H1
        replace H1 := Lib.hid H1
        obtain ⟨U, hU⟩ : ∃ U, u + x / 4294967296 = U := ⟨_, rfl⟩
        obtain ⟨V, hV⟩ : ∃ V, v + x % 4294967296 = V := ⟨_, rfl⟩
        rw [hU, hV] at HI2
        have w1 : IntKind.i64.wrap U = U := by
          obtain ⟨_, h2, h3, h4, h5, _⟩ := HI2.out
          exact wrap_in (by omega) (by omega)
        have w2 : IntKind.i64.wrap V = V := by
          obtain ⟨_, h2, h3, h4, h5, _⟩ := HI2.out
          exact wrap_in (by omega) (by omega)
        have w3 : IntKind.i64.wrap (u + x / 4294967296) = U := by rw [hU, w1]
        have w4 : IntKind.i64.wrap (v + x % 4294967296) = V := by rw [hV, w2]
        clear hx HI hr hU hV w1 w2
        go_wp2_with fail
        refine (H1.out _).mono ?_
        rintro e w' ⟨rfl, rfl⟩
        go_wp2
        go_roundw
        case rel => exact ⟨k + 1, U, V, by omega, rfl, rfl, by go_num, HI2, trivial⟩
        case measure => simp [intOf]; omega
      · have hb := sumV_bad hx hr
        rw [decide_eq_false hr] at H1
        replace H1 := Lib.hid H1
        rw [HR.out] at hb
        have HB := Lib.hid hb
        clear hx HI hr hb
        go_wp2_with fail
        refine (H1.out _).mono ?_
        rintro e w' ⟨rfl, rfl⟩
        go_wp2
        go_ret2
        exact ⟨retP (by rw [HB.out]; exact ⟨rfl, rfl⟩), rfl⟩
    · obtain rfl : k = n := by omega
      have hlt2 : ¬ ((k : Int) < (k : Int)) := by omega
      obtain ⟨h1, h2, h3, h4, h5, h6⟩ := HI.out
      have hs : sumV l = chk l.sum := sumV_end (by rw [← HN.out]; exact h6)
      rw [sum_all l k (by have := HN.out; omega)] at h1
      rw [HR.out] at hs
      obtain ⟨U, hU⟩ : ∃ U, u + v / 4294967296 = U := ⟨_, rfl⟩
      obtain ⟨V, hV⟩ : ∃ V, v % 4294967296 = V := ⟨_, rfl⟩
      obtain ⟨S, hS⟩ : ∃ S, l.sum = S := ⟨_, rfl⟩
      rw [hS] at h1 hs
      have w1 : IntKind.i64.wrap (u + v / 4294967296) = U := by rw [hU]; exact wrap_in (by omega) (by omega)
      have H1 := between_any (-2097152) U 2097152
      by_cases hb : -2097152 ≤ U ∧ U ≤ 2097152
      · obtain ⟨b0, b1⟩ := hb
        rw [decide_eq_true (And.intro b0 b1)] at H1
        have w2 : IntKind.i64.wrap (U * 4294967296) = U * 4294967296 := wrap_in (by omega) (by omega)
        have w3 : IntKind.i64.wrap (U * 4294967296 + V) = S := by rw [show S = U * 4294967296 + V by omega]; exact wrap_in (by omega) (by omega)
        have H2 := checked_any S
        obtain ⟨r, hr⟩ : ∃ r, r = chk S := ⟨_, rfl⟩
        rw [← hr] at H2 hs
        replace H1 := Lib.hid H1; replace H2 := Lib.hid H2; have HS := Lib.hid hs
        clear h1 h2 h3 h4 h5 h6 hs hr b0 b1 hU HI hS hlen
        go_wp2_with fail
        refine (H1.out _).mono ?_
        rintro e w' ⟨rfl, rfl⟩
        go_wp2_with fail
        refine (H2.out _).mono ?_
        rintro e w' ⟨rfl, rfl⟩
        go_wp2
        go_ret2
        exact ⟨retP (by rw [HS.out]; exact ⟨rfl, rfl⟩), rfl⟩
      · have e : chk S = (0, 3) := if_neg (fun hi => hb (by obtain ⟨i0, i1⟩ := hi; omega))
        rw [decide_eq_false hb] at H1
        rw [e] at hs
        replace H1 := Lib.hid H1; have HS := Lib.hid hs
        clear h1 h2 h3 h4 h5 h6 hs hb hU HI hS hlen e
        go_wp2_with fail
        refine (H1.out _).mono ?_
        rintro e w' ⟨rfl, rfl⟩
        go_wp2
        go_ret2
        exact ⟨retP (by rw [HS.out]; exact ⟨rfl, rfl⟩), rfl⟩
end Go.Proofs.YtempnbchiofghaaGreatDoor
