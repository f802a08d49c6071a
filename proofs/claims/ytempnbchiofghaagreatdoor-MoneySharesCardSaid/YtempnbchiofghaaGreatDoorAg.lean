/-
  Walks: the reference's Weights and MulDiv.
-/
import Derived.Test.YtempnbchiofghaaGreatDoorAf
namespace Go.Proofs.YtempnbchiofghaaGreatDoor
open Go.RowKit
set_option linter.unusedVariables false
set_option linter.unusedSimpArgs false

/-- Weights that are in range, one of them positive. -/
def wOk (l : List Int) : Prop := (∀ x ∈ l, 0 ≤ x ∧ x ≤ 9007199254740992) ∧ ∃ x ∈ l, 0 < x
/-- E is the error of the weights. -/
def WErr (l : List Int) (E : Int) : Prop := (256 < l.length → E = 2) ∧ (l.length ≤ 256 → (wOk l → E = 0) ∧ (¬ wOk l → E = 1))
theorem werr_exists (l : List Int) : ∃ E, WErr l E := by
  by_cases h : 256 < l.length
  · exact ⟨2, fun _ => rfl, fun h2 => by omega⟩
  · by_cases h2 : wOk l
    · exact ⟨0, fun h3 => by omega, fun _ => ⟨fun _ => rfl, fun h4 => absurd h2 h4⟩⟩
    · exact ⟨1, fun h3 => by omega, fun _ => ⟨fun h4 => absurd h4 h2, fun _ => rfl⟩⟩

set_option maxRecDepth 100000 in
set_option maxHeartbeats 4000000 in
theorem weights_any (l : List Int) (v : Value) (w : World) (E : Int) (hE : WErr l E) (h : Hl (fun k => k < w.heap.size) w v l) :
    Calls Tryz.prog 33 #[v] w fun e w' => e = .returned (.int .i64 E) ∧ w = w' := by
  obtain ⟨oa, c, rfl⟩ := h.shape
  obtain ⟨n, hn⟩ : ∃ n, n = l.length := ⟨_, rfl⟩
  have hlen := h.1
  rw [← hn] at h hlen ⊢
  have HN := Lib.hid hn; have HH := Lib.hid h; have HE := Lib.hid hE
  clear hn h hE
  by_cases h256 : 256 < n
  · have hE2 : E = 2 := HE.out.1 (by have := HN.out; omega)
    subst hE2
    have hlt : (256 : Int) < (n : Int) := by omega
    go_enter Tryz.func33, Tryz.ntmps33
    go_wp2
    go_ret
    exact ⟨rfl, rfl⟩
  · have hlt : ¬ (256 : Int) < (n : Int) := by omega
    go_enter Tryz.func33, Tryz.ntmps33
    go_wp2
    go_loopw [3, 4] (fun s i wr => ∃ (k : Nat) (u : Bool), k ≤ n ∧ s = .bool u ∧ i = .int .i64 (k : Int) ∧ Hid ((u = true ↔ ∃ j x, j < k ∧ l[j]? = some x ∧ 0 < x) ∧ ∀ j x, j < k → l[j]? = some x → 0 ≤ x ∧ x ≤ 9007199254740992) ∧ w = wr) (fun s i _ => n - (intOf i).toNat)
    case atStart => exact ⟨0, false, by omega, rfl, rfl, Lib.hid ⟨⟨fun h => (by cases h), fun ⟨j, x, hj, _⟩ => (by omega)⟩, fun j x hj => (by omega)⟩, rfl⟩
    case round =>
      obtain ⟨k, u, hk, rfl, rfl, HI, rfl⟩ := hrel
      by_cases hltk : k < n
      · have hlt2 : (k : Int) < (n : Int) := by omega
        obtain ⟨g, off, x, rfl, hg, hx, hxi, c0, hcap⟩ := HH.out.pick k (by have := HN.out; omega)
        by_cases x0 : x < 0
        · have hE1 : E = 1 := (HE.out.2 (by have := HN.out; omega)).2 (fun hw => by have := hw.1 x (List.mem_of_getElem? hx); omega)
          have HE1 := Lib.hid hE1
          clear hx HI hE1
          go_wp2
          go_ret
          exact ⟨retI HE1.out.symm, rfl⟩
        · by_cases x1 : 9007199254740992 < x
          · have hE1 : E = 1 := (HE.out.2 (by have := HN.out; omega)).2 (fun hw => by have := hw.1 x (List.mem_of_getElem? hx); omega)
            have HE1 := Lib.hid hE1
            clear hx HI hE1
            go_wp2
            go_ret
            exact ⟨retI HE1.out.symm, rfl⟩
          · have hrng : ∀ j y, j < k + 1 → l[j]? = some y → 0 ≤ y ∧ y ≤ 9007199254740992 := by
              intro j y hj hy
              rcases Nat.lt_or_ge j k with hjk | hjk
              · exact HI.out.2 j y hjk hy
              · obtain rfl : j = k := by omega
                rw [hx] at hy
                cases hy
                omega
            cases u with
            | true =>
              have HI2 : Hid ((true = true ↔ ∃ j x, j < k + 1 ∧ l[j]? = some x ∧ 0 < x) ∧ ∀ j x, j < k + 1 → l[j]? = some x → 0 ≤ x ∧ x ≤ 9007199254740992) := Lib.hid ⟨⟨fun _ => by
                obtain ⟨j, y, hj, h2, h3⟩ := HI.out.1.1 rfl
                exact ⟨j, y, by omega, h2, h3⟩, fun _ => rfl⟩, hrng⟩
              clear hx HI hrng
              go_wp2
              go_roundw
              case rel => exact ⟨k + 1, true, by omega, rfl, by go_num, HI2, trivial⟩
              case measure => simp [intOf]; omega
            | false =>
              obtain ⟨P, hP⟩ : ∃ P, decide (0 < x) = P := ⟨_, rfl⟩
              have HI2 : Hid ((P = true ↔ ∃ j x, j < k + 1 ∧ l[j]? = some x ∧ 0 < x) ∧ ∀ j x, j < k + 1 → l[j]? = some x → 0 ≤ x ∧ x ≤ 9007199254740992) := Lib.hid ⟨by
                constructor
                · intro hp
                  rw [hp] at hP
                  exact ⟨k, x, by omega, hx, of_decide_eq_true hP⟩
                · rintro ⟨j, y, hj, hy, hy0⟩
                  rcases Nat.lt_or_ge j k with hjk | hjk
                  · have := HI.out.1.2 ⟨j, y, hjk, hy, hy0⟩
                    cases this
                  · obtain rfl : j = k := by omega
                    rw [hx] at hy
                    cases hy
                    rw [← hP]
                    exact decide_eq_true hy0, hrng⟩
              clear hx HI hrng
              go_wp2
              go_roundw
              case rel => exact ⟨k + 1, P, by omega, rfl, by go_num, HI2, trivial⟩
              case measure => simp [intOf]; omega
      · obtain rfl : k = n := by omega
        have hlt2 : ¬ ((k : Int) < (k : Int)) := by omega
        have hw1 : u = true → wOk l := fun hu => by
          obtain ⟨j, x, hj, hx, h0⟩ := HI.out.1.1 hu
          refine ⟨fun y hy => ?_, x, List.mem_of_getElem? hx, h0⟩
          obtain ⟨i, hi, rfl⟩ := List.getElem_of_mem hy
          exact HI.out.2 i _ (by have := HN.out; omega) (List.getElem?_eq_getElem hi)
        have hw2 : u = false → ¬ wOk l := fun hu hw => by
          obtain ⟨_, x, hx, h0⟩ := hw
          obtain ⟨i, hi, rfl⟩ := List.getElem_of_mem hx
          have := HI.out.1.2 ⟨i, _, by have := HN.out; omega, List.getElem?_eq_getElem hi, h0⟩
          rw [hu] at this
          cases this
        cases u with
        | true =>
          have hE0 : E = 0 := (HE.out.2 (by have := HN.out; omega)).1 (hw1 rfl)
          have HE0 := Lib.hid hE0
          clear hE0 hw1 hw2 HI
          go_wp2
          go_ret
          exact ⟨retI HE0.out.symm, rfl⟩
        | false =>
          have hE1 : E = 1 := (HE.out.2 (by have := HN.out; omega)).2 (hw2 rfl)
          have HE1 := Lib.hid hE1
          clear hE1 hw1 hw2 HI
          go_wp2
          go_ret
          exact ⟨retI HE1.out.symm, rfl⟩

theorem bit_step (a : Nat) (s : Nat) : a / 2 ^ s = 2 * (a / 2 ^ (s + 1)) + a / 2 ^ s % 2 := by
  rw [Nat.pow_succ, ← Nat.div_div_eq_div_mul]
  omega
/-- One digit more of the quotient. -/
theorem muldiv_step {a W d s q r b : Nat} (hd0 : 1 ≤ d) (hW : W ≤ d) (h : q * d + r = a / 2 ^ (s + 1) * W ∧ r < d) (hb : b = a / 2 ^ s % 2) :
    (2 * q + (2 * r + b * W) / d) * d + (2 * r + b * W) % d = a / 2 ^ s * W ∧ (2 * r + b * W) % d < d := by
  obtain ⟨h1, h2⟩ := h
  have h3 := Nat.div_add_mod (2 * r + b * W) d
  refine ⟨?_, Nat.mod_lt _ hd0⟩
  rw [bit_step a s, ← hb, Nat.add_mul, Nat.add_mul, Nat.mul_assoc, Nat.mul_assoc, ← h1]
  rw [Nat.mul_comm d] at h3
  omega
theorem muldiv_q {a W d s q r : Nat} (hd0 : 1 ≤ d) (hW : W ≤ d) (h : q * d + r = a / 2 ^ s * W ∧ r < d) : q ≤ a := by
  have h1 : q * d ≤ a * d := by
    refine Nat.le_trans ?_ (Nat.mul_le_mul (Nat.div_le_self a (2 ^ s)) hW)
    omega
  exact Nat.le_of_mul_le_mul_right h1 hd0

set_option maxRecDepth 100000 in
set_option maxHeartbeats 4000000 in
theorem muldiv_any (a W d : Nat) (ha : a ≤ 9007199254740992) (hW : W ≤ d) (hd0 : 1 ≤ d) (hd : d ≤ 2305843009213693952) (w : World) :
    Calls Tryz.prog 35 #[.int .i64 (a : Int), .int .i64 (W : Int), .int .i64 (d : Int)] w fun e w' => e = .returned (.tuple #[.int .i64 ((a * W / d : Nat) : Int), .int .i64 ((a * W % d : Nat) : Int)]) ∧ w = w' := by
  obtain ⟨R1, hR1⟩ : ∃ R, a * W / d = R := ⟨_, rfl⟩
  obtain ⟨R2, hR2⟩ : ∃ R, a * W % d = R := ⟨_, rfl⟩
  rw [hR1, hR2]
  have HR1 := Lib.hid hR1; have HR2 := Lib.hid hR2
  have hdn : (d : Int) ≠ 0 := by omega
  have HD0 := Lib.hid hd0; have HW := Lib.hid hW
  have HD := Lib.hid hd; have HA := Lib.hid ha
  clear hR1 hR2 hW hd0 hd ha
  go_enter Tryz.func35, Tryz.ntmps35
  go_wp2
  go_loopw [8, 9, 10] (fun s t i wr => ∃ (k q r : Nat), k ≤ 54 ∧ s = .int .i64 (q : Int) ∧ t = .int .i64 (r : Int) ∧ i = .int .i64 ((k : Int) - 1) ∧ Hid (q * d + r = a / 2 ^ k * W ∧ r < d) ∧ w = wr) (fun s t i _ => (intOf i + 1).toNat)
  case atStart => exact ⟨54, 0, 0, by omega, rfl, rfl, rfl, Lib.hid ⟨by
    have : a / 2 ^ 54 = 0 := Nat.div_eq_of_lt (by have := HA.out; omega)
    rw [this]; omega, HD0.out⟩, rfl⟩
  case round =>
    obtain ⟨k, q, r, hk, rfl, rfl, rfl, HI, rfl⟩ := hrel
    by_cases hk0 : 0 < k
    · obtain ⟨s, rfl⟩ : ∃ s, k = s + 1 := ⟨k - 1, by omega⟩
      have es : (((s + 1 : Nat) : Int) - 1) = (s : Int) := by omega
      rw [es]
      have hlt2 : (0 : Int) ≤ (s : Int) := by omega
      obtain ⟨A, hA⟩ : ∃ A : Nat, a / 2 ^ s = A := ⟨_, rfl⟩
      have eA : ((a : Int) / 2 ^ s) = (A : Int) := by
        rw [← hA]
        push_cast
        rfl
      have r0 := HI.out.2
      have hdd := HD.out; have hww := HW.out; have haa := HA.out; have hd1 := HD0.out
      have hs63 : s < 64 := by omega
      have hq := muldiv_q HD0.out HW.out HI.out
      have w1 : IntKind.i64.wrap (2 * (r : Int)) = 2 * (r : Int) := wrap_in (by omega) (by omega)
      rcases Nat.mod_two_eq_zero_or_one A with hb | hb
      · have tb : ((A : Int).tmod 2 == 1) = false := by
          rw [Int.tmod_eq_emod_of_nonneg (by omega)]
          have : (A : Int) % 2 = 0 := by omega
          rw [this]; rfl
        have tb' : ((A : Int) % 2 == 1) = false := by
          have : (A : Int) % 2 = 0 := by omega
          rw [this]; rfl
        have hst := muldiv_step (b := 0) HD0.out HW.out HI.out (by rw [hA, hb])
        rw [Nat.zero_mul, Nat.add_zero] at hst
        obtain ⟨B, hB⟩ : ∃ B, 2 * r = B := ⟨_, rfl⟩
        rw [hB] at hst
        have e1 : IntKind.i64.wrap (2 * (r : Int)) = (B : Int) := by rw [w1, ← hB]; omega
        have hqq := muldiv_q HD0.out HW.out hst
        obtain ⟨Q, hQ⟩ : ∃ Q, B / d = Q := ⟨_, rfl⟩
        obtain ⟨M, hM⟩ : ∃ M, B % d = M := ⟨_, rfl⟩
        rw [hQ, hM] at hst
        rw [hQ] at hqq
        have e2 : IntKind.i64.wrap ((B : Int).tdiv (d : Int)) = (Q : Int) := by
          rw [tdiv_bnd ⟨by omega, by omega⟩ (by omega), Int.tdiv_eq_ediv_of_nonneg (by omega), ← hQ]; rfl
        have e3 : IntKind.i64.wrap ((B : Int).tmod (d : Int)) = (M : Int) := by
          rw [tmod_bnd ⟨by omega, by omega⟩ (by omega), Int.tmod_eq_emod_of_nonneg (by omega), ← hM]; rfl
        have e3' : (B : Int) % (d : Int) = (M : Int) := by rw [← hM]; rfl
        have e4 : IntKind.i64.wrap (2 * (q : Int)) = 2 * (q : Int) := wrap_in (by omega) (by omega)
        have e5 : IntKind.i64.wrap (2 * (q : Int) + (Q : Int)) = 2 * (q : Int) + (Q : Int) := wrap_in (by omega) (by omega)
        have E3 := Lib.hid e3'
        have EQ : Hid (wrap64 (2 * (q : Int) + wrap64 ((B : Int) / (d : Int))) = ((2 * q + Q : Nat) : Int)) := Lib.hid (by
          rw [Int.tdiv_eq_ediv_of_nonneg (by omega)] at e2
          have e7 : ∀ x, wrap64 x = IntKind.i64.wrap x := fun x => by unfold wrap64; exact (IntKind.wrap_i64 x).symm
          rw [e7, e7, e2, e5]; omega)
        clear e2 e3 e3'
        have HI2 : Hid ((2 * q + Q) * d + M = a / 2 ^ s * W ∧ M < d) := Lib.hid hst
        have e6 := e1
        clear HI hst hA r0 w1 hB hQ hM hqq hq hb hdd hww haa hd1
        go_wp2
        go_roundw
        case rel => exact ⟨s, 2 * q + Q, M, by omega, congrArg (Value.int IntKind.i64) EQ.out, congrArg (Value.int IntKind.i64) E3.out, by go_num, HI2, trivial⟩
        case measure => simp [intOf] <;> omega
      · have tb : ((A : Int).tmod 2 == 1) = true := by
          rw [Int.tmod_eq_emod_of_nonneg (by omega)]
          have : (A : Int) % 2 = 1 := by omega
          rw [this]; rfl
        have tb' : ((A : Int) % 2 == 1) = true := by
          have : (A : Int) % 2 = 1 := by omega
          rw [this]; rfl
        have hst := muldiv_step (b := 1) HD0.out HW.out HI.out (by rw [hA, hb])
        rw [Nat.one_mul] at hst
        obtain ⟨B, hB⟩ : ∃ B, 2 * r + W = B := ⟨_, rfl⟩
        rw [hB] at hst
        have e0 : IntKind.i64.wrap (2 * (r : Int) + (W : Int)) = (B : Int) := by rw [wrap_in (by omega) (by omega), ← hB]; omega
        have hqq := muldiv_q HD0.out HW.out hst
        obtain ⟨Q, hQ⟩ : ∃ Q, B / d = Q := ⟨_, rfl⟩
        obtain ⟨M, hM⟩ : ∃ M, B % d = M := ⟨_, rfl⟩
        rw [hQ, hM] at hst
        rw [hQ] at hqq
        have e2 : IntKind.i64.wrap ((B : Int).tdiv (d : Int)) = (Q : Int) := by
          rw [tdiv_bnd ⟨by omega, by omega⟩ (by omega), Int.tdiv_eq_ediv_of_nonneg (by omega), ← hQ]; rfl
        have e3 : IntKind.i64.wrap ((B : Int).tmod (d : Int)) = (M : Int) := by
          rw [tmod_bnd ⟨by omega, by omega⟩ (by omega), Int.tmod_eq_emod_of_nonneg (by omega), ← hM]; rfl
        have e3' : (B : Int) % (d : Int) = (M : Int) := by rw [← hM]; rfl
        have e4 : IntKind.i64.wrap (2 * (q : Int)) = 2 * (q : Int) := wrap_in (by omega) (by omega)
        have e5 : IntKind.i64.wrap (2 * (q : Int) + (Q : Int)) = 2 * (q : Int) + (Q : Int) := wrap_in (by omega) (by omega)
        have E3 := Lib.hid e3'
        have EQ : Hid (wrap64 (2 * (q : Int) + wrap64 ((B : Int) / (d : Int))) = ((2 * q + Q : Nat) : Int)) := Lib.hid (by
          rw [Int.tdiv_eq_ediv_of_nonneg (by omega)] at e2
          have e7 : ∀ x, wrap64 x = IntKind.i64.wrap x := fun x => by unfold wrap64; exact (IntKind.wrap_i64 x).symm
          rw [e7, e7, e2, e5]; omega)
        clear e2 e3 e3'
        have HI2 : Hid ((2 * q + Q) * d + M = a / 2 ^ s * W ∧ M < d) := Lib.hid hst
        clear HI hst hA r0 hB hQ hM hqq hq hb hdd hww haa hd1
        go_wp2
        go_roundw
        case rel => exact ⟨s, 2 * q + Q, M, by omega, congrArg (Value.int IntKind.i64) EQ.out, congrArg (Value.int IntKind.i64) E3.out, by go_num, HI2, trivial⟩
        case measure => simp [intOf] <;> omega
    · obtain rfl : k = 0 := by omega
      have hlt2 : ¬ ((0 : Int) ≤ ((0 : Nat) : Int) - 1) := by omega
      obtain ⟨h1, h2⟩ := HI.out
      rw [Nat.pow_zero, Nat.div_one] at h1
      have hq : a * W / d = q ∧ a * W % d = r := by
        rw [← h1, Nat.mul_comm q d]
        exact ⟨by rw [Nat.mul_add_div HD0.out, Nat.div_eq_of_lt h2, Nat.add_zero], by rw [Nat.mul_add_mod, Nat.mod_eq_of_lt h2]⟩
      have HQ := Lib.hid hq
      clear h1 h2 hq HI
      go_wp2
      go_ret2
      exact ⟨retP (by rw [← HR1.out, ← HR2.out, HQ.out.1, HQ.out.2]; exact ⟨rfl, rfl⟩), rfl⟩
end Go.Proofs.YtempnbchiofghaaGreatDoor
