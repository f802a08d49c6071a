/-
  Walks: the reader's integer.
-/
import Derived.Test.YtjhjcigappkebaaRa
import Derived.Test.YtjhjcigappkebaaPa
namespace Go.Proofs.Ytjhjcigappkebaa
open Go.RowKit

/-- Block R is a reader of the bytes b, at byte p; the bytes lie below block B. -/
structure Rs (B : Nat) (w : World) (R : Nat) (vb : Value) (b : List Int) (p : Nat) (deep : Int) : Prop where
  rdr : Rdr w R vb p deep
  bs : Bs (fun k => k < B) w vb b
  le : p ≤ b.length
  base : B ≤ R

theorem Rs.lt {B : Nat} {w : World} {R : Nat} {vb : Value} {b : List Int} {p : Nat} {deep : Int} (h : Rs B w R vb b p deep) : R < w.heap.size := h.rdr.cells.2.2.2.2

theorem Rs.moved {B : Nat} {w w' : World} {R : Nat} {vb : Value} {b : List Int} {p q : Nat} {deep deep' : Int} (h : Rs B w R vb b p deep) (hg : w.grownBy w' (some R)) (hr : Rdr w' R vb q deep') (hq : q ≤ b.length) : Rs B w' R vb b q deep' := by
  have := h.lt
  have := h.base
  exact ⟨hr, h.bs.kept (fun k hk => hg.block k (by omega) (fun e => by simp at e; omega)) (fun k hk => hk), hq, h.base⟩

/-- The reader stays while a row above block R grows. -/
theorem Rs.kept {B : Nat} {w w' : World} {R : Nat} {vb : Value} {b : List Int} {p : Nat} {deep : Int} {r : Option Nat} (h : Rs B w R vb b p deep) (hg : w.grownBy w' r) (hr : ∀ k, r = some k → R < k) : Rs B w' R vb b p deep := by
  have hR := h.lt
  have hB := h.base
  exact ⟨h.rdr.kept (hg.block R hR (fun e => by have := hr R e.symm; omega)), h.bs.kept (fun k hk => hg.block k (by omega) (fun e => by have := hr k e.symm; omega)) (fun k hk => hk), h.le, h.base⟩

theorem grow3 {a b c : World} {r r' : Option Nat} (h : a.grownBy b r) (k : b.grownBy c r') (hr : ∀ g, r' = some g → a.heap.size ≤ g) : a.grownBy c r := by
  refine ⟨k.os.trans h.os, k.tape.trans h.tape, k.output.trans h.output, Nat.le_trans h.size k.size, fun i hi hne => ?_⟩
  exact (k.block i (Nat.lt_of_lt_of_le hi h.size) (fun e => by have := hr i e.symm; omega)).trans (h.block i hi hne)

theorem drop_cons {b : List Int} {p : Nat} {x : Int} {rest : List Int} (h : b.drop p = x :: rest) : ∃ hp : p < b.length, b[p] = x ∧ b.drop (p + 1) = rest := by
  have hp : p < b.length := by
    rcases Nat.lt_or_ge p b.length with h' | h'
    · exact h'
    · rw [List.drop_eq_nil_of_le h'] at h; cases h
  rw [List.drop_eq_getElem_cons hp] at h
  injection h with h1 h2
  exact ⟨hp, h1, h2⟩

theorem next_ok (B : Nat) (w : World) (R : Nat) (vb : Value) (b : List Int) (p : Nat) (deep x : Int) (rest : List Int) (h : Rs B w R vb b p deep) (hd : b.drop p = x :: rest) :
    Calls Try.prog 43 #[.pointer (some ⟨R, 0, none⟩)] w fun e w' => e = .returned (.int .u8 x) ∧ Rs B w' R vb b (p + 1) deep ∧ w.grownBy w' (some R) := by
  obtain ⟨hp, hx, _⟩ := drop_cons hd
  obtain ⟨g, off, cap, rfl, _, _, hc⟩ := h.bs.at (by omega)
  refine (next_some R b.length cap g off p deep x w h.rdr h.bs.1 hp (hc p x (by rw [List.getElem?_eq_getElem hp, hx]))).mono ?_
  rintro e w' ⟨rfl, h1, h2⟩
  exact ⟨rfl, h.moved h2 h1 (by omega), h2⟩

theorem next_end (B : Nat) (w : World) (R : Nat) (vb : Value) (b : List Int) (p : Nat) (deep : Int) (h : Rs B w R vb b p deep) (hd : b.drop p = []) :
    Calls Try.prog 43 #[.pointer (some ⟨R, 0, none⟩)] w fun e w' => e = failure 5 ∧ w.grownBy w' (some R) := by
  have hp : p = b.length := by
    have := h.le
    have h2 := List.drop_eq_nil_iff.1 hd
    omega
  obtain ⟨_, _, a, cap, rfl, _, _⟩ := h.bs
  subst hp
  exact next_none R b.length cap a deep w h.rdr

theorem range_of_drop {B : Nat} {w : World} {R : Nat} {vb : Value} {b : List Int} {p : Nat} {deep x : Int} {rest : List Int} (h : Rs B w R vb b p deep) (hd : b.drop p = x :: rest) : 0 ≤ x ∧ x ≤ 255 := by
  obtain ⟨hp, hx, _⟩ := drop_cons hd
  exact h.bs.2.1 x (by rw [← hx]; exact List.getElem_mem hp)

/-- What a reading function does, that leaves deepest as it was: its value, or the panic. -/
def ReadOf {α : Type} (B : Nat) (w : World) (R : Nat) (vb : Value) (b : List Int) (deep : Int) (val : World → Value → α → Prop) (r : Except Int (α × List Int)) (e : Ending) (w' : World) : Prop :=
  w.grownBy w' (some R) ∧ match r with
  | .ok (x, rest) => ∃ v q, e = .returned v ∧ val w' v x ∧ b.drop q = rest ∧ Rs B w' R vb b q deep
  | .error c => e = failure c

theorem ReadOf.trans {α : Type} {B : Nat} {w w1 : World} {R : Nat} {vb : Value} {b : List Int} {deep : Int} {val : World → Value → α → Prop} {r : Except Int (α × List Int)} {e : Ending} {w' : World} (hg : w.grownBy w1 (some R)) (h : ReadOf B w1 R vb b deep val r e w') : ReadOf B w R vb b deep val r e w' :=
  ⟨grow2 hg h.1 (Or.inl rfl), h.2⟩

def IntVal (_ : World) (v : Value) (n : Int) : Prop := v = .int .i64 n ∧ 0 ≤ n ∧ n ≤ 9223372036854775807

def flipOf (fl : Bool) (x : Int) : Int := if fl then 255 - x else x
theorem xor_flip (fl : Bool) (x : Int) (h0 : 0 ≤ x) (h1 : x ≤ 255) : bits .xor .u8 x (if fl then 255 else 0) = flipOf fl x := by
  unfold flipOf
  cases fl with
  | true => exact u8_flip255 x h0 h1
  | false => exact u8_flip0 x h0 h1

theorem bnd_top (k : Nat) (hk : k ≤ 8) (acc : Int) (h : acc < bnd k k) : acc ≤ 9223372036854775807 := by
  have hc : k = 0 ∨ k = 1 ∨ k = 2 ∨ k = 3 ∨ k = 4 ∨ k = 5 ∨ k = 6 ∨ k = 7 ∨ k = 8 := by omega
  rcases hc with rfl | rfl | rfl | rfl | rfl | rfl | rfl | rfl | rfl <;> simp [bnd] at h <;> omega

set_option maxHeartbeats 400000 in
theorem integer_any (B : Nat) (w : World) (R : Nat) (vb : Value) (b : List Int) (p k : Nat) (deep flv : Int) (fl : Bool) (h : Rs B w R vb b p deep) (hk : k ≤ 8) (hfl : flv = if fl then 255 else 0) :
    Calls Try.prog 51 #[.pointer (some ⟨R, 0, none⟩), .int .i64 k, .int .u8 flv] w (ReadOf B w R vb b deep IntVal (pInt (k == 8) fl k true 0 (b.drop p))) := by
  have H := Lib.hid h; clear h
  have Hfl := Lib.hid hfl; clear hfl
  generalize hr : pInt (k == 8) fl k true 0 (b.drop p) = r
  have Hr := Lib.hid hr; clear hr
  go_enter Try.func51, Try.ntmps51
  go_wp2_with fail
  go_loopw [6, 12] (fun n i wr => ∃ (j q : Nat) (acc : Int), j ≤ k ∧ i = .int .i64 j ∧ n = .int .i64 acc ∧ Hid (Rs B wr R vb b q deep ∧ w.grownBy wr (some R) ∧ 0 ≤ acc ∧ acc < bnd k j ∧ pInt (k == 8) fl (k - j) (j == 0) acc (b.drop q) = r)) (fun _ i _ => k - (intOf i).toNat)
  case atStart => exact ⟨0, p, 0, Nat.zero_le _, rfl, rfl, H.out, grownRefl _ _, Int.le_refl _, by unfold bnd; omega, Hr.out⟩
  case round =>
    obtain ⟨j, q, acc, hj, rfl, rfl, hrel⟩ := hrel
    by_cases hlt : j < k
    · have hkj : k - j = (k - j - 1) + 1 := by omega
      obtain ⟨_, hB⟩ := bnd_le k j hk hlt
      cases hd : b.drop q with
      | nil =>
        have hc := next_end B wr R vb b q deep hrel.out.1 hd
        have Hc := Lib.hid hc; clear hc
        have he : r = .error 5 := by
          have := hrel.out.2.2.2.2
          rw [hd, hkj] at this
          exact this.symm
        have He := Lib.hid he; clear he
        have G := Lib.hid hrel.out.2.1
        clear hd hkj hB
        go_wp2_with (go_at_call 43; refine Hc.out.mono ?_; rintro e w' ⟨rfl, hq⟩; have Hq := Lib.hid hq; clear hq)
        refine ⟨rfl, grow2 G.out Hq.out (Or.inl rfl), ?_⟩
        rw [He.out]
      | cons x rest =>
        have hc := next_ok B wr R vb b q deep x rest hrel.out.1 hd
        have Hc := Lib.hid hc; clear hc
        obtain ⟨hx0, hx1⟩ := range_of_drop hrel.out.1 hd
        have hxor : bits .xor .u8 x flv = flipOf fl x := by rw [Hfl.out]; exact xor_flip fl x hx0 hx1
        have hc01 : 0 ≤ flipOf fl x ∧ flipOf fl x ≤ 255 := by unfold flipOf; split <;> omega
        obtain ⟨hc0, hc1⟩ := hc01
        have hdr := (drop_cons hd).2.2
        have G := Lib.hid hrel.out.2.1
        have ha0 := hrel.out.2.2.1
        have ha1 := hrel.out.2.2.2.1
        have hpi := hrel.out.2.2.2.2
        rw [hd, hkj] at hpi
        simp only [pInt] at hpi
        change (if ((j == 0) && (flipOf fl x == 0 || ((k == 8) && decide (127 < flipOf fl x)))) = true then _ else pInt (k == 8) fl (k - j - 1) false (acc * 256 + flipOf fl x) rest) = r at hpi
        have Hpi := Lib.hid hpi; clear hpi
        have Hdr := Lib.hid hdr; clear hdr
        generalize hcc : flipOf fl x = c at *
        have Hcc := Lib.hid hcc; clear hcc
        have hshl : IntKind.i64.wrap (acc * 256) = acc * 256 := IntWalk.i64_in _ (by omega)
        have hor : bits .or .i64 (acc * 256) c = acc * 256 + c := i64_join acc c ha0 (by omega) hc0 hc1
        clear hd hkj hrel
        by_cases hj0 : j = 0
        · have ha : acc = 0 := by rw [hj0] at ha1; unfold bnd at ha1; omega
          subst hj0
          by_cases hz : c = 0
          · have t0 : (c == 0) = true := by simpa using hz
            have Hz := Lib.hid hz; clear hz ha
            go_wp2_with (go_at_call 43; refine Hc.out.mono ?_; rintro e w' ⟨rfl, hq⟩; have Hq := Lib.hid hq; clear hq)
            all_goals
              refine ⟨rfl, grow2 G.out Hq.out.2 (Or.inl rfl), ?_⟩
              have := Hpi.out
              rw [if_pos (by simp [Hz.out])] at this
              rw [← this]
          · have t0 : (c == 0) = false := by simpa using hz
            by_cases h8 : k = 8
            · have t8 : ((k : Int) == 8) = true := by rw [h8]; rfl
              by_cases h127 : 127 < c
              · have H8 := Lib.hid h8; clear h8
                clear hz ha
                go_wp2_with (go_at_call 43; refine Hc.out.mono ?_; rintro e w' ⟨rfl, hq⟩; have Hq := Lib.hid hq; clear hq)
                refine ⟨rfl, grow2 G.out Hq.out.2 (Or.inl rfl), ?_⟩
                have := Hpi.out
                rw [if_pos (by simp [H8.out, h127])] at this
                rw [← this]
              · have H8 := Lib.hid h8; clear h8
                have Ha := Lib.hid ha; clear ha
                go_wp2_with (go_at_call 43; refine Hc.out.mono ?_; rintro e w' ⟨rfl, hq⟩; have Hq := Lib.hid hq; clear hq)
                go_roundw
                case rel =>
                  refine ⟨0 + 1, q + 1, acc * 256 + c, by omega, by go_num, rfl, ?_⟩
                  have hpi := Hpi.out
                  rw [if_neg (by simp [hz, h127])] at hpi
                  refine ⟨Hq.out.1, grow2 G.out Hq.out.2 (Or.inl rfl), by omega, ?_, ?_⟩
                  · rw [Ha.out, H8.out]; simp [bnd]; omega
                  · rw [Hdr.out, show k - (0 + 1) = k - 0 - 1 from by omega, show (0 + 1 == 0) = false from by simp]
                    exact hpi
                case measure => simp [intOf]; omega
            · have t8 : ((k : Int) == 8) = false := by rw [beq_eq_false_iff_ne]; omega
              have H8 := Lib.hid h8; clear h8
              have Ha := Lib.hid ha; clear ha
              go_wp2_with (go_at_call 43; refine Hc.out.mono ?_; rintro e w' ⟨rfl, hq⟩; have Hq := Lib.hid hq; clear hq)
              go_roundw
              case rel =>
                refine ⟨0 + 1, q + 1, acc * 256 + c, by omega, by go_num, rfl, ?_⟩
                have hpi := Hpi.out
                rw [if_neg (by simp [hz, H8.out])] at hpi
                refine ⟨Hq.out.1, grow2 G.out Hq.out.2 (Or.inl rfl), by omega, ?_, ?_⟩
                · rw [Ha.out]; simp [bnd, H8.out]; omega
                · rw [Hdr.out, show k - (0 + 1) = k - 0 - 1 from by omega, show (0 + 1 == 0) = false from by simp]
                  exact hpi
              case measure => simp [intOf]; omega
        · have tj : ((j : Int) == 0) = false := by rw [beq_eq_false_iff_ne]; omega
          go_wp2_with (go_at_call 43; refine Hc.out.mono ?_; rintro e w' ⟨rfl, hq⟩; have Hq := Lib.hid hq; clear hq)
          go_roundw
          case rel =>
            refine ⟨j + 1, q + 1, acc * 256 + c, by omega, by go_num, rfl, ?_⟩
            have hpi := Hpi.out
            rw [if_neg (by simp [hj0])] at hpi
            refine ⟨Hq.out.1, grow2 G.out Hq.out.2 (Or.inl rfl), by omega, ?_, ?_⟩
            · obtain ⟨m, rfl⟩ : ∃ m, j = m + 1 := ⟨j - 1, by omega⟩; simp only [bnd]; omega
            · rw [Hdr.out, show k - (j + 1) = k - j - 1 from by omega, show (j + 1 == 0) = false from by simp]
              exact hpi
          case measure => simp [intOf]; omega
    · have hj' : j = k := by omega
      subst hj'
      have hrr := hrel.out.2.2.2.2
      rw [Nat.sub_self] at hrr
      simp only [pInt] at hrr
      have Hrr := Lib.hid hrr; clear hrr
      have ha0 := hrel.out.2.2.1
      have hbb := bnd_top j hk acc hrel.out.2.2.2.1
      go_wp2_with fail
      go_ret
      refine ⟨hrel.out.2.1, ?_⟩
      rw [← Hrr.out]
      exact ⟨_, q, rfl, ⟨rfl, ha0, hbb⟩, rfl, hrel.out.1⟩

end Go.Proofs.Ytjhjcigappkebaa
