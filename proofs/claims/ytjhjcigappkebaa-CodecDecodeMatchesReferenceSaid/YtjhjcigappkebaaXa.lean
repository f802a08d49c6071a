/-
  Walk of the reference: readInt.
-/
import Derived.Test.YtjhjcigappkebaaRi
import Derived.Test.YtjhjcigappkebaaBy
import Derived.Test.YtjhjcigappkebaaMc
namespace Go.Proofs.Ytjhjcigappkebaa
set_option linter.unusedSimpArgs false
set_option linter.unusedVariables false
open Go.RowKit

/-- What a reading function of the reference returns. -/
def RvOf (b : List Int) (w : World) (r : Except Int (T × List Int)) (e : Ending) (w' : World) : Prop :=
  Below w.heap.size w w' ∧ match r with
  | .ok (t, rest) => ∃ (a2 : Option Addr) (c2 : Nat) (a3 : Option Addr) (c3 : Nat) (q : Nat), e = .returned (.tuple #[.agg #[.int .i64 t.kind, .int .i64 t.num, .slice a2 t.bs.length c2, .slice a3 t.els.length c3], .int .i64 q, .int .i64 0]) ∧ Rd (fresh w w') w' t (.agg #[.int .i64 t.kind, .int .i64 t.num, .slice a2 t.bs.length c2, .slice a3 t.els.length c3]) ∧ q ≤ b.length ∧ b.drop q = rest
  | .error c => ∃ x : Int, e = .returned (.tuple #[.agg #[.int .i64 0, .int .i64 0, .slice none 0 0, .slice none 0 0], .int .i64 x, .int .i64 c])

theorem drop_nil_le {b : List Int} {q : Nat} (h : b.drop q = []) : b.length ≤ q := List.drop_eq_nil_iff.1 h

set_option maxRecDepth 100000 in
set_option maxHeartbeats 2000000 in
theorem rint_false (b : List Int) (va : Option Addr) (vc : Nat) (w : World) (hb : Bs (fun k => k < w.heap.size) w (.slice va b.length vc) b) (hlen : b.length ≤ 65536) (p k : Nat) (hp : p ≤ b.length) (hk : k ≤ 8) (m : Int) (hm : m = 32 + (k : Int)) (R : Except Int (T × List Int)) (hR : (match pInt (k == 8) false k true 0 (b.drop p) with | .ok (n, r) => .ok (.mk 1 n [] [], r) | .error e => .error e) = R) :
    Calls Try.prog 54 #[.slice va b.length vc, .int .i64 p, .int .i64 m] w (RvOf b w R) := by
  generalize hr : pInt (k == 8) false k true 0 (b.drop p) = r at hR
  have HR := Lib.hid hR; clear hR
  have Hr := Lib.hid hr; clear hr
  have HBS := Lib.hid hb; clear hb
  have hm1 : decide (m < 32) = false := decide_eq_false (by omega)
  have hm2 : m - 32 = (k : Int) := by omega
  have hm3 : 23 ≤ m ∧ m ≤ 40 := by omega
  have HM := Lib.hid hm; clear hm
  go_enter Try.func54, Try.ntmps54
  go_wp2_with fail
  clear hm2
  have HW := Lib.hid (ball (Below.refl _ _) (.cells #[.int .i64 0, .int .i64 0, .slice none 0 0, .slice none 0 0] 25) : Below w.heap.size w _)
  go_loopw [1, 10, 11] (fun pp nn ii wr => ∃ (j q : Nat) (acc : Int), j ≤ k ∧ q ≤ b.length ∧ pp = .int .i64 q ∧ nn = .int .i64 acc ∧ ii = .int .i64 j ∧ Hid (0 ≤ acc ∧ acc < bnd k j ∧ pInt (k == 8) false (k - j) (j == 0) acc (b.drop q) = r) ∧ wr = w.alloc (.cells #[.int .i64 0, .int .i64 0, .slice none 0 0, .slice none 0 0] 25)) (fun _ _ ii _ => k - (intOf ii).toNat)
  case atStart => exact ⟨0, p, 0, Nat.zero_le _, hp, rfl, rfl, rfl, Lib.hid ⟨Int.le_refl _, by unfold bnd; omega, Hr.out⟩, rfl⟩
  case round =>
    obtain ⟨j, q, acc, hj, hq, rfl, rfl, rfl, hrel, rfl⟩ := hrel
    have ha0 := hrel.out.1
    by_cases hlt : j < k
    · have hkj : k - j = (k - j - 1) + 1 := by omega
      obtain ⟨_, hB⟩ := bnd_le k j hk hlt
      have ha1 := hrel.out.2.1
      have hpi := hrel.out.2.2
      rw [hkj] at hpi
      cases hd : b.drop q with
      | nil =>
        have hge : b.length ≤ q := drop_nil_le hd
        rw [hd] at hpi
        have he : Except.error 5 = r := hpi
        have HE := Lib.hid he; clear he hpi hd hkj hrel ha1 hB
        go_wp2_with fail
        refine bodyPost_ret (v := .tuple #[.agg #[.int .i64 0, .int .i64 0, .slice none 0 0, .slice none 0 0], .int .i64 q, .int .i64 5]) (by simp [results, Try.results54, go_sem]) rfl ⟨?_, ?_⟩
        · exact ball (Below.refl _ _) _
        · rw [← HR.out, ← HE.out]; exact ⟨_, rfl⟩
      | cons x rest =>
        obtain ⟨hql, hxe, hdr⟩ := drop_cons hd
        obtain ⟨g, off, cap, hv, hcap, hg, hcell⟩ := HBS.out.at (by omega)
        simp only [Value.slice.injEq] at hv
        obtain ⟨rfl, hLL, rfl⟩ := hv
        clear hLL
        have hx01 := HBS.out.2.1 x (by rw [← hxe]; exact List.getElem_mem hql)
        obtain ⟨hx0, hx1⟩ := hx01
        have c0 := (HW.out.cell (p := ⟨g, off + q, none⟩) hg).trans (hcell q x (by rw [List.getElem?_eq_getElem hql, hxe]))
        have hwx : IntKind.i64.wrap x = x := IntWalk.i64_in _ (by omega)
        rw [hd] at hpi
        simp only [pInt] at hpi
        change (if ((j == 0) && (x == 0 || ((k == 8) && decide (127 < x)))) = true then _ else pInt (k == 8) false (k - j - 1) false (acc * 256 + x) rest) = r at hpi
        have hc01 : 0 ≤ x ∧ x ≤ 255 := ⟨hx0, hx1⟩
        have HPI := Lib.hid hpi; have HDR := Lib.hid hdr; have HA1 := Lib.hid ha1
        have hb1 : acc * 256 + x ≤ 9223372036854775807 := by omega
        have hlt2 : (j : Int) < (k : Int) := by omega
        clear hpi hdr hd hkj hrel hcell hxe ha1 hlt
        by_cases hj0 : j = 0
        · subst hj0
          have hacc : acc = 0 := by have h := HA1.out; unfold bnd at h; omega
          have HACC := Lib.hid hacc; clear hacc
          by_cases hz : x = 0
          · have t0 : (x == 0) = true := by simpa using hz
            have Hz := Lib.hid hz; clear hz
            go_wp2_with fail
            refine bodyPost_ret (v := .tuple #[.agg #[.int .i64 0, .int .i64 0, .slice none 0 0, .slice none 0 0], .int .i64 q, .int .i64 4]) (by simp [results, Try.results54, go_sem]) rfl ⟨?_, ?_⟩
            · exact ball (Below.refl _ _) _
            · have hpi := HPI.out
              rw [if_pos (by simp [Hz.out])] at hpi
              rw [← HR.out, ← hpi]; exact ⟨_, rfl⟩
          · have t0 : (x == 0) = false := by simpa using hz
            by_cases h8 : k = 8
            · have t8 : ((k : Int) == 8) = true := by rw [h8]; rfl
              have H8 := Lib.hid h8; have Hz := Lib.hid hz; clear h8 hz
              by_cases h127 : 127 < x
              · skip
                go_wp2_with fail
                refine bodyPost_ret (v := .tuple #[.agg #[.int .i64 0, .int .i64 0, .slice none 0 0, .slice none 0 0], .int .i64 q, .int .i64 4]) (by simp [results, Try.results54, go_sem]) rfl ⟨?_, ?_⟩
                · exact ball (Below.refl _ _) _
                · have hpi := HPI.out
                  rw [if_pos (by simp [H8.out, h127])] at hpi
                  rw [← HR.out, ← hpi]; exact ⟨_, rfl⟩
              · skip
                go_wp2_with fail
                go_roundw
                case rel =>
                  refine ⟨0 + 1, q + 1, acc * 256 + x, by omega, by omega, by go_num, rfl, by go_num, Lib.hid ⟨by omega, ?_, ?_⟩, trivial⟩
                  · rw [HACC.out, H8.out]; simp [bnd]; omega
                  · have hpi := HPI.out
                    rw [if_neg (by simp [Hz.out, h127])] at hpi
                    rw [HDR.out, show k - (0 + 1) = k - 0 - 1 from by omega, show (0 + 1 == 0) = false from by simp]
                    exact hpi
                case measure => simp [intOf]; omega
            · have t8 : ((k : Int) == 8) = false := by rw [beq_eq_false_iff_ne]; omega
              have H8 := Lib.hid h8; have Hz := Lib.hid hz; clear h8 hz
              go_wp2_with fail
              go_roundw
              case rel =>
                refine ⟨0 + 1, q + 1, acc * 256 + x, by omega, by omega, by go_num, rfl, by go_num, Lib.hid ⟨by omega, ?_, ?_⟩, trivial⟩
                · rw [HACC.out]; simp [bnd, H8.out]; omega
                · have hpi := HPI.out
                  rw [if_neg (by simp [Hz.out, H8.out])] at hpi
                  rw [HDR.out, show k - (0 + 1) = k - 0 - 1 from by omega, show (0 + 1 == 0) = false from by simp]
                  exact hpi
              case measure => simp [intOf]; omega
        · have tj : ((j : Int) == 0) = false := by rw [beq_eq_false_iff_ne]; omega
          have HJ := Lib.hid hj0; clear hj0
          go_wp2_with fail
          go_roundw
          case rel =>
            refine ⟨j + 1, q + 1, acc * 256 + x, by omega, by omega, by go_num, rfl, by go_num, Lib.hid ⟨by omega, ?_, ?_⟩, trivial⟩
            · have h := HA1.out; have h0 := HJ.out; obtain ⟨m, rfl⟩ : ∃ m, j = m + 1 := ⟨j - 1, by omega⟩; simp only [bnd]; omega
            · have hpi := HPI.out
              rw [if_neg (by simp [HJ.out])] at hpi
              rw [HDR.out, show k - (j + 1) = k - j - 1 from by omega, show (j + 1 == 0) = false from by simp]
              exact hpi
          case measure => simp [intOf]; omega
    · have hj' : j = k := by omega
      subst hj'
      have hrr := hrel.out.2.2
      rw [Nat.sub_self] at hrr
      simp only [pInt] at hrr
      have HRR := Lib.hid hrr; clear hrr
      have hbb := bnd_top j hk acc hrel.out.2.1
      have hlt2 : ¬ ((j : Int) < (j : Int)) := by omega
      clear hlt hrel
      go_wp2_with fail
      refine bodyPost_ret (v := .tuple #[.agg #[.int .i64 1, .int .i64 (acc), .slice none 0 0, .slice none 0 0], .int .i64 q, .int .i64 0]) (by simp [results, Try.results54, go_sem]) rfl ⟨?_, ?_⟩
      · exact ball (Below.refl _ _) _
      · rw [← HR.out, ← HRR.out]
        exact ⟨none, 0, none, 0, q, rfl, Rd.int _ (by unfold I64; omega), hq, rfl⟩

set_option maxRecDepth 100000 in
set_option maxHeartbeats 2000000 in
theorem rint_true (b : List Int) (va : Option Addr) (vc : Nat) (w : World) (hb : Bs (fun k => k < w.heap.size) w (.slice va b.length vc) b) (hlen : b.length ≤ 65536) (p k : Nat) (hp : p ≤ b.length) (hk : k ≤ 8) (m : Int) (hm : m = 31 - (k : Int)) (R : Except Int (T × List Int)) (hR : (match pInt (k == 8) true k true 0 (b.drop p) with | .ok (n, r) => .ok (.mk 1 (-1 - n) [] [], r) | .error e => .error e) = R) :
    Calls Try.prog 54 #[.slice va b.length vc, .int .i64 p, .int .i64 m] w (RvOf b w R) := by
  generalize hr : pInt (k == 8) true k true 0 (b.drop p) = r at hR
  have HR := Lib.hid hR; clear hR
  have Hr := Lib.hid hr; clear hr
  have HBS := Lib.hid hb; clear hb
  have hm1 : decide (m < 32) = true := decide_eq_true (by omega)
  have hm2 : 31 - m = (k : Int) := by omega
  have hm3 : 23 ≤ m ∧ m ≤ 40 := by omega
  have HM := Lib.hid hm; clear hm
  go_enter Try.func54, Try.ntmps54
  go_wp2_with fail
  clear hm2
  have HW := Lib.hid (ball (Below.refl _ _) (.cells #[.int .i64 0, .int .i64 0, .slice none 0 0, .slice none 0 0] 25) : Below w.heap.size w _)
  go_loopw [1, 10, 11] (fun pp nn ii wr => ∃ (j q : Nat) (acc : Int), j ≤ k ∧ q ≤ b.length ∧ pp = .int .i64 q ∧ nn = .int .i64 acc ∧ ii = .int .i64 j ∧ Hid (0 ≤ acc ∧ acc < bnd k j ∧ pInt (k == 8) true (k - j) (j == 0) acc (b.drop q) = r) ∧ wr = w.alloc (.cells #[.int .i64 0, .int .i64 0, .slice none 0 0, .slice none 0 0] 25)) (fun _ _ ii _ => k - (intOf ii).toNat)
  case atStart => exact ⟨0, p, 0, Nat.zero_le _, hp, rfl, rfl, rfl, Lib.hid ⟨Int.le_refl _, by unfold bnd; omega, Hr.out⟩, rfl⟩
  case round =>
    obtain ⟨j, q, acc, hj, hq, rfl, rfl, rfl, hrel, rfl⟩ := hrel
    have ha0 := hrel.out.1
    by_cases hlt : j < k
    · have hkj : k - j = (k - j - 1) + 1 := by omega
      obtain ⟨_, hB⟩ := bnd_le k j hk hlt
      have ha1 := hrel.out.2.1
      have hpi := hrel.out.2.2
      rw [hkj] at hpi
      cases hd : b.drop q with
      | nil =>
        have hge : b.length ≤ q := drop_nil_le hd
        rw [hd] at hpi
        have he : Except.error 5 = r := hpi
        have HE := Lib.hid he; clear he hpi hd hkj hrel ha1 hB
        go_wp2_with fail
        refine bodyPost_ret (v := .tuple #[.agg #[.int .i64 0, .int .i64 0, .slice none 0 0, .slice none 0 0], .int .i64 q, .int .i64 5]) (by simp [results, Try.results54, go_sem]) rfl ⟨?_, ?_⟩
        · exact ball (Below.refl _ _) _
        · rw [← HR.out, ← HE.out]; exact ⟨_, rfl⟩
      | cons x rest =>
        obtain ⟨hql, hxe, hdr⟩ := drop_cons hd
        obtain ⟨g, off, cap, hv, hcap, hg, hcell⟩ := HBS.out.at (by omega)
        simp only [Value.slice.injEq] at hv
        obtain ⟨rfl, hLL, rfl⟩ := hv
        clear hLL
        have hx01 := HBS.out.2.1 x (by rw [← hxe]; exact List.getElem_mem hql)
        obtain ⟨hx0, hx1⟩ := hx01
        have c0 := (HW.out.cell (p := ⟨g, off + q, none⟩) hg).trans (hcell q x (by rw [List.getElem?_eq_getElem hql, hxe]))
        have hwx : IntKind.i64.wrap x = x := IntWalk.i64_in _ (by omega)
        rw [hd] at hpi
        simp only [pInt] at hpi
        change (if ((j == 0) && ((255 - x) == 0 || ((k == 8) && decide (127 < 255 - x)))) = true then _ else pInt (k == 8) true (k - j - 1) false (acc * 256 + (255 - x)) rest) = r at hpi
        obtain ⟨c, hc⟩ : ∃ c, c = 255 - x := ⟨_, rfl⟩
        rw [← hc] at hpi
        have hc2 : 255 - x = c := hc.symm
        have hc01 : 0 ≤ c ∧ c ≤ 255 := by omega
        have HCX := Lib.hid hc; clear hc
        have HPI := Lib.hid hpi; have HDR := Lib.hid hdr; have HA1 := Lib.hid ha1
        have hb1 : acc * 256 + c ≤ 9223372036854775807 := by omega
        have hlt2 : (j : Int) < (k : Int) := by omega
        clear hpi hdr hd hkj hrel hcell hxe ha1 hlt
        by_cases hj0 : j = 0
        · subst hj0
          have hacc : acc = 0 := by have h := HA1.out; unfold bnd at h; omega
          have HACC := Lib.hid hacc; clear hacc
          by_cases hz : c = 0
          · have t0 : (c == 0) = true := by simpa using hz
            have Hz := Lib.hid hz; clear hz
            go_wp2_with fail
            refine bodyPost_ret (v := .tuple #[.agg #[.int .i64 0, .int .i64 0, .slice none 0 0, .slice none 0 0], .int .i64 q, .int .i64 4]) (by simp [results, Try.results54, go_sem]) rfl ⟨?_, ?_⟩
            · exact ball (Below.refl _ _) _
            · have hpi := HPI.out
              rw [if_pos (by simp [Hz.out])] at hpi
              rw [← HR.out, ← hpi]; exact ⟨_, rfl⟩
          · have t0 : (c == 0) = false := by simpa using hz
            by_cases h8 : k = 8
            · have t8 : ((k : Int) == 8) = true := by rw [h8]; rfl
              have H8 := Lib.hid h8; have Hz := Lib.hid hz; clear h8 hz
              by_cases h127 : 127 < c
              · skip
                go_wp2_with fail
                refine bodyPost_ret (v := .tuple #[.agg #[.int .i64 0, .int .i64 0, .slice none 0 0, .slice none 0 0], .int .i64 q, .int .i64 4]) (by simp [results, Try.results54, go_sem]) rfl ⟨?_, ?_⟩
                · exact ball (Below.refl _ _) _
                · have hpi := HPI.out
                  rw [if_pos (by simp [H8.out, h127])] at hpi
                  rw [← HR.out, ← hpi]; exact ⟨_, rfl⟩
              · skip
                go_wp2_with fail
                go_roundw
                case rel =>
                  refine ⟨0 + 1, q + 1, acc * 256 + c, by omega, by omega, by go_num, rfl, by go_num, Lib.hid ⟨by omega, ?_, ?_⟩, trivial⟩
                  · rw [HACC.out, H8.out]; simp [bnd]; omega
                  · have hpi := HPI.out
                    rw [if_neg (by simp [Hz.out, h127])] at hpi
                    rw [HDR.out, show k - (0 + 1) = k - 0 - 1 from by omega, show (0 + 1 == 0) = false from by simp]
                    exact hpi
                case measure => simp [intOf]; omega
            · have t8 : ((k : Int) == 8) = false := by rw [beq_eq_false_iff_ne]; omega
              have H8 := Lib.hid h8; have Hz := Lib.hid hz; clear h8 hz
              go_wp2_with fail
              go_roundw
              case rel =>
                refine ⟨0 + 1, q + 1, acc * 256 + c, by omega, by omega, by go_num, rfl, by go_num, Lib.hid ⟨by omega, ?_, ?_⟩, trivial⟩
                · rw [HACC.out]; simp [bnd, H8.out]; omega
                · have hpi := HPI.out
                  rw [if_neg (by simp [Hz.out, H8.out])] at hpi
                  rw [HDR.out, show k - (0 + 1) = k - 0 - 1 from by omega, show (0 + 1 == 0) = false from by simp]
                  exact hpi
              case measure => simp [intOf]; omega
        · have tj : ((j : Int) == 0) = false := by rw [beq_eq_false_iff_ne]; omega
          have HJ := Lib.hid hj0; clear hj0
          go_wp2_with fail
          go_roundw
          case rel =>
            refine ⟨j + 1, q + 1, acc * 256 + c, by omega, by omega, by go_num, rfl, by go_num, Lib.hid ⟨by omega, ?_, ?_⟩, trivial⟩
            · have h := HA1.out; have h0 := HJ.out; obtain ⟨m, rfl⟩ : ∃ m, j = m + 1 := ⟨j - 1, by omega⟩; simp only [bnd]; omega
            · have hpi := HPI.out
              rw [if_neg (by simp [HJ.out])] at hpi
              rw [HDR.out, show k - (j + 1) = k - j - 1 from by omega, show (j + 1 == 0) = false from by simp]
              exact hpi
          case measure => simp [intOf]; omega
    · have hj' : j = k := by omega
      subst hj'
      have hrr := hrel.out.2.2
      rw [Nat.sub_self] at hrr
      simp only [pInt] at hrr
      have HRR := Lib.hid hrr; clear hrr
      have hbb := bnd_top j hk acc hrel.out.2.1
      have hlt2 : ¬ ((j : Int) < (j : Int)) := by omega
      clear hlt hrel
      have hng : -acc - 1 = -1 - acc := by omega
      go_wp2_with fail
      refine bodyPost_ret (v := .tuple #[.agg #[.int .i64 1, .int .i64 (-1 - acc), .slice none 0 0, .slice none 0 0], .int .i64 q, .int .i64 0]) (by simp [results, Try.results54, go_sem]) rfl ⟨?_, ?_⟩
      · exact ball (Below.refl _ _) _
      · rw [← HR.out, ← HRR.out]
        exact ⟨none, 0, none, 0, q, rfl, Rd.int _ (by unfold I64; omega), hq, rfl⟩
end Go.Proofs.Ytjhjcigappkebaa
