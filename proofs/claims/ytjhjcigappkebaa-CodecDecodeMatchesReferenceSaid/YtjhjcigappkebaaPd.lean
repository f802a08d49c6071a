/-
  Bytes under way: slices of the call's own; the reference's digits, integer.
-/
import Derived.Test.YtjhjcigappkebaaNe
import Derived.Test.YtjhjcigappkebaaJa
namespace Go.Proofs.Ytjhjcigappkebaa
set_option linter.unusedVariables false
set_option linter.unusedSimpArgs false
open Go.RowKit

/-- Bytes under way: v holds l, in memory of the call's own. -/
def PdS (w : World) (v : Value) (l : List Int) (wr : World) : Prop := wr.ownsRow w.heap.size 5 1 v l.length (byteVals l) ∧ Below w.heap.size w wr

theorem PdS.len {w : World} {v : Value} {l : List Int} {wr : World} (h : PdS w v l wr) : ∃ a c, v = .slice a l.length c := by
  rcases h.1.2 with ⟨rfl, h0⟩ | ⟨g, cap, cur, rfl, _⟩
  · exact ⟨none, 0, by rw [h0]⟩
  · exact ⟨_, _, rfl⟩

theorem PdS.next {w wk w' : World} {v : Value} {l : List Int} (h : PdS w v l wk) (hb : Below wk.heap.size wk w') : PdS w v l w' :=
  ⟨h.1.kept (row := none) ⟨hb.os, hb.tape, hb.output, hb.size, fun i hi _ => hb.block i hi⟩ (by cases hx : v.ownBlock <;> simp), h.2.trans (hb.mono h.2.size)⟩

theorem PdS.one (w : World) (c : Int) : PdS w (.slice (some ⟨w.heap.size, 0, none⟩) 1 1) [c] (w.alloc (.cells #[.int .u8 c] 5)) :=
  ⟨⟨by simp [byteVals], .inr ⟨w.heap.size, 1, #[.int .u8 c], rfl, Nat.le_refl _, heap_alloc_new w _, Nat.le_refl _, by unfold maxLen; omega, by simp, by simp [byteVals]⟩⟩, ball (Below.refl _ _) _⟩

theorem PdS.push {w wk : World} {v u : Value} {l b : List Int} (h : PdS w v l wk) (F : Nat → Prop) (hu : Bs F wk u b) (hl : l.length + b.length ≤ 140737488355328) :
    ∃ v' w', (Builtin.append_ #[22, 22] 22 #[v, u]).run Try.prog wk = .ok v' w' ∧ PdS w v' (l ++ b) w' := by
  obtain ⟨v', w', hr, hA⟩ := append_run F w.heap.size wk v u l b 22 h.1 hu hl h.2.size
  exact ⟨v', w', hr, hA.own, h.2.grown hA.grown h.2.size (by intro k hk; exact (h.1.lt k hk).1)⟩

theorem PdS.bs {w : World} {v : Value} {l : List Int} {wr : World} (h : PdS w v l wr) (hl : l.length ≤ 140737488355328) (hr : ∀ u ∈ l, 0 ≤ u ∧ u ≤ 255) : Bs (fun k => k < wr.heap.size) wr v l :=
  (Bs.ofOwn h.1 hl hr).kept (fun _ _ => rfl) (fun k hk => hk.2.1)

/-- 'append(v, x)' of a new slice of one byte. -/
theorem PdS.pushOne {w wr : World} {v : Value} {l : List Int} (h : PdS w v l wr) (c : Int) (hc : 0 ≤ c ∧ c ≤ 255) (hl : l.length ≤ 140737488355000) :
    ∃ v' w', (Builtin.append_ #[22, 22] 22 #[v, .slice (some ⟨wr.heap.size, 0, none⟩) 1 1]).run Try.prog (wr.alloc (.cells #[.int .u8 c] 5)) = .ok v' w' ∧ PdS w v' (l ++ [c]) w' :=
  (h.next (ball (Below.refl _ _) _)).push (fun k => k < (wr.alloc (.cells #[.int .u8 c] 5)).heap.size) (u := .slice (some ⟨wr.heap.size, 0, none⟩) 1 1) (b := [c])
    ⟨by simp, by intro u hu; simp at hu; omega, some ⟨wr.heap.size, 0, none⟩, 1, rfl, Nat.le_refl _, fun _ => ⟨wr.heap.size, 0, rfl, by simp, fun j u hj => by
      have hj0 : j = 0 := by have := (List.getElem?_eq_some_iff.1 hj).1; simp at this; omega
      subst hj0
      simp at hj
      subst hj
      rw [cell_of_row _ wr.heap.size 0 _ 5 (0, 0) (heap_alloc_new wr _)]
      rfl⟩⟩ (by simp; omega)


theorem PdS.new (w : World) : PdS w (.slice (some ⟨w.heap.size, 0, none⟩) 0 0) ([] : List Int) (w.alloc (.cells #[] 5)) :=
  ⟨World.ownsRow_made w #[] 0 (Nat.le_refl _) (by unfold maxLen; omega) (by simp), ball (Below.refl _ _) _⟩

/-- The digits that are written when j of eight places are left. -/
def pre (n : Int) (j : Nat) : List Int := (digs n (wid n)).take (wid n - j)

theorem pre_none (n : Int) (h0 : 0 ≤ n) (i : Nat) (hi : i < 8) (h : wid n ≤ i) : digit n i = 0 ∧ pre n (i + 1) = [] ∧ pre n i = [] := by
  refine ⟨?_, ?_, ?_⟩
  · unfold digit
    rw [(wid_stop n h0 i hi).2 h]; rfl
  · unfold pre; rw [show wid n - (i + 1) = 0 from by omega]; rfl
  · unfold pre; rw [show wid n - i = 0 from by omega]; rfl

theorem pre_some (n : Int) (h0 : 0 ≤ n) (h1 : n ≤ 9223372036854775807) (i : Nat) (hi : i < 8) (h : i < wid n) : pre n i = pre n (i + 1) ++ [digit n i] ∧ (digit n i ≠ 0 ∨ 0 < (pre n (i + 1)).length) := by
  have hl := digs_length n (wid n)
  constructor
  · unfold pre
    have hlt : wid n - (i + 1) < (digs n (wid n)).length := by omega
    rw [show wid n - i = wid n - (i + 1) + 1 from by omega, List.take_succ_eq_append_getElem hlt, digs_get n (wid n) _ hlt, show wid n - 1 - (wid n - (i + 1)) = i from by omega]
  · by_cases hw : wid n = i + 1
    · left
      have hne : ¬ n / 256 ^ i = 0 := fun e => by have := (wid_stop n h0 i hi).1 e; omega
      have hlt := wid_lt' n h0 h1
      rw [hw, Int.pow_succ] at hlt
      have hp : (0 : Int) < 256 ^ i := Int.pow_pos (by decide)
      have h3 : n / 256 ^ i < 256 := Int.ediv_lt_of_lt_mul hp (by rw [Int.mul_comm]; exact hlt)
      have h4 : 0 ≤ n / 256 ^ i := Int.ediv_nonneg h0 (by omega)
      unfold digit
      omega
    · right
      unfold pre
      rw [List.length_take]
      omega

set_option maxRecDepth 100000 in
set_option maxHeartbeats 2000000 in
theorem rdigits_any (n : Int) (w : World) (h0 : 0 ≤ n) (h1 : n ≤ 9223372036854775807) :
    Calls Try.prog 61 #[.int .i64 n] w fun e w' => ∃ u, e = .returned u ∧ PdS w u (digs n (wid n)) w' := by
  have hw8 := wid_le n
  have hp0 : Hid (PdS w (.slice (some ⟨w.heap.size, 0, none⟩) 0 0) (pre n 8) (w.alloc (.cells #[] 5))) := Lib.hid (by
    have e : pre n 8 = [] := by unfold pre; rw [show wid n - 8 = 0 from by omega]; rfl
    rw [e]; exact PdS.new w)
  have hN : ∀ i, i < 8 → wid n ≤ i → digit n i = 0 ∧ pre n (i + 1) = [] ∧ pre n i = [] := fun i hi h => pre_none n h0 i hi h
  have hS : ∀ i, i < 8 → i < wid n → pre n i = pre n (i + 1) ++ [digit n i] ∧ (digit n i ≠ 0 ∨ 0 < (pre n (i + 1)).length) := fun i hi h => pre_some n h0 h1 i hi h
  have HN := Lib.hid hN; have HS := Lib.hid hS
  have hlen : ∀ j, (pre n j).length ≤ 8 := by
    intro j; unfold pre; rw [List.length_take, digs_length]; omega
  have HLEN := Lib.hid hlen
  have hfin : pre n 0 = digs n (wid n) := by unfold pre; rw [Nat.sub_zero]; exact List.take_of_length_le (by rw [digs_length]; exact Nat.le_refl _)
  have HFIN := Lib.hid hfin
  clear hN hS hlen hfin
  go_enter Try.func61, Try.ntmps61
  go_wp2
  go_loopw [3, 4, 5] (fun x s _ wr => ∃ (j : Nat) (z : Int), j ≤ 8 ∧ Hid (z = 8 * (j : Int) - 8) ∧ -8 ≤ z ∧ z ≤ 56 ∧ s = .int .i64 z ∧ Hid (PdS w x (pre n j) wr)) (fun _ s _ _ => (intOf s + 8).toNat)
  case atStart => exact ⟨8, 56, by omega, Lib.hid (by omega), by omega, by omega, rfl, hp0⟩
  case round =>
    clear hp0
    obtain ⟨j, z, hj, HZ, hz0, hz1, rfl, H⟩ := hrel
    by_cases hlt : 0 ≤ z
    · obtain ⟨S, rfl⟩ := Int.eq_ofNat_of_zero_le hlt
      obtain ⟨i, hi⟩ : ∃ i, j = i + 1 := ⟨j - 1, by have := HZ.out; omega⟩
      subst hi
      have hSi : S = 8 * i := by have := HZ.out; omega
      have hdig : IntKind.u8.wrap (n / 2 ^ S) = digit n i := by
        rw [hSi, shr_pow, IntKind.wrap_u8]; rfl
      have hdr := digit_range n i
      obtain ⟨M, hM⟩ : ∃ M, n / 2 ^ S = M := ⟨_, rfl⟩
      obtain ⟨D, hD⟩ : ∃ D, D = digit n i := ⟨_, rfl⟩
      rw [hM, ← hD] at hdig
      rw [← hD] at hdr
      obtain ⟨xa, xc, rfl⟩ := H.out.len
      have hpl := HLEN.out (i + 1)
      have g0 : decide (0 ≤ (S : Int)) = true := decide_eq_true hlt
      have HZ2 : Hid ((S : Int) - 8 = 8 * (i : Int) - 8) := Lib.hid (by omega)
      by_cases hw : i < wid n
      · obtain ⟨hpi, hor⟩ := HS.out i (by omega) hw
        rw [← hD] at hpi hor
        obtain ⟨v6, w6, hr6, h6⟩ := H.out.pushOne D hdr (by omega)
        rw [← hpi] at h6
        obtain ⟨m, hm⟩ : ∃ m, m = (pre n (i + 1)).length := ⟨_, rfl⟩
        rw [← hm] at hr6 hor hpl ⊢
        have H6 := Lib.hid h6; have R6 := Lib.hid hr6
        have hcs : D ≠ 0 ∨ (D = 0 ∧ 0 < m) := by omega
        clear h6 hr6 hpi hor hm hD hw HZ hSi H
        rcases hcs with hd | ⟨hd, hm0⟩
        · have g1 : (D != 0) = true := by simp; exact hd
          have g2 : (D == 0) = false := by rw [beq_eq_false_iff_ne]; exact hd
          clear hd
          go_wp2_with (first | (at_builtin; refine wp_app rfl rfl rfl (.tmp 22) (.tmp 24) rfl rfl rfl R6.out ?_))
          go_roundw
          case rel => exact ⟨i, (S : Int) - 8, by omega, HZ2, by omega, by omega, rfl, H6⟩
          case measure => simp [intOf]; omega
        · have g3 : decide (0 < (m : Int)) = true := decide_eq_true (by omega)
          have g4 : decide (0 < m) = true := decide_eq_true hm0
          subst hd
          go_wp2_with (first | (at_builtin; refine wp_app rfl rfl rfl (.tmp 22) (.tmp 24) rfl rfl rfl R6.out ?_))
          go_roundw
          case rel => exact ⟨i, (S : Int) - 8, by omega, HZ2, by omega, by omega, rfl, H6⟩
          case measure => simp [intOf]; omega
      · obtain ⟨hd0, he1, he2⟩ := HN.out i (by omega) (by omega)
        rw [← hD] at hd0
        subst hd0
        have H6 : Hid (PdS w (.slice xa (pre n (i + 1)).length xc) (pre n i) wr) := Lib.hid (by rw [he2, ← he1]; exact H.out)
        rw [he1] at H6 ⊢
        clear hw HZ hSi H he1 he2 hD
        go_wp2
        go_roundw
        case rel => exact ⟨i, (S : Int) - 8, by omega, HZ2, by omega, by omega, rfl, H6⟩
        case measure => simp [intOf]; omega
    · have hj0 : j = 0 := by have := HZ.out; omega
      subst hj0
      have g0 : decide (0 ≤ z) = false := decide_eq_false hlt
      have H0 := H.out
      rw [HFIN.out] at H0
      replace H := Lib.hid H0
      clear H0
      go_wp2
      go_ret
      exact ⟨_, rfl, H.out⟩
end Go.Proofs.Ytjhjcigappkebaa
