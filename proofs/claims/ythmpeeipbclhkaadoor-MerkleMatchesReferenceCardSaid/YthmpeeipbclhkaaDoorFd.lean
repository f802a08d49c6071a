/-
  Walks of the reference's digest: the padded message.
-/
import Derived.Test.YthmpeeipbclhkaaDoorFc
namespace Go.Proofs.YthmpeeipbclhkaaDoor
open Go.RowKit

/-- The message b, 128, k zeros. -/
def padZ (b : List Int) (k : Nat) : List Int := b ++ 128 :: List.replicate k 0
def zcount (n : Nat) : Nat := (119 - n % 64) % 64
/-- The padded message. -/
def rpad (b : List Int) : List Int := padZ b (zcount b.length) ++ (List.range 8).map (lenByte b.length)

theorem padZ_length (b : List Int) (k : Nat) : (padZ b k).length = b.length + 1 + k := by simp [padZ]; omega
theorem padZ_next (b : List Int) (k : Nat) : padZ b k ++ [0] = padZ b (k + 1) := by
  unfold padZ
  rw [List.append_assoc, List.cons_append, ← List.replicate_succ']
theorem zcount_lt (n : Nat) : zcount n < 64 := by unfold zcount; omega
theorem rem64 (n : Nat) : (n : Int).tmod 64 = ((n % 64 : Nat) : Int) := by rw [Int.tmod_eq_emod_of_nonneg (by omega)]; omega
theorem zcount_done (n k : Nat) (h : k ≤ zcount n) : ((n + 1 + k) % 64 = 56) ↔ k = zcount n := by
  unfold zcount at *; omega

theorem padZ_range (b : List Int) (hb : ∀ u ∈ b, 0 ≤ u ∧ u ≤ 255) (k : Nat) : ∀ u ∈ padZ b k, 0 ≤ u ∧ u ≤ 255 := by
  intro u hu
  unfold padZ at hu
  rcases List.mem_append.1 hu with h | h
  · exact hb u h
  · rcases List.mem_cons.1 h with h | h
    · omega
    · rw [List.mem_replicate] at h; omega

/-- The padded message under way: v holds l, in memory of its own. -/
def PdS (w : World) (v : Value) (l : List Int) (wr : World) : Prop := wr.ownsRow w.heap.size 5 1 v l.length (byteVals l) ∧ Below w.heap.size w wr

/-- 'append(v, x)' of a new slice of one byte: the equation. -/
theorem append_one (w wr : World) (v : Value) (l : List Int) (c : Int) (hc : 0 ≤ c ∧ c ≤ 255) (h : PdS w v l wr) (hlen : l.length ≤ 1000000) :
    ∃ v' w', (Builtin.append_ #[48, 48] 48 #[v, .slice (some ⟨wr.heap.size, 0, none⟩) 1 1]).run Tryd.prog (wr.alloc (.cells #[.int .u8 c] 5)) = .ok v' w' ∧ PdS w v' (l ++ [c]) w' := by
  obtain ⟨hown, hb⟩ := h
  have ho : (wr.alloc (.cells #[.int .u8 c] 5)).ownsRow w.heap.size 5 1 v l.length (byteVals l) := hown.kept (World.grownBy_alloc wr _ none) (by
    cases hx : v.ownBlock with
    | none => exact Or.inl rfl
    | some g => exact Or.inr (by simp))
  have hba : Below w.heap.size w (wr.alloc (.cells #[.int .u8 c] 5)) := ball' hb _ hb.size
  have hu := Bs.lit wr [c] 1 rfl #[.int .u8 c] (0, 0) rfl (by intro u hu; simp at hu; omega) (by simp)
  obtain ⟨v', w', hr, hA⟩ := append_run _ w.heap.size _ v _ l [c] 48 ho hu (by simp; omega) hba.size
  exact ⟨v', w', hr, hA.own, hba.grown hA.grown hba.size (by intro k hk; exact (ho.lt k hk).1)⟩

theorem PdS.len {w : World} {v : Value} {l : List Int} {wr : World} (h : PdS w v l wr) : ∃ a c, v = .slice a l.length c := by
  rcases h.1.2 with ⟨rfl, h0⟩ | ⟨g, cap, cur, rfl, _⟩
  · exact ⟨none, 0, by rw [h0]⟩
  · exact ⟨_, _, rfl⟩

set_option maxRecDepth 100000 in
set_option maxHeartbeats 2000000 in
theorem padded_any (b : List Int) (v : Value) (w : World) (hv : Bs (fun k => k < w.heap.size) w v b) (hl : b.length ≤ 100000) :
    Calls Tryd.prog 60 #[v] w fun e w' => ∃ u, e = .returned u ∧ PdS w u (rpad b) w' := by
  obtain ⟨ba, bc, rfl⟩ : ∃ a c, v = .slice a b.length c := by
    obtain ⟨_, _, a, c, h, _⟩ := hv
    exact ⟨a, c, h⟩
  have hR := hv.2.1
  have hP0 : PdS w (.slice (some ⟨w.heap.size, 0, none⟩) 0 0) ([] : List Int) (w.alloc (.cells #[] 5)) := ⟨World.ownsRow_made w #[] 0 (Nat.le_refl _) (by unfold maxLen; omega) (by simp), ball (Below.refl _ _) _⟩
  obtain ⟨v1, w1, hr1, hA1⟩ := append_run _ w.heap.size _ _ _ [] b 48 hP0.1 ((hv.below (fun k hk => hk) hP0.2).kept (fun _ _ => rfl) (fun k hk => Nat.lt_of_lt_of_le hk hP0.2.size) (F' := fun k => k < (w.alloc (.cells #[] 5)).heap.size)) (by simp; omega) hP0.2.size
  rw [List.nil_append] at hA1
  have hP1 : PdS w v1 b w1 := ⟨hA1.own, hP0.2.grown hA1.grown hP0.2.size (by intro k hk; exact (hP0.1.lt k hk).1)⟩
  obtain ⟨v2, w2, hr2, hP2⟩ := append_one w w1 v1 b 128 (by omega) hP1 (by omega)
  have HR := Lib.hid hR; have R1 := Lib.hid hr1; have R2 := Lib.hid hr2; have HP2 := Lib.hid hP2
  clear hv hR hr1 hr2 hP0 hP1 hP2 hA1
  go_enter Tryd.func60, Tryd.ntmps60
  go_wp2_with (first | (at_builtin; refine wp_app rfl rfl rfl (.tmp 7) (.tmp 8) rfl rfl rfl R1.out ?_) | (at_builtin; refine wp_app rfl rfl rfl (.tmp 10) (.tmp 11) rfl rfl rfl R2.out ?_))
  go_loopw [3] (fun x wr => ∃ k : Nat, k ≤ zcount b.length ∧ Hid (PdS w x (padZ b k) wr)) (fun x _ => zcount b.length + b.length + 2 - (match x with | .slice _ n _ => n | _ => 0))
  case atStart => exact ⟨0, by omega, HP2.out⟩
  case round =>
    obtain ⟨k, hk, H⟩ := hrel
    obtain ⟨xa, xc, rfl⟩ := H.out.len
    by_cases hlt : k < zcount b.length
    · obtain ⟨v', w', hr, hP⟩ := append_one w wr _ _ 0 (by omega) H.out (by rw [padZ_length]; have := zcount_lt b.length; omega)
      rw [padZ_next] at hP
      have R := Lib.hid hr; have HP := Lib.hid hP; clear hr hP
      have hz := zcount_done b.length k (by omega)
      have hln := padZ_length b k
      obtain ⟨n, hn⟩ : ∃ n, n = (padZ b k).length := ⟨_, rfl⟩
      have Hn := Lib.hid hn
      rw [← hn] at R hln ⊢
      have hne : ((n : Int).tmod 64 == 56) = false := by rw [beq_eq_false_iff_ne, rem64]; intro h; omega
      have hne2 : ((n : Int) % 64 == 56) = false := by rw [beq_eq_false_iff_ne]; intro h; omega
      clear hn hln hz
      go_wp2_with (at_builtin; refine wp_app rfl rfl rfl (.tmp 17) (.tmp 18) rfl rfl rfl R.out ?_)
      go_roundw
      case rel => exact ⟨k + 1, by omega, HP⟩
      case measure =>
        obtain ⟨xa', xc', rfl⟩ := HP.out.len
        have := padZ_length b (k + 1)
        have := padZ_length b k
        have := Hn.out
        simp only
        omega
    · have hk' : k = zcount b.length := by omega
      have hz := (zcount_done b.length k (by omega)).2 hk'
      have hln := padZ_length b k
      obtain ⟨n, hn⟩ : ∃ n, n = (padZ b k).length := ⟨_, rfl⟩
      have Hn := Lib.hid hn
      rw [← hn] at hln ⊢
      have hne : ((n : Int).tmod 64 == 56) = true := by rw [beq_iff_eq, rem64]; omega
      have hne2 : ((n : Int) % 64 == 56) = true := by rw [beq_iff_eq]; omega
      clear hn hln hz
      go_wp2
      have hq : ((n : Int) % 64 != 56) = false := by unfold bne; rw [hne2]; rfl
      rw [hq]
      clear hq hne hne2
      subst hk'
      have hz1 := zcount_lt b.length
      have hpl := padZ_length b (zcount b.length)
      have Hpl := Lib.hid hpl; clear hpl
      go_loopw [3, 5] (fun x i wr => ∃ j : Nat, j ≤ 8 ∧ i = .int .i64 j ∧ Hid (PdS w x (padZ b (zcount b.length) ++ (List.range j).map (lenByte b.length)) wr)) (fun _ i _ => 8 - (intOf i).toNat)
      case atStart => exact ⟨0, by omega, rfl, by
        have h1 := H.out
        rw [← Hn.out] at h1
        exact (by simpa only [List.range_zero, List.map_nil, List.append_nil] using h1 : PdS w (.slice xa n xc) (padZ b (zcount b.length) ++ (List.range 0).map (lenByte b.length)) wr)⟩
      case round =>
        clear H
        obtain ⟨j, hj, rfl, H⟩ := hrel
        obtain ⟨ya, yc, rfl⟩ := H.out.len
        by_cases hlt8 : j < 8
        · obtain ⟨v', w', hr, hP⟩ := append_one w wr _ _ (lenByte b.length j) (lenByte_range _ _) H.out (by simp [Hpl.out]; omega)
          rw [List.append_assoc, ← List.map_singleton, ← List.map_append, ← List.range_succ] at hP
          generalize (padZ b (zcount b.length) ++ (List.range j).map (lenByte b.length)).length = m at hr H ⊢
          unfold lenByte at hr
          have R := Lib.hid hr; have HP := Lib.hid hP; clear hr hP
          have e1 : (56 : Int) - 8 * (j : Int) = ((56 - 8 * j : Nat) : Int) := by omega
          go_wp2_with (at_builtin; refine wp_app rfl rfl rfl (.tmp 28) (.tmp 35) rfl rfl rfl R.out ?_)
          go_roundw
          case rel => exact ⟨j + 1, by omega, by go_num, HP⟩
          case measure => simp [intOf]; omega
        · have hj' : j = 8 := by omega
          subst hj'
          go_wp2
          go_ret
          exact ⟨_, rfl, H.out⟩

end Go.Proofs.YthmpeeipbclhkaaDoor
