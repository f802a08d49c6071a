/-
  Walks: gaps.
-/
import Derived.Test.YtboojinokljelaaCa
namespace Go.Proofs.Ytboojinokljelaa
open Go.RowKit

set_option maxRecDepth 100000 in
set_option maxHeartbeats 1000000 in
theorem gaps_any (l : List (Int × Int)) (a : Option Addr) (cap : Nat) (w : World) (hv : Sl (fun k => k < w.heap.size) w (.slice a l.length cap) l) (hl : l.length ≤ 500) :
    Calls Try.prog 38 #[.slice a l.length cap] w fun e w' => ∃ v, e = .returned v ∧ ApT w (gp 0 l) v w' := by
  have HV := Lib.hid hv
  have hgp := gp_gpm l 0
  have hgl := gpm_length l 0
  have HG := Lib.hid hgp
  clear hv hgp
  obtain ⟨n, hn⟩ : ∃ n, n = l.length := ⟨_, rfl⟩
  have HN := Lib.hid hn
  rw [← hn] at hl hgl
  go_enter Try.func38, Try.ntmps38
  rw [← hn]
  clear hn
  go_wp2
  go_loopw [2, 3, 8] (fun v f t wr => ∃ (k : Nat) (F : Int), k ≤ n ∧ t = .int .i64 k ∧ f = .int .i64 F ∧ Hid (F = lst 0 (l.take k)) ∧ Hid (ApT w (gpm 0 (l.take k)) v wr)) (fun _ _ t _ => n - (intOf t).toNat)
  case atStart => exact ⟨0, 0, by omega, rfl, rfl, Lib.hid rfl, Lib.hid (ApT.nil w)⟩
  case round =>
    obtain ⟨k, F, hk, rfl, rfl, HF, H⟩ := hrel
    by_cases hlt : k < n
    · have hlt2 : (k : Int) < (n : Int) := by omega
      obtain ⟨g, off, x, y, rfl, hg, hx, hxi, hyi, c0, c1, hcap⟩ := HV.out.pick k (by have := HN.out; omega)
      have d0 : wr.cell? ⟨g, off + k * 2, none⟩ = some (.int .i64 x) := (H.out.below.cell (p := ⟨g, off + k * 2, none⟩) hg).trans c0
      have d1 : wr.cell? ⟨g, off + k * 2 + 1, none⟩ = some (.int .i64 y) := (H.out.below.cell (p := ⟨g, off + k * 2 + 1, none⟩) hg).trans c1
      have htk : l.take (k + 1) = l.take k ++ [(x, y)] := by rw [List.take_add_one, hx]; rfl
      have hF2 : y = lst 0 (l.take (k + 1)) := by rw [htk, lst_snoc]
      have hgs : gpm 0 (l.take (k + 1)) = gpm 0 (l.take k) ++ (if F < x then [(F, x)] else []) := by rw [htk, gpm_snoc, ← HF.out]
      have hcl : (gpm 0 (l.take k)).length ≤ 1000 := by
        have := gpm_length (l.take k) 0
        rw [List.length_take] at this
        omega
      have H2 := Lib.hid (H.out.alloc (.cells #[.int .i64 x, .int .i64 y] 36))
      have HF2 := Lib.hid hF2; have HS := Lib.hid hgs
      have hc2 := cell_new2 wr (.int .i64 x) (.int .i64 y) 36 _ rfl
      clear htk hF2 hgs hx c0 c1
      by_cases hfx : F < x
      · rw [if_pos hfx] at HS
        obtain ⟨v', w', hr, hA, hk'⟩ := H2.out.push F x hcl
        rw [← HS.out] at hA
        have e0 := (World.cell?_of_block (a := ⟨wr.heap.size, 0, none⟩) (hk' wr.heap.size (by simp) (H.out.ne _ (Nat.le_refl _)))).trans hc2.1
        have e1 := (World.cell?_of_block (a := ⟨wr.heap.size, 1, none⟩) (hk' wr.heap.size (by simp) (H.out.ne _ (Nat.le_refl _)))).trans hc2.2
        rw [World.size_alloc] at hr
        have HR := Lib.hid hr; have HA := Lib.hid hA
        clear hr hA hk'
        go_wp2_with (first | (at_builtin; refine wp_appt rfl rfl rfl (.tmp 16) (.tmp 21) rfl rfl rfl HR.out ?_))
        go_roundw
        case rel => exact ⟨k + 1, y, by omega, by go_num, rfl, HF2, HA⟩
        case measure => simp [intOf]; omega
      · rw [if_neg hfx, List.append_nil] at HS
        go_wp2
        go_roundw
        case rel => exact ⟨k + 1, y, by omega, by go_num, rfl, HF2, by rw [HS.out]; exact H2⟩
        case measure => simp [intOf]; omega
    · have hk2 : k = n := by omega
      subst hk2
      have hT : l.take k = l := List.take_of_length_le (by rw [HN.out]; exact Nat.le_refl _)
      rw [hT] at H HF
      have hlt2 : ¬ ((k : Int) < (k : Int)) := by omega
      by_cases hF : F < 1073741824
      · obtain ⟨v', w', hr, hA, _⟩ := H.out.push F 1073741824 (by omega)
        have hg := HG.out
        rw [← HF.out, if_pos hF] at hg
        rw [← hg] at hA
        have HR := Lib.hid hr; have HA := Lib.hid hA
        clear hr hA hg
        go_wp2_with (first | (at_builtin; refine wp_appt rfl rfl rfl (.tmp 28) (.tmp 31) rfl rfl rfl HR.out ?_))
        go_ret
        exact ⟨_, rfl, HA.out⟩
      · have hg := HG.out
        rw [← HF.out, if_neg hF, List.append_nil] at hg
        rw [← hg] at H
        clear hg
        go_wp2
        go_ret
        exact ⟨_, rfl, H.out⟩
end Go.Proofs.Ytboojinokljelaa
