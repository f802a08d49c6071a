/-
  Walks: long (of the law of chains).
-/
import Derived.Test.YtecgcnfjpaemcaaDoorLs
namespace Go.Proofs.YtecgcnfjpaemcaaDoor
open Go.RowKit

/-- A list is long. -/
def lng (ll : List (List Int)) : Bool := (ll.any fun b => decide (200 < b.length)) || decide (8 < ll.length)

theorem any_take (ll : List (List Int)) (k : Nat) (b : List Int) (h : ll[k]? = some b) : (ll.take (k + 1)).any (fun b => decide (200 < b.length)) = ((ll.take k).any (fun b => decide (200 < b.length)) || decide (200 < b.length)) := by
  obtain ⟨hl, rfl⟩ := List.getElem?_eq_some_iff.1 h
  rw [List.take_succ_eq_append_getElem hl, List.any_append]
  simp

set_option maxHeartbeats 1000000 in
theorem long_any (ll : List (List Int)) (a : Option Addr) (cap : Nat) (w : World) (hv : Ls (fun k => k < w.heap.size) w (.slice a ll.length cap) ll) :
    Calls Tryd.prog 25 #[.slice a ll.length cap] w fun e w' => e = .returned (.bool (lng ll)) ∧ w = w' := by
  obtain ⟨hl0, a', cap', he, hc, hp⟩ := hv
  simp only [Value.slice.injEq] at he
  obtain ⟨rfl, _, rfl⟩ := he
  obtain ⟨L, hL⟩ : ∃ L, L = ll.length := ⟨_, rfl⟩
  have HL := Lib.hid hL
  rw [← hL] at hl0 hc hp ⊢
  clear hL
  have HP := Lib.hid hp; clear hp
  obtain ⟨R, hR⟩ : ∃ R, R = lng ll := ⟨_, rfl⟩
  rw [← hR]
  have HR := Lib.hid hR; clear hR
  go_enter Tryd.func25, Tryd.ntmps25
  go_wp2
  go_loop [3] (fun i => ∃ k : Nat, k ≤ L ∧ k ≤ 9 ∧ i = .int .i64 k ∧ Hid ((ll.take k).any (fun b => decide (200 < b.length)) = false)) (fun i => L - (intOf i).toNat)
  case atStart => exact ⟨0, by omega, by omega, rfl, Lib.hid rfl⟩
  case round =>
    obtain ⟨k, hk, hk9, rfl, HA⟩ := hrel
    by_cases hlt : k < L ∧ k < 9
    · obtain ⟨hlt, h9⟩ := hlt
      obtain ⟨g, off, rfl, hg, hcell⟩ := HP.out (by omega)
      obtain ⟨b, hb⟩ : ∃ b, ll[k]? = some b := ⟨_, List.getElem?_eq_getElem (by rw [← HL.out]; exact hlt)⟩
      obtain ⟨u, hu, hbs⟩ := hcell k b hb
      obtain ⟨_, _, ua, uc, rfl, _, _⟩ := hbs
      clear hcell
      by_cases hbig : 200 < b.length
      · have hres : R = true := by
          rw [HR.out]
          unfold lng
          rw [Bool.or_eq_true, List.any_eq_true]
          exact .inl ⟨b, List.mem_of_getElem? hb, by simpa using hbig⟩
        have hbig' : 200 < (b.length : Int) := by omega
        subst hres
        clear HR hb HP HL HA hbig
        generalize b.length = n at *
        go_wp2
        go_ret
        exact ⟨rfl, rfl⟩
      · have hA := any_take ll k b hb
        rw [HA.out, decide_eq_false hbig] at hA
        have HA' := Lib.hid (show (ll.take (k + 1)).any (fun b => decide (200 < b.length)) = false from hA)
        have hbig' : (b.length : Int) ≤ 200 := by omega
        clear hA hbig hb HP HA
        generalize b.length = n at *
        go_wp2
        go_round
        case rel => exact ⟨k + 1, by omega, by omega, by go_num, HA'⟩
        case measure => simp [intOf]; omega
    · have hres : R = decide (8 < (L : Int)) := by
        rw [HR.out]
        unfold lng
        rw [← HL.out]
        by_cases h8 : 8 < L
        · rw [decide_eq_true h8, Bool.or_true, decide_eq_true (by omega)]
        · have hk' : k = L := by omega
          have := HA.out
          rw [hk', HL.out, List.take_length] at this
          rw [this, Bool.false_or, decide_eq_false h8, decide_eq_false (by omega)]
      have HRS := Lib.hid hres
      clear hres HR HP HL HA
      by_cases h9 : k < 9
      · have hkl : (L : Int) ≤ (k : Int) := by omega
        go_wp2
        go_ret
        exact ⟨by rw [HRS.out]; rfl, rfl⟩
      · have h9' : (9 : Int) ≤ (k : Int) := by omega
        go_wp2
        all_goals go_ret
        all_goals exact ⟨by rw [HRS.out]; rfl, rfl⟩

end Go.Proofs.YtecgcnfjpaemcaaDoor
