/-
  Walks: extent at every tree, measure, Check.
-/
import Derived.Test.YtjhjcigappkebaaWc
import Derived.Test.YtjhjcigappkebaaDep
import Derived.Test.YtjhjcigappkebaaWd
namespace Go.Proofs.Ytjhjcigappkebaa
open Go.RowKit

theorem enc_list (k n : Int) (b : List Int) (l : List T) (hk : k = 3) : enc (.mk k n b l) = 64 :: (encL l ++ [0]) := by
  subst hk; unfold enc; simp

theorem enc_le_encL {t : T} {l : List T} (h : t ∈ l) : (enc t).length ≤ (encL l).length := by
  induction l with
  | nil => simp at h
  | cons x xs ih =>
    unfold encL
    rw [List.length_append]
    rcases List.mem_cons.1 h with rfl | h
    · omega
    · have := ih h; omega

theorem extent_any (F : Nat → Prop) : ∀ (N : Nat) (t : T), dep t < N → ∀ (w : World) (v : Value), (∀ k, F k → k < w.heap.size) → Rd F w t v → (enc t).length ≤ 1152921504606846976 → Calls Try.prog 45 #[v] w (ExtOf t w) := by
  intro N
  induction N with
  | zero => intro t h; omega
  | succ N ih =>
    intro t ht w v hF hr hsz
    by_cases h1 : t.kind = 1
    · exact extent_int F t v w hr h1
    · by_cases h2 : t.kind = 2
      · exact extent_bytes F t v w hF hr h2
      · by_cases h3 : t.kind = 3
        · cases t with
          | mk k n b l =>
            have hk : k = 3 := h3
            rw [enc_list k n b l hk] at hsz
            simp only [List.length_cons, List.length_append] at hsz
            refine extent_list F _ v w hF hr h3 (by show (encL l).length ≤ _; omega) ?_
            intro u hu w' v' hF' hr'
            have hu' : u ∈ l := hu
            have := dep_mem hu'
            have e : dep (T.mk k n b l) = depL l + 1 := rfl
            have := enc_le_encL hu'
            exact ih u (by omega) w' v' hF' hr' (by omega)
        · exact extent_other F t v w hr h1 h2 h3

/-- The error of Check. -/
def chk (t : T) : Int := if shape t then (if 16 < nest t ∨ 65536 < (enc t).length then 2 else 0) else 10

def MeasOf (t : T) (w : World) (e : Ending) (w' : World) : Prop :=
  e = .returned (.tuple #[.int .i64 (if chk t = 0 then (enc t).length else 0), .int .i64 (chk t)]) ∧ Below w.heap.size w w'

set_option maxHeartbeats 400000 in
theorem measure_any (F : Nat → Prop) (t : T) (w : World) (v : Value) (hF : ∀ k, F k → k < w.heap.size) (hr : Rd F w t v) (hsz : (enc t).length ≤ 1152921504606846976) :
    Calls Try.prog 34 #[v] w (MeasOf t w) := by
  obtain ⟨a2, c2, a3, c3, rfl, hb, hik, hin, hl1, hl2, hl3⟩ := hr.form
  clear hb hik hin hl1 hl2 hl3
  have hext : ∀ w', Below w.heap.size w w' → Calls Try.prog 45 #[.agg #[.int .i64 t.kind, .int .i64 t.num, .slice a2 t.bs.length c2, .slice a3 t.els.length c3]] w' (ExtOf t w') := by
    intro w' h
    exact extent_any F (dep t + 1) t (by omega) w' _ (fun k hk => Nat.lt_of_lt_of_le (hF k hk) h.size) (hr.below hF h) hsz
  have Hext := Lib.hid hext; clear hext
  have hne := nest_le t
  clear hF hr
  cases hs : shape t with
  | false =>
    have Hs := Lib.hid hs; clear hs
    go_enter Try.func34, Try.ntmps34
    go_wp2_with fail
    refine (Hext.out _ (ball (Below.refl w.heap.size w) _)).mono ?_
    rintro e w1 ⟨ne, sz, rfl, hres, hb1⟩
    have hb2 : Below w.heap.size w w1 := (ball (Below.refl w.heap.size w) _).trans (hb1.mono (by simp))
    clear hres hb1
    rw [Hs.out]
    go_wp2_with fail
    go_ret2
    exact ⟨by simp [chk, Hs.out], hb2⟩
  | true =>
    have Hs := Lib.hid hs; clear hs
    by_cases hA : 16 < nest t
    · go_enter Try.func34, Try.ntmps34
      go_wp2_with fail
      refine (Hext.out _ (ball (Below.refl w.heap.size w) _)).mono ?_
      rintro e w1 ⟨ne, sz, rfl, hres, hb1⟩
      obtain ⟨rfl, rfl⟩ := hres Hs.out
      have hb2 : Below w.heap.size w w1 := (ball (Below.refl w.heap.size w) _).trans (hb1.mono (by simp))
      clear hres hb1
      rw [Hs.out]
      go_wp2_with fail
      go_ret2
      exact ⟨by simp [chk, Hs.out, hA], hb2⟩
    · by_cases hB : 65536 < (enc t).length
      all_goals
        go_enter Try.func34, Try.ntmps34
        go_wp2_with fail
        refine (Hext.out _ (ball (Below.refl w.heap.size w) _)).mono ?_
        rintro e w1 ⟨ne, sz, rfl, hres, hb1⟩
        obtain ⟨rfl, rfl⟩ := hres Hs.out
        have hb2 : Below w.heap.size w w1 := (ball (Below.refl w.heap.size w) _).trans (hb1.mono (by simp))
        clear hres hb1
        rw [Hs.out]
        go_wp2_with fail
        go_ret2
        exact ⟨by simp [chk, Hs.out, hA, hB], hb2⟩

def ChkOf (t : T) (w : World) (e : Ending) (w' : World) : Prop := e = .returned (.int .i64 (chk t)) ∧ Below w.heap.size w w'

set_option maxHeartbeats 400000 in
theorem check_any (F : Nat → Prop) (t : T) (w : World) (v : Value) (hF : ∀ k, F k → k < w.heap.size) (hr : Rd F w t v) (hsz : (enc t).length ≤ 1152921504606846976) :
    Calls Try.prog 16 #[v] w (ChkOf t w) := by
  obtain ⟨a2, c2, a3, c3, rfl, hb, hik, hin, hl1, hl2, hl3⟩ := hr.form
  clear hb hik hin hl1 hl2 hl3
  have hm : ∀ w', Below w.heap.size w w' → Calls Try.prog 34 #[.agg #[.int .i64 t.kind, .int .i64 t.num, .slice a2 t.bs.length c2, .slice a3 t.els.length c3]] w' (MeasOf t w') := by
    intro w' h
    exact measure_any F t w' _ (fun k hk => Nat.lt_of_lt_of_le (hF k hk) h.size) (hr.below hF h) hsz
  have Hm := Lib.hid hm; clear hm
  clear hF hr
  go_enter Try.func16, Try.ntmps16
  go_wp2_with fail
  refine (Hm.out _ (ball (Below.refl w.heap.size w) _)).mono ?_
  rintro e w1 ⟨rfl, hb1⟩
  have hb2 : Below w.heap.size w w1 := (ball (Below.refl w.heap.size w) _).trans (hb1.mono (by simp))
  clear hb1
  generalize (if chk t = 0 then ((enc t).length : Int) else 0) = z
  go_wp2_with fail
  go_ret
  exact ⟨rfl, hb2⟩

end Go.Proofs.Ytjhjcigappkebaa
