/-
  Walks: extent at lists and at other kinds.
-/
import Derived.Test.YtjhjcigappkebaaWb
namespace Go.Proofs.Ytjhjcigappkebaa
open Go.RowKit

set_option maxHeartbeats 400000 in
theorem extent_other (F : Nat → Prop) (t : T) (v : Value) (w : World) (hr : Rd F w t v) (h1 : t.kind ≠ 1) (h2 : t.kind ≠ 2) (h3 : t.kind ≠ 3) : Calls Try.prog 45 #[v] w (ExtOf t w) := by
  obtain ⟨a2, c2, a3, c3, rfl, hb, hik, hin, hl1, hl2, hl3⟩ := hr.form
  cases t with
  | mk k n b l =>
    simp only [T.kind, T.num, T.bs, T.els] at *
    clear hb hl3 hr
    have hfin : ∀ w' : World, Below w.heap.size w w' → ExtOf (.mk k n b l) w (.returned (.tuple #[.int .i64 0, .int .i64 0, .bool false])) w' := by
      intro w' h
      have e : shape (.mk k n b l) = false := by unfold shape; simp [h1, h2, h3]
      exact ⟨0, 0, by rw [e], by rw [e]; simp, h⟩
    have Hfin := Lib.hid hfin; clear hfin
    have e1 : (k == 1) = false := by simpa using h1
    have e2 : (k == 2) = false := by simpa using h2
    have e3 : (k == 3) = false := by simpa using h3
    clear h1 h2 h3
    go_enter Try.func45, Try.ntmps45
    go_wp2_with fail
    go_ret3
    exact Hfin.out _ (ball (Below.refl w.heap.size w) (.cells #[.int .i64 k, .int .i64 n, .slice a2 b.length c2, .slice a3 l.length c3] 25))

set_option maxHeartbeats 400000 in
theorem extent_list (F : Nat → Prop) (t : T) (v : Value) (w : World) (hF : ∀ k, F k → k < w.heap.size) (hr : Rd F w t v) (hk : t.kind = 3) (hsz : (encL t.els).length ≤ 1152921504606846976)
    (ih : ∀ u ∈ t.els, ∀ (w' : World) (v : Value), (∀ k, F k → k < w'.heap.size) → Rd F w' u v → Calls Try.prog 45 #[v] w' (ExtOf u w')) : Calls Try.prog 45 #[v] w (ExtOf t w) := by
  obtain ⟨a2, c2, a3, c3, rfl, hb, hik, hin, hl1, hl2, hl3⟩ := hr.form
  cases t with
  | mk k n b l =>
    simp only [T.kind, T.num, T.bs, T.els] at *
    subst hk
    obtain ⟨hn0, hn1⟩ := hin
    have hbl := hb.1
    clear hb hr hik
    have hli : ∀ w', Below w.heap.size w w' → Calls Try.prog 60 #[.slice a3 l.length c3] w' (ExtL l w') := by
      intro w' h
      refine listExtent_any F l a3 c3 w' (fun k hk => Nat.lt_of_lt_of_le (hF k hk) h.size) hl1 hl2 ?_ hsz ?_
      · intro hp
        obtain ⟨g, off, ha, hg, hl⟩ := hl3 hp
        exact ⟨g, off, ha, hg, RdL.kept (fun k hk => h.block k (hF k hk)) (fun _ h => h) l g off hg hl⟩
      · exact ih
    have hfin : ∀ (w' : World) (ne sz : Int), (shapeL l = true → ne = nestL l + 1 ∧ sz = (encL l).length + 2) → Below w.heap.size w w' → ExtOf (.mk 3 n b l) w (.returned (.tuple #[.int .i64 ne, .int .i64 sz, .bool (shapeL l && (n == 0 && b.isEmpty))])) w' := by
      intro w' ne sz hs h
      refine ⟨ne, sz, rfl, fun hsh => ?_, h⟩
      have hsh' : (shapeL l && (n == 0 && b.isEmpty)) = true := hsh
      simp only [Bool.and_eq_true] at hsh'
      obtain ⟨rfl, rfl⟩ := hs hsh'.1
      refine ⟨rfl, ?_⟩
      show _ = ((64 :: (encL l ++ [0])).length : Int)
      simp; omega
    have Hfin := Lib.hid hfin; clear hfin
    have Hli := Lib.hid hli; clear hli
    have HF := Lib.hid hF; clear hF
    have Ih := Lib.hid ih; clear ih
    have Hl3 := Lib.hid hl3; clear hl3
    cases hs : shapeL l with
    | true =>
      have Hs := Lib.hid hs; clear hs
      by_cases hn : n = 0
      · have hd : (n == 0) = true := by rw [hn]; rfl
        have Hd := Lib.hid hd
        clear hn
        go_enter Try.func45, Try.ntmps45
        go_wp2_with fail
        refine (Hli.out _ (ball (Below.refl w.heap.size w) _)).mono ?_
        rintro e w1 ⟨ne, sz, rfl, hres, hb1⟩
        have hb2 : Below w.heap.size w w1 := (ball (Below.refl w.heap.size w) _).trans (hb1.mono (by simp))
        have d0 := hb1.cell (p := ⟨w.heap.size, 1, none⟩) (by simp)
        have d1 := hb1.cell (p := ⟨w.heap.size, 2, none⟩) (by simp)
        have Hres := Lib.hid hres; clear hres
        rw [Hs.out]
        go_wp2_with fail
        go_quiet (fail)
        go_wp2_with fail
        go_ret3
        have := Hfin.out _ ne sz Hres.out (bdrewN hb2 nq)
        rw [Hs.out, Hd.out, Bool.true_and, Bool.true_and, ← len_beq] at this
        exact this
      · have hd : (n == 0) = false := by simpa using hn
        have Hd := Lib.hid hd
        clear hn
        go_enter Try.func45, Try.ntmps45
        go_wp2_with fail
        refine (Hli.out _ (ball (Below.refl w.heap.size w) _)).mono ?_
        rintro e w1 ⟨ne, sz, rfl, hres, hb1⟩
        have hb2 : Below w.heap.size w w1 := (ball (Below.refl w.heap.size w) _).trans (hb1.mono (by simp))
        have d0 := hb1.cell (p := ⟨w.heap.size, 1, none⟩) (by simp)
        have d1 := hb1.cell (p := ⟨w.heap.size, 2, none⟩) (by simp)
        have Hres := Lib.hid hres; clear hres
        rw [Hs.out]
        go_wp2_with fail
        go_quiet (fail)
        go_wp2_with fail
        go_ret3
        have := Hfin.out _ ne sz Hres.out (bdrewN hb2 nq)
        rw [Hs.out, Hd.out, Bool.true_and, Bool.false_and] at this
        exact this
    | false =>
      have Hs := Lib.hid hs; clear hs
      go_enter Try.func45, Try.ntmps45
      go_wp2_with fail
      refine (Hli.out _ (ball (Below.refl w.heap.size w) _)).mono ?_
      rintro e w1 ⟨ne, sz, rfl, hres, hb1⟩
      have hb2 : Below w.heap.size w w1 := (ball (Below.refl w.heap.size w) _).trans (hb1.mono (by simp))
      have d0 := hb1.cell (p := ⟨w.heap.size, 1, none⟩) (by simp)
      have d1 := hb1.cell (p := ⟨w.heap.size, 2, none⟩) (by simp)
      have Hres := Lib.hid hres; clear hres
      rw [Hs.out]
      go_wp2_with fail
      go_quiet (fail)
      go_wp2_with fail
      go_ret3
      have := Hfin.out _ ne sz Hres.out (bdrewN hb2 nq)
      rw [Hs.out, Bool.false_and] at this
      exact this


end Go.Proofs.Ytjhjcigappkebaa
