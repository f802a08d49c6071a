/-
  Walks: Compare at every two trees.
-/
import Derived.Test.YtjhjcigappkebaaCb
namespace Go.Proofs.Ytjhjcigappkebaa
open Go.RowKit

set_option maxHeartbeats 400000 in
theorem compare_any (F G : Nat → Prop) : ∀ (N : Nat) (t : T), dep t < N → ∀ (u : T) (w : World) (v v' : Value), (∀ k, F k → k < w.heap.size) → (∀ k, G k → k < w.heap.size) → Rd F w t v → Rd G w u v' → Calls Try.prog 19 #[v, v'] w (CmpOf t u w) := by
  intro N
  induction N with
  | zero => intro t h; omega
  | succ N ih =>
    intro t ht u w v v' hF hG hr hs
    obtain ⟨a2, c2, a3, c3, rfl, hb, hik, hin, hl1, hl2, hl3⟩ := hr.form
    obtain ⟨b2, d2, b3, d3, rfl, hb', hik', hin', hm1, hm2, hm3⟩ := hs.form
    have hli : ∀ w', Below w.heap.size w w' → Calls Try.prog 40 #[.slice a3 t.els.length c3, .slice b3 u.els.length d3, .func (.func 19) #[] #[]] w' (CmpLOf t.els u.els w') := by
      intro w' h
      refine compareFunc_any F G t.els u.els a3 b3 c3 d3 w' (fun k hk => Nat.lt_of_lt_of_le (hF k hk) h.size) (fun k hk => Nat.lt_of_lt_of_le (hG k hk) h.size) hl1 hm1 hl2 hm2 ?_ ?_ ?_
      · intro hp
        obtain ⟨g, off, ha, hg, hl⟩ := hl3 hp
        exact ⟨g, off, ha, hg, RdL.kept (fun k hk => h.block k (hF k hk)) (fun _ h => h) _ g off hg hl⟩
      · intro hp
        obtain ⟨g, off, ha, hg, hl⟩ := hm3 hp
        exact ⟨g, off, ha, hg, RdL.kept (fun k hk => h.block k (hG k hk)) (fun _ h => h) _ g off hg hl⟩
      · intro x hx y w2 v2 v2' hF2 hG2 hr2 hs2
        cases t with
        | mk k n b l =>
          have hx' : x ∈ l := hx
          have := dep_mem hx'
          have e : dep (T.mk k n b l) = depL l + 1 := rfl
          exact ih x (by omega) y w2 v2 v2' hF2 hG2 hr2 hs2
    have hby : ∀ w', Below w.heap.size w w' → Calls Try.prog 39 #[.slice a2 t.bs.length c2, .slice b2 u.bs.length d2] w' fun e w'' => e = .returned (.int .i64 (cmpB t.bs u.bs)) ∧ w' = w'' :=
      fun w' h => bcompare_any F G t.bs u.bs _ _ w' (hb.below hF h) (hb'.below hG h)
    have Hli := Lib.hid hli; clear hli
    have Hby := Lib.hid hby; clear hby
    clear hr hs hb hb' hl3 hm3 hF hG ih ht hik hik' hin hin' hl1 hl2 hm1 hm2
    have hdef : cmpT t u = if t.kind ≠ u.kind then ordI t.kind u.kind else if t.kind = 1 then ordI t.num u.num else if t.kind = 2 then cmpB t.bs u.bs else if t.kind = 3 then cmpL t.els u.els else 0 := by
      cases t; cases u; rfl
    have Hdef := Lib.hid hdef; clear hdef
    by_cases hk : t.kind = u.kind
    · have tk : (t.kind != u.kind) = false := by rw [hk]; simp
      by_cases h1 : t.kind = 1
      · have t1 : (t.kind == 1) = true := by rw [h1]; rfl
        have Hk := Lib.hid hk; have H1 := Lib.hid h1; clear hk h1
        go_enter Try.func19, Try.ntmps19
        go_wp2_with (go_at_call 38; refine (cmpInt_any _ _ _).mono ?_; rintro e w' ⟨rfl, rfl⟩)
        go_ret
        exact ⟨ret_int (by rw [Hdef.out, if_neg (by rw [Hk.out]; simp), if_pos H1.out]), ball (ball (Below.refl _ _) _) _⟩
      · have t1 : (t.kind == 1) = false := by simpa using h1
        by_cases h2 : t.kind = 2
        · have t2 : (t.kind == 2) = true := by rw [h2]; rfl
          have Hk := Lib.hid hk; have H1 := Lib.hid h1; have H2 := Lib.hid h2; clear hk h1 h2
          go_enter Try.func19, Try.ntmps19
          go_wp2_with fail
          refine (Hby.out _ (ball (ball (Below.refl _ _) _) _)).mono ?_
          rintro e w' ⟨rfl, rfl⟩
          go_wp2_with fail
          go_ret
          exact ⟨ret_int (by rw [Hdef.out, if_neg (by rw [Hk.out]; simp), if_neg H1.out, if_pos H2.out]), ball (ball (Below.refl _ _) _) _⟩
        · have t2 : (t.kind == 2) = false := by simpa using h2
          by_cases h3 : t.kind = 3
          · have t3 : (t.kind == 3) = true := by rw [h3]; rfl
            have Hk := Lib.hid hk; have H1 := Lib.hid h1; have H2 := Lib.hid h2; have H3 := Lib.hid h3; clear hk h1 h2 h3
            go_enter Try.func19, Try.ntmps19
            go_wp2_with fail
            refine (Hli.out _ (ball (ball (Below.refl _ _) _) _)).mono ?_
            rintro e w' ⟨rfl, hb1⟩
            have hb2 : Below w.heap.size w w' := (ball (ball (Below.refl w.heap.size w) _) _).trans (hb1.mono (by simp; omega))
            have Hb2 := Lib.hid hb2; clear hb2 hb1
            go_wp2_with fail
            go_ret
            exact ⟨ret_int (by rw [Hdef.out, if_neg (by rw [Hk.out]; simp), if_neg H1.out, if_neg H2.out, if_pos H3.out]), Hb2.out⟩
          · have t3 : (t.kind == 3) = false := by simpa using h3
            have Hk := Lib.hid hk; have H1 := Lib.hid h1; have H2 := Lib.hid h2; have H3 := Lib.hid h3; clear hk h1 h2 h3
            go_enter Try.func19, Try.ntmps19
            go_wp2_with fail
            go_ret
            exact ⟨ret_int (by rw [Hdef.out, if_neg (by rw [Hk.out]; simp), if_neg H1.out, if_neg H2.out, if_neg H3.out]), ball (ball (Below.refl _ _) _) _⟩
    · have tk : (t.kind != u.kind) = true := by simpa using hk
      have Hk := Lib.hid hk; clear hk
      go_enter Try.func19, Try.ntmps19
      go_wp2_with (go_at_call 38; refine (cmpInt_any _ _ _).mono ?_; rintro e w' ⟨rfl, rfl⟩)
      go_ret
      exact ⟨ret_int (by rw [Hdef.out, if_pos Hk.out]), ball (ball (Below.refl _ _) _) _⟩

end Go.Proofs.Ytjhjcigappkebaa
