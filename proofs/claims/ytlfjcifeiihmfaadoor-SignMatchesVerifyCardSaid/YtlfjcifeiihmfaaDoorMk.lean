/-
  Walks: Concat of two and three byte slices; challenges (the program's and the reference's).
-/
import Derived.Test.YtlfjcifeiihmfaaDoorMj
namespace Go.Proofs.YtlfjcifeiihmfaaDoor
open Go.RowKit

theorem PdS.bs {w w' : World} {u : Value} {l : List Int} (h : PdS w u l w') (hl : l.length ≤ 140737488355328) (hr : ∀ x ∈ l, 0 ≤ x ∧ x ≤ 255) : Bs (fun k => k < w'.heap.size) w' u l :=
  Bs.kept (Bs.ofOwn h.1 hl hr) (fun _ _ => rfl) (fun _ hk => hk.2.1)

/-- Concat of the slices in a new block. -/
theorem cat_any (W : World) (us : List Value) (ps : List (List Int)) (n : Nat) (hu : us.length = n) (hp : ps.length = n) (hn : n ≤ 1000)
    (h : ∀ (j : Nat) u p, us[j]? = some u → ps[j]? = some p → Bs (fun k => k < W.heap.size) W u p) (ht : ps.flatten.length ≤ 140737488355328) :
    Calls Tryd.prog 32 #[.slice (some ⟨W.heap.size, 0, none⟩) n n] (W.alloc (.cells us.toArray 22)) fun e w' => ∃ u, e = .returned u ∧ Below W.heap.size W w' ∧ Bs (fun k => k < w'.heap.size) w' u ps.flatten := by
  subst hp
  have hP : Parts (W.alloc (.cells us.toArray 22)) (.slice (some ⟨W.heap.size, 0, none⟩) ps.length ps.length) ps := by
    refine Parts.mk (t := 22) us ps ps.length (heap_alloc_new W _) hu (by omega) (by omega) ?_
    intro j u p h1 h2
    exact (h j u p h1 h2).up2 (fun k hk => heap_alloc_old W _ hk) (by simp)
  refine (concat_any ps _ _ hP ht).mono ?_
  rintro e w' ⟨u, rfl, hb2, ho⟩
  have hb0 : Below W.heap.size W (W.alloc (.cells us.toArray 22)) := ball (Below.refl _ _) _
  refine ⟨u, rfl, hb0.trans (hb2.mono hb0.size), Bs.kept (Bs.ofOwn ho ht ?_) (fun _ _ => rfl) (fun k hk => hk.2.1)⟩
  intro x hx
  obtain ⟨p, hp, hxp⟩ := List.mem_flatten.1 hx
  obtain ⟨j, hj⟩ := List.getElem?_of_mem hp
  have hjl := (List.getElem?_eq_some_iff.1 hj).1
  exact (h j us[j] p (List.getElem?_eq_getElem (by omega)) hj).2.1 x hxp

theorem cat2 (W : World) (va vb : Value) (a b : List Int) (ha : Bs (fun k => k < W.heap.size) W va a) (hb : Bs (fun k => k < W.heap.size) W vb b) (hl : a.length + b.length ≤ 140737488355328) :
    Calls Tryd.prog 32 #[.slice (some ⟨W.heap.size, 0, none⟩) 2 2] (W.alloc (.cells #[va, vb] 22)) fun e w' => ∃ u, e = .returned u ∧ Below W.heap.size W w' ∧ Bs (fun k => k < w'.heap.size) w' u (a ++ b) := by
  have := cat_any W [va, vb] [a, b] 2 rfl rfl (by decide) (by
    intro j u p h1 h2
    match j, h1, h2 with
    | 0, h1, h2 => simp at h1 h2; subst h1 h2; exact ha
    | 1, h1, h2 => simp at h1 h2; subst h1 h2; exact hb
    | j + 2, h1, _ => simp at h1) (by simp; omega)
  simpa using this

theorem cat3 (W : World) (va vb vc : Value) (a b c : List Int) (ha : Bs (fun k => k < W.heap.size) W va a) (hb : Bs (fun k => k < W.heap.size) W vb b) (hc : Bs (fun k => k < W.heap.size) W vc c) (hl : a.length + b.length + c.length ≤ 140737488355328) :
    Calls Tryd.prog 32 #[.slice (some ⟨W.heap.size, 0, none⟩) 3 3] (W.alloc (.cells #[va, vb, vc] 22)) fun e w' => ∃ u, e = .returned u ∧ Below W.heap.size W w' ∧ Bs (fun k => k < w'.heap.size) w' u (a ++ (b ++ c)) := by
  have := cat_any W [va, vb, vc] [a, b, c] 3 rfl rfl (by decide) (by
    intro j u p h1 h2
    match j, h1, h2 with
    | 0, h1, h2 => simp at h1 h2; subst h1 h2; exact ha
    | 1, h1, h2 => simp at h1 h2; subst h1 h2; exact hb
    | 2, h1, h2 => simp at h1 h2; subst h1 h2; exact hc
    | j + 3, h1, _ => simp at h1) (by simp; omega)
  simpa using this

set_option maxHeartbeats 1000000 in
theorem challenge_any (r p : Int) (m : List Int) (v : Value) (w : World) (hk : KOk w) (hv : Bs (fun k => k < w.heap.size) w v m) (hr : 0 ≤ r ∧ r < 18446744073709551616) (hp : 0 ≤ p ∧ p < 18446744073709551616) (hm : m.length ≤ 1000000) :
    Calls Tryd.prog 34 #[.int .u64 r, .int .u64 p, v] w fun e w' => e = .returned (.int .u64 (chal r p m)) ∧ Below w.heap.size w w' := by
  obtain ⟨va, vc, rfl⟩ : ∃ a c, v = .slice a m.length c := by
    obtain ⟨_, _, a, c, h, _⟩ := hv
    exact ⟨a, c, h⟩
  have A1 := bytesOf_any r w hr.1 hr.2
  have A2 := Lib.hid (fun w => bytesOf_any p w hp.1 hp.2)
  have HV := Lib.hid hv; have HK := Lib.hid hk
  have C1 := Lib.hid (fun (W : World) (va' vb : Value) ha hb hc => cat3 W va' vb (.slice va m.length vc) (nb r) (nb p) m ha hb hc (by rw [nb_length, nb_length]; omega))
  have D1 := Lib.hid (fun (W : World) (u : Value) hk hv => tagged_any chaS (nb r ++ (nb p ++ m)) u W hk hv (by decide) (by simp [nb_length]; omega))
  have N1 : ∀ w', Calls Tryd.prog 27 #[.agg (byteVals (sha (hmsg (strB chaS) (nb r ++ (nb p ++ m))))).toArray] w' fun e w'' => e = .returned (.int .u64 (dg chaS (nb r ++ (nb p ++ m)))) ∧ Below w'.heap.size w' w'' := fun w' => number_any _ w' (sha_length _) (sha_range _)
  have hz := dg_range chaS (nb r ++ (nb p ++ m))
  have HN1 := Lib.hid N1
  unfold chal
  have nr := Lib.hid (nb_range r); have np := Lib.hid (nb_range p)
  have lr := Lib.hid (nb_length r); have lp := Lib.hid (nb_length p)
  generalize dg chaS (nb r ++ (nb p ++ m)) = z at *
  generalize (byteVals (sha (hmsg (strB chaS) (nb r ++ (nb p ++ m))))).toArray = D at *
  generalize nb r ++ (nb p ++ m) = msg at *
  generalize nb r = R at *
  generalize nb p = Q at *
  clear hv hk N1
  go_enter Tryd.func34, Tryd.ntmps34
  go_wp2_with fail
  refine A1.mono ?_
  rintro e w1 ⟨u1, rfl, h1⟩
  obtain ⟨a1, k1, rfl⟩ := h1.len
  have H1 := Lib.hid h1; clear h1
  go_wp2_with fail
  refine (A2.out _).mono ?_
  rintro e w2 ⟨u2, rfl, h2⟩
  obtain ⟨a2, k2, rfl⟩ := h2.len
  have H2 := Lib.hid h2; clear h2
  have c1 := H1.out.bs (by rw [lr.out]; decide) nr.out
  have B2 := Lib.hid (H1.out.2.trans (H2.out.2.mono H1.out.2.size))
  have C2 := Lib.hid (C1.out w2 _ _ (c1.up2 (fun k hk => H2.out.2.block k hk) H2.out.2.size) (H2.out.bs (by rw [lp.out]; decide) np.out) (HV.out.up2 (fun k hk => B2.out.block k hk) B2.out.size))
  clear c1
  go_wp2_with fail
  refine C2.out.mono ?_
  rintro e w3 ⟨u3, rfl, hb3, hv3⟩
  obtain ⟨a3, k3, rfl⟩ : ∃ a c, u3 = .slice a msg.length c := by
    obtain ⟨_, _, a, c, h, _⟩ := hv3
    exact ⟨a, c, h⟩
  have B3 := Lib.hid (B2.out.trans (hb3.mono B2.out.size)); clear hb3
  have D2 := Lib.hid (D1.out w3 _ (HK.out.below B3.out) hv3); clear hv3
  go_wp2_with fail
  refine D2.out.mono ?_
  rintro e w4 ⟨rfl, hb4⟩
  have B4 := Lib.hid (B3.out.trans (hb4.mono B3.out.size)); clear hb4
  go_wp2_with fail
  refine (HN1.out _).mono ?_
  rintro e w5 ⟨rfl, hb5⟩
  have B5 := Lib.hid (B4.out.trans (hb5.mono B4.out.size)); clear hb5
  go_wp2
  go_ret
  exact ⟨rfl, B5.out⟩

end Go.Proofs.YtlfjcifeiihmfaaDoor
