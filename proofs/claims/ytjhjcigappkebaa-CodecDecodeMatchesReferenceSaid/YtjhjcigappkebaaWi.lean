/-
  Walks: Encode.
-/
import Derived.Test.YtjhjcigappkebaaWh
import Derived.Test.YtjhjcigappkebaaWe
import Derived.Laws.MakeOwn
namespace Go.Proofs.Ytjhjcigappkebaa
open Go.RowKit

theorem Bs.ofOwn {base : Nat} {w : World} {v : Value} {bs : List Int} (h : w.ownsRow base 5 1 v bs.length (byteVals bs)) (hl : bs.length ≤ 140737488355328) (hr : ∀ u ∈ bs, 0 ≤ u ∧ u ≤ 255) :
    Bs (fun k => base ≤ k ∧ k < w.heap.size ∧ v.ownBlock = some k) w v bs := by
  obtain ⟨_, h2⟩ := h
  rcases h2 with ⟨rfl, h0⟩ | ⟨g, cap, cur, rfl, hb, hh, hn, hm, hs, ht⟩
  · exact ⟨hl, hr, none, 0, by rw [h0], by omega, fun hp => by omega⟩
  · refine ⟨hl, hr, _, cap, rfl, hn, fun _ => ⟨g, 0, rfl, ⟨hb, (Array.getElem?_eq_some_iff.1 hh).1, rfl⟩, fun j u hj => ?_⟩⟩
    have hc := cell_of_row w g (0 + j) cur 5 (0, 0) hh
    rw [hc]
    have : (byteVals bs)[j]? = some (.int .u8 u) := by unfold byteVals; rw [List.getElem?_map, hj]; rfl
    rw [← ht, List.getElem?_take] at this
    split at this
    · simpa using this
    · cases this

theorem digit_range (m : Int) (i : Nat) : 0 ≤ digit m i ∧ digit m i ≤ 255 := by unfold digit; omega
theorem digs_range (m : Int) : ∀ k, ∀ u ∈ digs m k, 0 ≤ u ∧ u ≤ 255
  | 0, u, h => by simp [digs] at h
  | k + 1, u, h => by
    rcases List.mem_cons.1 h with rfl | h
    · exact digit_range m k
    · exact digs_range m k u h
theorem encInt_range (n : Int) : ∀ u ∈ encInt n, 0 ≤ u ∧ u ≤ 255 := by
  intro u hu
  have hw := wid_le (mag n)
  have hw' := wid_le n
  unfold encInt at hu
  split at hu
  · rcases List.mem_cons.1 hu with rfl | hu
    · omega
    · obtain ⟨x, hx, rfl⟩ := List.mem_map.1 hu
      have := digs_range _ _ x hx
      omega
  · rcases List.mem_cons.1 hu with rfl | hu
    · omega
    · exact digs_range _ _ u hu
theorem esc_range (b : List Int) (hb : ∀ u ∈ b, 0 ≤ u ∧ u ≤ 255) : ∀ u ∈ esc b, 0 ≤ u ∧ u ≤ 255 := by
  induction b with
  | nil => intro u hu; simp [esc] at hu
  | cons c cs ih =>
    intro u hu
    have hc := hb c (by simp)
    have ih := ih (fun u hu => hb u (by simp [hu]))
    unfold esc at hu
    split at hu
    · rcases List.mem_cons.1 hu with rfl | hu
      · omega
      · rcases List.mem_cons.1 hu with rfl | hu
        · omega
        · exact ih u hu
    · rcases List.mem_cons.1 hu with rfl | hu
      · exact hc
      · exact ih u hu

mutual
theorem enc_range {F : Nat → Prop} {w : World} : ∀ (t : T) (v : Value), Rd F w t v → ∀ u ∈ enc t, 0 ≤ u ∧ u ≤ 255
  | .mk k n b l, v, h, u, hu => by
    unfold Rd at h
    obtain ⟨vb, a, cap, _, _, _, h4, _, _, h7⟩ := h
    unfold enc at hu
    split at hu
    · exact encInt_range n u hu
    · split at hu
      · unfold encB at hu
        rcases List.mem_cons.1 hu with rfl | hu
        · omega
        · rcases List.mem_append.1 hu with hu | hu
          · exact esc_range b h4.2.1 u hu
          · simp at hu; omega
      · rcases List.mem_cons.1 hu with rfl | hu
        · omega
        · rcases List.mem_append.1 hu with hu | hu
          · by_cases hl : 0 < l.length
            · obtain ⟨g, off, _, _, hd⟩ := h7 hl
              exact encL_range l g off hd u hu
            · have : l = [] := List.eq_nil_of_length_eq_zero (by omega)
              subst this
              simp [encL] at hu
          · simp at hu; omega
theorem encL_range {F : Nat → Prop} {w : World} : ∀ (l : List T) (g off : Nat), RdL F w l g off → ∀ u ∈ encL l, 0 ≤ u ∧ u ≤ 255
  | [], _, _, _, u, hu => by simp [encL] at hu
  | t :: ts, g, off, h, u, hu => by
    unfold RdL at h
    obtain ⟨⟨x0, x1, x2, x3, _, _, _, _, ht⟩, hts⟩ := h
    unfold encL at hu
    rcases List.mem_append.1 hu with hu | hu
    · exact enc_range t _ ht u hu
    · exact encL_range ts g (off + 4) hts u hu
end

theorem run_make0 (n : Nat) (h : n ≤ 65536) (w : World) : (Instr.makeSlice 22 (.int .i64 0) (.int .i64 (n : Int))).run Try.prog w = .ok (.slice (some ⟨w.heap.size, 0, none⟩) 0 n) (w.alloc (.cells (madeCells #[.int .u8 0] n) 5)) := by
  obtain ⟨i0, hi, hz0, hz1, hz2⟩ := info_parts Try.info5
  have hr := run_make (P := Try.prog) w 22 5 i0 (.int .u8 0) Try.underlying22 hi hz0 .i64 .i64 0 n (by omega) (by omega) (by rw [hz2]; omega) (by omega)
  simpa [hz1, Value.cells] using hr


/-- What Encode says of a tree. -/
def EncOf (t : T) (w : World) (e : Ending) (w' : World) : Prop :=
  ∃ vb, e = .returned (.tuple #[vb, .int .i64 (chk t)]) ∧ Below w.heap.size w w' ∧ (chk t = 0 → Bs (fun k => w.heap.size ≤ k ∧ k < w'.heap.size) w' vb (enc t)) ∧ (chk t ≠ 0 → vb = .slice none 0 0)

set_option maxHeartbeats 400000 in
theorem encode_any (F : Nat → Prop) (t : T) (w : World) (v : Value) (hF : ∀ k, F k → k < w.heap.size) (hr : Rd F w t v) (hsz : (enc t).length ≤ 140737488355328) :
    Calls Try.prog 14 #[v] w (EncOf t w) := by
  have hrange := enc_range t v hr
  obtain ⟨a2, c2, a3, c3, rfl, hb, hik, hin, hl1, hl2, hl3⟩ := hr.form
  clear hb hik hin hl1 hl2 hl3
  have hm : ∀ w', Below w.heap.size w w' → Calls Try.prog 34 #[.agg #[.int .i64 t.kind, .int .i64 t.num, .slice a2 t.bs.length c2, .slice a3 t.els.length c3]] w' (MeasOf t w') := by
    intro w' h
    exact measure_any F t w' _ (fun k hk => Nat.lt_of_lt_of_le (hF k hk) h.size) (hr.below hF h) (by omega)
  have Hm := Lib.hid hm; clear hm
  have ha : ∀ w' vin, Below w.heap.size w w' → w'.ownsRow w.heap.size 5 1 vin 0 [] → Calls Try.prog 35 #[vin, .agg #[.int .i64 t.kind, .int .i64 t.num, .slice a2 t.bs.length c2, .slice a3 t.els.length c3]] w' (PutOf w.heap.size w' vin (enc t)) := by
    intro w' vin h hv
    exact appendValue_any F w.heap.size hF (dep t + 1) t (by omega) w' vin _ [] h.size (hr.below hF h) hv (by simpa using hsz)
  have Ha := Lib.hid ha; clear ha
  have Hrange := Lib.hid hrange; clear hrange
  clear hF hr
  by_cases hc : chk t = 0
  · have hle : (enc t).length ≤ 65536 := by
      unfold chk at hc
      split at hc
      · split at hc
        · omega
        · omega
      · omega
    have hmk := fun w' => run_make0 (enc t).length hle w'
    have Hc := Lib.hid hc
    go_enter Try.func14, Try.ntmps14
    go_wp2_with fail
    refine (Hm.out _ (ball (Below.refl w.heap.size w) _)).mono ?_
    rintro e w1 ⟨rfl, hb1⟩
    have hb2 : Below w.heap.size w w1 := (ball (Below.refl w.heap.size w) _).trans (hb1.mono (by simp))
    have d0 : w1.cell? ⟨w.heap.size, 0, none⟩ = some (Value.int .i64 t.kind) := (hb1.cell (p := ⟨w.heap.size, 0, none⟩) (by simp)).trans (by simp)
    have d1 : w1.cell? ⟨w.heap.size, 1, none⟩ = some (Value.int .i64 t.num) := (hb1.cell (p := ⟨w.heap.size, 1, none⟩) (by simp)).trans (by simp)
    have d2 : w1.cell? ⟨w.heap.size, 2, none⟩ = some (Value.slice a2 t.bs.length c2) := (hb1.cell (p := ⟨w.heap.size, 2, none⟩) (by simp)).trans (by simp)
    have d3 : w1.cell? ⟨w.heap.size, 3, none⟩ = some (Value.slice a3 t.els.length c3) := (hb1.cell (p := ⟨w.heap.size, 3, none⟩) (by simp)).trans (by simp)
    have e0 : w1.heap.size ≠ w.heap.size := World.new_ne w1 _ d0
    clear hb1
    rw [if_pos Hc.out, Hc.out]
    clear hc
    go_wp2_with fail
    go_region_held3 (fun w' => w'.cell? ⟨w.heap.size, 0, none⟩ = some (.int .i64 t.kind) ∧ w'.cell? ⟨w.heap.size, 1, none⟩ = some (.int .i64 t.num) ∧ w'.cell? ⟨w.heap.size, 2, none⟩ = some (.slice a2 t.bs.length c2) ∧ w'.cell? ⟨w.heap.size, 3, none⟩ = some (.slice a3 t.els.length c3)) (go_keep)
      (first | (go_at_call 35; refine (Ha.out _ _ (Below.drew (ball hb2 _)) (ownsDrew (World.ownsRow_made w1 _ (enc t).length hb2.size (by unfold maxLen; omega) (by rw [size_madeCells, Nat.mul_one])))).mono ?_; rintro e w2 ⟨v2, rfl, hA⟩; have kb : ∀ j v, w1.cell? ⟨w.heap.size, j, none⟩ = some v → w2.cell? ⟨w.heap.size, j, none⟩ = some v := (fun j v h => hA.grown.cell (a := ⟨w.heap.size, j, none⟩) (show (w1.alloc (Obj.cells (madeCells #[Value.int IntKind.u8 0] (enc t).length) 5)).cell? _ = _ from (World.cell?_alloc_some w1 _ _ (by rw [h]; rfl)).trans h) (by simp [Value.ownBlock]; omega)); have k0 := kb 0 _ d0; have k1 := kb 1 _ d1; have k2 := kb 2 _ d2; have k3 := kb 3 _ d3; clear kb; have HA := Lib.hid hA; clear hA))
    go_wp2_with fail
    go_ret2
    have hA := HA.out
    have hbw : Below w.heap.size w w2 := (Below.drew (ball hb2 _)).grown hA.grown (by have := hb2.size; simp; omega) (by
      intro k hk
      simp [Value.ownBlock] at hk
      have := hb2.size
      omega)
    refine ⟨v2, by rw [Hc.out]; rfl, hbw, fun _ => ?_, fun h => absurd Hc.out h⟩
    exact Bs.kept (Bs.ofOwn hA.own (by omega) Hrange.out) (fun _ _ => rfl) (fun k hk => ⟨hk.1, hk.2.1⟩)
  · have hne : ((chk t) != 0) = true := by simpa using hc
    have Hc := Lib.hid hc; clear hc
    go_enter Try.func14, Try.ntmps14
    go_wp2_with fail
    refine (Hm.out _ (ball (Below.refl w.heap.size w) _)).mono ?_
    rintro e w1 ⟨rfl, hb1⟩
    have hb2 : Below w.heap.size w w1 := (ball (Below.refl w.heap.size w) _).trans (hb1.mono (by simp))
    clear hb1
    rw [if_neg Hc.out]
    generalize hz : chk t = z at *
    have Hz := Lib.hid hz; clear hz
    go_wp2_with fail
    go_ret2
    exact ⟨_, by rw [Hz.out]; rfl, hb2, fun h => absurd (Hz.out.symm.trans h) Hc.out, fun _ => rfl⟩

end Go.Proofs.Ytjhjcigappkebaa
