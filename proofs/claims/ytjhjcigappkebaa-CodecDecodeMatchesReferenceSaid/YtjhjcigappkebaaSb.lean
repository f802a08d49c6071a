/-
  Walks: the checks of examples (encodes, fails).
-/
import Derived.Test.YtjhjcigappkebaaSa
import Derived.Test.YtjhjcigappkebaaCd
namespace Go.Proofs.Ytjhjcigappkebaa
open Go.RowKit

theorem strOfNums_strB (s : ByteArray) : strOfNums (strB s) = s := by
  apply ByteArray.ext
  apply Array.ext'
  rw [strOfNums_data]
  unfold strB
  rw [List.map_map]
  have : ((fun n : Int => UInt8.ofNat n.toNat) ∘ fun b : UInt8 => (b.toNat : Int)) = id := by
    funext b; simp
  rw [this, List.map_id]

/-- 'string(b)' of a slice that holds a string's bytes. -/
theorem conv_back {F : Nat → Prop} {w : World} {v : Value} {s : ByteArray} (h : Bs F w v (strB s)) (hp : 0 < s.size) : (convert 22 9 v).run Try.prog w = .ok (.string s) w := by
  obtain ⟨g, off, cap, rfl, _, _, hc⟩ := h.at (by rw [strB_length]; exact hp)
  have := run_convert_bytes_arg (P := Try.prog) w 22 5 Try.underlying22 Try.underlying5 g off (strB s).length cap (strB s) rfl (fun i hi => by
    rw [hc i _ (List.getElem?_eq_getElem hi), List.getD_eq_getElem?_getD, List.getElem?_eq_getElem hi]; rfl) 9 Try.underlying9
  rw [strOfNums_strB] at this
  exact this

theorem below_lt {w w' : World} (h : Below w.heap.size w w') {k : Nat} (hk : k < w.heap.size) : k < w'.heap.size := Nat.lt_of_lt_of_le hk h.size

set_option maxHeartbeats 400000 in
theorem encodes_true (F : Nat → Prop) (t : T) (s : ByteArray) (w : World) (v : Value) (hF : ∀ k, F k → k < w.heap.size) (hr : Rd F w t v) (hs0 : 0 < s.size) (hs1 : s.size ≤ 65536) (he : enc t = strB s) (hc : chk t = 0) (hd : dec (strB s) = .ok t) :
    Calls Try.prog 32 #[v, .string s] w fun e w' => e = .returned (.bool true) ∧ Below w.heap.size w w' := by
  have hsz : (enc t).length ≤ 140737488355328 := by rw [he, strB_length]; omega
  obtain ⟨a2, c2, a3, c3, rfl⟩ := rdForm4 hr
  have henc : ∀ w', Below w.heap.size w w' → Calls Try.prog 14 #[.agg #[.int .i64 t.kind, .int .i64 t.num, .slice a2 t.bs.length c2, .slice a3 t.els.length c3]] w' (EncOf t w') :=
    fun w' h => encode_any F t w' _ (fun k hk => below_lt h (hF k hk)) (hr.below hF h) hsz
  have Henc := Lib.hid henc; clear henc
  have HF := Lib.hid hF; have Hr := Lib.hid hr; have He := Lib.hid he; have Hc := Lib.hid hc; have Hd := Lib.hid hd
  clear hF hr he hc hd hsz
  go_enter Try.func32, Try.ntmps32
  go_wp2_with fail
  refine (Henc.out _ (ball (Below.refl w.heap.size w) _)).mono ?_
  rintro e w1 ⟨vb, rfl, hb1, hB, _⟩
  have hb1w : Below w.heap.size w w1 := (ball (Below.refl w.heap.size w) _).trans (hb1.mono (by simp))
  have hB1 := hB Hc.out
  rw [He.out] at hB1
  have hB2 : Bs (fun k => k < w1.heap.size) w1 vb (strB s) := hB1.kept (fun _ _ => rfl) (fun k hk => hk.2)
  have c0 : w1.cell? ⟨w.heap.size, 0, none⟩ = some (.int .i64 t.kind) := (hb1.cell (p := ⟨w.heap.size, 0, none⟩) (by simp)).trans (by simp)
  have c1 : w1.cell? ⟨w.heap.size, 1, none⟩ = some (.int .i64 t.num) := (hb1.cell (p := ⟨w.heap.size, 1, none⟩) (by simp)).trans (by simp)
  have c2' : w1.cell? ⟨w.heap.size, 2, none⟩ = some (.slice a2 t.bs.length c2) := (hb1.cell (p := ⟨w.heap.size, 2, none⟩) (by simp)).trans (by simp)
  have c3' : w1.cell? ⟨w.heap.size, 3, none⟩ = some (.slice a3 t.els.length c3) := (hb1.cell (p := ⟨w.heap.size, 3, none⟩) (by simp)).trans (by simp)
  have hbx : w.heap.size < w1.heap.size := by have := hb1.size; simp at this; omega
  obtain ⟨W, cp, hcv, ⟨hg, hgl⟩, hBW⟩ := conv_at w1 s (by omega)
  have HB2 := Lib.hid hB2; have Hb1w := Lib.hid hb1w; have Hg := Lib.hid hg; have HBW := Lib.hid hBW
  clear hB hB1 hb1 hB2 hb1w hg hBW
  rw [Hc.out]
  go_wp2_with fail
  have hdc := decode_any W _ (strB s) (Bs.kept HBW.out (fun _ _ => rfl) (fun k hk => by have hk' : k = w1.heap.size := hk; omega))
  refine hdc.mono ?_
  rintro e w2 ⟨hb2, hm⟩
  rw [Hd.out] at hm
  obtain ⟨v2, rfl, hr2⟩ := hm
  obtain ⟨x2, y2, x3, y3, rfl⟩ := rdForm4 hr2
  have hb2w : Below w1.heap.size w1 w2 := ((Below.refl _ _).grown Hg.out (Nat.le_refl _) (by simp)).trans (hb2.mono (by omega))
  have e0 := (hb2w.cell (p := ⟨w.heap.size, 0, none⟩) hbx).trans c0
  have e1 := (hb2w.cell (p := ⟨w.heap.size, 1, none⟩) hbx).trans c1
  have e2 := (hb2w.cell (p := ⟨w.heap.size, 2, none⟩) hbx).trans c2'
  have e3 := (hb2w.cell (p := ⟨w.heap.size, 3, none⟩) hbx).trans c3'
  have hcb : ∀ w', Below w2.heap.size w2 w' → (convert 22 9 vb).run Try.prog w' = .ok (.string s) w' :=
    fun w' h => conv_back (HB2.out.below (fun _ hk => hk) (hb2w.trans (h.mono hb2w.size))) hs0
  have hcb1 := hcb (w2.alloc (.cells #[.int .i64 t.kind, .int .i64 t.num, .slice x2 t.bs.length y2, .slice x3 t.els.length y3] 25)) (ball (Below.refl _ _) _)
  have e0' : ∀ o, (w2.alloc o).cell? ⟨w.heap.size, 0, none⟩ = some (.int .i64 t.kind) := fun o => (World.cell?_alloc_some w2 _ o (by rw [e0]; rfl)).trans e0
  have e1' : ∀ o, (w2.alloc o).cell? ⟨w.heap.size, 1, none⟩ = some (.int .i64 t.num) := fun o => (World.cell?_alloc_some w2 _ o (by rw [e1]; rfl)).trans e1
  have e2' : ∀ o, (w2.alloc o).cell? ⟨w.heap.size, 2, none⟩ = some (.slice a2 t.bs.length c2) := fun o => (World.cell?_alloc_some w2 _ o (by rw [e2]; rfl)).trans e2
  have e3' : ∀ o, (w2.alloc o).cell? ⟨w.heap.size, 3, none⟩ = some (.slice a3 t.els.length c3) := fun o => (World.cell?_alloc_some w2 _ o (by rw [e3]; rfl)).trans e3
  have hsame : ∀ w', Below w2.heap.size w2 w' → Calls Try.prog 23 #[.agg #[.int .i64 t.kind, .int .i64 t.num, .slice a2 t.bs.length c2, .slice a3 t.els.length c3], .agg #[.int .i64 t.kind, .int .i64 t.num, .slice x2 t.bs.length y2, .slice x3 t.els.length y3]] w' fun e w'' => e = .returned (.bool true) ∧ Below w'.heap.size w' w'' := by
    intro w' h
    have hww : Below w.heap.size w w' := Hb1w.out.trans ((hb2w.mono Hb1w.out.size).trans (h.mono (Nat.le_trans Hb1w.out.size hb2w.size)))
    refine (same_any F (fun k => k < w2.heap.size) (dep t + 1) t (by omega) t w' _ _ (fun k hk => below_lt hww (HF.out k hk)) (fun k hk => below_lt h hk) (Hr.out.below HF.out hww) (Rd.kept (fun k hk => h.block k hk.2) (fun k hk => hk.2) t _ hr2)).mono ?_
    rintro e w'' ⟨rfl, hb⟩
    exact ⟨by rw [(sameT_iff t t).2 rfl], hb⟩
  have Hsame := Lib.hid hsame
  clear hsame e0 e1 e2 e3
  have Hr2 := Lib.hid hr2; have Hb2w := Lib.hid hb2w
  clear c0 c1 c2' c3' hdc hr2 hb2w hb2 hcb
  go_wp2_with fail
  refine (Hsame.out _ (ball (Below.refl _ _) _)).mono ?_
  rintro e w3 ⟨rfl, hb3⟩
  have hbf : Below w.heap.size w w3 := Hb1w.out.trans ((Hb2w.out.mono Hb1w.out.size).trans ((ball (Below.refl w2.heap.size w2) _).trans (hb3.mono (by simp)) |>.mono (Nat.le_trans Hb1w.out.size Hb2w.out.size)))
  have Hbf := Lib.hid hbf; clear hbf hb3
  go_wp2_with fail
  go_ret
  exact ⟨rfl, Hbf.out⟩

theorem Rd.zero (F : Nat → Prop) (w : World) : Rd F w (.mk 0 0 [] []) zeroV := by
  unfold Rd zeroV
  exact ⟨.slice none 0 0, none, 0, rfl, by unfold I64; omega, by unfold I64; omega, Bs.nil _ _, by simp, by simp, by simp⟩

set_option maxHeartbeats 400000 in
theorem fails_true (s : ByteArray) (c : Int) (w : World) (hs1 : s.size ≤ 65536) (hd : dec (strB s) = .error c) :
    Calls Try.prog 33 #[.string s, .int .i64 c] w fun e w' => e = .returned (.bool true) ∧ Below w.heap.size w w' := by
  obtain ⟨W, cp, hcv, ⟨hg, hgl⟩, hBW⟩ := conv_at w s (by omega)
  have Hd := Lib.hid hd; have Hg := Lib.hid hg; have HBW := Lib.hid hBW
  clear hd hg hBW
  have tc : (c == c) = true := by simp
  go_enter Try.func33, Try.ntmps33
  go_wp2_with fail
  have hdc := decode_any W _ (strB s) (Bs.kept HBW.out (fun _ _ => rfl) (fun k hk => by have hk' : k = w.heap.size := hk; omega))
  refine hdc.mono ?_
  rintro e w2 ⟨hb2, hm⟩
  rw [Hd.out] at hm
  subst hm
  have hb2w : Below w.heap.size w w2 := ((Below.refl _ _).grown Hg.out (Nat.le_refl _) (by simp)).trans (hb2.mono (by omega))
  have hsame : ∀ w', Calls Try.prog 23 #[zeroV, zeroV] w' fun e w'' => e = .returned (.bool true) ∧ Below w'.heap.size w' w'' := by
    intro w'
    refine (same_any (fun _ => False) (fun _ => False) 2 (.mk 0 0 [] []) (by simp [dep, depL]) (.mk 0 0 [] []) w' _ _ (fun _ h => h.elim) (fun _ h => h.elim) (Rd.zero _ _) (Rd.zero _ _)).mono ?_
    rintro e w'' ⟨rfl, hb⟩
    exact ⟨by rw [(sameT_iff _ _).2 rfl], hb⟩
  have Hsame := Lib.hid hsame; have Hb2w := Lib.hid hb2w
  clear hdc hb2 hsame hb2w hcv
  unfold zeroV at *
  go_wp2_with fail
  refine (Hsame.out _).mono ?_
  rintro e w3 ⟨rfl, hb3⟩
  have hbf : Below w.heap.size w w3 := Hb2w.out.trans ((ball (Below.refl w2.heap.size w2) _).trans (hb3.mono (by simp)) |>.mono Hb2w.out.size)
  have Hbf := Lib.hid hbf; clear hbf hb3
  go_wp2_with fail
  go_ret
  exact ⟨rfl, Hbf.out⟩

end Go.Proofs.Ytjhjcigappkebaa
