/-
  Walks: the laws' helpers Hashed and Same.
-/
import Derived.Test.YthmpeeipbclhkaaDoorLw
namespace Go.Proofs.YthmpeeipbclhkaaDoor
open Go.RowKit

/-- 'string(b)' of a slice. -/
theorem conv_str {F : Nat → Prop} {w : World} {v : Value} {b : List Int} (h : Bs F w v b) : (convert 48 9 v).run Tryd.prog w = .ok (.string (strOfNums b)) w := by
  by_cases hp : 0 < b.length
  · obtain ⟨g, off, cap, rfl, _, _, hc⟩ := h.at hp
    exact run_convert_bytes_arg (P := Tryd.prog) w 48 5 Tryd.underlying48 Tryd.underlying5 g off b.length cap b rfl (fun i hi => by
      rw [hc i _ (List.getElem?_eq_getElem hi), List.getD_eq_getElem?_getD, List.getElem?_eq_getElem hi]; rfl) 9 Tryd.underlying9
  · have hb : b = [] := List.eq_nil_of_length_eq_zero (by omega)
    subst hb
    obtain ⟨_, _, a, cap, rfl, _, _⟩ := h
    rw [run_convert_bytes_string w 48 9 5 a _ cap Tryd.underlying48 Tryd.underlying5 Tryd.underlying9]
    cases a with
    | none => rfl
    | some x =>
      have := run_bytesToString (P := Tryd.prog) w x ([] : List Int).length cap [] (by simp [loadCells, loadCellsFrom])
      rw [this]
      rfl

theorem nums_inj {a b : List Int} (ha : ∀ u ∈ a, 0 ≤ u ∧ u ≤ 255) (hb : ∀ u ∈ b, 0 ≤ u ∧ u ≤ 255) : ((strOfNums a).toList == (strOfNums b).toList) = decide (a = b) := by
  rw [ByteArray.toList_eq, ByteArray.toList_eq]
  rw [strOfNums_data, strOfNums_data]
  by_cases h : a = b
  · subst h; simp
  · have : (a.map fun n => UInt8.ofNat n.toNat) ≠ (b.map fun n => UInt8.ofNat n.toNat) := by
      intro e
      apply h
      have back : ∀ l : List Int, (∀ u ∈ l, 0 ≤ u ∧ u ≤ 255) → (l.map fun n => UInt8.ofNat n.toNat).map (fun c => (c.toNat : Int)) = l := by
        intro l hl
        rw [List.map_map]
        conv => rhs; rw [← List.map_id l]
        apply List.map_congr_left
        intro u hu
        have := hl u hu
        simp only [Function.comp, id]
        rw [UInt8.toNat_ofNat', Nat.mod_eq_of_lt (by omega)]
        omega
      rw [← back a ha, ← back b hb, e]
    simp [this, h]

/-- What Hashed makes: worlds and values, one after the other. -/
theorem hash_steps (s : ByteArray) (b : List Int) (v : Value) (w : World) (hv : Bs (fun k => k < w.heap.size) w v b) (hs : s.size ≤ 255) (hb : b.length ≤ 1000000) :
    ∃ W cp v2 W2 v3 W3, (convert 9 48 (.string s)).run Tryd.prog (w.alloc (.cells #[.int .u8 (s.size : Int)] 5)) = .ok (.slice (some ⟨w.heap.size + 1, 0, none⟩) s.size cp) W ∧
      (Builtin.append_ #[48, 48] 48 #[.slice (some ⟨w.heap.size, 0, none⟩) 1 1, .slice (some ⟨w.heap.size + 1, 0, none⟩) s.size cp]).run Tryd.prog W = .ok v2 W2 ∧
      (Builtin.append_ #[48, 48] 48 #[v2, v]).run Tryd.prog W2 = .ok v3 W3 ∧ Below w.heap.size w W3 ∧ Bs (fun k => k < W3.heap.size) W3 v3 ((s.size : Int) :: (strB s ++ b)) := by
  have hb0 : Below w.heap.size w (w.alloc (.cells #[.int .u8 (s.size : Int)] 5)) := ball (Below.refl _ _) _
  have ho : (w.alloc (.cells #[.int .u8 (s.size : Int)] 5)).ownsRow w.heap.size 5 1 (.slice (some ⟨w.heap.size, 0, none⟩) 1 1) [(s.size : Int)].length (byteVals [(s.size : Int)]) :=
    ⟨rfl, .inr ⟨w.heap.size, 1, #[.int .u8 (s.size : Int)], rfl, Nat.le_refl _, heap_alloc_new w _, by simp, by unfold maxLen; omega, rfl, rfl⟩⟩
  have hsz : (w.alloc (.cells #[.int .u8 (s.size : Int)] 5)).heap.size = w.heap.size + 1 := by simp
  generalize w.alloc (.cells #[.int .u8 (s.size : Int)] 5) = X at *
  obtain ⟨W, cp, hcv, ⟨hg, hgl⟩, hB⟩ := conv_at X s (by omega)
  rw [hsz] at hcv hB hgl
  have ho2 : W.ownsRow w.heap.size 5 1 (.slice (some ⟨w.heap.size, 0, none⟩) 1 1) [(s.size : Int)].length (byteVals [(s.size : Int)]) := ho.kept hg (by right; simp [Value.ownBlock])
  have hb1 : Below w.heap.size w W := hb0.grown hg hb0.size (by intro k hk; cases hk)
  obtain ⟨v2, W2, hr2, hA2⟩ := append_run _ w.heap.size W _ _ [(s.size : Int)] (strB s) 48 ho2 hB (by rw [strB_length]; simp; omega) hb1.size
  have hb2 : Below w.heap.size w W2 := hb1.grown hA2.grown hb1.size (by intro k hk; simp [Value.ownBlock] at hk; omega)
  have hv2 : Bs (fun k => k < W2.heap.size) W2 v b := (hv.below (fun k hk => hk) hb2).kept (fun _ _ => rfl) (fun k hk => Nat.lt_of_lt_of_le hk hb2.size)
  have hown2 := hA2.own
  obtain ⟨v3, W3, hr3, hA3⟩ := append_run _ w.heap.size W2 v2 v ([(s.size : Int)] ++ strB s) b 48 hown2 hv2 (by simp [strB_length]; omega) hb2.size
  have hb3 : Below w.heap.size w W3 := hb2.grown hA3.grown hb2.size (by intro k hk; exact (hown2.lt k hk).1)
  refine ⟨W, cp, v2, W2, v3, W3, hcv, hr2, hr3, hb3, ?_⟩
  have hfin := Bs.ofOwn hA3.own (by simp [strB_length]; omega) (by
    intro u hu
    rcases List.mem_append.1 hu with hu | hu
    · rcases List.mem_append.1 hu with hu | hu
      · simp at hu; omega
      · exact strB_range s u hu
    · exact hv.2.1 u hu)
  have := Bs.kept hfin (fun _ _ => rfl) (fun k hk => hk.2.1) (F' := fun k => k < W3.heap.size)
  simpa using this

set_option maxHeartbeats 1000000 in
theorem hashed_any (s : ByteArray) (b : List Int) (v : Value) (w : World) (hv : Bs (fun k => k < w.heap.size) w v b) (hs : s.size ≤ 1000000) (hb : b.length ≤ 1000000) :
    Calls Tryd.prog 54 #[.string s, v] w fun e w' => ∃ u, e = .returned u ∧ Below w.heap.size w w' ∧ Bs (fun k => k < w'.heap.size) w' u (hmsg (strB s) b) := by
  rcases Nat.lt_or_ge 255 s.size with h | h
  · obtain ⟨hz, hx⟩ := extract255 s (by omega)
    obtain ⟨W, cp, v2, W2, v3, W3, hcv, hr2, hr3, hb3, hB3⟩ := hash_steps (s.extract 0 255) b v w hv (by omega) hb
    have hm : hmsg (strB s) b = ((s.extract 0 255).size : Int) :: (strB (s.extract 0 255) ++ b) := by
      unfold hmsg
      rw [hx, List.length_take, strB_length, hz]
      have : min 255 s.size = 255 := by omega
      rw [this]
    rw [← hm] at hB3
    have HB3 := Lib.hid hB3; have Hb3 := Lib.hid hb3; have R2 := Lib.hid hr2; have R3 := Lib.hid hr3
    clear hB3 hb3 hr2 hr3 hv hm hx
    have hs' : ¬ ((s.size : Int) ≤ 255) := by omega
    have hs2 : (255 : Int) ≤ (s.size : Int) := by omega
    have hs3 : 255 ≤ s.size := by omega
    generalize hS : s.extract 0 255 = s2 at *
    rw [hz] at hcv R2
    rw [show ((255 : Nat) : Int) = 255 from rfl] at hcv
    go_enter Tryd.func54, Tryd.ntmps54
    go_wp2_with (first | (at_builtin; refine wp_app rfl rfl rfl (.tmp 16) (.tmp 18) rfl rfl rfl R2.out ?_) | (at_builtin; refine wp_app rfl rfl rfl (.tmp 20) (.tmp 21) rfl rfl rfl R3.out ?_))
    go_ret
    exact ⟨_, rfl, Hb3.out, HB3.out⟩
  · obtain ⟨W, cp, v2, W2, v3, W3, hcv, hr2, hr3, hb3, hB3⟩ := hash_steps s b v w hv h hb
    have hm : hmsg (strB s) b = (s.size : Int) :: (strB s ++ b) := by
      unfold hmsg
      rw [List.take_of_length_le (by rw [strB_length]; omega), strB_length]
    rw [← hm] at hB3
    have HB3 := Lib.hid hB3; have Hb3 := Lib.hid hb3; have R2 := Lib.hid hr2; have R3 := Lib.hid hr3
    clear hB3 hb3 hr2 hr3 hv hm
    have hs' : (s.size : Int) ≤ 255 := by omega
    go_enter Tryd.func54, Tryd.ntmps54
    go_wp2_with (first | (at_builtin; refine wp_app rfl rfl rfl (.tmp 16) (.tmp 18) rfl rfl rfl R2.out ?_) | (at_builtin; refine wp_app rfl rfl rfl (.tmp 20) (.tmp 21) rfl rfl rfl R3.out ?_))
    go_ret
    exact ⟨_, rfl, Hb3.out, HB3.out⟩

/-- A digest loaded whole, behind a guard that holds or without one. -/
theorem wpList_load_dig {ops : Array Oper} {rest : List Oper} {o : Oper} {a : Act} {w : World} {Q : Exit → Act → World → Prop} (hw : Region.wanted o (yielded ops a.tmps) = true) (x : Operand) (ho : o.op = .load 26 x)
    (g : Nat) (hx : a.eval x = .pointer (some ⟨g, 0, none⟩)) (D : List Int) (hg : RowB w g 26 D) (hD : D.length = 32)
    (h : wpList Tryd.prog ops Q rest (a.put o.dst (.agg (byteVals D).toArray)) w) : wpList Tryd.prog ops Q (o :: rest) a w :=
  wpList_step fun K hK => by
    rw [if_pos hw]
    exact wp_load_row 26 x ho g hx 26 _ (0, 0) _ hg Tryd.underlying26 rfl (size25 _ hD) (hK _ _ h)

end Go.Proofs.YthmpeeipbclhkaaDoor
