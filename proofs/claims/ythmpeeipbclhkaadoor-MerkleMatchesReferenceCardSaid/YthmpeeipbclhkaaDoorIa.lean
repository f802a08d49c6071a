/-
  Strings: their bytes, conversions to and from slices.
-/
import Derived.Test.YthmpeeipbclhkaaDoorDh
import Derived.Lib.ConvBytes
import Derived.Laws.BytesArg
namespace Go.Proofs.YthmpeeipbclhkaaDoor
open Go.RowKit

/-- The bytes of a string. -/
def strB (s : ByteArray) : List Int := s.data.toList.map fun b => (b.toNat : Int)
theorem strB_length (s : ByteArray) : (strB s).length = s.size := by unfold strB; rw [List.length_map, Array.length_toList]; rfl
theorem strB_range (s : ByteArray) : ∀ u ∈ strB s, 0 ≤ u ∧ u ≤ 255 := by
  intro u hu
  obtain ⟨b, _, rfl⟩ := List.mem_map.1 hu
  have := b.toNat_lt
  omega

theorem bytesWorld_grown (w : World) (e : TypeId) (s : ByteArray) (r : Option Nat) : w.grownBy (Lib.bytesWorld w e s) r :=
  ⟨rfl, rfl, rfl, by rw [Lib.bytesWorld_size]; omega, fun k hk _ => Lib.bytesWorld_at_old w e s k hk⟩

theorem grownCap_le2 (w : World) (n : Nat) (e : TypeId) : n ≤ grownCap w n 0 e := grownCap_ge w n 0 e

theorem bytesWorld_Bs (w : World) (s : ByteArray) (hs : s.size ≤ 140737488355328) : Bs (fun k => k = w.heap.size) (Lib.bytesWorld w 5 s) (.slice (some ⟨w.heap.size, 0, none⟩) s.size (grownCap w s.size 0 5)) (strB s) := by
  refine ⟨by rw [strB_length]; exact hs, strB_range s, _, grownCap w s.size 0 5, by rw [strB_length], by rw [strB_length]; exact grownCap_le2 w s.size 5, fun _ => ⟨w.heap.size, 0, rfl, rfl, fun j u hj => ?_⟩⟩
  have hjl : j < s.size := by
    rw [← strB_length]
    rcases Nat.lt_or_ge j (strB s).length with h | h
    · exact h
    · rw [List.getElem?_eq_none h] at hj; cases hj
  have := Lib.bytesWorld_cell w 5 s j hjl
  rw [Nat.zero_add, this]
  unfold strB at hj
  rw [List.getElem?_map] at hj
  have hj2 : s.data.toList[j]? = some (s.data.toList[j]'(by rw [Array.length_toList]; exact hjl)) := List.getElem?_eq_getElem _
  rw [hj2] at hj
  simp at hj
  rw [List.getD_eq_getElem?_getD, hj2]
  simp [hj]

/-- '[]byte(s)' as a fact of the world in which it is made. -/
theorem conv_at (w : World) (s : ByteArray) (hs : s.size ≤ 140737488355328) : ∃ W cp, (convert 9 48 (.string s)).run Tryd.prog w = .ok (.slice (some ⟨w.heap.size, 0, none⟩) s.size cp) W ∧ (w.grownBy W none ∧ w.heap.size < W.heap.size) ∧
    Bs (fun k => k = w.heap.size) W (.slice (some ⟨w.heap.size, 0, none⟩) s.size cp) (strB s) :=
  ⟨_, _, Lib.run_convert_string_bytes (P := Tryd.prog) w 9 48 5 s Tryd.underlying9 Tryd.underlying48 Tryd.underlying5, ⟨bytesWorld_grown w 5 s none, by rw [Lib.bytesWorld_size]; omega⟩, bytesWorld_Bs w s hs⟩

theorem strOfNums_strB (s : ByteArray) : strOfNums (strB s) = s := by
  apply ByteArray.ext
  apply Array.ext'
  rw [strOfNums_data]
  unfold strB
  rw [List.map_map]
  have : ((fun n : Int => UInt8.ofNat n.toNat) ∘ fun b : UInt8 => (b.toNat : Int)) = id := by
    funext b; simp
  rw [this, List.map_id]

/-- 'string(b)' of a slice that holds a string's bytes. -/
theorem conv_back {F : Nat → Prop} {w : World} {v : Value} {s : ByteArray} (h : Bs F w v (strB s)) (hp : 0 < s.size) : (convert 48 9 v).run Tryd.prog w = .ok (.string s) w := by
  obtain ⟨g, off, cap, rfl, _, _, hc⟩ := h.at (by rw [strB_length]; exact hp)
  have := run_convert_bytes_arg (P := Tryd.prog) w 48 5 Tryd.underlying48 Tryd.underlying5 g off (strB s).length cap (strB s) rfl (fun i hi => by
    rw [hc i _ (List.getElem?_eq_getElem hi), List.getD_eq_getElem?_getD, List.getElem?_eq_getElem hi]; rfl) 9 Tryd.underlying9
  rw [strOfNums_strB] at this
  exact this

end Go.Proofs.YthmpeeipbclhkaaDoor
