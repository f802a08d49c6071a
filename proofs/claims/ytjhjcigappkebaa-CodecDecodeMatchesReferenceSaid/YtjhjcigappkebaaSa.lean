/-
  Walks: the makers of values (Int, Text, List).
-/
import Derived.Test.YtjhjcigappkebaaRi
import Derived.Lib.ConvBytes
import Derived.Laws.BytesArg
namespace Go.Proofs.Ytjhjcigappkebaa
open Go.RowKit

/-- A call that returns a value that reads as t, in new memory. -/
def ValRet (t : T) (w : World) (e : Ending) (w' : World) : Prop := ∃ v, e = .returned v ∧ Rd (fresh w w') w' t v ∧ Below w.heap.size w w'

set_option maxHeartbeats 400000 in
theorem mkInt_any (n : Int) (w : World) (hn : I64 n) : Calls Try.prog 29 #[.int .i64 n] w (ValRet (.mk 1 n [] []) w) := by
  have Hn := Lib.hid hn; clear hn
  go_enter Try.func29, Try.ntmps29
  go_wp2
  refine bodyPost_ret (v := .agg #[.int .i64 1, .int .i64 n, .slice none 0 0, .slice none 0 0]) (by simp [results, Try.results29, go_sem]) rfl ?_
  exact ⟨_, rfl, Rd.int n Hn.out, by repeat (first | exact Below.refl _ _ | apply Below.drew | apply ball)⟩

set_option maxHeartbeats 400000 in
theorem mkList_any (a : Option Addr) (n c : Nat) (w : World) : Calls Try.prog 27 #[.slice a n c] w fun e w' => e = .returned (.agg #[.int .i64 3, .int .i64 0, .slice none 0 0, .slice a n c]) ∧ Below w.heap.size w w' := by
  go_enter Try.func27, Try.ntmps27
  go_wp2
  refine bodyPost_ret (v := .agg #[.int .i64 3, .int .i64 0, .slice none 0 0, .slice a n c]) (by simp [results, Try.results27, go_sem]) rfl ?_
  exact ⟨rfl, by repeat (first | exact Below.refl _ _ | apply Below.drew | apply ball)⟩

/-- The bytes of a string. -/
def strB (s : ByteArray) : List Int := s.data.toList.map fun b => (b.toNat : Int)
theorem strB_length (s : ByteArray) : (strB s).length = s.size := by unfold strB; rw [List.length_map, Array.length_toList]; rfl
theorem strB_range (s : ByteArray) : ∀ u ∈ strB s, 0 ≤ u ∧ u ≤ 255 := by
  intro u hu
  obtain ⟨b, _, rfl⟩ := List.mem_map.1 hu
  have := b.toNat_lt
  omega

theorem bytesWorld_grown (w : World) (e : TypeId) (s : ByteArray) (r : Option Nat) : w.grownBy (Lib.bytesWorld w e s) r :=
  ⟨rfl, rfl, rfl, by rw [Lib.bytesWorld_size]; omega, fun k hk _ => Lib.bytesWorld_at_old w e s k hk⟩

theorem grownCap_le2 (w : World) (n : Nat) (e : TypeId) : n ≤ grownCap w n 0 e := grownCap_ge w n 0 e

theorem bytesWorld_Bs (w : World) (s : ByteArray) (hs : s.size ≤ 140737488355328) : Bs (fun k => k = w.heap.size) (Lib.bytesWorld w 5 s) (.slice (some ⟨w.heap.size, 0, none⟩) s.size (grownCap w s.size 0 5)) (strB s) := by
  refine ⟨by rw [strB_length]; exact hs, strB_range s, _, grownCap w s.size 0 5, by rw [strB_length], by rw [strB_length]; exact grownCap_le2 w s.size 5, fun _ => ⟨w.heap.size, 0, rfl, rfl, fun j u hj => ?_⟩⟩
  have hjl : j < s.size := by
    rw [← strB_length]
    rcases Nat.lt_or_ge j (strB s).length with h | h
    · exact h
    · rw [List.getElem?_eq_none h] at hj; cases hj
  have := Lib.bytesWorld_cell w 5 s j hjl
  rw [Nat.zero_add, this]
  unfold strB at hj
  rw [List.getElem?_map] at hj
  have hj2 : s.data.toList[j]? = some (s.data.toList[j]'(by rw [Array.length_toList]; exact hjl)) := List.getElem?_eq_getElem _
  rw [hj2] at hj
  simp at hj
  rw [List.getD_eq_getElem?_getD, hj2]
  simp [hj]

/-- '[]byte(s)' as a fact of the world in which it is made. -/
theorem conv_at (w : World) (s : ByteArray) (hs : s.size ≤ 140737488355328) : ∃ W cp, (convert 9 22 (.string s)).run Try.prog w = .ok (.slice (some ⟨w.heap.size, 0, none⟩) s.size cp) W ∧ (w.grownBy W none ∧ w.heap.size < W.heap.size) ∧
    Bs (fun k => k = w.heap.size) W (.slice (some ⟨w.heap.size, 0, none⟩) s.size cp) (strB s) :=
  ⟨_, _, Lib.run_convert_string_bytes (P := Try.prog) w 9 22 5 s Try.underlying9 Try.underlying22 Try.underlying5, ⟨bytesWorld_grown w 5 s none, by rw [Lib.bytesWorld_size]; omega⟩, bytesWorld_Bs w s hs⟩

set_option maxHeartbeats 400000 in
theorem mkText_any (s : ByteArray) (w : World) (hs : s.size ≤ 140737488355328) : Calls Try.prog 31 #[.string s] w (ValRet (.mk 2 0 (strB s) []) w) := by
  obtain ⟨W, cp, hcv, ⟨hg, hgl⟩, hB⟩ := conv_at (w.alloc (.cells #[.int .i64 0, .int .i64 0, .slice none 0 0, .slice none 0 0] 25)) s hs
  have c0 : W.heap[w.heap.size]? = some (.cells #[.int .i64 0, .int .i64 0, .slice none 0 0, .slice none 0 0] 25 (0, 0)) := by
    rw [hg.block w.heap.size (by simp) (by simp)]
    exact heap_alloc_new w _
  have d0 : W.cell? ⟨w.heap.size, 0, none⟩ = some (.int .i64 0) := by simp [World.cell?, c0]
  have d1 : W.cell? ⟨w.heap.size, 1, none⟩ = some (.int .i64 0) := by simp [World.cell?, c0]
  have d2 : W.cell? ⟨w.heap.size, 2, none⟩ = some (.slice none 0 0) := by simp [World.cell?, c0]
  have d3 : W.cell? ⟨w.heap.size, 3, none⟩ = some (.slice none 0 0) := by simp [World.cell?, c0]
  have f0 : W.frozen? ⟨w.heap.size, 0, none⟩ = false := by simp [World.frozen?, c0]
  have f1 : W.frozen? ⟨w.heap.size, 1, none⟩ = false := by simp [World.frozen?, c0]
  have f2 : W.frozen? ⟨w.heap.size, 2, none⟩ = false := by simp [World.frozen?, c0]
  have f3 : W.frozen? ⟨w.heap.size, 3, none⟩ = false := by simp [World.frozen?, c0]
  have hws := hg.size
  have Hg := Lib.hid hg
  have HB := Lib.hid hB
  clear hg hB c0
  simp only [World.size_alloc] at hcv hws hgl
  go_enter Try.func31, Try.ntmps31
  go_wp2
  refine bodyPost_ret (v := .agg #[.int .i64 2, .int .i64 0, .slice (some ⟨w.heap.size + 1, 0, none⟩) s.size cp, .slice none 0 0]) (by simp [results, Try.results31, go_sem, d0, d1, d2, d3]) rfl ?_
  have hg4 := grownSet4 W w.heap.size (.int .i64 2) (.int .i64 0) (.slice (some ⟨w.heap.size + 1, 0, none⟩) s.size cp) (.slice none 0 0)
  have hB2 := HB.out
  simp only [World.size_alloc] at hB2
  refine ⟨_, rfl, Rd.bytes (Bs.kept hB2 (fun k hk => hg4.block k (by have hk' : k = w.heap.size + 1 := hk; omega) (fun e => by have hk' : k = w.heap.size + 1 := hk; simp at e; omega)) (fun k hk => ⟨by have hk' : k = w.heap.size + 1 := hk; omega, by have hk' : k = w.heap.size + 1 := hk; have := hg4.size; omega⟩)), ?_⟩
  exact ((ball (Below.refl w.heap.size w) _).grown Hg.out (by simp) (by simp)).grown hg4 (by omega) (fun k hk => by simp at hk; omega)

end Go.Proofs.Ytjhjcigappkebaa
