/-
  Walks: sane.
-/
import Derived.Test.YtboojinokljelaaSf
namespace Go.Proofs.Ytboojinokljelaa
open Go.RowKit

theorem sane_a : norm [(5, 9), (0, 5), (20, 10), (-3, 1)] = [(0, 9)] :=
  nr_uniq _ _ (-1) (-1) (norm_nr _) (by simp [Nr]) (fun m => by rw [norm_cov]; simp only [mem, cov, List.mem_cons, List.not_mem_nil, or_false, exists_eq_or_imp, exists_eq_left, exists_eq, and_false, exists_false]; omega)
theorem sane_b : uniL [(0, 5)] [(6, 9)] = [(0, 5), (6, 9)] :=
  nr_uniq _ _ (-1) (-1) (uni_nr _ _) (by simp [Nr]) (fun m => by rw [uni_cov]; simp only [mem, cov, List.mem_cons, List.not_mem_nil, or_false, exists_eq_or_imp, exists_eq_left, exists_eq, and_false, exists_false]; omega)
theorem sane_c : uniL [(0, 5)] [(5, 9)] = [(0, 9)] :=
  nr_uniq _ _ (-1) (-1) (uni_nr _ _) (by simp [Nr]) (fun m => by rw [uni_cov]; simp only [mem, cov, List.mem_cons, List.not_mem_nil, or_false, exists_eq_or_imp, exists_eq_left, exists_eq, and_false, exists_false]; omega)
theorem sane_d : intL [(0, 10), (20, 30)] [(5, 25)] = [(5, 10), (20, 25)] :=
  nr_uniq _ _ (-1) (-1) (int_nr _ _) (by simp [Nr]) (fun m => by rw [int_cov]; simp only [mem, cov, List.mem_cons, List.not_mem_nil, or_false, exists_eq_or_imp, exists_eq_left, exists_eq, and_false, exists_false]; omega)
theorem sane_e : minL [(0, 10)] [(3, 4), (8, 20)] = [(0, 3), (4, 8)] :=
  nr_uniq _ _ (-1) (-1) (min_nr _ _) (by simp [Nr]) (fun m => by rw [min_cov]; simp only [mem, cov, List.mem_cons, List.not_mem_nil, or_false, exists_eq_or_imp, exists_eq_left, exists_eq, and_false, exists_false]; omega)
theorem sane_f : ahead [(0, 10), (20, 30)] 5 = [(5, 10), (20, 30)] :=
  nr_uniq _ _ (-1) (-1) (ahead_nr _ _) (by simp [Nr]) (fun m => by rw [ahead_cov]; simp only [mem, cov, List.mem_cons, List.not_mem_nil, or_false, exists_eq_or_imp, exists_eq_left, exists_eq, and_false, exists_false]; omega)
theorem sane_g : norm [(0, 10), (5, 15)] = [(0, 15)] :=
  nr_uniq _ _ (-1) (-1) (norm_nr _) (by simp [Nr]) (fun m => by rw [norm_cov]; simp only [mem, cov, List.mem_cons, List.not_mem_nil, or_false, exists_eq_or_imp, exists_eq_left, exists_eq, and_false, exists_false]; omega)
theorem sane_m1 : (22 : Int) = advM (ahead [(0, 10), (20, 30)] 5) 5 7 := by rw [sane_f]; decide
theorem sane_o1 : true = advB (ahead [(0, 10), (20, 30)] 5) 7 := by rw [sane_f]; decide
theorem sane_m2 : (5 : Int) = advM (ahead [(0, 10), (20, 30)] 5) 5 0 := by rw [sane_f]; decide
theorem sane_o2 : true = advB (ahead [(0, 10), (20, 30)] 5) 0 := by rw [sane_f]; decide
theorem sane_m3 : (0 : Int) = advM (ahead [(0, 10), (20, 30)] 5) 5 16 := by rw [sane_f]; decide
theorem sane_o3 : false = advB (ahead [(0, 10), (20, 30)] 5) 16 := by rw [sane_f]; decide
theorem sane_t : (15 : Int) = tot (norm [(0, 10), (5, 15)]) := by rw [sane_g]; decide
theorem sane_p : false = inB [(-5, 5)] (-1) := (inB_false (fun h => by have := h.1; omega)).symm
theorem sane_q : true = inB [(-5, 5)] 0 := (inB_true ⟨by omega, by omega, (-5, 5), by simp, by simp, by simp⟩).symm

set_option maxRecDepth 100000 in
set_option maxHeartbeats 8000000 in
theorem sane_true (w : World) : Calls Try.prog 10 #[] w fun e w' => e = .returned (.bool true) ∧ Below w.heap.size w w' := by
  go_enter Try.func10, Try.ntmps10
  have HK := Lib.hid (Kn.nil w)
  replace HK := Lib.hid (HK.out.lit [(0, 10), (20, 30)] 2 #[.int .i64 0, .int .i64 10, .int .i64 20, .int .i64 30] rfl (by simp) (by simp [I64]) rfl)
  replace HK := Lib.hid (HK.out.lit [(3, 4), (8, 20)] 2 #[.int .i64 3, .int .i64 4, .int .i64 8, .int .i64 20] rfl (by simp) (by simp [I64]) rfl)
  replace HK := Lib.hid (HK.out.lit [(5, 9), (0, 5), (20, 10), (-3, 1)] 4 #[.int .i64 5, .int .i64 9, .int .i64 0, .int .i64 5, .int .i64 20, .int .i64 10, .int .i64 (-3), .int .i64 1] rfl (by simp) (by simp [I64]) rfl)
  simp only [World.size_alloc] at HK
  have Hc := Lib.hid (normal_s (HK.out.get (.slice (some ⟨w.heap.size + 1 + 1, 0, none⟩) 4 4) [(5, 9), (0, 5), (20, 10), (-3, 1)] (by with_reducible (repeat (first | exact List.mem_cons_self | refine List.mem_cons_of_mem _ ?_)))) (by simp))
  go_wp2_with fail
  refine Hc.out.mono ?_
  rintro e w1 ⟨v3, rfl, hb, hs⟩
  rw [sane_a] at hs
  replace HK := Lib.hid (HK.out.also hb hs)
  clear hb hs Hc
  have Hc := Lib.hid (span_s (0) (5) (by unfold I64; omega) (by unfold I64; omega) w1)
  go_wp2_with fail
  refine Hc.out.mono ?_
  rintro e w2 ⟨s1, rfl, hb, hs⟩
  replace HK := Lib.hid (HK.out.also hb hs)
  clear hb hs Hc
  have Hc := Lib.hid (span_s (6) (9) (by unfold I64; omega) (by unfold I64; omega) w2)
  go_wp2_with fail
  refine Hc.out.mono ?_
  rintro e w3 ⟨s2, rfl, hb, hs⟩
  replace HK := Lib.hid (HK.out.also hb hs)
  clear hb hs Hc
  have Hc := Lib.hid (union_s (HK.out.get (s1) [(0, 5)] (by with_reducible (repeat (first | exact List.mem_cons_self | refine List.mem_cons_of_mem _ ?_)))) (HK.out.get (s2) [(6, 9)] (by with_reducible (repeat (first | exact List.mem_cons_self | refine List.mem_cons_of_mem _ ?_)))) (by simp))
  go_wp2_with fail
  refine Hc.out.mono ?_
  rintro e w4 ⟨v4, rfl, hb, hs⟩
  rw [sane_b] at hs
  replace HK := Lib.hid (HK.out.also hb hs)
  clear hb hs Hc
  have Hc := Lib.hid (span_s (0) (5) (by unfold I64; omega) (by unfold I64; omega) w4)
  go_wp2_with fail
  refine Hc.out.mono ?_
  rintro e w5 ⟨s3, rfl, hb, hs⟩
  replace HK := Lib.hid (HK.out.also hb hs)
  clear hb hs Hc
  have Hc := Lib.hid (span_s (5) (9) (by unfold I64; omega) (by unfold I64; omega) w5)
  go_wp2_with fail
  refine Hc.out.mono ?_
  rintro e w6 ⟨s4, rfl, hb, hs⟩
  replace HK := Lib.hid (HK.out.also hb hs)
  clear hb hs Hc
  have Hc := Lib.hid (union_s (HK.out.get (s3) [(0, 5)] (by with_reducible (repeat (first | exact List.mem_cons_self | refine List.mem_cons_of_mem _ ?_)))) (HK.out.get (s4) [(5, 9)] (by with_reducible (repeat (first | exact List.mem_cons_self | refine List.mem_cons_of_mem _ ?_)))) (by simp))
  go_wp2_with fail
  refine Hc.out.mono ?_
  rintro e w7 ⟨v5, rfl, hb, hs⟩
  rw [sane_c] at hs
  replace HK := Lib.hid (HK.out.also hb hs)
  clear hb hs Hc
  have Hc := Lib.hid (span_s (5) (25) (by unfold I64; omega) (by unfold I64; omega) w7)
  go_wp2_with fail
  refine Hc.out.mono ?_
  rintro e w8 ⟨s5, rfl, hb, hs⟩
  replace HK := Lib.hid (HK.out.also hb hs)
  clear hb hs Hc
  have Hc := Lib.hid (intersect_s (HK.out.get (.slice (some ⟨w.heap.size, 0, none⟩) 2 2) [(0, 10), (20, 30)] (by with_reducible (repeat (first | exact List.mem_cons_self | refine List.mem_cons_of_mem _ ?_)))) (HK.out.get (s5) [(5, 25)] (by with_reducible (repeat (first | exact List.mem_cons_self | refine List.mem_cons_of_mem _ ?_)))) (by simp))
  go_wp2_with fail
  refine Hc.out.mono ?_
  rintro e w9 ⟨v6, rfl, hb, hs⟩
  rw [sane_d] at hs
  replace HK := Lib.hid (HK.out.also hb hs)
  clear hb hs Hc
  have Hc := Lib.hid (span_s (0) (10) (by unfold I64; omega) (by unfold I64; omega) w9)
  go_wp2_with fail
  refine Hc.out.mono ?_
  rintro e w10 ⟨s6, rfl, hb, hs⟩
  replace HK := Lib.hid (HK.out.also hb hs)
  clear hb hs Hc
  have Hc := Lib.hid (minus_s (HK.out.get (s6) [(0, 10)] (by with_reducible (repeat (first | exact List.mem_cons_self | refine List.mem_cons_of_mem _ ?_)))) (HK.out.get (.slice (some ⟨w.heap.size + 1, 0, none⟩) 2 2) [(3, 4), (8, 20)] (by with_reducible (repeat (first | exact List.mem_cons_self | refine List.mem_cons_of_mem _ ?_)))) (by simp))
  go_wp2_with fail
  refine Hc.out.mono ?_
  rintro e w11 ⟨v7, rfl, hb, hs⟩
  rw [sane_e] at hs
  replace HK := Lib.hid (HK.out.also hb hs)
  clear hb hs Hc
  have Hc := Lib.hid (advance_s (HK.out.get (.slice (some ⟨w.heap.size, 0, none⟩) 2 2) [(0, 10), (20, 30)] (by with_reducible (repeat (first | exact List.mem_cons_self | refine List.mem_cons_of_mem _ ?_)))) (by simp) 5 7 (by unfold I64; omega) (by unfold I64; omega) 22 true sane_m1 sane_o1)
  go_wp2_with fail
  refine Hc.out.mono ?_
  rintro e w12 ⟨rfl, hb⟩
  replace HK := Lib.hid (HK.out.call hb)
  clear hb
  clear Hc
  have Hc := Lib.hid (advance_s (HK.out.get (.slice (some ⟨w.heap.size, 0, none⟩) 2 2) [(0, 10), (20, 30)] (by with_reducible (repeat (first | exact List.mem_cons_self | refine List.mem_cons_of_mem _ ?_)))) (by simp) 5 0 (by unfold I64; omega) (by unfold I64; omega) 5 true sane_m2 sane_o2)
  go_wp2_with fail
  refine Hc.out.mono ?_
  rintro e w13 ⟨rfl, hb⟩
  replace HK := Lib.hid (HK.out.call hb)
  clear hb
  clear Hc
  have Hc := Lib.hid (advance_s (HK.out.get (.slice (some ⟨w.heap.size, 0, none⟩) 2 2) [(0, 10), (20, 30)] (by with_reducible (repeat (first | exact List.mem_cons_self | refine List.mem_cons_of_mem _ ?_)))) (by simp) 5 16 (by unfold I64; omega) (by unfold I64; omega) 0 false sane_m3 sane_o3)
  go_wp2_with fail
  refine Hc.out.mono ?_
  rintro e w14 ⟨rfl, hb⟩
  replace HK := Lib.hid (HK.out.call hb)
  clear hb
  clear Hc
  have Hc := Lib.hid (span_s (0) (9) (by unfold I64; omega) (by unfold I64; omega) w14)
  go_wp2_with fail
  refine Hc.out.mono ?_
  rintro e w15 ⟨s7, rfl, hb, hs⟩
  replace HK := Lib.hid (HK.out.also hb hs)
  clear hb hs Hc
  have Hc := Lib.hid (same_s (HK.out.get (v3) [(0, 9)] (by with_reducible (repeat (first | exact List.mem_cons_self | refine List.mem_cons_of_mem _ ?_)))) (HK.out.get (s7) [(0, 9)] (by with_reducible (repeat (first | exact List.mem_cons_self | refine List.mem_cons_of_mem _ ?_)))) true (by decide))
  go_wp2_with fail
  refine Hc.out.mono ?_
  rintro e w16 ⟨rfl, hb⟩
  replace HK := Lib.hid (HK.out.call hb)
  clear hb
  clear Hc
  replace HK := Lib.hid (HK.out.lit [(0, 5), (6, 9)] 2 #[.int .i64 0, .int .i64 5, .int .i64 6, .int .i64 9] rfl (by simp) (by simp [I64]) rfl)
  have Hc := Lib.hid (same_s (HK.out.get (v4) [(0, 5), (6, 9)] (by with_reducible (repeat (first | exact List.mem_cons_self | refine List.mem_cons_of_mem _ ?_)))) (HK.out.get (.slice (some ⟨w16.heap.size, 0, none⟩) 2 2) [(0, 5), (6, 9)] (by with_reducible (repeat (first | exact List.mem_cons_self | refine List.mem_cons_of_mem _ ?_)))) true (by decide))
  go_wp2_with fail
  refine Hc.out.mono ?_
  rintro e w17 ⟨rfl, hb⟩
  replace HK := Lib.hid (HK.out.call hb)
  clear hb
  clear Hc
  have Hc := Lib.hid (span_s (0) (9) (by unfold I64; omega) (by unfold I64; omega) w17)
  go_wp2_with fail
  refine Hc.out.mono ?_
  rintro e w18 ⟨s8, rfl, hb, hs⟩
  replace HK := Lib.hid (HK.out.also hb hs)
  clear hb hs Hc
  have Hc := Lib.hid (same_s (HK.out.get (v5) [(0, 9)] (by with_reducible (repeat (first | exact List.mem_cons_self | refine List.mem_cons_of_mem _ ?_)))) (HK.out.get (s8) [(0, 9)] (by with_reducible (repeat (first | exact List.mem_cons_self | refine List.mem_cons_of_mem _ ?_)))) true (by decide))
  go_wp2_with fail
  refine Hc.out.mono ?_
  rintro e w19 ⟨rfl, hb⟩
  replace HK := Lib.hid (HK.out.call hb)
  clear hb
  clear Hc
  replace HK := Lib.hid (HK.out.lit [(5, 10), (20, 25)] 2 #[.int .i64 5, .int .i64 10, .int .i64 20, .int .i64 25] rfl (by simp) (by simp [I64]) rfl)
  have Hc := Lib.hid (same_s (HK.out.get (v6) [(5, 10), (20, 25)] (by with_reducible (repeat (first | exact List.mem_cons_self | refine List.mem_cons_of_mem _ ?_)))) (HK.out.get (.slice (some ⟨w19.heap.size, 0, none⟩) 2 2) [(5, 10), (20, 25)] (by with_reducible (repeat (first | exact List.mem_cons_self | refine List.mem_cons_of_mem _ ?_)))) true (by decide))
  go_wp2_with fail
  refine Hc.out.mono ?_
  rintro e w20 ⟨rfl, hb⟩
  replace HK := Lib.hid (HK.out.call hb)
  clear hb
  clear Hc
  replace HK := Lib.hid (HK.out.lit [(0, 3), (4, 8)] 2 #[.int .i64 0, .int .i64 3, .int .i64 4, .int .i64 8] rfl (by simp) (by simp [I64]) rfl)
  have Hc := Lib.hid (same_s (HK.out.get (v7) [(0, 3), (4, 8)] (by with_reducible (repeat (first | exact List.mem_cons_self | refine List.mem_cons_of_mem _ ?_)))) (HK.out.get (.slice (some ⟨w20.heap.size, 0, none⟩) 2 2) [(0, 3), (4, 8)] (by with_reducible (repeat (first | exact List.mem_cons_self | refine List.mem_cons_of_mem _ ?_)))) true (by decide))
  go_wp2_with fail
  refine Hc.out.mono ?_
  rintro e w21 ⟨rfl, hb⟩
  replace HK := Lib.hid (HK.out.call hb)
  clear hb
  clear Hc
  replace HK := Lib.hid (HK.out.lit [(0, 10), (5, 15)] 2 #[.int .i64 0, .int .i64 10, .int .i64 5, .int .i64 15] rfl (by simp) (by simp [I64]) rfl)
  have Hc := Lib.hid (minutes_s (HK.out.get (.slice (some ⟨w21.heap.size, 0, none⟩) 2 2) [(0, 10), (5, 15)] (by with_reducible (repeat (first | exact List.mem_cons_self | refine List.mem_cons_of_mem _ ?_)))) (by simp) 15 sane_t)
  go_wp2_with fail
  refine Hc.out.mono ?_
  rintro e w22 ⟨rfl, hb⟩
  replace HK := Lib.hid (HK.out.call hb)
  clear hb
  clear Hc
  have Hc := Lib.hid (span_s (-5) (5) (by unfold I64; omega) (by unfold I64; omega) w22)
  go_wp2_with fail
  refine Hc.out.mono ?_
  rintro e w23 ⟨s9, rfl, hb, hs⟩
  replace HK := Lib.hid (HK.out.also hb hs)
  clear hb hs Hc
  have Hc := Lib.hid (contains_s (HK.out.get (s9) [(-5, 5)] (by with_reducible (repeat (first | exact List.mem_cons_self | refine List.mem_cons_of_mem _ ?_)))) (-1) false sane_p)
  go_wp2_with fail
  refine Hc.out.mono ?_
  rintro e w24 ⟨rfl, hb⟩
  replace HK := Lib.hid (HK.out.call hb)
  clear hb
  clear Hc
  have Hc := Lib.hid (span_s (-5) (5) (by unfold I64; omega) (by unfold I64; omega) w24)
  go_wp2_with fail
  refine Hc.out.mono ?_
  rintro e w25 ⟨s10, rfl, hb, hs⟩
  replace HK := Lib.hid (HK.out.also hb hs)
  clear hb hs Hc
  have Hc := Lib.hid (contains_s (HK.out.get (s10) [(-5, 5)] (by with_reducible (repeat (first | exact List.mem_cons_self | refine List.mem_cons_of_mem _ ?_)))) 0 true sane_q)
  go_wp2_with fail
  refine Hc.out.mono ?_
  rintro e w26 ⟨rfl, hb⟩
  replace HK := Lib.hid (HK.out.call hb)
  clear hb
  clear Hc
  have Hc := Lib.hid (check_s (HK.out.get (.slice (some ⟨w.heap.size, 0, none⟩) 2 2) [(0, 10), (20, 30)] (by with_reducible (repeat (first | exact List.mem_cons_self | refine List.mem_cons_of_mem _ ?_)))) 0 (by decide))
  go_wp2_with fail
  refine Hc.out.mono ?_
  rintro e w27 ⟨rfl, hb⟩
  replace HK := Lib.hid (HK.out.call hb)
  clear hb
  clear Hc
  replace HK := Lib.hid (HK.out.lit [(0, 5), (5, 9)] 2 #[.int .i64 0, .int .i64 5, .int .i64 5, .int .i64 9] rfl (by simp) (by simp [I64]) rfl)
  have Hc := Lib.hid (check_s (HK.out.get (.slice (some ⟨w27.heap.size, 0, none⟩) 2 2) [(0, 5), (5, 9)] (by with_reducible (repeat (first | exact List.mem_cons_self | refine List.mem_cons_of_mem _ ?_)))) 1 (by decide))
  go_wp2_with fail
  refine Hc.out.mono ?_
  rintro e w28 ⟨rfl, hb⟩
  replace HK := Lib.hid (HK.out.call hb)
  clear hb
  clear Hc
  go_wp2
  go_ret
  exact ⟨rfl, HK.out.below⟩
end Go.Proofs.Ytboojinokljelaa
