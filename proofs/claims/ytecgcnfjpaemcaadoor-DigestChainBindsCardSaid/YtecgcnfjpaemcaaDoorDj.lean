/-
  Walks of the program's digest: Value.
-/
import Derived.Test.YtecgcnfjpaemcaaDoorDi
namespace Go.Proofs.YtecgcnfjpaemcaaDoor
open Go.RowKit

theorem results_cell_slot {P : Program} {fn : Func} {p q : Tmp} {ty : TypeId} (h : fn.results = #[.cell p ty, .tmp q]) (tmps : Array Value) (w : World) (g : Nat) (t : TypeId) (cs : Array Value) (fr : Nat × Nat) (d : TypeDesc) (x : Value)
    (hp : tmps.getD p undef = .pointer (some ⟨g, 0, none⟩)) (hq : tmps.getD q undef = x) (hg : w.heap[g]? = some (.cells cs t fr))
    (hu : P.underlying ty = some d) (hd : (match d with | .struct _ | .array _ _ => true | _ => false) = true) (hi : (P.info? ty).map (·.size) = some cs.size) :
    (results fn tmps).run P w = .ok (.tuple #[.agg cs, x]) w := by
  have hp' : tmps[p]?.getD undef = .pointer (some ⟨g, 0, none⟩) := by simpa using hp
  have hq' : tmps[q]?.getD undef = x := by simpa using hq
  simp [results, h, hp', hq', asAddr, run_loadVar_row w g t ty cs fr d hg hu hd hi]

theorem chk_cases (t : T) : chk t = 0 ∨ chk t = 2 ∨ chk t = 10 := by
  unfold chk
  split
  · split
    · exact Or.inr (Or.inl rfl)
    · exact Or.inl rfl
  · exact Or.inr (Or.inr rfl)
theorem chk_len (t : T) (h : chk t = 0) : (enc t).length ≤ 65536 := by
  unfold chk at h
  split at h
  · split at h
    · omega
    · omega
  · omega

/-- The digest that Value returns. -/
def valD (s t : List Int) : List Int := sha (hmsg s t)

set_option maxRecDepth 100000 in
set_option maxHeartbeats 1000000 in
theorem value_ok (F : Nat → Prop) (s : ByteArray) (t : T) (v : Value) (w : World) (hk : KOk w) (hF : ∀ k, F k → k < w.heap.size) (hr : Rd F w t v) (hsz : (enc t).length ≤ 140737488355328) (hs : s.size ≤ 140737488355328) (hc : chk t = 0) :
    Calls Tryd.prog 23 #[.string s, v] w fun e w' => e = .returned (.tuple #[.agg (byteVals (valD (strB s) (enc t))).toArray, .int .i64 0]) ∧ Below w.heap.size w w' := by
  obtain ⟨D, hD⟩ : ∃ D, D = valD (strB s) (enc t) := ⟨_, rfl⟩
  rw [← hD]
  have hDl : D.length = 32 := by rw [hD]; exact sha_length _
  have henc : ∀ w', Below w.heap.size w w' → Calls Tryd.prog 22 #[v] w' fun e w'' => ∃ vb, e = .returned (.tuple #[vb, .int .i64 0]) ∧ Below w'.heap.size w' w'' ∧ Bs (fun k => k < w''.heap.size) w'' vb (enc t) := by
    intro w' hb
    refine (encode_any F t w' v (fun k hk => Nat.lt_of_lt_of_le (hF k hk) hb.size) (hr.below hF hb) hsz).mono ?_
    rintro e w'' ⟨vb, rfl, h1, h2, _⟩
    exact ⟨vb, by rw [hc], h1, (h2 hc).kept (fun _ _ => rfl) (fun k hk => hk.2)⟩
  have hlen := chk_len t hc
  obtain ⟨a2, c2, a3, c3, rfl, _⟩ := hr.form
  have hbw : Below w.heap.size w (w.alloc (.cells #[.int .i64 t.kind, .int .i64 t.num, .slice a2 t.bs.length c2, .slice a3 t.els.length c3] 38)) := ball (Below.refl _ _) _
  have hws : (w.alloc (.cells #[.int .i64 t.kind, .int .i64 t.num, .slice a2 t.bs.length c2, .slice a3 t.els.length c3] 38)).heap.size = w.heap.size + 1 := by simp
  obtain ⟨wb, hwb⟩ : ∃ wb, wb = w.alloc (.cells #[.int .i64 t.kind, .int .i64 t.num, .slice a2 t.bs.length c2, .slice a3 t.els.length c3] 38) := ⟨_, rfl⟩
  have h0 : SumS wb ((w.alloc (.cells #[.int .i64 t.kind, .int .i64 t.num, .slice a2 t.bs.length c2, .slice a3 t.els.length c3] 38)).alloc (.cells #[.int .u8 0, .int .u8 0, .int .u8 0, .int .u8 0, .int .u8 0, .int .u8 0, .int .u8 0, .int .u8 0, .int .u8 0, .int .u8 0, .int .u8 0, .int .u8 0, .int .u8 0, .int .u8 0, .int .u8 0, .int .u8 0, .int .u8 0, .int .u8 0, .int .u8 0, .int .u8 0, .int .u8 0, .int .u8 0, .int .u8 0, .int .u8 0, .int .u8 0, .int .u8 0, .int .u8 0, .int .u8 0, .int .u8 0, .int .u8 0, .int .u8 0, .int .u8 0] 25)) := by
    rw [hwb]; exact ⟨ball (Below.refl _ _) _, by simp, List.replicate 32 0, by simp, RowB.new' _ rfl rfl⟩
  rw [← hwb] at hbw hws
  have ht : ∀ w' u, SumS wb w' → Bs (fun k => k < w'.heap.size) w' u (enc t) → Calls Tryd.prog 14 #[.string s, u] w' fun e w'' => e = .returned (.agg (byteVals D).toArray) ∧ Below w'.heap.size w' w'' := by
    intro w' u hS hu
    have := tagged_any s (enc t) u w' (hk.below (hbw.trans (hS.below.mono (by omega)))) hu hs (by omega)
    rw [show sha (hmsg (strB s) (enc t)) = D from hD.symm] at this
    exact this
  have Henc := Lib.hid henc; have H0 := Lib.hid h0; have Ht := Lib.hid ht; have Hbw := Lib.hid hbw
  clear henc hk hr hF hD ht h0 hbw hwb
  go_enter Tryd.func23, Tryd.ntmps23
  go_wp2_with (first | (go_at_call 22; refine (Henc.out _ (ball (ball (Below.refl _ _) _) _)).mono ?_; rintro e w1 ⟨vb, rfl, hb1, hB1⟩; have HS := Lib.hid (H0.out.call hb1); have HB := Lib.hid hB1; clear hb1 hB1) | (go_at_call 14; refine (Ht.out _ _ HS.out HB.out).mono ?_; rintro e w3 ⟨rfl, hb3⟩; obtain ⟨l, hl, hrl⟩ := (HS.out.call hb3).row; have Hbf := Lib.hid (HS.out.call hb3).below; rw [hws] at hrl; clear hb3) | (refine wpList_store_row rfl 25 (.tmp 4) (.tmp 18) rfl (w.heap.size + 1) _ rfl rfl 25 _ hrl (size25 _ hDl) (by rw [List.size_toArray, List.size_toArray, bv_length, bv_length]; omega) (all_byteVals _) ?_))
  refine bodyPost_ret (results_cell_slot rfl _ _ (w.heap.size + 1) 25 _ (0, 0) _ (.int .i64 0) rfl rfl (RowB.put hrl) Tryd.underlying25 rfl (size25 _ hDl)) rfl ?_
  exact ⟨rfl, bsetRow (Hbw.out.trans (Hbf.out.mono (by omega))) (by omega) _⟩

set_option maxRecDepth 100000 in
set_option maxHeartbeats 1000000 in
theorem value_bad (F : Nat → Prop) (s : ByteArray) (t : T) (c : Int) (v : Value) (w : World) (hF : ∀ k, F k → k < w.heap.size) (hr : Rd F w t v) (hsz : (enc t).length ≤ 140737488355328) (hc : chk t = c) (h0 : c ≠ 0) :
    Calls Tryd.prog 23 #[.string s, v] w fun e w' => e = .returned (.tuple #[.agg (byteVals (List.replicate 32 0)).toArray, .int .i64 c]) ∧ Below w.heap.size w w' := by
  have henc : ∀ w', Below w.heap.size w w' → Calls Tryd.prog 22 #[v] w' fun e w'' => e = .returned (.tuple #[.slice none 0 0, .int .i64 c]) ∧ Below w'.heap.size w' w'' := by
    intro w' hb
    refine (encode_any F t w' v (fun k hk => Nat.lt_of_lt_of_le (hF k hk) hb.size) (hr.below hF hb) hsz).mono ?_
    rintro e w'' ⟨vb, rfl, h1, _, h3⟩
    obtain rfl := h3 (by rw [hc]; exact h0)
    exact ⟨by rw [hc], h1⟩
  obtain ⟨a2, c2, a3, c3, rfl, _⟩ := hr.form
  have hbw : Below w.heap.size w (w.alloc (.cells #[.int .i64 t.kind, .int .i64 t.num, .slice a2 t.bs.length c2, .slice a3 t.els.length c3] 38)) := ball (Below.refl _ _) _
  have hws : (w.alloc (.cells #[.int .i64 t.kind, .int .i64 t.num, .slice a2 t.bs.length c2, .slice a3 t.els.length c3] 38)).heap.size = w.heap.size + 1 := by simp
  obtain ⟨wb, hwb⟩ : ∃ wb, wb = w.alloc (.cells #[.int .i64 t.kind, .int .i64 t.num, .slice a2 t.bs.length c2, .slice a3 t.els.length c3] 38) := ⟨_, rfl⟩
  have h0s : SumS wb ((w.alloc (.cells #[.int .i64 t.kind, .int .i64 t.num, .slice a2 t.bs.length c2, .slice a3 t.els.length c3] 38)).alloc (.cells #[.int .u8 0, .int .u8 0, .int .u8 0, .int .u8 0, .int .u8 0, .int .u8 0, .int .u8 0, .int .u8 0, .int .u8 0, .int .u8 0, .int .u8 0, .int .u8 0, .int .u8 0, .int .u8 0, .int .u8 0, .int .u8 0, .int .u8 0, .int .u8 0, .int .u8 0, .int .u8 0, .int .u8 0, .int .u8 0, .int .u8 0, .int .u8 0, .int .u8 0, .int .u8 0, .int .u8 0, .int .u8 0, .int .u8 0, .int .u8 0, .int .u8 0, .int .u8 0] 25)) := by
    rw [hwb]; exact ⟨ball (Below.refl _ _) _, by simp, List.replicate 32 0, by simp, RowB.new' _ rfl rfl⟩
  rw [← hwb] at hbw hws
  have Henc := Lib.hid henc; have H0 := Lib.hid h0s; have Hbw := Lib.hid hbw
  have hne : (c != 0) = true := by simpa using h0
  clear henc hr hF h0s hbw hwb hc
  go_enter Tryd.func23, Tryd.ntmps23
  go_wp2_with (first | (go_at_call 22; refine (Henc.out _ (ball (ball (Below.refl _ _) _) _)).mono ?_; rintro e w1 ⟨rfl, hb1⟩; obtain ⟨l, hl, hrl⟩ := (H0.out.call hb1).row; have Hbf := Lib.hid (H0.out.call hb1).below; rw [hws] at hrl; clear hb1) | (refine wpList_store_row rfl 25 (.tmp 4) (.tmp 14) rfl (w.heap.size + 1) (byteVals (List.replicate 32 0)).toArray rfl rfl 25 _ hrl (size25 _ rfl) (by rw [List.size_toArray, List.size_toArray, bv_length, bv_length]; simp; omega) (all_byteVals _) ?_))
  trace_state
  refine bodyPost_ret (results_cell_slot rfl _ _ (w.heap.size + 1) 25 (byteVals (List.replicate 32 0)).toArray (0, 0) _ (.int .i64 c) rfl rfl (RowB.put hrl) Tryd.underlying25 rfl (size25 _ rfl)) rfl ?_
  exact ⟨rfl, bsetRow (Hbw.out.trans (Hbf.out.mono (by omega))) (by omega) _⟩
end Go.Proofs.YtecgcnfjpaemcaaDoor
