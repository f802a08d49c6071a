/-
  Walk of the reference: readBytes.
-/
import Derived.Test.YtjhjcigappkebaaXa
namespace Go.Proofs.Ytjhjcigappkebaa
set_option linter.unusedSimpArgs false
set_option linter.unusedVariables false
open Go.RowKit

/-- The cells of a result's block that lies as it was made. -/
theorem zeroAt {W : World} {g : Nat} (h : W.heap[g]? = some (.cells #[.int .i64 0, .int .i64 0, .slice none 0 0, .slice none 0 0] 25 (0, 0))) :
    W.cell? ⟨g, 0, none⟩ = some (.int .i64 0) ∧ W.cell? ⟨g, 1, none⟩ = some (.int .i64 0) ∧ W.cell? ⟨g, 2, none⟩ = some (.slice none 0 0) ∧ W.cell? ⟨g, 3, none⟩ = some (.slice none 0 0) ∧ W.frozen? ⟨g, 0, none⟩ = false ∧ W.frozen? ⟨g, 1, none⟩ = false ∧ W.frozen? ⟨g, 2, none⟩ = false ∧ W.frozen? ⟨g, 3, none⟩ = false := by
  refine ⟨?_, ?_, ?_, ?_, ?_, ?_, ?_, ?_⟩ <;> simp [World.cell?, World.frozen?, h]
theorem zeroKept {w wr : World} (h : Below (w.alloc (.cells #[.int .i64 0, .int .i64 0, .slice none 0 0, .slice none 0 0] 25)).heap.size (w.alloc (.cells #[.int .i64 0, .int .i64 0, .slice none 0 0, .slice none 0 0] 25)) wr) : wr.heap[w.heap.size]? = some (.cells #[.int .i64 0, .int .i64 0, .slice none 0 0, .slice none 0 0] 25 (0, 0)) :=
  (h.block w.heap.size (by simp)).trans (heap_alloc_new w _)
theorem setBelow {w wr : World} (h : Below (w.alloc (.cells #[.int .i64 0, .int .i64 0, .slice none 0 0, .slice none 0 0] 25)).heap.size (w.alloc (.cells #[.int .i64 0, .int .i64 0, .slice none 0 0, .slice none 0 0] 25)) wr) (x0 x1 x2 x3 : Value) : Below w.heap.size w ((((wr.setCell ⟨w.heap.size, 0, none⟩ x0).setCell ⟨w.heap.size, 1, none⟩ x1).setCell ⟨w.heap.size, 2, none⟩ x2).setCell ⟨w.heap.size, 3, none⟩ x3) := by
  have hb : Below w.heap.size w wr := (ball (Below.refl _ _) _).trans (h.mono (by simp))
  exact hb.grown (grownSet4 _ _ _ _ _ _) hb.size (fun k hk => by simp at hk; omega)

set_option maxRecDepth 100000 in
set_option maxHeartbeats 2000000 in
theorem rbytesR (b : List Int) (va : Option Addr) (vc : Nat) (w : World) (hb : Bs (fun k => k < w.heap.size) w (.slice va b.length vc) b) (hlen : b.length ≤ 65536) (p : Nat) (hp : p ≤ b.length) (R : Except Int (T × List Int)) (hR : (match pBytes (b.drop p) with | .ok (s, r) => .ok (.mk 2 0 s [], r) | .error e => .error e) = R) :
    Calls Try.prog 55 #[.slice va b.length vc, .int .i64 p] w (RvOf b w R) := by
  generalize hr : pBytes (b.drop p) = r at hR
  have Hr := Lib.hid hr; have HR := Lib.hid hR; have HBS := Lib.hid hb; clear hr hR hb
  go_enter Try.func55, Try.ntmps55
  go_wp2_with fail
  have HBW := Lib.hid (ball (Below.refl _ _) (.cells #[.int .i64 0, .int .i64 0, .slice none 0 0, .slice none 0 0] 25) : Below w.heap.size w _)
  have HWE : Hid (∃ W, W = w.alloc (.cells #[.int .i64 0, .int .i64 0, .slice none 0 0, .slice none 0 0] 25)) := Lib.hid ⟨_, rfl⟩
  obtain ⟨W, hW⟩ := HWE.out
  have hPn := PdS.new (w.alloc (.cells #[.int .i64 0, .int .i64 0, .slice none 0 0, .slice none 0 0] 25))
  rw [← hW] at hPn
  have HPN := Lib.hid hPn
  have HW := Lib.hid hW
  clear HWE hPn
  go_loopw [1, 7] (fun pp xx wr => ∃ (q : Nat) (acc : List Int), q ≤ b.length ∧ pp = .int .i64 q ∧ Hid (PdS W xx acc wr) ∧ Hid (acc.length ≤ q ∧ (∀ u ∈ acc, 0 ≤ u ∧ u ≤ 255) ∧ putAhead acc (pBytes (b.drop q)) = r)) (fun pp _ _ => b.length - (intOf pp).toNat)
  case atStart => exact ⟨p, [], hp, rfl, by subst hW; have h := HPN.out; simp only [World.size_alloc] at h; exact Lib.hid h, Lib.hid ⟨Nat.zero_le _, by simp, by have := Hr.out; rw [this]; cases r with | ok x => rfl | error e => rfl⟩⟩
  case round =>
    clear hW HPN
    obtain ⟨q, acc, hq, rfl, HP, HI⟩ := hrel
    obtain ⟨xa, xc, rfl⟩ := HP.out.len
    have hz := zeroKept (by have h := HP.out.2; rw [HW.out] at h; exact h)
    obtain ⟨d0, d1, d2, d3, f0, f1, f2, f3⟩ := zeroAt hz
    have hsb := fun x0 x1 x2 x3 => setBelow (w := w) (wr := wr) (by have h := HP.out.2; rw [HW.out] at h; exact h) x0 x1 x2 x3
    have HSB := Lib.hid hsb; have HZ := Lib.hid hz; clear hsb hz
    cases hd : b.drop q with
    | nil =>
      have hge := drop_nil_le hd
      have he : Except.error 5 = r := by have h := HI.out.2.2; rw [hd] at h; exact h
      have HE := Lib.hid he; clear he hd
      go_wp2_with fail
      refine bodyPost_ret (v := .tuple #[.agg #[.int .i64 0, .int .i64 0, .slice none 0 0, .slice none 0 0], .int .i64 q, .int .i64 5]) (by simp [results, Try.results55, go_sem, d0, d1, d2, d3]) rfl ⟨HSB.out _ _ _ _, ?_⟩
      rw [← HR.out, ← HE.out]; exact ⟨_, rfl⟩
    | cons x rest =>
      obtain ⟨hql, hxe, hdr⟩ := drop_cons hd
      obtain ⟨g, off, cap, hv, hcap, hg, hcell⟩ := HBS.out.at (by omega)
      simp only [Value.slice.injEq] at hv
      obtain ⟨rfl, hLL, rfl⟩ := hv
      clear hLL
      have hx01 := HBS.out.2.1 x (by rw [← hxe]; exact List.getElem_mem hql)
      have hcl : ∀ (j : Nat) (u : Int), b[j]? = some u → wr.cell? ⟨g, off + j, none⟩ = some (.int .u8 u) := by
        intro j u hu
        have hbw : Below w.heap.size w W := by rw [HW.out]; exact HBW.out
        exact ((hbw.trans (HP.out.2.mono hbw.size)).cell (p := ⟨g, off + j, none⟩) hg).trans (hcell j u hu)
      have c0 := hcl q x (by rw [List.getElem?_eq_getElem hql, hxe])
      have hlac := HI.out.1
      have hpa := HI.out.2.2
      rw [hd] at hpa
      obtain ⟨hx0, hx1⟩ := hx01
      clear hcell
      by_cases hx : x = 0
      · have tx : (x != 0) = false := by rw [hx]; rfl
        cases hd2 : rest with
        | nil =>
          have hge : b.length ≤ q + 1 := drop_nil_le (by rw [hdr, hd2])
          have he : Except.error 5 = r := by rw [hd2, hx] at hpa; exact hpa
          have HE := Lib.hid he; clear he hd hd2 hpa hx hdr hxe hcl
          go_wp2_with fail
          refine bodyPost_ret (v := .tuple #[.agg #[.int .i64 0, .int .i64 0, .slice none 0 0, .slice none 0 0], .int .i64 q, .int .i64 5]) (by simp [results, Try.results55, go_sem, d0, d1, d2, d3]) rfl ⟨HSB.out _ _ _ _, ?_⟩
          rw [← HR.out, ← HE.out]; exact ⟨_, rfl⟩
        | cons d ds =>
          obtain ⟨hql2, hde, hdr2⟩ := drop_cons (hdr.trans hd2)
          have hd01 := HBS.out.2.1 d (by rw [← hde]; exact List.getElem_mem hql2)
          have c1 := hcl (q + 1) d (by rw [List.getElem?_eq_getElem hql2, hde])
          obtain ⟨hd0, hd1⟩ := hd01
          rw [hd2, hx] at hpa
          have hdr3 : b.drop (q + 2) = ds := hdr2
          have HDR := Lib.hid hdr3
          clear hd hd2 hx hdr hdr2 hdr3 hxe hde hcl
          by_cases z : d = 0
          · have t1 : (d == 0) = true := by rw [z]; rfl
            have he : Except.ok (acc, ds) = r := by rw [← hpa, z]; simp [pBytes, putAhead]
            have HE := Lib.hid he; clear he hpa z
            go_wp2_with fail
            refine bodyPost_ret (v := .tuple #[.agg #[.int .i64 2, .int .i64 0, .slice xa acc.length xc, .slice none 0 0], .int .i64 ((q + 2 : Nat) : Int), .int .i64 0]) (by simp [results, Try.results55, go_sem, d0, d1, d2, d3]) rfl ⟨HSB.out _ _ _ _, ?_⟩
            rw [← HR.out, ← HE.out]
            have hgs := grownSet4 wr w.heap.size (.int .i64 2) (.int .i64 0) (.slice xa acc.length xc) (.slice none 0 0)
            refine ⟨xa, xc, none, 0, q + 2, rfl, Rd.bytes (Bs.kept (Bs.ofOwn HP.out.1 (by omega) HI.out.2.1) (fun k hk => ?_) (fun k hk => ?_)), by omega, HDR.out⟩
            · have h1 := hk.1; rw [HW.out] at h1; simp at h1; exact hgs.block k hk.2.1 (fun e => by simp at e; omega)
            · have h1 := hk.1; rw [HW.out] at h1; simp at h1; exact ⟨by omega, Nat.lt_of_lt_of_le hk.2.1 hgs.size⟩
          · have t1 : (d == 0) = false := by simpa using z
            by_cases hf : d = 255
            · have t2 : (d != 255) = false := by rw [hf]; rfl
              rw [hf, putAhead_esc, ← HDR.out] at hpa
              have HPA := Lib.hid hpa; clear hpa hf z
              obtain ⟨v6, w6, hr6, h6⟩ := HP.out.pushOne 0 (by omega) (by omega)
              have H6 := Lib.hid h6; have R6 := Lib.hid hr6; clear h6 hr6
              go_wp2_with (first | (at_builtin; refine wp_app rfl rfl rfl (.tmp 52) (.tmp 53) rfl rfl rfl R6.out ?_))
              go_roundw
              case rel =>
                refine ⟨q + 2, acc ++ [0], by omega, by go_num, H6, Lib.hid ⟨by simp; omega, ?_, HPA.out⟩⟩
                intro u hu
                rcases List.mem_append.1 hu with hu | hu
                · exact HI.out.2.1 u hu
                · simp at hu; omega
              case measure => simp [intOf]; omega
            · have t2 : (d != 255) = true := by simpa using hf
              have he : Except.error 4 = r := by rw [← hpa]; simp [pBytes, z, hf, putAhead]
              have HE := Lib.hid he; clear he hpa hf z
              go_wp2_with fail
              refine bodyPost_ret (v := .tuple #[.agg #[.int .i64 0, .int .i64 0, .slice none 0 0, .slice none 0 0], .int .i64 q, .int .i64 4]) (by simp [results, Try.results55, go_sem, d0, d1, d2, d3]) rfl ⟨HSB.out _ _ _ _, ?_⟩
              rw [← HR.out, ← HE.out]; exact ⟨_, rfl⟩
      · have tx : (x != 0) = true := by simpa using hx
        rw [putAhead_ne acc x rest hx, ← hdr] at hpa
        have HPA := Lib.hid hpa
        clear hpa hd hdr hxe hcl hx
        obtain ⟨v6, w6, hr6, h6⟩ := HP.out.pushOne x ⟨hx0, hx1⟩ (by omega)
        have H6 := Lib.hid h6; have R6 := Lib.hid hr6; clear h6 hr6
        go_wp2_with (first | (at_builtin; refine wp_app rfl rfl rfl (.tmp 18) (.tmp 23) rfl rfl rfl R6.out ?_))
        go_roundw
        case rel =>
          refine ⟨q + 1, acc ++ [x], by omega, by go_num, H6, Lib.hid ⟨by simp; omega, ?_, HPA.out⟩⟩
          intro u hu
          rcases List.mem_append.1 hu with hu | hu
          · exact HI.out.2.1 u hu
          · simp at hu; omega
        case measure => simp [intOf]; omega
end Go.Proofs.Ytjhjcigappkebaa
