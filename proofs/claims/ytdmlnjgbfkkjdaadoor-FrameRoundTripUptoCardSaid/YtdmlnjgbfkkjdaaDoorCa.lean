/-
  Walks: the checksum, of the program (by a table) and of the reference (bit by bit).
-/
import Derived.Test.YtdmlnjgbfkkjdaaDoorBa
import Derived.Test.YtdmlnjgbfkkjdaaDoorPb
namespace Go.Proofs.YtdmlnjgbfkkjdaaDoor
open Go.RowKit
set_option linter.unusedVariables false
set_option linter.unusedSimpArgs false

/-- The table is laid. -/
def KOk (w : World) : Prop := 0 < w.heap.size ∧ ∀ i x, tab[i]? = some x → w.cell? ⟨0, i, none⟩ = some (.int .u32 (x : Nat))
theorem KOk.below {w w' : World} (h : KOk w) (hb : Below w.heap.size w w') : KOk w' :=
  ⟨Nat.lt_of_lt_of_le h.1 hb.size, fun i x hx => (hb.cell (p := ⟨0, i, none⟩) h.1).trans (h.2 i x hx)⟩
theorem KOk.nib {w : World} (h : KOk w) {k : Nat} (hk : k < 16) : w.cell? ⟨0, k, none⟩ = some (.int .u32 ((csN 4 k : Nat) : Int)) := h.2 k _ (tab_cs ⟨k, hk⟩)

theorem wraps_u32 (n : Int) (h0 : 0 ≤ n) (h1 : n < 2 ^ 32) : IntKind.u32.wrap n = n := by rw [IntKind.wrap_u32]; omega
theorem xor_u32 (a b : Nat) (ha : a < 4294967296) (hb : b < 4294967296) : bits .xor .u32 (a : Int) (b : Int) = ((a ^^^ b : Nat) : Int) := by
  have hx := xor_lt32 ha hb
  simp only [bits, BitVec.ofInt_natCast, BitVec.toNat_xor, BitVec.toNat_ofNat]
  rw [show IntKind.u32.bits = 32 from rfl, Nat.mod_eq_of_lt (by omega : a < 2 ^ 32), Nat.mod_eq_of_lt (by omega : b < 2 ^ 32)]
  exact wraps_u32 _ (by omega) (by omega)
theorem and_u32 (a : Nat) (ha : a < 4294967296) : bits .and .u32 (a : Int) 15 = ((a % 16 : Nat) : Int) := by
  have := bits_mask .u32 32 (by decide) wraps_u32 4 (by decide) (a : Int) (by omega) (by omega)
  simpa using this
theorem nats_next (l : List Int) (k : Nat) (h : k < l.length) (c : Nat) : crcF c (nats (l.take (k + 1))) = cb (crcF c (nats (l.take k))) l[k].toNat := by
  rw [List.take_succ_eq_append_getElem h]
  unfold nats
  rw [List.map_append, crcF_append]
  rfl

set_option maxHeartbeats 1000000 in
theorem crc_any (b : List Int) (v : Value) (w : World) (hk : KOk w) (hv : Bs (fun k => k < w.heap.size) w v b) :
    Calls Tryd.prog 13 #[v] w fun e w' => e = .returned (.int .u32 (crcI b : Nat)) ∧ w = w' := by
  obtain ⟨hl0, hr, a, cap, rfl, hcap, hp⟩ := hv
  have HP := Lib.hid hp; have HR := Lib.hid (show Rg8 b from hr); have HK := Lib.hid hk
  clear hp hr hk
  obtain ⟨L, hL⟩ : ∃ L, L = b.length := ⟨_, rfl⟩
  have HL := Lib.hid hL
  rw [← hL] at hl0 hcap ⊢
  clear hL
  obtain ⟨R, hR⟩ : ∃ R : Nat, R = crcI b := ⟨_, rfl⟩
  rw [← hR]
  have HRR := Lib.hid hR; clear hR
  go_enter Tryd.func13, Tryd.ntmps13
  go_wp2
  go_loop [2, 7] (fun c i => ∃ k : Nat, k ≤ L ∧ i = .int .i64 k ∧ ∃ C : Nat, c = .int .u32 (C : Nat) ∧ Hid (C = crcF 4294967295 (nats (b.take k)))) (fun _ i => L - (intOf i).toNat)
  case atStart => exact ⟨0, by omega, rfl, 4294967295, rfl, Lib.hid rfl⟩
  case round =>
    obtain ⟨k, hk, rfl, C, rfl, HC⟩ := hrel
    have hC : C < 4294967296 := by rw [HC.out]; exact crcF_lt _ (HR.out.take k).nats _ (by decide)
    by_cases hlt : k < L
    · have hkb : k < b.length := by rw [← HL.out]; exact hlt
      obtain ⟨g, off, rfl, hg, hcell⟩ := HP.out (by omega)
      have hc := hcell k b[k] (List.getElem?_eq_getElem hkb)
      have hu := HR.out b[k] (List.getElem_mem _)
      obtain ⟨u, hue⟩ : ∃ u : Nat, b[k] = (u : Int) := ⟨b[k].toNat, by omega⟩
      have HN := Lib.hid (show crcF 4294967295 (nats (b.take (k + 1))) = cb C u by rw [nats_next b k hkb, HC.out, hue]; rfl)
      rw [hue] at hc hu
      clear hue hcell
      obtain ⟨C1, hC1⟩ : ∃ C1 : Nat, C1 = C ^^^ u := ⟨_, rfl⟩
      have hC1l : C1 < 4294967296 := by rw [hC1]; exact xor_lt32 hC (by omega)
      have x1 : bits .xor .u32 (C : Int) (u : Int) = (C1 : Int) := by rw [hC1]; exact xor_u32 C u hC (by omega)
      have x2 := and_u32 C1 hC1l
      have t1 := HK.out.nib (k := C1 % 16) (by omega)
      obtain ⟨C2, hC2⟩ : ∃ C2 : Nat, C2 = csN 4 C1 := ⟨_, rfl⟩
      have hC2l : C2 < 4294967296 := by rw [hC2]; exact csN_lt 4 hC1l
      obtain ⟨T1, hT1⟩ : ∃ T1 : Nat, T1 = csN 4 (C1 % 16) := ⟨_, rfl⟩
      rw [← hT1] at t1
      have x3 : bits .xor .u32 ((C1 : Int) / 16) (T1 : Int) = (C2 : Int) := by
        rw [hC2, nib, ← hT1]
        exact xor_u32 (C1 / 16) T1 (by omega) (by rw [hT1]; exact csN_lt 4 (by omega))
      have x4 := and_u32 C2 hC2l
      have t2 := HK.out.nib (k := C2 % 16) (by omega)
      obtain ⟨C3, hC3⟩ : ∃ C3 : Nat, C3 = csN 4 C2 := ⟨_, rfl⟩
      obtain ⟨T2, hT2⟩ : ∃ T2 : Nat, T2 = csN 4 (C2 % 16) := ⟨_, rfl⟩
      rw [← hT2] at t2
      have x5 : bits .xor .u32 ((C2 : Int) / 16) (T2 : Int) = (C3 : Int) := by
        rw [hC3, nib, ← hT2]
        exact xor_u32 (C2 / 16) T2 (by omega) (by rw [hT2]; exact csN_lt 4 (by omega))
      have HX := Lib.hid (show C3 = cb C u by rw [cb_nib, hC3, hC2, hC1])
      have y1 : 0 ≤ ((C1 % 16 : Nat) : Int) := by omega
      have y2 : C1 % 16 < 16 := by omega
      have y3 : C2 % 16 < 16 := by omega
      obtain ⟨i1, hi1⟩ : ∃ i1 : Nat, i1 = C1 % 16 := ⟨_, rfl⟩
      obtain ⟨i2, hi2⟩ : ∃ i2 : Nat, i2 = C2 % 16 := ⟨_, rfl⟩
      rw [← hi1] at x2 t1 y2 y1
      rw [← hi2] at x4 t2 y3
      have y4 : IntKind.u32.wrap (u : Int) = (u : Int) := wraps_u32 _ (by omega) (by omega)
      clear hC1 hC2 hC3 hT1 hT2 hi1 hi2
      go_wp2
      go_round
      case rel => exact ⟨k + 1, by omega, by go_num, C3, rfl, Lib.hid (by rw [HN.out, HX.out])⟩
      case measure => simp [intOf]; omega
    · have hk' : k = L := by omega
      subst hk'
      have HF := Lib.hid (show R = C ^^^ 4294967295 by rw [HRR.out, HC.out, HL.out, List.take_length]; rfl)
      have e1 : bits .xor .u32 IntKind.u32.max (C : Int) = (R : Int) := by
        rw [show IntKind.u32.max = ((4294967295 : Nat) : Int) from rfl, HF.out, Nat.xor_comm]; exact xor_u32 4294967295 C (by decide) hC
      go_wp2
      go_ret
      exact ⟨by rw [← e1]; rfl, rfl⟩

theorem csN_next (j c : Nat) : csN (j + 1) c = cs (csN j c) := by rw [csN_add]; rfl

set_option maxHeartbeats 1000000 in
theorem rcrc_any (b : List Int) (v : Value) (w : World) (hv : Bs (fun k => k < w.heap.size) w v b) :
    Calls Tryd.prog 14 #[v] w fun e w' => e = .returned (.int .u32 (crcI b : Nat)) ∧ w = w' := by
  obtain ⟨hl0, hr, a, cap, rfl, hcap, hp⟩ := hv
  have HP := Lib.hid hp; have HR := Lib.hid (show Rg8 b from hr)
  clear hp hr
  obtain ⟨L, hL⟩ : ∃ L, L = b.length := ⟨_, rfl⟩
  have HL := Lib.hid hL
  rw [← hL] at hl0 hcap ⊢
  clear hL
  obtain ⟨R, hR⟩ : ∃ R : Nat, R = crcI b := ⟨_, rfl⟩
  rw [← hR]
  have HRR := Lib.hid hR; clear hR
  go_enter Tryd.func14, Tryd.ntmps14
  go_wp2
  go_loop [3, 4] (fun c i => ∃ k : Nat, k ≤ L ∧ i = .int .i64 k ∧ ∃ C : Nat, c = .int .u32 (C : Nat) ∧ Hid (C = crcF 4294967295 (nats (b.take k)))) (fun _ i => L - (intOf i).toNat)
  case atStart => exact ⟨0, by omega, rfl, 4294967295, rfl, Lib.hid rfl⟩
  case round =>
    obtain ⟨k, hk, rfl, C, rfl, HC⟩ := hrel
    have hC : C < 4294967296 := by rw [HC.out]; exact crcF_lt _ (HR.out.take k).nats _ (by decide)
    by_cases hlt : k < L
    · have hkb : k < b.length := by rw [← HL.out]; exact hlt
      obtain ⟨g, off, rfl, hg, hcell⟩ := HP.out (by omega)
      have hc := hcell k b[k] (List.getElem?_eq_getElem hkb)
      have hu := HR.out b[k] (List.getElem_mem _)
      obtain ⟨u, hue⟩ : ∃ u : Nat, b[k] = (u : Int) := ⟨b[k].toNat, by omega⟩
      have HN := Lib.hid (show crcF 4294967295 (nats (b.take (k + 1))) = cb C u by rw [nats_next b k hkb, HC.out, hue]; rfl)
      rw [hue] at hc hu
      clear hue hcell
      obtain ⟨C1, hC1⟩ : ∃ C1 : Nat, C1 = C ^^^ u := ⟨_, rfl⟩
      have hC1l : C1 < 4294967296 := by rw [hC1]; exact xor_lt32 hC (by omega)
      have x1 : bits .xor .u32 (C : Int) (u : Int) = (C1 : Int) := by rw [hC1]; exact xor_u32 C u hC (by omega)
      have y4 : IntKind.u32.wrap (u : Int) = (u : Int) := wraps_u32 _ (by omega) (by omega)
      have HX := Lib.hid (show csN 8 C1 = cb C u by rw [hC1]; rfl)
      clear hC1
      go_wp2
      go_loop [3, 5] (fun c i => ∃ j : Nat, j ≤ 8 ∧ i = .int .i64 j ∧ ∃ D : Nat, c = .int .u32 (D : Nat) ∧ Hid (D = csN j C1)) (fun _ i => 8 - (intOf i).toNat)
      case atStart => exact ⟨0, by omega, rfl, C1, rfl, Lib.hid rfl⟩
      case round =>
        obtain ⟨j, hj, rfl, D, rfl, HD⟩ := hrel
        have hD : D < 4294967296 := by rw [HD.out]; exact csN_lt j hC1l
        by_cases hj8 : j < 8
        · by_cases ho : D % 2 = 1
          · obtain ⟨E, hE⟩ : ∃ E : Nat, E = (D / 2) ^^^ 3988292384 := ⟨_, rfl⟩
            have HE := Lib.hid (show E = csN (j + 1) C1 by rw [csN_next, ← HD.out, hE]; unfold cs; rw [if_pos ho])
            have x2 : bits .xor .u32 ((D : Int) / 2) (3988292384 : Int) = (E : Int) := by
              rw [hE]; exact xor_u32 (D / 2) 3988292384 (by omega) (by decide)
            have ho' : (D : Int) % 2 = 1 := by omega
            clear hE ho
            go_wp2
            go_round
            case rel => exact ⟨j + 1, by omega, by go_num, E, rfl, HE⟩
            case measure => simp [intOf]; omega
          · have HE := Lib.hid (show D / 2 = csN (j + 1) C1 by rw [csN_next, ← HD.out]; unfold cs; rw [if_neg ho])
            have ho' : (D : Int) % 2 = 0 := by omega
            clear ho
            go_wp2
            go_round
            case rel => exact ⟨j + 1, by omega, by go_num, D / 2, by go_num, HE⟩
            case measure => simp [intOf]; omega
        · have hj' : j = 8 := by omega
          subst hj'
          go_wp2
          go_round
          case rel => exact ⟨k + 1, by omega, by go_num, D, rfl, Lib.hid (by rw [HN.out, ← HX.out, HD.out])⟩
          case measure => simp [intOf]; omega
    · have hk' : k = L := by omega
      subst hk'
      have HF := Lib.hid (show R = C ^^^ 4294967295 by rw [HRR.out, HC.out, HL.out, List.take_length]; rfl)
      have e1 : bits .xor .u32 (C : Int) (4294967295 : Int) = (R : Int) := by
        rw [HF.out]; exact xor_u32 C 4294967295 hC (by decide)
      go_wp2
      go_ret
      exact ⟨rfl, rfl⟩
end Go.Proofs.YtdmlnjgbfkkjdaaDoor
