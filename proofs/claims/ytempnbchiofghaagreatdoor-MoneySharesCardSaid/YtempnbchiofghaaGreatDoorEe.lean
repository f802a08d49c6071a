/-
  Walks: Share of the program.
-/
import Derived.Test.YtempnbchiofghaaGreatDoorEd
import Derived.Test.YtempnbchiofghaaGreatDoorAg
namespace Go.Proofs.YtempnbchiofghaaGreatDoor
open Go.RowKit
set_option linter.unusedVariables false
set_option linter.unusedSimpArgs false

/-- E is the error of Share. -/
def ShErr (total : Int) (ws : List Int) (E : Int) : Prop := ∃ E0, WErr ws E0 ∧ (E0 ≠ 0 → E = E0) ∧ (E0 = 0 → (inR total → E = 0) ∧ (¬ inR total → E = 3))
theorem sherr_exists (total : Int) (ws : List Int) : ∃ E, ShErr total ws E := by
  obtain ⟨E0, h⟩ := werr_exists ws
  by_cases h0 : E0 = 0
  · by_cases h1 : inR total
    · exact ⟨0, E0, h, fun k => absurd h0 k, fun _ => ⟨fun _ => rfl, fun k => absurd h1 k⟩⟩
    · exact ⟨3, E0, h, fun k => absurd h0 k, fun _ => ⟨fun k => absurd k h1, fun _ => rfl⟩⟩
  · exact ⟨E0, E0, h, fun _ => rfl, fun k => absurd k h0⟩
theorem werr_ok {ws : List Int} (h : WErr ws 0) : ws.length ≤ 256 ∧ wOk ws := by
  rcases Nat.lt_or_ge 256 ws.length with h1 | h1
  · have := h.1 h1
    omega
  · refine ⟨h1, Classical.byContradiction fun h2 => ?_⟩
    have := (h.2 h1).2 h2
    omega
theorem sherr_ok {total : Int} {ws : List Int} (h : ShErr total ws 0) : ws.length ≤ 256 ∧ wOk ws ∧ inR total := by
  obtain ⟨E0, h1, h2, h3⟩ := h
  have h0 : E0 = 0 := Classical.byContradiction fun hc => hc (h2 hc).symm
  subst h0
  obtain ⟨h4, h5⟩ := werr_ok h1
  refine ⟨h4, h5, Classical.byContradiction fun hc => ?_⟩
  have := (h3 rfl).2 hc
  omega
theorem sherr_long {total : Int} {ws : List Int} {E : Int} (h : ShErr total ws E) (hl : 256 < ws.length) : E = 2 := by
  obtain ⟨E0, h1, h2, h3⟩ := h
  have := h1.1 hl
  subst this
  exact h2 (by decide)
theorem sherr_bad {total : Int} {ws : List Int} {E : Int} (h : ShErr total ws E) (hl : ws.length ≤ 256) (hw : ¬ wOk ws) : E = 1 := by
  obtain ⟨E0, h1, h2, h3⟩ := h
  have := (h1.2 hl).2 hw
  subst this
  exact h2 (by decide)
theorem sherr_out {total : Int} {ws : List Int} {E : Int} (h : ShErr total ws E) (hl : ws.length ≤ 256) (hw : wOk ws) : (inR total → E = 0) ∧ (¬ inR total → E = 3) := by
  obtain ⟨E0, h1, h2, h3⟩ := h
  have := (h1.2 hl).1 hw
  exact h3 this
theorem wok_WOk {ws : List Int} (h : wOk ws) (hl : ws.length ≤ 256) : WOk ws.sum ws := by
  obtain ⟨h1, x, hx, h0⟩ := h
  refine ⟨h1, rfl, ?_, hl⟩
  have := sum_ge ws (fun y hy => (h1 y hy).1) x hx
  omega
theorem wok_sum {ws : List Int} (h : ∀ x ∈ ws, 0 ≤ x ∧ x ≤ 9007199254740992) : wOk ws ↔ ws.sum ≠ 0 := by
  constructor
  · rintro ⟨_, x, hx, h0⟩
    have := sum_ge ws (fun y hy => (h y hy).1) x hx
    omega
  · intro hs
    refine ⟨h, Classical.byContradiction fun hc => hs ?_⟩
    have h0 : ∀ x ∈ ws, x = 0 := fun x hx => by
      have := (h x hx).1
      have : ¬ 0 < x := fun hx0 => hc ⟨x, hx, hx0⟩
      omega
    clear hc hs h
    induction ws with
    | nil => rfl
    | cons a t ih =>
      rw [List.sum_cons, h0 a (by simp), ih (fun x hx => h0 x (by simp [hx]))]
      rfl

/-- The parts of Share. -/
def absT (total : Int) : Int := if total < 0 then -total else total
def shl (total : Int) (ws : List Int) (ord : List Nat) : List Int :=
  if total < 0 then (pts (absT total) ws.sum ws ord (lf (absT total) ws.sum ws ws.length).toNat).map (fun x => -x) else pts (absT total) ws.sum ws ord (lf (absT total) ws.sum ws ws.length).toNat
/-- What Share returns. -/
def ShV (total : Int) (ws : List Int) (E : Int) (sv : Value) (w : World) : Prop :=
  (E ≠ 0 → sv = .slice none 0 0) ∧ (E = 0 → ∃ ord, IsOrd (rf (absT total) ws.sum ws) ws.length ord ∧ Hl (fun k => k < w.heap.size) w sv (shl total ws ord))
theorem absT_bnd {total : Int} (h : inR total) : 0 ≤ absT total ∧ absT total ≤ 9007199254740992 := by
  obtain ⟨h0, h1⟩ := h
  unfold absT
  split <;> omega
theorem pts_bnd {t W : Int} {ws : List Int} (h : WOk W ws) (ht : 0 ≤ t) (o : List Nat) (m : Nat) : ∀ x ∈ pts t W ws o m, 0 ≤ x ∧ x ≤ t + 1 := by
  intro x hx
  unfold pts at hx
  obtain ⟨j, hj, rfl⟩ := List.mem_map.1 hx
  have := qf_bnd h ht j
  split <;> omega

set_option maxRecDepth 100000 in
set_option maxHeartbeats 8000000 in
theorem share_any (total : Int) (ws : List Int) (v : Value) (w : World) (E : Int) (hE : ShErr total ws E) (h : Hl (fun k => k < w.heap.size) w v ws) :
    Calls Tryz.prog 23 #[.int .i64 total, v] w fun e w' => ∃ sv, e = .returned (.tuple #[sv, .int .i64 E]) ∧ Below w.heap.size w w' ∧ ShV total ws E sv w' := by
  obtain ⟨oa, c, rfl⟩ := h.shape
  obtain ⟨n, hn⟩ : ∃ n, ws.length = n := ⟨_, rfl⟩
  have hll := h.1
  rw [hn] at h hll ⊢
  have HN := Lib.hid hn; have HH := Lib.hid h; have HE := Lib.hid hE
  clear hn h hE
  by_cases h256 : 256 < n
  · obtain rfl := sherr_long HE.out (by rw [HN.out]; exact h256)
    have hlt : (256 : Int) < (n : Int) := by omega
    go_enter Tryz.func23, Tryz.ntmps23
    go_wp2
    go_ret2
    exact ⟨_, rfl, Below.refl _ _, fun _ => rfl, fun h => by omega⟩
  · have hlt : ¬ (256 : Int) < (n : Int) := by omega
    go_enter Tryz.func23, Tryz.ntmps23
    go_wp2
    go_loopw [6, 15] (fun s i wr => ∃ (k : Nat) (u : Int), k ≤ n ∧ s = .int .i64 u ∧ i = .int .i64 (k : Int) ∧ Hid (u = (ws.take k).sum ∧ ∀ j x, j < k → ws[j]? = some x → 0 ≤ x ∧ x ≤ 9007199254740992) ∧ w = wr) (fun s i _ => n - (intOf i).toNat)
    case atStart => exact ⟨0, 0, by omega, rfl, rfl, Lib.hid ⟨by simp, fun j x hj => (by omega)⟩, rfl⟩
    case round =>
      obtain ⟨k, u, hk, rfl, rfl, HI, rfl⟩ := hrel
      by_cases hltk : k < n
      · have hlt2 : (k : Int) < (n : Int) := by omega
        obtain ⟨g, off, x, rfl, hg, hx, hxi, c0, hcap⟩ := HH.out.pick k (by have := HN.out; omega)
        have H1 := between_any 0 x 9007199254740992
        by_cases hr : 0 ≤ x ∧ x ≤ 9007199254740992
        · rw [decide_eq_true hr] at H1
          replace H1 := Lib.hid H1
          have hrng : ∀ j y, j < k + 1 → ws[j]? = some y → 0 ≤ y ∧ y ≤ 9007199254740992 := by
            intro j y hj hy
            rcases Nat.lt_or_ge j k with hjk | hjk
            · exact HI.out.2 j y hjk hy
            · obtain rfl : j = k := by omega
              rw [hx] at hy
              cases hy
              exact hr
          have hu := HI.out.1
          have HI2 : Hid (u + x = (ws.take (k + 1)).sum ∧ ∀ j y, j < k + 1 → ws[j]? = some y → 0 ≤ y ∧ y ≤ 9007199254740992) := Lib.hid ⟨by rw [sum_take ws k x hx, hu], hrng⟩
          have hb := sum_bnd (ws.take (k + 1)) (fun y hy => by
            obtain ⟨j, hj, rfl⟩ := List.getElem_of_mem hy
            rw [List.length_take] at hj
            rw [List.getElem_take]
            exact hrng j _ (by omega) (List.getElem?_eq_getElem (by omega)))
          have hlk : (ws.take (k + 1)).length ≤ k + 1 := List.length_take_le _ _
          have w1 : IntKind.i64.wrap (u + x) = u + x := by
            rw [HI2.out.1]
            exact wrap_in (by omega) (by omega)
          clear hx HI hr hrng hu hb hlk
          go_wp2_with fail
          refine (H1.out _).mono ?_
          rintro e w' ⟨rfl, rfl⟩
          go_wp2
          go_roundw
          case rel => exact ⟨k + 1, u + x, by omega, rfl, by go_num, HI2, trivial⟩
          case measure => simp [intOf]; omega
        · rw [decide_eq_false hr] at H1
          replace H1 := Lib.hid H1
          have hE1 := sherr_bad HE.out (by rw [HN.out]; omega) (fun hw => hr (hw.1 x (List.mem_of_getElem? hx)))
          subst hE1
          clear hx HI hr
          go_wp2_with fail
          refine (H1.out _).mono ?_
          rintro e w' ⟨rfl, rfl⟩
          go_wp2
          go_ret2
          exact ⟨_, rfl, Below.refl _ _, fun _ => rfl, fun h => by omega⟩
      · obtain rfl : k = n := by omega
        have hlt2 : ¬ ((k : Int) < (k : Int)) := by omega
        have hall : ∀ x ∈ ws, 0 ≤ x ∧ x ≤ 9007199254740992 := fun x hx => by
          obtain ⟨i, hi, rfl⟩ := List.getElem_of_mem hx
          exact HI.out.2 i _ (by have := HN.out; omega) (List.getElem?_eq_getElem hi)
        have hsum := HI.out.1
        rw [sum_all ws k (by have := HN.out; omega)] at hsum
        have hiff := wok_sum hall
        rw [← hsum] at hiff
        by_cases hu0 : u = 0
        · have hE1 := sherr_bad HE.out (by rw [HN.out]; omega) (fun hw => hiff.1 hw hu0)
          subst hE1
          clear hsum hiff hall HI
          go_wp2
          go_ret2
          exact ⟨_, rfl, Below.refl _ _, fun _ => rfl, fun h => by omega⟩
        · have hok := hiff.2 hu0
          have hWO := wok_WOk hok (by rw [HN.out]; omega)
          rw [← hsum] at hWO
          have hEE := sherr_out HE.out (by rw [HN.out]; omega) hok
          have H1 := inRange_any total
          have hu0b : (u == 0) = false := by simpa using hu0
          by_cases hr : inR total
          · rw [decide_eq_true hr] at H1
            replace H1 := Lib.hid H1
            have hE0 := hEE.1 hr
            subst hE0
            have hab := absT_bnd hr
            have hap := apportion_any (absT total) u ws (.slice oa k c) w hab.1 hab.2 hWO HH.out
            rw [HN.out] at hap
            have HAP := Lib.hid hap
            clear hap
            have HRR := Lib.hid hr
            have HU := Lib.hid hsum
            have HWO := Lib.hid hWO
            by_cases hneg : total < 0
            all_goals have HNG := Lib.hid hneg
            · have ea : absT total = -total := if_pos hneg
              rw [ea] at HAP
              have HEA := Lib.hid ea
              obtain ⟨T, hT⟩ : ∃ T, -total = T := ⟨_, rfl⟩
              have hw : IntKind.i64.wrap (-total) = T := by rw [in_neg hr, hT]
              rw [hT] at HAP
              have HT := Lib.hid hT
              clear hsum hiff hall HI hu0 hok hWO hEE hr hab ea hT
              go_wp2_with fail
              refine (H1.out _).mono ?_
              rintro e w' ⟨rfl, rfl⟩
              go_wp2_with fail
              refine HAP.out.mono ?_
              rintro e w2 ⟨g, ord, rfl, hb, hg, ho, hp⟩
              obtain ⟨L, hL⟩ : ∃ L, pts T u ws ord (lf T u ws k).toNat = L := ⟨_, rfl⟩
              rw [hL] at hp
              have hLl : L.length = k := by rw [← hL, pts_length, HN.out]
              have hLb : ∀ x ∈ L, 0 ≤ x ∧ x ≤ 9007199254740993 := by
                intro x hx
                rw [← hL] at hx
                have hrr := HRR.out
                have := pts_bnd HWO.out (t := T) (by rw [← HT.out]; omega) _ _ x hx
                have := HT.out
                omega
              have HL := Lib.hid hL; have HLL := Lib.hid hLl; have HLB := Lib.hid hLb
              have HB := Lib.hid hb; have HG := Lib.hid hg; have HO := Lib.hid ho; have HP := Lib.hid hp
              clear hL hLl hLb hb hg ho hp HAP
              go_wp2
              go_loopw [43] (fun i wr => ∃ m : Nat, m ≤ k ∧ i = .int .i64 (m : Int) ∧ Hid (Below w.heap.size w wr ∧ ∃ L2, Hr wr g L2 ∧ L2.length = k ∧ (∀ j x, j < m → L[j]? = some x → L2[j]? = some (-x)) ∧ (∀ j, m ≤ j → L2[j]? = L[j]?))) (fun i _ => k - (intOf i).toNat)
              case atStart => exact ⟨0, by omega, rfl, Lib.hid ⟨HB.out, L, HP.out, HLL.out, fun j x hj => (by omega), fun j _ => rfl⟩⟩
              case round =>
                obtain ⟨m, hm, rfl, HR⟩ := hrel
                by_cases hmk : m < k
                · have hmk2 : (m : Int) < (k : Int) := by omega
                  obtain ⟨hbl, L2, hr2, hl2, h3, h4⟩ := HR.out
                  obtain ⟨x, hx⟩ : ∃ x, L[m]? = some x := ⟨_, List.getElem?_eq_getElem (by have := HLL.out; omega)⟩
                  have hx2 := h4 m (Nat.le_refl _)
                  rw [hx] at hx2
                  have c0 := hr2.cell hx2
                  have f0 := hr2.free m
                  have hxb := HLB.out x (List.mem_of_getElem? hx)
                  have w1 : IntKind.i64.wrap (-x) = -x := wrap_in (by omega) (by omega)
                  have hr3 := hr2.put m (-x)
                  have hgg := HG.out
                  have HR2 : Hid (Below w.heap.size w (wr.setCell ⟨g, m, none⟩ (.int .i64 (-x))) ∧ ∃ L2, Hr (wr.setCell ⟨g, m, none⟩ (.int .i64 (-x))) g L2 ∧ L2.length = k ∧ (∀ j x, j < m + 1 → L[j]? = some x → L2[j]? = some (-x)) ∧ (∀ j, m + 1 ≤ j → L2[j]? = L[j]?)) := by
                    refine Lib.hid ⟨Below.setCell hbl (show w.heap.size ≤ g from hgg) _, _, hr3, by rw [List.length_set]; exact hl2, fun j y hj hy => ?_, fun j hj => ?_⟩
                    · rw [List.getElem?_set]
                      by_cases hjm : m = j
                      · subst hjm
                        rw [if_pos rfl, if_pos (by omega)]
                        rw [hx] at hy
                        cases hy
                        rfl
                      · rw [if_neg hjm]
                        exact h3 j y (by omega) hy
                    · rw [List.getElem?_set, if_neg (by omega)]
                      exact h4 j (by omega)
                  clear hbl hr2 hl2 h3 h4 hx hx2 hxb hr3 hgg HR
                  go_wp2
                  clear c0 f0
                  generalize wr.setCell ⟨g, m, none⟩ (.int .i64 (-x)) = wu at *
                  go_roundw
                  case rel => exact ⟨m + 1, by omega, by go_num, HR2⟩
                  case measure => simp [intOf]; omega
                · obtain rfl : m = k := by omega
                  have hmk2 : ¬ ((m : Int) < (m : Int)) := by omega
                  obtain ⟨hbl, L2, hr2, hl2, h3, h4⟩ := HR.out
                  have hL2 : L2 = shl total ws ord := by
                    unfold shl
                    rw [if_pos (show total < 0 by have := HNG.out; omega), HEA.out, HT.out, ← HU.out, HN.out, HL.out]
                    refine List.ext_getElem? fun j => ?_
                    rcases Nat.lt_or_ge j m with hj | hj
                    · obtain ⟨y, hy⟩ : ∃ y, L[j]? = some y := ⟨_, List.getElem?_eq_getElem (by have := HLL.out; omega)⟩
                      rw [List.getElem?_map, hy]
                      exact h3 j y hj hy
                    · rw [List.getElem?_eq_none (by omega), List.getElem?_eq_none (by rw [List.length_map]; have := HLL.out; omega)]
                  have hI : ∀ x ∈ L2, I64 x := by
                    intro x hx
                    rw [hL2] at hx
                    unfold shl at hx
                    rw [if_pos (show total < 0 by have := HNG.out; omega), HEA.out, HT.out, ← HU.out, HN.out, HL.out] at hx
                    obtain ⟨y, hy, rfl⟩ := List.mem_map.1 hx
                    have := HLB.out y hy
                    exact ⟨by omega, by omega⟩
                  have hh := hr2.hl (by omega) hI
                  rw [hl2] at hh
                  have HF : Hid (Below w.heap.size w wr ∧ Hl (fun k => k < wr.heap.size) wr (.slice (some ⟨g, 0, none⟩) m m) (shl total ws ord)) := Lib.hid ⟨hbl, hL2 ▸ hh⟩
                  clear hbl hr2 hl2 h3 h4 hL2 hI hh HR
                  go_wp2
                  go_ret2
                  exact ⟨_, rfl, HF.out.1, fun h => absurd rfl h, fun _ => ⟨ord, by rw [HN.out, ← HU.out, HEA.out, HT.out]; exact HO.out, HF.out.2⟩⟩
            · have ea : absT total = total := if_neg hneg
              rw [ea] at HAP
              have HEA := Lib.hid ea
              clear hsum hiff hall HI hu0 hok hWO hEE hr hab ea
              go_wp2_with fail
              refine (H1.out _).mono ?_
              rintro e w' ⟨rfl, rfl⟩
              go_wp2_with fail
              refine HAP.out.mono ?_
              rintro e w2 ⟨g, ord, rfl, hb, hg, ho, hp⟩
              have hI : ∀ x ∈ pts total u ws ord (lf total u ws k).toNat, I64 x := by
                intro x hx
                have hrr := HRR.out
                have := pts_bnd HWO.out (t := total) (by omega) _ _ x hx
                exact ⟨by omega, by omega⟩
              have hh := hp.hl (by rw [pts_length, HN.out]; omega) hI
              rw [pts_length, HN.out] at hh
              have HF : Hid (Below w.heap.size w w2 ∧ Hl (fun k => k < w2.heap.size) w2 (.slice (some ⟨g, 0, none⟩) k k) (shl total ws ord)) := Lib.hid ⟨hb, by
                unfold shl
                rw [if_neg (show ¬ total < 0 by have := HNG.out; omega), HEA.out, ← HU.out, HN.out]
                exact hh⟩
              have HO := Lib.hid ho
              clear hI hh hb hg ho hp HAP
              go_wp2
              go_ret2
              exact ⟨_, rfl, HF.out.1, fun h => absurd rfl h, fun _ => ⟨ord, by rw [HN.out, ← HU.out, HEA.out]; exact HO.out, HF.out.2⟩⟩
          · rw [decide_eq_false hr] at H1
            replace H1 := Lib.hid H1
            have hE3 := hEE.2 hr
            subst hE3
            clear hsum hiff hall HI hu0 hok hWO hEE hr
            go_wp2_with fail
            refine (H1.out _).mono ?_
            rintro e w' ⟨rfl, rfl⟩
            go_wp2
            go_ret2
            exact ⟨_, rfl, Below.refl _ _, fun _ => rfl, fun h => by omega⟩
end Go.Proofs.YtempnbchiofghaaGreatDoor
