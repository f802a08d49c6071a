/-
  Walks: Compare.
-/
import Derived.Test.YtjhjcigappkebaaCa
import Derived.Deep.RegionHeld
import Derived.Test.YtjhjcigappkebaaDep
namespace Go.Proofs.Ytjhjcigappkebaa
open Go.RowKit

mutual
/-- What Compare returns. -/
def cmpT : T → T → Int
  | .mk k n b l, .mk k' n' b' l' => if k ≠ k' then ordI k k' else if k = 1 then ordI n n' else if k = 2 then cmpB b b' else if k = 3 then cmpL l l' else 0
def cmpL : List T → List T → Int
  | [], [] => 0
  | [], _ :: _ => -1
  | _ :: _, [] => 1
  | t :: ts, u :: us => if cmpT t u ≠ 0 then cmpT t u else cmpL ts us
end

def CmpOf (t u : T) (w : World) (e : Ending) (w' : World) : Prop := e = .returned (.int .i64 (cmpT t u)) ∧ Below w.heap.size w w'
def CmpLOf (l m : List T) (w : World) (e : Ending) (w' : World) : Prop := e = .returned (.int .i64 (cmpL l m)) ∧ Below w.heap.size w w'

theorem cmpL_drop (l m : List T) (k : Nat) (hl : k < l.length) (hm : k < m.length) : cmpL (l.drop k) (m.drop k) = if cmpT l[k] m[k] ≠ 0 then cmpT l[k] m[k] else cmpL (l.drop (k + 1)) (m.drop (k + 1)) := by
  rw [List.drop_eq_getElem_cons hl, List.drop_eq_getElem_cons hm]
  simp only [cmpL]

set_option maxHeartbeats 400000 in
theorem compareFunc_any (F G : Nat → Prop) (l m : List T) (a c : Option Addr) (lc mc : Nat) (w : World) (hF : ∀ k, F k → k < w.heap.size) (hG : ∀ k, G k → k < w.heap.size) (hl : l.length ≤ 2199023255552) (hm : m.length ≤ 2199023255552) (hlc : l.length ≤ lc) (hmc : m.length ≤ mc)
    (hrl : 0 < l.length → ∃ g off, a = some ⟨g, off, none⟩ ∧ F g ∧ RdL F w l g off) (hrm : 0 < m.length → ∃ g off, c = some ⟨g, off, none⟩ ∧ G g ∧ RdL G w m g off)
    (ih : ∀ t ∈ l, ∀ (u : T) (w' : World) (v v' : Value), (∀ k, F k → k < w'.heap.size) → (∀ k, G k → k < w'.heap.size) → Rd F w' t v → Rd G w' u v' → Calls Try.prog 19 #[v, v'] w' (CmpOf t u w')) :
    Calls Try.prog 40 #[.slice a l.length lc, .slice c m.length mc, .func (.func 19) #[] #[]] w (CmpLOf l m w) := by
  have Hrl := Lib.hid hrl; clear hrl
  have Hrm := Lib.hid hrm; clear hrm
  have HF := Lib.hid hF; clear hF
  have HG := Lib.hid hG; clear hG
  have Ih := Lib.hid ih; clear ih
  go_enter Try.func40, Try.ntmps40
  go_wp2_with fail
  go_loopw [13] (fun i wr => ∃ k : Nat, k ≤ l.length ∧ k ≤ m.length ∧ i = .int .i64 k ∧ Hid (Below w.heap.size w wr ∧ cmpL (l.drop k) (m.drop k) = cmpL l m)) (fun i _ => l.length - (intOf i).toNat)
  case atStart => exact ⟨0, Nat.zero_le _, Nat.zero_le _, rfl, Below.refl _ _, rfl⟩
  case round =>
    obtain ⟨k, hkl, hkm, rfl, hI⟩ := hrel
    by_cases hlt : k < l.length
    · by_cases hmt : k < m.length
      · obtain ⟨g, off, ha, hg, hdl⟩ := Hrl.out (by omega)
        obtain ⟨g', off', hc, hg', hdm⟩ := Hrm.out (by omega)
        obtain ⟨a2, k2, a3, k3, c0, c1, c2, c3, ht⟩ := hdl.cells k l[k] (List.getElem?_eq_getElem hlt)
        obtain ⟨b2, j2, b3, j3, e0, e1, e2, e3, hu⟩ := hdm.cells k m[k] (List.getElem?_eq_getElem hmt)
        have hgw := HF.out g hg
        have hgw' := HG.out g' hg'
        have hb := hI.out.1
        have d0 := (hb.cell (p := ⟨g, off + k * 4, none⟩) hgw).trans c0
        have d1 := (hb.cell (p := ⟨g, off + k * 4 + 1, none⟩) hgw).trans c1
        have d2 := (hb.cell (p := ⟨g, off + k * 4 + 2, none⟩) hgw).trans c2
        have d3 := (hb.cell (p := ⟨g, off + k * 4 + 3, none⟩) hgw).trans c3
        have f0 := (hb.cell (p := ⟨g', off' + k * 4, none⟩) hgw').trans e0
        have f1 := (hb.cell (p := ⟨g', off' + k * 4 + 1, none⟩) hgw').trans e1
        have f2 := (hb.cell (p := ⟨g', off' + k * 4 + 2, none⟩) hgw').trans e2
        have f3 := (hb.cell (p := ⟨g', off' + k * 4 + 3, none⟩) hgw').trans e3
        have Ht := Lib.hid ht; clear ht
        have Hu := Lib.hid hu; clear hu
        have hws := hb.size
        clear c0 c1 c2 c3 e0 e1 e2 e3 hb hdl hdm
        subst ha hc
        have hd := cmpL_drop l m k hlt hmt
        have Hd := Lib.hid hd; clear hd
        have f0' : ∀ o, (wr.alloc o).cell? ⟨g', off' + k * 4, none⟩ = some (.int .i64 m[k].kind) := fun o => (World.cell?_alloc_some wr _ o (by rw [f0]; rfl)).trans f0
        have f1' : ∀ o, (wr.alloc o).cell? ⟨g', off' + k * 4 + 1, none⟩ = some (.int .i64 m[k].num) := fun o => (World.cell?_alloc_some wr _ o (by rw [f1]; rfl)).trans f1
        have f2' : ∀ o, (wr.alloc o).cell? ⟨g', off' + k * 4 + 2, none⟩ = some (.slice b2 m[k].bs.length j2) := fun o => (World.cell?_alloc_some wr _ o (by rw [f2]; rfl)).trans f2
        have f3' : ∀ o, (wr.alloc o).cell? ⟨g', off' + k * 4 + 3, none⟩ = some (.slice b3 m[k].els.length j3) := fun o => (World.cell?_alloc_some wr _ o (by rw [f3]; rfl)).trans f3
        have n1 := World.new_ne wr _ d0
        clear f0 f1 f2 f3
        have hcall : ∀ w', Below w.heap.size w w' → Calls Try.prog 19 #[.agg #[.int .i64 l[k].kind, .int .i64 l[k].num, .slice a2 l[k].bs.length k2, .slice a3 l[k].els.length k3], .agg #[.int .i64 m[k].kind, .int .i64 m[k].num, .slice b2 m[k].bs.length j2, .slice b3 m[k].els.length j3]] w' (CmpOf l[k] m[k] w') := by
          intro w' hb
          exact Ih.out l[k] (List.getElem_mem hlt) m[k] w' _ _ (fun j hj => Nat.lt_of_lt_of_le (HF.out j hj) hb.size) (fun j hj => Nat.lt_of_lt_of_le (HG.out j hj) hb.size) (Ht.out.below HF.out hb) (Hu.out.below HG.out hb)
        have Hcall := Lib.hid hcall; clear hcall
        by_cases hz : cmpT l[k] m[k] = 0
        · have tz : (cmpT l[k] m[k] != 0) = false := by rw [hz]; rfl
          have Hz := Lib.hid hz; clear hz
          go_wp2_with fail
          refine (Hcall.out _ (ball (ball hI.out.1 _) _)).mono ?_
          rintro e w1 ⟨rfl, hb1⟩
          have hb2 : Below w.heap.size w w1 := (ball (ball hI.out.1 _) _).trans (hb1.mono (by simp; omega))
          have Hb2 := Lib.hid hb2; clear hb2 hb1
          go_wp2_with fail
          go_roundw
          case rel =>
            refine ⟨k + 1, by omega, by omega, by go_num, Hb2.out, ?_⟩
            have h1 := Hd.out
            rw [if_neg (by rw [Hz.out]; simp)] at h1
            rw [← h1]
            exact hI.out.2
          case measure => simp [intOf]; omega
        · have tz : (cmpT l[k] m[k] != 0) = true := by simpa using hz
          have Hz := Lib.hid hz; clear hz
          go_wp2_with fail
          refine (Hcall.out _ (ball (ball hI.out.1 _) _)).mono ?_
          rintro e w1 ⟨rfl, hb1⟩
          have hb2 : Below w.heap.size w w1 := (ball (ball hI.out.1 _) _).trans (hb1.mono (by simp; omega))
          have Hb2 := Lib.hid hb2; clear hb2 hb1
          go_wp2_with fail
          go_ret
          refine ⟨ret_int ?_, Hb2.out⟩
          rw [← hI.out.2, Hd.out, if_pos Hz.out]
      · have hmk : m.length ≤ k := by omega
        obtain ⟨g, off, ha, hg, hdl⟩ := Hrl.out (by omega)
        obtain ⟨a2, k2, a3, k3, c0, c1, c2, c3, ht⟩ := hdl.cells k l[k] (List.getElem?_eq_getElem hlt)
        have hgw := HF.out g hg
        have hb := hI.out.1
        have d0 := (hb.cell (p := ⟨g, off + k * 4, none⟩) hgw).trans c0
        have d1 := (hb.cell (p := ⟨g, off + k * 4 + 1, none⟩) hgw).trans c1
        have d2 := (hb.cell (p := ⟨g, off + k * 4 + 2, none⟩) hgw).trans c2
        have d3 := (hb.cell (p := ⟨g, off + k * 4 + 3, none⟩) hgw).trans c3
        clear c0 c1 c2 c3 hb hdl ht
        subst ha
        have hfin : (1 : Int) = cmpL l m := by
          rw [← hI.out.2, List.drop_eq_getElem_cons hlt, List.drop_eq_nil_of_le hmk]
          rfl
        have Hfin := Lib.hid hfin; clear hfin hmt
        go_wp2_with fail
        go_ret
        exact ⟨ret_int Hfin.out, ball hI.out.1 _⟩
    · have hlk : l.length ≤ k := by omega
      have hkl' : k = l.length := by omega
      by_cases hmt : k < m.length
      · have hfin : (-1 : Int) = cmpL l m := by
          rw [← hI.out.2, List.drop_eq_nil_of_le hlk, List.drop_eq_getElem_cons hmt]
          rfl
        have hlm : l.length < m.length := by omega
        have Hfin := Lib.hid hfin; clear hfin hmt hkl'
        go_wp2_with fail
        go_ret
        exact ⟨ret_int Hfin.out, hI.out.1⟩
      · have hfin : (0 : Int) = cmpL l m := by
          rw [← hI.out.2, List.drop_eq_nil_of_le hlk, List.drop_eq_nil_of_le (by omega)]
          rfl
        have hlm : m.length ≤ l.length := by omega
        have Hfin := Lib.hid hfin; clear hfin hmt hkl'
        go_wp2_with fail
        go_ret
        exact ⟨ret_int Hfin.out, hI.out.1⟩

end Go.Proofs.Ytjhjcigappkebaa
