/-
  Walks of the reference: Challenge, Sign, Verify.
-/
import Derived.Test.YtlfjcifeiihmfaaDoorPk
namespace Go.Proofs.YtlfjcifeiihmfaaDoor
open Go.RowKit

theorem bs_slice {F : Nat → Prop} {w : World} {v : Value} {l : List Int} (h : Bs F w v l) : ∃ a c, v = .slice a l.length c := by
  obtain ⟨_, _, a, c, h, _⟩ := h
  exact ⟨a, c, h⟩

set_option maxHeartbeats 2000000 in
theorem rchallenge_any (r p : Int) (m : List Int) (v : Value) (w : World) (hv : Bs (fun k => k < w.heap.size) w v m) (hr : 0 ≤ r ∧ r < 18446744073709551616) (hp : 0 ≤ p ∧ p < 18446744073709551616) (hm : m.length ≤ 2000) :
    Calls Tryd.prog 37 #[.int .u64 r, .int .u64 p, v] w fun e w' => e = .returned (.int .u64 (chal r p m)) ∧ Below w.heap.size w w' := by
  obtain ⟨va, vc, rfl⟩ := bs_slice hv
  have K1 := rbytes_any r w hr.1 hr.2
  have K2 := Lib.hid (fun w => rbytes_any p w hp.1 hp.2)
  have HV := Lib.hid hv; have Hm := Lib.hid hm
  have hz := dg_range chaS ((nb r ++ nb p) ++ m)
  rw [chal_head]
  clear hv hm hr hp
  have NM : Hid (∀ w', Calls Tryd.prog 30 #[.agg (byteVals (sha (hmsg (strB chaS) ((nb r ++ nb p) ++ m)))).toArray] w' fun e w'' => e = .returned (.int .u64 (dg chaS ((nb r ++ nb p) ++ m))) ∧ Below w'.heap.size w' w'') := Lib.hid (fun w' => rnumber_any _ w' (sha_length _) (sha_range _))
  generalize dg chaS ((nb r ++ nb p) ++ m) = z at *
  go_enter Tryd.func37, Tryd.ntmps37
  go_wp2_with fail
  refine K1.mono ?_
  rintro e w8 ⟨u1, rfl, h8⟩
  obtain ⟨b1, n1, rfl⟩ := h8.len
  have H8 := Lib.hid h8; clear h8
  go_wp2_with fail
  refine (K2.out _).mono ?_
  rintro e w9 ⟨u2, rfl, h9⟩
  obtain ⟨b2, n2, rfl⟩ := h9.len
  obtain ⟨v3, w10, hr3, hd3⟩ := app_pds (H8.out.next h9.2) (h9.bs (by rw [nb_length]; decide) (nb_range _)) (by rw [nb_length, nb_length]; decide)
  obtain ⟨v4, w11, hr4, hd4⟩ := app_pds hd3 (HV.out.up2 (fun k hk => hd3.2.block k hk) hd3.2.size) (by rw [List.length_append, nb_length, nb_length]; have := Hm.out; omega)
  have R3 := Lib.hid hr3; have R4 := Lib.hid hr4
  have hrr : ∀ x ∈ (nb r ++ nb p) ++ m, 0 ≤ x ∧ x ≤ 255 := by
    intro x hx
    rcases List.mem_append.1 hx with hx | hx
    · exact head_range r p x hx
    · exact HV.out.2.1 x hx
  have hl : ((nb r ++ nb p) ++ m).length ≤ 2016 := by rw [List.length_append, List.length_append, nb_length, nb_length]; have := Hm.out; omega
  have M4 := Lib.hid (hd4.bs (by omega) hrr)
  have D4 := Lib.hid hd4.2
  have TG := Lib.hid (rtagged_any chaS ((nb r ++ nb p) ++ m) v4 w11 M4.out (by decide) (by omega))
  obtain ⟨b3, n3, rfl⟩ : ∃ a c, v3 = .slice a (nb r ++ nb p).length c := hd3.len
  clear hr3 hr4 hd3 hd4 h9 H8 hrr hl M4
  go_wp2_with (first | (at_builtin; refine wp_app rfl rfl rfl (.tmp 9) (.tmp 11) rfl rfl rfl R3.out ?_) | (at_builtin; refine wp_app rfl rfl rfl (.tmp 13) (.tmp 14) rfl rfl rfl R4.out ?_))
  refine TG.out.mono ?_
  rintro e w12 ⟨rfl, hb12⟩
  have D12 := Lib.hid (D4.out.trans (hb12.mono D4.out.size)); clear hb12
  go_wp2_with fail
  refine (NM.out _).mono ?_
  rintro e w13 ⟨rfl, hb13⟩
  have D13 := Lib.hid (D12.out.trans (hb13.mono D12.out.size)); clear hb13
  go_wp2
  go_ret
  exact ⟨rfl, D13.out⟩

end Go.Proofs.YtlfjcifeiihmfaaDoor
