/-
  Walks: the reader's bytes.
-/
import Derived.Test.YtjhjcigappkebaaRb
import Derived.Test.YtjhjcigappkebaaWi
import Derived.Deep.LoopGhost
namespace Go.Proofs.Ytjhjcigappkebaa
open Go.RowKit

theorem pBytes_ne (x : Int) (rest : List Int) (h : ¬ x = 0) : pBytes (x :: rest) = match pBytes rest with | .ok (s, r) => .ok (x :: s, r) | .error e => .error e := by
  cases rest with
  | nil => simp [pBytes]
  | cons d ds =>
    simp only [pBytes]; rw [if_neg h]
    cases pBytes (d :: ds) <;> rfl

/-- What was read, ahead of what is read. -/
def putAhead (acc : List Int) (r : Except Int (List Int × List Int)) : Except Int (List Int × List Int) :=
  match r with
  | .ok (s, rest) => .ok (acc ++ s, rest)
  | .error e => .error e

theorem putAhead_ne (acc : List Int) (x : Int) (rest : List Int) (h : ¬ x = 0) : putAhead acc (pBytes (x :: rest)) = putAhead (acc ++ [x]) (pBytes rest) := by
  rw [pBytes_ne x rest h]
  cases pBytes rest with
  | ok p => obtain ⟨s, r⟩ := p; simp [putAhead]
  | error e => rfl

theorem putAhead_esc (acc : List Int) (ds : List Int) : putAhead acc (pBytes (0 :: 255 :: ds)) = putAhead (acc ++ [0]) (pBytes ds) := by
  simp only [pBytes]
  cases pBytes ds with
  | ok p => obtain ⟨s, r⟩ := p; simp [putAhead]
  | error e => rfl

def BytesVal (w : World) (w' : World) (v : Value) (s : List Int) : Prop := Bs (fun k => w.heap.size ≤ k ∧ k < w'.heap.size) w' v s

/-- The own row stays while the reader moves. -/
theorem ownReader {base : Nat} {w w' : World} {R : Nat} {v : Value} {n : Nat} {xs : List Value} {e : TypeId} {size : Nat} (h : w.ownsRow base e size v n xs) (hg : w.grownBy w' (some R)) (hR : R < base) : w'.ownsRow base e size v n xs :=
  h.kept hg (by
    cases hb : v.ownBlock with
    | none => exact Or.inl rfl
    | some k =>
      refine Or.inr (fun e => ?_)
      simp at e
      have := (h.lt k hb).1
      omega)

set_option maxHeartbeats 400000 in
theorem bytes_any (B : Nat) (w : World) (R : Nat) (vb : Value) (b : List Int) (p : Nat) (deep : Int) (h : Rs B w R vb b p deep) (hlen : b.length ≤ 65536) :
    Calls Try.prog 52 #[.pointer (some ⟨R, 0, none⟩)] w (ReadOf B w R vb b deep (BytesVal w) (pBytes (b.drop p))) := by
  have hR := h.lt
  have H := Lib.hid h; clear h
  generalize hr : pBytes (b.drop p) = r
  have Hr := Lib.hid hr; clear hr
  go_enter Try.func52, Try.ntmps52
  go_wp2_with fail
  go_loopg [2] (b.length + 1 - p) (fun k v wr => ∃ (q : Nat) (acc : List Int), Hid (k = b.length + 1 - q ∧ Rs B wr R vb b q deep ∧ w.grownBy wr (some R) ∧ wr.ownsRow w.heap.size 5 1 v acc.length (byteVals acc) ∧ (∀ u ∈ acc, 0 ≤ u ∧ u ≤ 255) ∧ acc.length ≤ q ∧ putAhead acc (pBytes (b.drop q)) = r))
  case atStart => exact ⟨p, [], rfl, H.out, grownRefl _ _, World.ownsRow_nil _ _ _ _, by simp, Nat.zero_le _, by have := Hr.out; rw [this]; cases r with | ok x => rfl | error e => rfl⟩
  case round =>
    obtain ⟨q, acc, hrel⟩ := hrel
    cases hd : b.drop q with
    | nil =>
      have Hc := Lib.hid (next_end B wr R vb b q deep hrel.out.2.1 hd)
      have he : r = .error 5 := by
        have := hrel.out.2.2.2.2.2.2
        rw [hd] at this
        exact this.symm
      have He := Lib.hid he; clear he
      clear hd
      go_wp2_with (go_at_call 43; refine Hc.out.mono ?_; rintro e w' ⟨rfl, hq⟩; have Hq := Lib.hid hq; clear hq)
      refine ⟨rfl, grow2 hrel.out.2.2.1 Hq.out (Or.inl rfl), ?_⟩
      rw [He.out]
    | cons x rest =>
      have Hc := Lib.hid (next_ok B wr R vb b q deep x rest hrel.out.2.1 hd)
      obtain ⟨hx0, hx1⟩ := range_of_drop hrel.out.2.1 hd
      obtain ⟨hql, _, hdr⟩ := drop_cons hd
      by_cases hx : x = 0
      · have tx : (x == 0) = true := by rw [hx]; rfl
        have Hx := Lib.hid hx; clear hx
        have Hrel := Lib.hid hrel; clear hrel
        have hal : acc.length ≤ q := Hrel.out.out.2.2.2.2.2.1
        have hpa : putAhead acc (pBytes (0 :: b.drop (q + 1))) = r := by
          have := Hrel.out.out.2.2.2.2.2.2
          rw [hd, Hx.out, ← hdr] at this
          exact this
        clear hd hdr
        cases hd2 : b.drop (q + 1) with
        | nil =>
          rw [hd2] at hpa
          have he : Except.error 5 = r := hpa
          have He := Lib.hid he; clear he hpa
          have Hd2 := Lib.hid hd2; clear hd2
          have tok1 : True := trivial
          go_wp2_with (first | (go_at_call 43; have _t := tok1; refine Hc.out.mono ?_; rintro e w' ⟨rfl, hq⟩; have Hq := Lib.hid hq; clear hq; clear tok1) | (go_at_call 43; refine (next_end B _ R vb b (q + 1) deep Hq.out.1 Hd2.out).mono ?_; rintro e w3 ⟨rfl, hq3⟩; have Hq3 := Lib.hid hq3; clear hq3))
          refine ⟨rfl, grow2 (grow2 Hrel.out.out.2.2.1 Hq.out.2 (Or.inl rfl)) Hq3.out (Or.inl rfl), ?_⟩
          rw [← He.out]
        | cons d ds =>
          rw [hd2] at hpa
          have hdr2 := (drop_cons hd2).2.2
          have hq2 := (drop_cons hd2).1
          have Hd2 := Lib.hid hd2; clear hd2
          have hd01 : 0 ≤ d ∧ d ≤ 255 := Hrel.out.out.2.1.bs.2.1 d (by rw [← (drop_cons Hd2.out).2.1]; exact List.getElem_mem _)
          obtain ⟨hd0, hd1⟩ := hd01
          by_cases hz : d = 0
          · have t1 : (d == 0) = true := by rw [hz]; rfl
            have he : Except.ok (acc, ds) = r := by
              rw [← hpa, hz]; simp [pBytes, putAhead]
            have He := Lib.hid he; clear he hpa
            have Hz := Lib.hid hz; clear hz
            have Hdr2 := Lib.hid hdr2; clear hdr2
            have tok1 : True := trivial
            go_wp2_with (first | (go_at_call 43; have _t := tok1; refine Hc.out.mono ?_; rintro e w' ⟨rfl, hq⟩; have Hq := Lib.hid hq; clear hq; clear tok1) | (go_at_call 43; refine (next_ok B _ R vb b (q + 1) deep d ds Hq.out.1 Hd2.out).mono ?_; rintro e w3 ⟨rfl, hq3⟩; have Hq3 := Lib.hid hq3; clear hq3))
            go_ret
            have hO := ownReader (ownReader Hrel.out.out.2.2.2.1 Hq.out.2 hR) Hq3.out.2 hR
            refine ⟨grow2 (grow2 Hrel.out.out.2.2.1 Hq.out.2 (Or.inl rfl)) Hq3.out.2 (Or.inl rfl), ?_⟩
            rw [← He.out]
            exact ⟨_, q + 2, rfl, Bs.kept (Bs.ofOwn hO (by omega) Hrel.out.out.2.2.2.2.1) (fun _ _ => rfl) (fun k hk => ⟨hk.1, hk.2.1⟩), Hdr2.out, Hq3.out.1⟩
          · have t1 : (d == 0) = false := by simpa using hz
            by_cases hf : d = 255
            · have t2 : (d == 255) = true := by rw [hf]; rfl
              rw [hf, putAhead_esc, ← hdr2] at hpa
              have Hpa := Lib.hid hpa; clear hpa hdr2
              have Hf := Lib.hid hf; clear hf hz
              have tok1 : True := trivial
              go_wp2_with (first | (go_at_call 43; have _t := tok1; refine Hc.out.mono ?_; rintro e w' ⟨rfl, hq⟩; have Hq := Lib.hid hq; clear hq; clear tok1) | (go_at_call 43; refine (next_ok B _ R vb b (q + 1) deep d ds Hq.out.1 Hd2.out).mono ?_; rintro e w3 ⟨rfl, hq3⟩; have Hq3 := Lib.hid hq3; clear hq3; have hsz := (Hrel.out.out.2.2.1.size); have hsz' := Hq.out.2.size; have hsz3 := Hq3.out.2.size; have HO := Lib.hid (Apd.start (ownReader (ownReader Hrel.out.out.2.2.2.1 Hq.out.2 hR) Hq3.out.2 hR))) | (at_builtin; refine wp_put rfl rfl (.tmp 17) (.tmp 19) rfl _ _ _ [x] _ _ _ HO.out rfl rfl rfl rfl (by simp; omega) (by omega) ?_; intro v2 w2 hA; have HA := Lib.hid hA; clear hA))
              go_roundg (b.length + 1 - (q + 2))
              case measure => have := Hrel.out.out.1; omega
              case rel =>
                have hlt := HO.out.own.lt
                refine ⟨q + 2, acc ++ [x], rfl, Hq3.out.1.kept HA.out.grown (fun k hk => by have := (hlt k hk).1; omega), grow3 (grow2 (grow2 Hrel.out.out.2.2.1 Hq.out.2 (Or.inl rfl)) Hq3.out.2 (Or.inl rfl)) HA.out.grown (fun g hg => (hlt g hg).1), HA.out.own, ?_, by simp; omega, by rw [Hx.out]; exact Hpa.out⟩
                intro u hu
                rcases List.mem_append.1 hu with hu | hu
                · exact Hrel.out.out.2.2.2.2.1 u hu
                · simp at hu; omega
            · have t2 : (d == 255) = false := by simpa using hf
              have he : Except.error 4 = r := by
                rw [← hpa]; simp [pBytes, hz, hf, putAhead]
              have He := Lib.hid he; clear he hpa hz hf hdr2
              have tok1 : True := trivial
              go_wp2_with (first | (go_at_call 43; have _t := tok1; refine Hc.out.mono ?_; rintro e w' ⟨rfl, hq⟩; have Hq := Lib.hid hq; clear hq; clear tok1) | (go_at_call 43; refine (next_ok B _ R vb b (q + 1) deep d ds Hq.out.1 Hd2.out).mono ?_; rintro e w3 ⟨rfl, hq3⟩; have Hq3 := Lib.hid hq3; clear hq3))
              refine ⟨rfl, grow2 (grow2 Hrel.out.out.2.2.1 Hq.out.2 (Or.inl rfl)) Hq3.out.2 (Or.inl rfl), ?_⟩
              rw [← He.out]
      · have tx : (x == 0) = false := by simpa using hx
        have hpa := hrel.out.2.2.2.2.2.2
        rw [hd, putAhead_ne acc x rest hx, ← hdr] at hpa
        have Hpa := Lib.hid hpa; clear hpa
        clear hd hdr
        have Hrel := Lib.hid hrel; clear hrel
        have hal : acc.length ≤ q := Hrel.out.out.2.2.2.2.2.1
        go_wp2_with (first | (go_at_call 43; refine Hc.out.mono ?_; rintro e w' ⟨rfl, hq⟩; have Hq := Lib.hid hq; clear hq; have hsz := (Hrel.out.out.2.2.1.size); have hsz' := Hq.out.2.size; have HO := Lib.hid (Apd.start (ownReader Hrel.out.out.2.2.2.1 Hq.out.2 hR))) | (at_builtin; refine wp_put rfl rfl (.tmp 17) (.tmp 19) rfl _ _ _ [x] _ _ _ HO.out rfl rfl rfl rfl (by simp; omega) (by omega) ?_; intro v2 w2 hA; have HA := Lib.hid hA; clear hA))
        go_roundg (b.length + 1 - (q + 1))
        case measure => have := Hrel.out.out.1; omega
        case rel =>
          have hlt := HO.out.own.lt
          refine ⟨q + 1, acc ++ [x], rfl, Hq.out.1.kept HA.out.grown (fun k hk => by have := (hlt k hk).1; omega), grow3 (grow2 Hrel.out.out.2.2.1 Hq.out.2 (Or.inl rfl)) HA.out.grown (fun g hg => (hlt g hg).1), HA.out.own, ?_, by simp; omega, Hpa.out⟩
          intro u hu
          rcases List.mem_append.1 hu with hu | hu
          · exact Hrel.out.out.2.2.2.2.1 u hu
          · simp at hu; omega

end Go.Proofs.Ytjhjcigappkebaa
