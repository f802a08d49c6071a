/-
  Contracts of Encode, Decode and Check in the form in which the laws use them.
-/
import Derived.Test.YtjhjcigappkebaaUa
namespace Go.Proofs.Ytjhjcigappkebaa
open Go.RowKit

theorem chk_cases (t : T) : chk t = 0 ∨ chk t = 2 ∨ chk t = 10 := by
  unfold chk
  split
  · split
    · exact Or.inr (Or.inl rfl)
    · exact Or.inl rfl
  · exact Or.inr (Or.inr rfl)
theorem chk_len (t : T) (h : chk t = 0) : (enc t).length ≤ 65536 := by
  unfold chk at h
  split at h
  · split at h
    · omega
    · omega
  · omega

theorem encodeE (t : T) (c : Int) (w : World) (g : Nat) (a2 : Option Addr) (c2 : Nat) (a3 : Option Addr) (c3 : Nat) (h : Held w g t a2 c2 a3 c3) (hsz : (enc t).length ≤ 140737488355328) (hc : chk t = c) (h0 : c ≠ 0) :
    Calls Try.prog 14 #[.agg #[.int .i64 t.kind, .int .i64 t.num, .slice a2 t.bs.length c2, .slice a3 t.els.length c3]] w fun e w' => e = .returned (.tuple #[.slice none 0 0, .int .i64 c]) ∧ Below w.heap.size w w' := by
  subst hc
  refine (encode_any _ t w _ (fun _ h => h) h.2.2 hsz).mono ?_
  rintro e w' ⟨vb, rfl, hb, _, hn⟩
  obtain rfl := hn h0
  exact ⟨rfl, hb⟩

theorem decodeX (b : List Int) (t : T) (v : Value) (w : World) (h : Bs (fun k => k < w.heap.size) w v b) (hd : dec b = .ok t) :
    Calls Try.prog 21 #[v] w fun e w' => ∃ a2 c2 a3 c3, e = .returned (.tuple #[.agg #[.int .i64 t.kind, .int .i64 t.num, .slice a2 t.bs.length c2, .slice a3 t.els.length c3], .int .i64 0]) ∧ Below w.heap.size w w' ∧
      Rd (fun k => k < w'.heap.size) w' t (.agg #[.int .i64 t.kind, .int .i64 t.num, .slice a2 t.bs.length c2, .slice a3 t.els.length c3]) := by
  refine (decode_any w v b h).mono ?_
  rintro e w2 ⟨hb2, hm⟩
  rw [hd] at hm
  obtain ⟨vt, rfl, hrt⟩ := hm
  have hrt2 : Rd (fun k => k < w2.heap.size) w2 t vt := Rd.kept (fun k _ => rfl) (fun k hk => hk.2) _ _ hrt
  obtain ⟨x2, y2, x3, y3, rfl⟩ := rdForm4 hrt2
  exact ⟨x2, y2, x3, y3, rfl, hb2, hrt2⟩

theorem decodeE (b : List Int) (c : Int) (v : Value) (w : World) (h : Bs (fun k => k < w.heap.size) w v b) (hd : dec b = .error c) :
    Calls Try.prog 21 #[v] w fun e w' => e = .returned (.tuple #[.agg #[.int .i64 0, .int .i64 0, .slice none 0 0, .slice none 0 0], .int .i64 c]) ∧ Below w.heap.size w w' := by
  refine (decode_any w v b h).mono ?_
  rintro e w2 ⟨hb2, hm⟩
  rw [hd] at hm
  exact ⟨hm, hb2⟩

end Go.Proofs.Ytjhjcigappkebaa
