/-
  The library's entries that count and compare bytes, over slices that hold known bytes.
-/
import Derived.Test.YtjhjcigappkebaaMem
import Derived.Lib.BytesEntry
import Derived.Lib.Bytealg
import Derived.Laws.Externs
namespace Go.Proofs.Ytjhjcigappkebaa
open Go.RowKit

theorem run_bytesOf {P : Program} {F : Nat → Prop} {w : World} {v : Value} {b : List Int} (h : Bs F w v b) :
    (Extern.Bytes.bytesOf v).run P w = .ok ⟨(Lib.bytesOf b).toArray⟩ w := by
  obtain ⟨_, _, a, cap, rfl, _, hp⟩ := h
  by_cases h0 : 0 < b.length
  · obtain ⟨g, off, rfl, _, hc⟩ := hp h0
    have hl := Lib.run_loadBytesX (P := P) w b ⟨g, off, none⟩ .empty (fun j x hj => by
      have e : (⟨g, off, none⟩ : Addr).add j = ⟨g, off + j, none⟩ := by unfold Addr.add; split <;> simp_all
      rw [e]; exact hc j x hj)
    simp only [Extern.Bytes.bytesOf, hl]
    simp
  · have : b = [] := List.eq_nil_of_length_eq_zero (by omega)
    subst this
    cases a with
    | none => simp [Extern.Bytes.bytesOf, Lib.bytesOf]; rfl
    | some a =>
      have hl := Lib.run_loadBytesX (P := P) w [] a .empty (fun j x hj => by simp at hj)
      simp only [Extern.Bytes.bytesOf, hl]
      simp


theorem count_bytesOf (b : List Int) (hb : ∀ u ∈ b, 0 ≤ u ∧ u ≤ 255) : Lib.countByte (Lib.bytesOf b) 0 = zeros b := by
  unfold Lib.countByte Lib.bytesOf zeros
  induction b with
  | nil => rfl
  | cons c cs ih =>
    have h := hb c (by simp)
    have ih := ih (fun u hu => hb u (by simp [hu]))
    simp only [List.map_cons, List.count_cons, List.filter_cons, ih]
    by_cases h0 : c = 0
    · subst h0; simp
    · have : ¬ (UInt8.ofNat c.toNat = 0) := by
        intro e
        have e' := congrArg UInt8.toNat e
        simp only [UInt8.toNat_ofNat'] at e'
        simp at e'
        omega
      simp [h0, this]

theorem run_count0 {P : Program} {F : Nat → Prop} {w : World} {v : Value} {b : List Int} (h : Bs F w v b) :
    (Extern.BytealgCount.count #[v, .int .u8 0]).run P w = .ok (.int .i64 (zeros b)) w := by
  have hs := Lib.run_countString (P := P) ⟨(Lib.bytesOf b).toArray⟩ 0 w
  have hl := run_bytesOf (P := P) h
  change Sem.run P (do
    let b ← Extern.Bytes.bytesOf v
    let c' ← Extern.Bytes.asByte (.int .u8 0)
    pure (goInt (b.foldl (fun n x => if x == c' then n + 1 else n) (0 : Nat)))) w = _
  change Sem.run P (do
    let b ← Extern.Bytes.bytesOf (.string ⟨(Lib.bytesOf b).toArray⟩)
    let c' ← Extern.Bytes.asByte (.int .u8 0)
    pure (goInt (b.foldl (fun n x => if x == c' then n + 1 else n) (0 : Nat)))) w = _ at hs
  have hc := count_bytesOf b h.2.1
  simp only [Sem.run_bind, hl, Sem.run_pure, Result.andThen] at hs ⊢
  simp only [Extern.Bytes.bytesOf, Sem.run_pure, Result.andThen] at hs
  rw [hs]
  have e0 : (0 : Int).toNat.toUInt8 = 0 := rfl
  simp [e0, hc]

/-- The order of byte strings. -/
def cmpB : List Int → List Int → Int
  | [], [] => 0
  | [], _ :: _ => -1
  | _ :: _, [] => 1
  | a :: as, b :: bs => if a < b then -1 else if b < a then 1 else cmpB as bs

theorem cmpB_bytesOf : ∀ (a b : List Int), (∀ u ∈ a, 0 ≤ u ∧ u ≤ 255) → (∀ u ∈ b, 0 ≤ u ∧ u ≤ 255) → Lib.compareBytes (Lib.bytesOf a) (Lib.bytesOf b) = cmpB a b
  | [], [], _, _ => rfl
  | [], _ :: _, _, _ => rfl
  | _ :: _, [], _, _ => rfl
  | x :: a, y :: b, ha, hb => by
    have hx := ha x (by simp)
    have hy := hb y (by simp)
    have ih := cmpB_bytesOf a b (fun u hu => ha u (by simp [hu])) (fun u hu => hb u (by simp [hu]))
    have hlt : ∀ p q : Int, 0 ≤ p → p ≤ 255 → 0 ≤ q → q ≤ 255 → (UInt8.ofNat p.toNat < UInt8.ofNat q.toNat ↔ p < q) := by
      intro p q hp0 hp1 hq0 hq1
      rw [UInt8.lt_iff_toNat_lt]
      simp only [UInt8.toNat_ofNat']
      omega
    simp only [Lib.bytesOf, List.map_cons, Lib.compareBytes, cmpB]
    simp only [hlt x y hx.1 hx.2 hy.1 hy.2, hlt y x hy.1 hy.2 hx.1 hx.2]
    simp only [Lib.bytesOf] at ih
    rw [ih]


theorem run_compareB {P : Program} {F G : Nat → Prop} {w : World} {v u : Value} {a b : List Int} (h : Bs F w v a) (h' : Bs G w u b) :
    (Extern.BytealgCompare.compare #[v, u]).run P w = .ok (.int .i64 (cmpB a b)) w := by
  have hl := run_bytesOf (P := P) h
  have hl' := run_bytesOf (P := P) h'
  have hc := cmpB_bytesOf a b h.2.1 h'.2.1
  change Sem.run P (do pure (goInt (Extern.BytealgCompare.cmp (← Extern.Bytes.bytesOf v) (← Extern.Bytes.bytesOf u)))) w = _
  simp only [Sem.run_bind, hl, hl', Sem.run_pure, Result.andThen]
  rw [Lib.cmp_eq]
  exact congrArg (fun n => Result.ok (Value.int .i64 n) w) hc

end Go.Proofs.Ytjhjcigappkebaa
