/-
  The order of the encodings of integers, and how a law's post follows when nothing that was there has turned.
-/
import Derived.Test.YtjhjcigappkebaaSc
import Derived.Test.YtjhjcigappkebaaRows
import Derived.WalkKit
import Derived.ProofKit
import Derived.OpenShut
namespace Go.Proofs.Ytjhjcigappkebaa
open Go.ChangeShapes Go.WideShapes Go.ChangeAt Go.RowKit

theorem cmpB_digs (a b : Int) (ha : 0 ≤ a) (hb : 0 ≤ b) : ∀ k : Nat, cmpB (digs a k) (digs b k) = ordI (a % 256 ^ k) (b % 256 ^ k)
  | 0 => by simp [digs, cmpB, ordI]
  | k + 1 => by
    have hp : (0 : Int) < 256 ^ k := Int.pow_pos (by decide)
    have ih := cmpB_digs a b ha hb k
    have e : ∀ x : Int, x % 256 ^ (k + 1) = digit x k * 256 ^ k + x % 256 ^ k := by
      intro x
      unfold digit
      rw [Int.pow_succ]
      have h1 := Int.mul_ediv_add_emod x (256 ^ k)
      have h2 := Int.mul_ediv_add_emod (x / 256 ^ k) 256
      have h3 := Int.emod_nonneg x (Int.ne_of_gt hp)
      have h4 := Int.emod_lt_of_pos x hp
      have h5 := Int.emod_nonneg (x / 256 ^ k) (show (256 : Int) ≠ 0 by decide)
      have h6 := Int.emod_lt_of_pos (x / 256 ^ k) (show (0 : Int) < 256 by decide)
      generalize (256 : Int) ^ k = P at *
      generalize x % P = r at *
      generalize x / P % 256 = d at *
      generalize x / P / 256 = q at *
      generalize x / P = u at *
      subst h2
      have h7 : x = (d * P + r) + P * 256 * q := by
        rw [← h1, Int.mul_add, Int.mul_assoc, Int.mul_comm P d]; omega
      have h8 : d * P ≤ 255 * P := Int.mul_le_mul_of_nonneg_right (by omega) (by omega)
      have h9 : 0 ≤ d * P := Int.mul_nonneg h5 (by omega)
      rw [h7, Int.add_mul_emod_self_left]
      exact Int.emod_eq_of_lt (by omega) (by omega)
    unfold digs cmpB
    rw [ih, e a, e b]
    have ra := Int.emod_nonneg a (Int.ne_of_gt hp)
    have rb := Int.emod_nonneg b (Int.ne_of_gt hp)
    have sa := Int.emod_lt_of_pos a hp
    have sb := Int.emod_lt_of_pos b hp
    generalize a % 256 ^ k = x at *
    generalize b % 256 ^ k = y at *
    generalize (256 : Int) ^ k = P at *
    generalize digit a k = c at *
    generalize digit b k = d at *
    unfold ordI
    rcases Int.lt_trichotomy c d with h | h | h
    · have h5 : (c + 1) * P ≤ d * P := Int.mul_le_mul_of_nonneg_right (by omega) (by omega)
      rw [Int.add_mul, Int.one_mul] at h5
      rw [if_pos h, if_pos (by omega)]
    · subst h
      rw [if_neg (Int.lt_irrefl c), if_neg (Int.lt_irrefl c)]
      simp only [Int.add_lt_add_iff_left]
    · have h5 : (d + 1) * P ≤ c * P := Int.mul_le_mul_of_nonneg_right (by omega) (by omega)
      rw [Int.add_mul, Int.one_mul] at h5
      rw [if_neg (by omega), if_pos h, if_neg (by omega), if_pos (by omega)]

theorem cmpB_compl : ∀ (x y : List Int), x.length = y.length → cmpB (x.map (255 - ·)) (y.map (255 - ·)) = cmpB y x
  | [], [], _ => rfl
  | [], _ :: _, h => by simp at h
  | _ :: _, [], h => by simp at h
  | a :: ta, b :: tb, h => by
    have ih := cmpB_compl ta tb (by simpa using h)
    simp only [List.map_cons, cmpB, ih]
    rcases Int.lt_trichotomy a b with h | h | h
    · rw [if_neg (by omega), if_pos (by omega), if_neg (by omega), if_pos (by omega)]
    · subst h; simp
    · rw [if_pos (by omega), if_pos (by omega)]

theorem wid_mono (a b : Int) (ha : 0 ≤ a) (hb : 0 ≤ b) (h : wid a < wid b) : a < b := by
  rcases Int.lt_or_le a b with h' | h'
  · exact h'
  · exfalso
    have h8 := wid_le b
    have hz := (wid_stop a ha (wid a) (by omega)).2 (Nat.le_refl _)
    have hp : (0 : Int) < 256 ^ wid a := Int.pow_pos (by decide)
    have hl := Int.lt_ediv_add_one_mul_self a hp
    rw [hz] at hl
    have := (wid_stop b hb (wid a) (by omega)).1 (Int.ediv_eq_zero_of_lt hb (by omega))
    omega
theorem wid_lt (a : Int) (h0 : 0 ≤ a) (h1 : a ≤ 9223372036854775807) : a < 256 ^ wid a := by
  by_cases h : wid a < 8
  · have hz := (wid_stop a h0 (wid a) h).2 (Nat.le_refl _)
    have hp : (0 : Int) < 256 ^ wid a := Int.pow_pos (by decide)
    have hl := Int.lt_ediv_add_one_mul_self a hp
    rw [hz] at hl
    omega
  · have h8 : wid a = 8 := by have := wid_le a; omega
    rw [h8]
    omega

theorem cmpB_encInt (m n : Int) (hm : I64 m) (hn : I64 n) : cmpB (encInt m) (encInt n) = ordI m n := by
  unfold I64 at hm hn
  have wm := wid_le (mag m)
  have wn := wid_le (mag n)
  have key : ∀ a b : Int, 0 ≤ a → 0 ≤ b → a ≤ 9223372036854775807 → b ≤ 9223372036854775807 → wid a = wid b → cmpB (digs a (wid a)) (digs b (wid b)) = ordI a b := by
    intro a b ha hb ha1 hb1 he
    have h1 := wid_lt a ha ha1
    have h2 := wid_lt b hb hb1
    rw [← he] at h2 ⊢
    rw [cmpB_digs a b ha hb, Int.emod_eq_of_lt ha h1, Int.emod_eq_of_lt hb h2]
  unfold encInt
  by_cases h1 : m < 0 <;> by_cases h2 : n < 0
  · rw [if_pos h1, if_pos h2]
    have em : mag m = -m - 1 := by unfold mag; rw [if_pos h1]
    have en : mag n = -n - 1 := by unfold mag; rw [if_pos h2]
    unfold cmpB
    rcases Nat.lt_trichotomy (wid (mag m)) (wid (mag n)) with h | h | h
    · have := wid_mono _ _ (by omega) (by omega) h
      rw [if_neg (by omega), if_pos (by omega)]; unfold ordI; rw [if_neg (by omega), if_pos (by omega)]
    · rw [if_neg (by omega), if_neg (by omega), cmpB_compl _ _ (by rw [digs_length, digs_length, h]), key _ _ (by omega) (by omega) (by omega) (by omega) h.symm, em, en]
      unfold ordI
      by_cases h3 : m < n
      · rw [if_pos h3, if_pos (by omega)]
      · rw [if_neg h3, if_neg (by omega)]
        by_cases h4 : n < m
        · rw [if_pos h4, if_pos (by omega)]
        · rw [if_neg h4, if_neg (by omega)]
    · have := wid_mono _ _ (by omega) (by omega) h
      rw [if_pos (by omega)]; unfold ordI; rw [if_pos (by omega)]
  · rw [if_pos h1, if_neg h2]
    have en : mag n = n := by unfold mag; rw [if_neg h2]
    unfold cmpB
    rw [if_pos (by omega)]; unfold ordI; rw [if_pos (by omega)]
  · rw [if_neg h1, if_pos h2]
    have em : mag m = m := by unfold mag; rw [if_neg h1]
    unfold cmpB
    rw [if_neg (by omega), if_pos (by omega)]; unfold ordI; rw [if_neg (by omega), if_pos (by omega)]
  · rw [if_neg h1, if_neg h2]
    unfold cmpB
    rcases Nat.lt_trichotomy (wid m) (wid n) with h | h | h
    · have := wid_mono _ _ (by omega) (by omega) h
      rw [if_pos (by omega)]; unfold ordI; rw [if_pos (by omega)]
    · rw [if_neg (by omega), if_neg (by omega), key _ _ (by omega) (by omega) (by omega) (by omega) h]
    · have := wid_mono _ _ (by omega) (by omega) h
      rw [if_neg (by omega), if_pos (by omega)]; unfold ordI; rw [if_neg (by omega), if_pos (by omega)]

/-- What reads as data in old memory reads so still. -/
theorem trodAll_below {H : Type} {enc : TypeId × Value → H} {P : Program} (hl : laidOutB P = true) {W W' : World} (hb : Below W.heap.size W W') :
    ∀ (ts : List TypeId) (vs : List Value) (ds : List (DataW H)) (ps : List MemPlace), (∀ t ∈ ts, P.readableRec t = true ∧ t < P.types.size) → DataW.TrodAll enc P W 0 (fun _ => true) true ts vs ds ps → (∀ x ∈ ps, x.block < W.heap.size) →
      DataW.TrodAll enc P W' 0 (fun b => decide (b < W.heap.size)) true ts vs ds ps
  | [], vs, ds, ps, _, h, _ => by
    obtain ⟨rfl, rfl, rfl⟩ := trodAll_nil h
    exact trodAll_mk0
  | t :: ts, vs, ds, ps, ht, h, hp => by
    obtain ⟨v, vs1, d, ds1, a, b, rfl, rfl, rfl, h1, h2⟩ := trodAll_cons h
    exact trodAll_cons_mk (Below.trod hl (ht t (by simp)).1 (ht t (by simp)).2 h1 hb (fun x hx => hp x (by simp [hx]))) (trodAll_below hl hb ts vs1 ds1 b (fun t h => ht t (by simp [h])) h2 (fun x hx => hp x (by simp [hx])))

/-- A law's post: it returned true, and what was there is as it was. -/
theorem post_law {H : Type} {enc : TypeId × Value → H} {f : Func} {s : ChangeSpec} {W W' : World} {args : Array Value} {ds gs : List (DataW H)} {before : List MemPlace}
    (hl : laidOutB Try.prog = true) (hpar : ∀ t ∈ f.params.toList, Try.prog.readableRec t = true ∧ t < Try.prog.types.size) (hsv : s.vars = []) (hr : f.resultTypes = #[4])
    (hW : DataW.Whole enc Try.prog f.params.toList s.vars false W args.toList ds gs before)
    (hres : (s.fn H (ds ++ gs)).results = [.lit (.bool true)]) (hargs : (s.fn H (ds ++ gs)).args = ds) (hvs : (s.fn H (ds ++ gs)).vars = []) (hb : Below W.heap.size W W') :
    s.post enc Try.prog f false true false false W args (.bool true) W' := by
  have hW' := hW
  obtain ⟨p, q, hA, hV, rfl, _, _⟩ := hW
  rw [hsv] at hV
  obtain ⟨rfl, rfl⟩ := trodVars_none hV
  simp only [List.append_nil] at *
  have hlt : ∀ x ∈ p, x.block < W.heap.size := fun x hx => by simpa using hW'.lt x hx
  refine ⟨_, _, _, [], p, [], hW', ?_, ?_, ?_, hb.frame _, fun h => by cases h⟩
  · rw [List.append_nil, hres, hr]
    exact trodAll_cons_mk (shut_bool Try.underlying4 _) trodAll_mk0
  · rw [List.append_nil, hargs]
    exact trodAll_below hl hb _ _ _ _ hpar hA hlt
  · rw [List.append_nil, hsv, hvs]
    rfl

end Go.Proofs.Ytjhjcigappkebaa
