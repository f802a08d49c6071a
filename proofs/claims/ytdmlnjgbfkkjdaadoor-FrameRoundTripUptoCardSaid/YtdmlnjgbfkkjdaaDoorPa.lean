/-
  Plain: the checksum: a step of one bit, four bits at once, its inverse; changes of at most four bytes.
-/
import Derived.Laws.BitsLemmas
namespace Go.Proofs.YtdmlnjgbfkkjdaaDoor
set_option linter.unusedVariables false
set_option linter.unusedSimpArgs false

/-- One bit leaves the register. -/
def cs (c : Nat) : Nat := if c % 2 = 1 then (c / 2) ^^^ 3988292384 else c / 2
def csN : Nat → Nat → Nat
  | 0, c => c
  | n + 1, c => csN n (cs c)
theorem csN_add (m n c : Nat) : csN (m + n) c = csN n (csN m c) := by
  induction m generalizing c with
  | zero => simp [csN]
  | succ m ih => rw [Nat.succ_add]; simp only [csN]; exact ih _
/-- A byte goes into the register. -/
def cb (c x : Nat) : Nat := csN 8 (c ^^^ x)
def crcF (c : Nat) (l : List Nat) : Nat := l.foldl cb c
def crc (l : List Nat) : Nat := crcF 4294967295 l ^^^ 4294967295

theorem xor_eq {a b : Nat} (h : a ^^^ b = 0) : a = b := by
  have : (a ^^^ b) ^^^ b = 0 ^^^ b := by rw [h]
  rw [Nat.xor_assoc, Nat.xor_self, Nat.xor_zero, Nat.zero_xor] at this
  exact this
theorem xor_rc {a b c : Nat} (h : a ^^^ c = b ^^^ c) : a = b := by
  have : (a ^^^ c) ^^^ c = (b ^^^ c) ^^^ c := by rw [h]
  rw [Nat.xor_assoc, Nat.xor_assoc, Nat.xor_self, Nat.xor_zero, Nat.xor_zero] at this
  exact this
theorem xor_mod2 (a b : Nat) : (a ^^^ b) % 2 = (a % 2 + b % 2) % 2 := by
  have h := Nat.testBit_xor a b 0
  simp only [Nat.testBit_zero] at h
  rcases Nat.mod_two_eq_zero_or_one a with ha | ha <;> rcases Nat.mod_two_eq_zero_or_one b with hb | hb <;> rcases Nat.mod_two_eq_zero_or_one (a ^^^ b) with hc | hc <;> rw [ha, hb, hc] at h <;> rw [ha, hb, hc] <;> simp at h ⊢
theorem xor_lt32 {a b : Nat} (ha : a < 4294967296) (hb : b < 4294967296) : a ^^^ b < 4294967296 := Nat.xor_lt_two_pow (n := 32) ha hb
theorem cs_lt {c : Nat} (h : c < 4294967296) : cs c < 4294967296 := by
  unfold cs; split
  · exact xor_lt32 (by omega) (by decide)
  · omega
theorem csN_lt (n : Nat) {c : Nat} (h : c < 4294967296) : csN n c < 4294967296 := by
  induction n generalizing c with
  | zero => exact h
  | succ n ih => exact ih (cs_lt h)
theorem cb_lt {c x : Nat} (h : c < 4294967296) (hx : x < 4294967296) : cb c x < 4294967296 := csN_lt 8 (xor_lt32 h hx)
theorem crcF_lt (l : List Nat) (hl : ∀ u ∈ l, u < 256) : ∀ c, c < 4294967296 → crcF c l < 4294967296 := by
  induction l with
  | nil => intro c h; exact h
  | cons u l ih =>
    intro c h
    exact ih (fun v hv => hl v (List.mem_cons_of_mem _ hv)) _ (cb_lt h (by have := hl u (List.mem_cons_self ..); omega))
theorem crc_lt (l : List Nat) (hl : ∀ u ∈ l, u < 256) : crc l < 4294967296 := xor_lt32 (crcF_lt l hl _ (by decide)) (by decide)

theorem cs_xor (a b : Nat) : cs (a ^^^ b) = cs a ^^^ cs b := by
  have h2 : (a ^^^ b) / 2 = (a / 2) ^^^ (b / 2) := by
    have := Nat.shiftRight_xor_distrib (i := 1) (a := a) (b := b)
    simpa [Nat.shiftRight_eq_div_pow] using this
  have h1 : (a ^^^ b) % 2 = (a % 2 + b % 2) % 2 := xor_mod2 a b
  unfold cs
  rw [h2, h1]
  rcases Nat.mod_two_eq_zero_or_one a with ha | ha <;> rcases Nat.mod_two_eq_zero_or_one b with hb | hb <;> simp only [ha, hb] <;> simp
  · rw [Nat.xor_assoc]
  · rw [Nat.xor_assoc (a / 2), Nat.xor_assoc (a / 2), Nat.xor_comm (b / 2)]
  · rw [show a / 2 ^^^ 3988292384 ^^^ (b / 2 ^^^ 3988292384) = a / 2 ^^^ b / 2 ^^^ (3988292384 ^^^ 3988292384) by
      rw [Nat.xor_assoc, Nat.xor_comm (3988292384) (b / 2 ^^^ 3988292384), Nat.xor_assoc, ← Nat.xor_assoc]]
    simp
theorem csN_xor (n a b : Nat) : csN n (a ^^^ b) = csN n a ^^^ csN n b := by
  induction n generalizing a b with
  | zero => rfl
  | succ n ih => simp only [csN]; rw [cs_xor, ih]
theorem cs_zero : cs 0 = 0 := rfl
theorem csN_zero (n : Nat) : csN n 0 = 0 := by
  induction n with
  | zero => rfl
  | succ n ih => simp only [csN, cs_zero]; exact ih
theorem cs_double (a : Nat) : cs (2 * a) = a := by unfold cs; rw [if_neg (by omega)]; omega
theorem csN_pow (n a : Nat) : csN n (2 ^ n * a) = a := by
  induction n generalizing a with
  | zero => simp [csN]
  | succ n ih =>
    simp only [csN]
    rw [Nat.pow_succ, Nat.mul_comm (2 ^ n) 2, Nat.mul_assoc, cs_double]
    exact ih a
/-- A register that is not 0 does not become 0. -/
theorem cs_ne {c : Nat} (h : c < 4294967296) (hz : cs c = 0) : c = 0 := by
  unfold cs at hz
  split at hz
  · have h1 : c / 2 = 3988292384 := xor_eq hz
    omega
  · omega
theorem csN_ne (n : Nat) {c : Nat} (h : c < 4294967296) (hz : csN n c = 0) : c = 0 := by
  induction n generalizing c with
  | zero => exact hz
  | succ n ih => exact cs_ne h (ih (cs_lt h) hz)
theorem csN_inj (n : Nat) {a b : Nat} (ha : a < 4294967296) (hb : b < 4294967296) (h : csN n a = csN n b) : a = b := by
  have : csN n (a ^^^ b) = 0 := by rw [csN_xor, h]; simp
  exact xor_eq (csN_ne n (xor_lt32 ha hb) this)

/-- The table of four bits. -/
def tab : List Nat := [0x00000000, 0x1db71064, 0x3b6e20c8, 0x26d930ac, 0x76dc4190, 0x6b6b51f4, 0x4db26158, 0x5005713c, 0xedb88320, 0xf00f9344, 0xd6d6a3e8, 0xcb61b38c, 0x9b64c2b0, 0x86d3d2d4, 0xa00ae278, 0xbdbdf21c]
theorem tab_cs : ∀ k : Fin 16, tab[k.val]? = some (csN 4 k.val) := by decide +kernel
theorem nib (c : Nat) : csN 4 c = (c / 16) ^^^ csN 4 (c % 16) := by
  have e : c = (2 ^ 4 * (c / 16)) ^^^ (c % 16) := by
    have h := Nat.two_pow_add_eq_or_of_lt (i := 4) (b := c % 16) (by omega) (c / 16)
    have h2 : 2 ^ 4 * (c / 16) + c % 16 = c := by omega
    have h3 : (2 ^ 4 * (c / 16)) ^^^ (c % 16) = (2 ^ 4 * (c / 16)) ||| (c % 16) := by
      apply Nat.eq_of_testBit_eq
      intro i
      rw [Nat.testBit_xor, Nat.testBit_or]
      have hm : (2 ^ 4 * (c / 16)).testBit i = (decide (i ≥ 4) && (c / 16).testBit (i - 4)) := Nat.testBit_two_pow_mul ..
      by_cases hi : 4 ≤ i
      · have : (c % 16).testBit i = false := Nat.testBit_lt_two_pow (Nat.lt_of_lt_of_le (by omega : c % 16 < 2 ^ 4) (Nat.pow_le_pow_right (by decide) hi))
        simp [this]
      · rw [hm]; simp [hi]
    rw [h3, ← h, h2]
  conv => lhs; rw [e]
  rw [csN_xor, csN_pow]
theorem cb_nib (c x : Nat) : cb c x = csN 4 (csN 4 (c ^^^ x)) := by unfold cb; exact csN_add 4 4 _

theorem cb_inj {a b x : Nat} (ha : a < 4294967296) (hb : b < 4294967296) (hx : x < 4294967296) (h : cb a x = cb b x) : a = b := by
  have := csN_inj 8 (xor_lt32 ha hx) (xor_lt32 hb hx) h
  exact xor_rc this
theorem crcF_inj (l : List Nat) (hl : ∀ u ∈ l, u < 256) : ∀ a b, a < 4294967296 → b < 4294967296 → crcF a l = crcF b l → a = b := by
  induction l with
  | nil => intro a b _ _ h; exact h
  | cons u l ih =>
    intro a b ha hb h
    have hu : u < 4294967296 := by have := hl u (List.mem_cons_self ..); omega
    have := ih (fun v hv => hl v (List.mem_cons_of_mem _ hv)) _ _ (cb_lt ha hu) (cb_lt hb hu) h
    exact cb_inj ha hb hu this
theorem crcF_append (c : Nat) (a b : List Nat) : crcF c (a ++ b) = crcF (crcF c a) b := by unfold crcF; exact List.foldl_append ..
theorem crc_inj_tail {a b c : List Nat} (ha : ∀ u ∈ a, u < 256) (hb : ∀ u ∈ b, u < 256) (hc : ∀ u ∈ c, u < 256) (h : crc (a ++ c) = crc (b ++ c)) : crcF 4294967295 a = crcF 4294967295 b := by
  unfold crc at h
  have h1 := xor_rc h
  rw [crcF_append, crcF_append] at h1
  exact crcF_inj c hc _ _ (crcF_lt a ha _ (by decide)) (crcF_lt b hb _ (by decide)) h1

/-- Of a difference that becomes small: it was small already, behind a shift. -/
theorem back {d v : Nat} (k : Nat) (hk : k ≤ 24) (hd : d < 4294967296) (hv : v < 2 ^ k) (h : csN 8 d = v) : d = 256 * v ∧ d < 2 ^ (k + 8) := by
  have hp : 2 ^ k ≤ 2 ^ 24 := Nat.pow_le_pow_right (by decide) hk
  have e : csN 8 (2 ^ 8 * v) = v := csN_pow 8 v
  have : d = 2 ^ 8 * v := csN_inj 8 hd (by omega) (h.trans e.symm)
  refine ⟨this, ?_⟩
  rw [Nat.pow_add, this]
  omega
theorem xor_small {a b k : Nat} (ha : a < 2 ^ k) (hb : b < 2 ^ k) : a ^^^ b < 2 ^ k := Nat.xor_lt_two_pow ha hb
theorem diff_step {s t x y : Nat} : cb s x ^^^ cb t y = csN 8 ((s ^^^ t) ^^^ (x ^^^ y)) := by
  unfold cb
  rw [← csN_xor]
  congr 1
  rw [Nat.xor_assoc, Nat.xor_assoc, ← Nat.xor_assoc x t y, Nat.xor_comm x t, Nat.xor_assoc t x y]
/-- At most four bytes behind one register, of equal length: equal registers behind them only if they are equal. -/
theorem window : ∀ (n : Nat) (a b : List Nat) (s t : Nat), a.length = n → b.length = n → n ≤ 4 → (∀ u ∈ a, u < 256) → (∀ u ∈ b, u < 256) → s < 4294967296 → t < 4294967296 → crcF s a = crcF t b → (s ^^^ t) < 2 ^ (8 * n) ∧ (s = t → a = b) ∧ (n = 0 → s = t) := by
  intro n
  induction n with
  | zero =>
    intro a b s t ha hb _ _ _ _ _ h
    rw [List.length_eq_zero_iff] at ha hb
    subst ha hb
    have h' : s = t := h
    subst h'
    simp
  | succ n ih =>
    intro a b s t ha hb hn h1 h2 hs ht h
    match a, b, ha, hb with
    | x :: a, y :: b, ha, hb =>
      have hx : x < 256 := h1 x (List.mem_cons_self ..)
      have hy : y < 256 := h2 y (List.mem_cons_self ..)
      have hcs := cb_lt hs (x := x) (by omega)
      have hct := cb_lt ht (x := y) (by omega)
      obtain ⟨q1, q2, _⟩ := ih a b (cb s x) (cb t y) (by simpa using ha) (by simpa using hb) (by omega) (fun u hu => h1 u (List.mem_cons_of_mem _ hu)) (fun u hu => h2 u (List.mem_cons_of_mem _ hu)) hcs hct h
      rw [diff_step] at q1
      have hd : (s ^^^ t) ^^^ (x ^^^ y) < 4294967296 := xor_lt32 (xor_lt32 hs ht) (xor_lt32 (by omega) (by omega))
      obtain ⟨r1, r2⟩ := back (8 * n) (by omega) hd q1 rfl
      have hxy : x ^^^ y < 2 ^ 8 := xor_small (k := 8) (by omega) (by omega)
      refine ⟨?_, ?_, fun h => by omega⟩
      · have e : s ^^^ t = ((s ^^^ t) ^^^ (x ^^^ y)) ^^^ (x ^^^ y) := by rw [Nat.xor_assoc]; simp
        rw [e, show 8 * (n + 1) = 8 * n + 8 by omega]
        exact xor_small r2 (Nat.lt_of_lt_of_le hxy (Nat.pow_le_pow_right (by decide) (by omega)))
      · intro hst
        subst hst
        simp only [Nat.xor_self, Nat.zero_xor] at r1
        have h0 : x ^^^ y = 0 := by omega
        have hxy : x = y := xor_eq h0
        subst hxy
        rw [q2 rfl]
end Go.Proofs.YtdmlnjgbfkkjdaaDoor
