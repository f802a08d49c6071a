/-
  Arithmetic of signatures: a public key is valid; the residue of a signature is the power of its nonce.
-/
import Derived.Test.YtlfjcifeiihmfaaDoorMm
namespace Go.Proofs.YtlfjcifeiihmfaaDoor

theorem powP_def (b n : Nat) : powP b n = b ^ n % PP := rfl
theorem lit_Q : (1152921504606845399 : Nat) = QQ := rfl
theorem lit_P : (2305843009213690799 : Nat) = PP := rfl

theorem powP_mul (b m n : Nat) : powP b m * powP b n % PP = powP b (m + n) := by
  rw [powP_def, powP_def, powP_def, Nat.pow_add]
  exact (Nat.mul_mod _ _ _).symm
theorem powP_pow (b m n : Nat) : powP (powP b m) n = powP b (m * n) := by
  rw [powP_def, powP_def b m, powP_def, ← Nat.pow_mod, Nat.pow_mul]
theorem powG_congr (a b : Nat) (h : a % QQ = b % QQ) : powP 4 a = powP 4 b := by
  rw [powP_def, powP_def, ← G_cycle a, h, G_cycle b]

theorem exp_cancel (k x c : Nat) (hc : c ≤ QQ) : ((k + c * x % QQ) % QQ + x * (QQ - c)) % QQ = k % QQ := by
  rw [Nat.add_mod, Nat.mod_mod, ← Nat.add_mod]
  have e : (k + c * x % QQ + x * (QQ - c)) % QQ = (k + (c * x + x * (QQ - c))) % QQ := by
    rw [Nat.add_assoc, Nat.add_mod, Nat.add_mod (c * x % QQ), Nat.mod_mod, ← Nat.add_mod (c * x), ← Nat.add_mod]
  rw [e, Nat.mul_comm c x, ← Nat.mul_add, Nat.add_sub_cancel' hc, Nat.add_mul_mod_self_right]

theorem resid_nonce (k x c : Nat) (hc : c ≤ QQ) : resid (powP 4 x) c ((k + c * x % QQ) % QQ) = powP 4 k := by
  unfold resid
  rw [lit_Q, lit_P, powP_pow, powP_mul]
  exact powG_congr _ _ (exp_cancel k x c hc)

theorem vld_pub (x : Nat) (h0 : 0 < x) (h1 : x < 1152921504606845399) : vld (powP 4 x) = true := by
  rw [lit_Q] at h1
  have hq : powP (powP 4 x) QQ = 1 := by
    rw [powP_pow, Nat.mul_comm, powP_def]
    exact pow_one_mod (by decide) G_Q x
  have hn0 : powP 4 x ≠ 0 := by
    intro h
    rw [h, powP_def, Nat.zero_pow (by decide), Nat.zero_mod] at hq
    exact absurd hq (by decide)
  have hn1 : powP 4 x ≠ 1 := G_order h0 h1
  have hl := powP_lt 4 x
  unfold vld
  rw [lit_Q, hq]
  rw [decide_eq_true (show 2 ≤ powP 4 x by omega), decide_eq_true hl]
  decide

/-- The parts of a signature as natural numbers. -/
theorem sig_nat (x : Nat) (m : List Int) : ∃ c g : Nat, sigC x m = (c : Int) ∧ sigS x m = (g : Int) ∧ c < 1152921504606845399 ∧ g < 1152921504606845399 ∧ resid (powP 4 x) c g = powP 4 (sigK x m) := by
  have hc := chal_range (powP 4 (sigK x m)) (powP 4 x) m
  have hC : sigC x m = chal (powP 4 (sigK x m)) (powP 4 x) m := rfl
  rw [← hC] at hc
  obtain ⟨c, hcc⟩ : ∃ c : Nat, sigC x m = (c : Int) := ⟨(sigC x m).toNat, by omega⟩
  refine ⟨c, (sigK x m + c * x % QQ) % QQ, hcc, ?_, by omega, Nat.mod_lt _ (by decide), resid_nonce _ _ _ (by rw [← lit_Q]; omega)⟩
  unfold sigS
  rw [hcc, Int.natCast_emod, Int.natCast_add, Int.natCast_emod, Int.natCast_mul]
  rfl

/-- A signature's challenge is the one of its residue. -/
theorem sig_chal (x : Nat) (m : List Int) (c g : Nat) (hr : resid (powP 4 x) c g = powP 4 (sigK x m)) : chal (resid (powP 4 x) c g) (powP 4 x) m = sigC x m := by
  rw [hr]; rfl

end Go.Proofs.YtlfjcifeiihmfaaDoor
