/- Plain facts on whole numbers: the root of a square, found bit by bit. -/
import Derived.Laws.BitsLemmas
import Derived.Laws.Bits64b
namespace Go.Proofs.Ytbffjbdpabkfaaa
open Go

/-- What is left of the search with k bits to go, r found so far. -/
def rootGo (n : Nat) : Nat → Nat → Nat
  | 0, r => r
  | k + 1, r => if (r + 2 ^ k) * (r + 2 ^ k) ≤ n then rootGo n k (r + 2 ^ k) else rootGo n k r
def rootV (n : Nat) : Nat := rootGo n 32 0

theorem rootGo_spec (n : Nat) : ∀ k r : Nat, r * r ≤ n → n < (r + 2 ^ k) * (r + 2 ^ k) →
    rootGo n k r * rootGo n k r ≤ n ∧ n < (rootGo n k r + 1) * (rootGo n k r + 1) ∧ rootGo n k r < r + 2 ^ k := by
  intro k
  induction k with
  | zero => intro r h1 h2; exact ⟨h1, by simpa [rootGo] using h2, by simp [rootGo]⟩
  | succ k ih =>
    intro r h1 h2
    have e : (2 : Nat) ^ (k + 1) = 2 ^ k + 2 ^ k := by rw [Nat.pow_succ]; omega
    unfold rootGo
    by_cases h : (r + 2 ^ k) * (r + 2 ^ k) ≤ n
    · rw [if_pos h]
      have := ih (r + 2 ^ k) h (by rw [e] at h2; rw [Nat.add_assoc]; exact h2)
      exact ⟨this.1, this.2.1, by omega⟩
    · rw [if_neg h]
      have := ih r h1 (by omega)
      exact ⟨this.1, this.2.1, by have := this.2.2; have := Nat.two_pow_pos k; omega⟩

theorem rootV_spec (n : Nat) (hn : n < 18446744073709551616) : rootV n * rootV n ≤ n ∧ n < (rootV n + 1) * (rootV n + 1) ∧ rootV n < 4294967296 := by
  have := rootGo_spec n 32 0 (by omega) (by simpa using hn)
  simpa [rootV] using this

theorem or_next (r k : Nat) (hr : r % 2 ^ (k + 1) = 0) (hb : r + 2 ^ (k + 1) ≤ 4294967296) :
    bits .or .u64 (r : Int) ((2 ^ k : Nat) : Int) = ((r + 2 ^ k : Nat) : Int) := by
  have hp : 2 ^ k < 2 ^ (k + 1) := by rw [Nat.pow_succ]; have := Nat.two_pow_pos k; omega
  rw [bits_or_u64_nat _ _ (by omega) (by omega)]
  congr 1
  obtain ⟨q, rfl⟩ : ∃ q, r = 2 ^ (k + 1) * q := ⟨r / 2 ^ (k + 1), by have := Nat.div_add_mod r (2 ^ (k + 1)); omega⟩
  rw [← Nat.two_pow_add_eq_or_of_lt hp]

theorem next_sq (r k : Nat) (hb : r + 2 ^ (k + 1) ≤ 4294967296) : (r + 2 ^ k) * (r + 2 ^ k) < 18446744073709551616 := by
  have hp : 2 ^ k < 2 ^ (k + 1) := by rw [Nat.pow_succ]; have := Nat.two_pow_pos k; omega
  have : (r + 2 ^ k) * (r + 2 ^ k) ≤ 4294967295 * 4294967295 := Nat.mul_le_mul (by omega) (by omega)
  omega

theorem next_mod (r k : Nat) (hr : r % 2 ^ (k + 1) = 0) : r % 2 ^ k = 0 ∧ (r + 2 ^ k) % 2 ^ k = 0 := by
  have h : 2 ^ k ∣ 2 ^ (k + 1) := ⟨2, by rw [Nat.pow_succ]⟩
  have : r % 2 ^ k = 0 := Nat.mod_eq_zero_of_dvd (Nat.dvd_trans h (Nat.dvd_of_mod_eq_zero hr))
  exact ⟨this, by rw [Nat.add_mod_right]; exact this⟩
theorem next_le (r k : Nat) (hb : r + 2 ^ (k + 1) ≤ 4294967296) : r + 2 ^ k ≤ 4294967296 ∧ r + 2 ^ k + 2 ^ k ≤ 4294967296 := by
  have : (2 : Nat) ^ (k + 1) = 2 ^ k + 2 ^ k := by rw [Nat.pow_succ]; omega
  have := Nat.two_pow_pos k
  omega
theorem root_15 : rootV 15 = 3 := by decide +kernel
theorem root_16 : rootV 16 = 4 := by decide +kernel
theorem root_far : rootV 18446744073709551615 = 4294967295 := by decide +kernel
theorem mul_back (a b : Nat) (h : b ≠ 0) : a * b / b = a := Nat.mul_div_cancel _ (by omega)
end Go.Proofs.Ytbffjbdpabkfaaa
