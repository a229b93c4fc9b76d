/- Plain facts on numbers as bytes, the lowest first. -/
import Derived.Test.YtbmcmabimfoknaaGreatDoorPlainC
import Derived.Laws.BitsLemmas
import Derived.Laws.Bits64b
namespace Go.Proofs.YtbmcmabimfoknaaGreatDoor
set_option maxRecDepth 100000
open Go

/-- Byte i of n. -/
def byteAt (n i : Nat) : Int := ((n / 256 ^ i % 256 : Nat) : Int)
/-- The size lowest bytes of n. -/
def putL (n size : Nat) : List Int := (List.range size).map (byteAt n)
/-- size bytes of which the first k are those of n, the others 0. -/
def putUp (n size k : Nat) : List Int := (List.range size).map fun i => if i < k then byteAt n i else 0
/-- The number of some bytes, the lowest first. -/
def takeL : List Int → Nat
  | [] => 0
  | x :: xs => x.toNat + 256 * takeL xs
def takeV (xs : List Int) : Nat := takeL (xs.take 8)

theorem byteAt_range (n i : Nat) : 0 ≤ byteAt n i ∧ byteAt n i < 256 := by unfold byteAt; omega
theorem putL_length (n size : Nat) : (putL n size).length = size := by simp [putL]
theorem putUp_length (n size k : Nat) : (putUp n size k).length = size := by simp [putUp]
theorem putL_succ (n k : Nat) : putL n (k + 1) = putL n k ++ [byteAt n k] := by simp [putL, List.range_succ]
theorem putUp_zero (n size : Nat) : putUp n size 0 = List.replicate size 0 := by
  apply List.ext_getElem <;> simp [putUp]
theorem putUp_set (n size k : Nat) : (putUp n size k).set k (byteAt n k) = putUp n size (k + 1) := by
  apply List.ext_getElem
  · simp [putUp]
  · intro i h1 h2
    simp only [List.getElem_set, putUp, List.getElem_map, List.getElem_range]
    by_cases e : k = i
    · subst e; simp
    · rw [if_neg e]
      by_cases l : i < k
      · rw [if_pos l, if_pos (by omega)]
      · rw [if_neg l, if_neg (by omega)]
theorem byteAt_high (n i : Nat) (hn : n < 18446744073709551616) (hi : 8 ≤ i) : byteAt n i = 0 := by
  unfold byteAt
  have h : 256 ^ 8 ≤ 256 ^ i := Nat.pow_le_pow_right (by omega) hi
  have : n / 256 ^ i = 0 := Nat.div_eq_of_lt (Nat.lt_of_lt_of_le hn (by simpa using h))
  rw [this]; rfl
theorem putUp_all (n size k : Nat) (hn : n < 18446744073709551616) (hk : k = size ∨ 8 ≤ k) : putUp n size k = putL n size := by
  apply List.ext_getElem
  · simp [putUp, putL]
  · intro i h1 h2
    simp only [putUp, putL, List.getElem_map, List.getElem_range]
    by_cases l : i < k
    · rw [if_pos l]
    · rw [if_neg l, byteAt_high n i hn (by simp [putUp] at h1; omega)]
theorem pow8 (k : Nat) : (2 : Nat) ^ (8 * k) = 256 ^ k := by rw [Nat.pow_mul]
theorem byte_shift (n k : Nat) : IntKind.u8.wrap ((n : Int) / 2 ^ (8 * k)) = byteAt n k := by
  unfold byteAt
  rw [IntKind.wrap_u8]
  have : ((n : Int) / 2 ^ (8 * k)) = ((n / 256 ^ k : Nat) : Int) := by rw [← pow8]; simp
  rw [this]; omega
theorem byte_mod (n k : Nat) : IntKind.u8.wrap (((n / 256 ^ k : Nat) : Int) % 256) = byteAt n k := by
  unfold byteAt
  rw [IntKind.wrap_u8]; omega
theorem div_step (n k : Nat) : ((n / 256 ^ k : Nat) : Int) / 256 = ((n / 256 ^ (k + 1) : Nat) : Int) := by
  rw [Nat.pow_succ, ← Nat.div_div_eq_div_mul]; omega

theorem takeL_append (xs ys : List Int) : takeL (xs ++ ys) = takeL xs + 256 ^ xs.length * takeL ys := by
  induction xs with
  | nil => simp [takeL]
  | cons x xs ih =>
    simp only [List.cons_append, takeL, ih, List.length_cons, Nat.pow_succ]
    rw [Nat.mul_add, Nat.mul_comm (256 ^ xs.length) 256, Nat.mul_assoc]; omega
theorem takeL_lt (xs : List Int) (h : ∀ x ∈ xs, 0 ≤ x ∧ x < 256) : takeL xs < 256 ^ xs.length := by
  induction xs with
  | nil => simp [takeL]
  | cons x xs ih =>
    have h1 := h x (by simp)
    have h2 := ih (fun y hy => h y (by simp [hy]))
    simp only [takeL, List.length_cons, Nat.pow_succ]
    omega
theorem takeL_put (n : Nat) : ∀ k, takeL (putL n k) = n % 256 ^ k := by
  intro k
  induction k with
  | zero => simp [putL, takeL, Nat.mod_one]
  | succ k ih =>
    rw [putL_succ, takeL_append, ih, putL_length, Nat.pow_succ, Nat.mod_mul]
    rw [show takeL [byteAt n k] = n / 256 ^ k % 256 by simp only [takeL, byteAt, Int.toNat_natCast]; omega]
theorem takeV_put8 (n : Nat) (h : n < 18446744073709551616) : takeV (putL n 8) = n := by
  unfold takeV
  rw [List.take_of_length_le (by rw [putL_length]; omega), takeL_put]
  omega
theorem take_step (xs : List Int) (k : Nat) (hk : k < xs.length) : takeL (xs.take (k + 1)) = takeL (xs.take k) + 256 ^ k * (xs[k]).toNat := by
  rw [List.take_succ_eq_append_getElem hk, takeL_append, List.length_take, Nat.min_eq_left (by omega)]
  simp [takeL]
theorem takeV_lt (xs : List Int) (h : ∀ x ∈ xs, 0 ≤ x ∧ x < 256) : takeV xs < 18446744073709551616 := by
  have := takeL_lt (xs.take 8) (fun x hx => h x (List.mem_of_mem_take hx))
  have h2 : 256 ^ (xs.take 8).length ≤ 256 ^ 8 := Nat.pow_le_pow_right (by omega) (by simp; omega)
  unfold takeV; omega
/-- One step of num.Take: the byte k joined on. -/
theorem take_or (xs : List Int) (k : Nat) (hk : k < xs.length) (h8 : k < 8) (h : ∀ x ∈ xs, 0 ≤ x ∧ x < 256) :
    bits .or .u64 ((takeL (xs.take k) : Nat) : Int) (IntKind.u64.wrap (xs[k] * 2 ^ (8 * k))) = ((takeL (xs.take (k + 1)) : Nat) : Int) := by
  have hx := h (xs[k]) (List.getElem_mem hk)
  have hlt := takeL_lt (xs.take k) (fun x hx => h x (List.mem_of_mem_take hx))
  rw [List.length_take, Nat.min_eq_left (by omega)] at hlt
  have hb : (xs[k]).toNat * 256 ^ k < 18446744073709551616 := by
    have h1 : 256 ^ k ≤ 256 ^ 7 := Nat.pow_le_pow_right (by omega) (by omega)
    have h2 : (xs[k]).toNat * 256 ^ k ≤ 255 * 256 ^ 7 := Nat.mul_le_mul (by omega) h1
    omega
  have hk8 : 256 ^ k ≤ 256 ^ 7 := Nat.pow_le_pow_right (by omega) (by omega)
  have e : xs[k] * 2 ^ (8 * k) = (((xs[k]).toNat * 256 ^ k : Nat) : Int) := by
    rw [← pow8]; simp [Int.toNat_of_nonneg hx.1]
  rw [e, IntKind.wrap_u64, show ((((xs[k]).toNat * 256 ^ k : Nat) : Int)) % 18446744073709551616 = (((xs[k]).toNat * 256 ^ k : Nat) : Int) by omega]
  rw [bits_or_u64_nat _ _ (by omega) hb, take_step xs k hk]
  congr 1
  rw [Nat.or_comm, Nat.mul_comm, ← pow8] at *
  rw [← Nat.two_pow_add_eq_or_of_lt hlt]
  omega
/-- One step of the document's answer: from the last byte on. -/
theorem drop_step (xs : List Int) (k : Nat) (hk : k < xs.length) : takeL (xs.drop k) = (xs[k]).toNat + 256 * takeL (xs.drop (k + 1)) := by
  rw [List.drop_eq_getElem_cons hk, takeL]
end Go.Proofs.YtbmcmabimfoknaaGreatDoor
