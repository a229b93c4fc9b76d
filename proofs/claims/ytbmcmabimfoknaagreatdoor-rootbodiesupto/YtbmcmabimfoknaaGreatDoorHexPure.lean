/- The plain mathematics of roots in base sixteen, and of two roots one behind the other. -/
import Derived.Test.YtbmcmabimfoknaaGreatDoorRefOf
namespace Go.Proofs.YtbmcmabimfoknaaGreatDoor
set_option maxRecDepth 100000

def dig (n : Nat) : Nat := [48, 49, 50, 51, 52, 53, 54, 55, 56, 57, 97, 98, 99, 100, 101, 102].getD n 0
/-- Two digits a byte, the first i bytes. -/
def hexUp (l : List Nat) : Nat → List Nat
  | 0 => zeros 64
  | i + 1 => ((hexUp l i).set (2 * i) (dig (l.getD i 0 / 16))).set (2 * i + 1) (dig (l.getD i 0 % 16))
/-- Digit by digit, the first i. -/
def hexTo (l : List Nat) : Nat → List Nat
  | 0 => zeros 64
  | i + 1 => (hexTo l i).set i (dig (l.getD (i / 2) 0 / 2 ^ (4 * (1 - i % 2)) % 16))
theorem hexUp_length (l : List Nat) (i : Nat) : (hexUp l i).length = 64 := by
  induction i with
  | zero => exact zeros_length 64
  | succ i ih => simp [hexUp, ih]
theorem hexTo_length (l : List Nat) (i : Nat) : (hexTo l i).length = 64 := by
  induction i with
  | zero => exact zeros_length 64
  | succ i ih => simp [hexTo, ih]
theorem hex_same (l : List Nat) (h : ∀ z ∈ l, z < 256) (i : Nat) : hexTo l (2 * i) = hexUp l i := by
  induction i with
  | zero => rfl
  | succ i ih =>
    have hb := bytes_getD l h i
    have e1 : (2 * i) / 2 = i := by omega
    have e2 : (2 * i + 1) / 2 = i := by omega
    have e3 : (2 * i) % 2 = 0 := by omega
    have e4 : (2 * i + 1) % 2 = 1 := by omega
    rw [show 2 * (i + 1) = 2 * i + 1 + 1 by omega, hexTo, hexTo, ih, hexUp, e1, e2, e3, e4]
    have e5 : l.getD i 0 / 2 ^ (4 * (1 - 0)) % 16 = l.getD i 0 / 16 := by simp only [Nat.sub_zero, Nat.mul_one]; omega
    have e6 : l.getD i 0 / 2 ^ (4 * (1 - 1)) % 16 = l.getD i 0 % 16 := by simp
    rw [e5, e6]
theorem hexUp_zero (l : List Nat) (i j : Nat) (h : 2 * i ≤ j) : (hexUp l i).getD j 0 = 0 := by
  induction i with
  | zero => exact zeros_getD 64 j
  | succ i ih => rw [hexUp, getD_set, if_neg (by omega), getD_set, if_neg (by omega)]; exact ih (by omega)
/-- One root behind the other: the first i bytes of each. -/
def pairUp (a b : List Nat) : Nat → List Nat
  | 0 => zeros 64
  | i + 1 => ((pairUp a b i).set i (a.getD i 0)).set (32 + i) (b.getD i 0)
theorem pairUp_length (a b : List Nat) (i : Nat) : (pairUp a b i).length = 64 := by
  induction i with
  | zero => exact zeros_length 64
  | succ i ih => simp [pairUp, ih]
theorem pairUp_getD (a b : List Nat) (i j : Nat) (hi : i ≤ 32) : (pairUp a b i).getD j 0 = if j < i then a.getD j 0 else if 32 ≤ j ∧ j < 32 + i then b.getD (j - 32) 0 else 0 := by
  induction i with
  | zero => rw [if_neg (by omega), if_neg (by omega)]; exact zeros_getD 64 j
  | succ i ih =>
    rw [pairUp, getD_set, getD_set, List.length_set, pairUp_length, ih (by omega)]
    by_cases h1 : 32 + i = j
    · subst h1
      rw [if_pos ⟨rfl, by omega⟩, if_neg (by omega), if_pos ⟨by omega, by omega⟩, show 32 + i - 32 = i by omega]
    · rw [if_neg (by omega)]
      by_cases h2 : i = j
      · subst h2; rw [if_pos ⟨rfl, by omega⟩, if_pos (by omega)]
      · rw [if_neg (by omega)]
        by_cases h3 : j < i
        · rw [if_pos h3, if_pos (by omega)]
        · rw [if_neg h3, if_neg (show ¬ j < i + 1 by omega)]
          by_cases h4 : 32 ≤ j ∧ j < 32 + i
          · rw [if_pos h4, if_pos ⟨h4.1, by omega⟩]
          · rw [if_neg h4, if_neg (by omega)]
theorem append_getD (a b : List Nat) (j : Nat) : (a ++ b).getD j 0 = if j < a.length then a.getD j 0 else b.getD (j - a.length) 0 := by
  simp only [List.getD_eq_getElem?_getD]
  split
  · rename_i h; rw [List.getElem?_append_left h]
  · rename_i h; rw [List.getElem?_append_right (by omega)]
theorem pairUp_all (a b : List Nat) (ha : a.length = 32) (hb : b.length = 32) : pairUp a b 32 = a ++ b := by
  apply ext_getD
  · rw [pairUp_length, List.length_append, ha, hb]
  · intro j hj
    rw [pairUp_length] at hj
    rw [pairUp_getD a b 32 j (by omega), append_getD, ha]
    by_cases h : j < 32
    · rw [if_pos h, if_pos h]
    · rw [if_neg h, if_neg h, if_pos (by omega)]
theorem over_pair (a b : List Nat) (ha : a.length = 32) (hb : b.length = 32) : over (over (zeros 64) 0 a) 32 b = a ++ b := by
  have h1 : (over (zeros 64) 0 a).length = 64 := by rw [over_length _ _ _ (by rw [zeros_length]; omega), zeros_length]
  have e1 : (over (zeros 64) 0 a).take 32 = a := by
    unfold over
    simp only [List.take_zero, List.nil_append]
    rw [List.take_append_of_le_length (by omega), List.take_of_length_le (by omega)]
  have e2 : (over (zeros 64) 0 a).drop (32 + b.length) = [] := List.drop_eq_nil_of_le (by omega)
  show (over (zeros 64) 0 a).take 32 ++ (b ++ (over (zeros 64) 0 a).drop (32 + b.length)) = a ++ b
  rw [e1, e2, List.append_nil]
end Go.Proofs.YtbmcmabimfoknaaGreatDoor
