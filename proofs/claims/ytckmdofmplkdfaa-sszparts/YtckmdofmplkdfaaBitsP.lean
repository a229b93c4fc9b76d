/- Bits of bytes: which bit stands where; bits there and back. -/
import Derived.Test.YtckmdofmplkdfaaBits
namespace Go.Proofs.Ytckmdofmplkdfaa
open Go.RowKit
set_option linter.unusedVariables false

/-- The bit at a place. -/
def bitN (bs : List Nat) (i : Nat) : Bool := (bs.getD (i / 8) 0).testBit (i % 8)
/-- The first n bits. -/
def bitsL (bs : List Nat) (n : Nat) : List Bool := (List.range n).map (bitN bs)
theorem bitsL_length (bs : List Nat) (n : Nat) : (bitsL bs n).length = n := by simp [bitsL]
theorem bitsL_getD (bs : List Nat) (n i : Nat) : (bitsL bs n).getD i false = (decide (i < n) && bitN bs i) := by
  rw [bitsL, List.getD_eq_getElem?_getD, List.getElem?_map]
  by_cases h : i < n
  · rw [List.getElem?_range h]; simp [h]
  · rw [List.getElem?_eq_none (by simp; omega)]; simp [h]
theorem bitsL_succ (bs : List Nat) (n : Nat) : bitsL bs (n + 1) = bitsL bs n ++ [bitN bs n] := by simp [bitsL, List.range_succ]
theorem bset_bit (bs : List Nat) (i j : Nat) (h : i / 8 < bs.length) : bitN (bset bs i) j = (bitN bs j || decide (i = j)) := by
  unfold bitN bset
  by_cases hb : j / 8 = i / 8
  · rw [hb, List.getD_eq_getElem?_getD, List.getElem?_set_self h, Option.getD_some, Nat.testBit_or]
    congr 1
    rw [Nat.testBit_two_pow]
    by_cases hm : i % 8 = j % 8
    · have : i = j := by omega
      simp [this]
    · have : i ≠ j := by omega
      simp [hm, this]
  · rw [List.getD_eq_getElem?_getD, List.getElem?_set_ne (by omega), ← List.getD_eq_getElem?_getD]
    have : i ≠ j := by omega
    simp [this]
theorem upB_bit (l : List Bool) (z : List Nat) (j : Nat) : ∀ k, k ≤ 8 * z.length → bitN (upB l z k) j = (bitN z j || (decide (j < k) && l.getD j false))
  | 0, _ => by simp [upB]
  | k + 1, h => by
    rw [upB]
    have ih := upB_bit l z j k (by omega)
    split
    · rename_i hl
      rw [bset_bit _ _ _ (by rw [upB_length]; omega), ih]
      by_cases hj : j = k
      · subst hj; simp only [hl]; simp
      · have h1 : (decide (k = j)) = false := by simp; omega
        have h2 : decide (j < k + 1) = decide (j < k) := by congr 1; simp; omega
        rw [h1, h2]; simp
    · rename_i hl
      rw [ih]
      by_cases hj : j = k
      · subst hj; simp only [Bool.not_eq_true] at hl; simp only [hl]; simp
      · have h2 : decide (j < k + 1) = decide (j < k) := by congr 1; simp; omega
        rw [h2]
theorem zeros_bit (n j : Nat) : bitN (zeros n) j = false := by
  have : (zeros n).getD (j / 8) 0 = 0 := by
    unfold zeros
    rw [List.getD_eq_getElem?_getD, List.getElem?_replicate]; split <;> rfl
  rw [bitN, this]; simp
theorem bytes_ext {a b : List Nat} (hl : a.length = b.length) (ha : ∀ z ∈ a, z < 256) (hb : ∀ z ∈ b, z < 256) (h : ∀ j, j < 8 * a.length → bitN a j = bitN b j) : a = b := by
  apply List.ext_getElem hl
  intro i h1 h2
  apply Nat.eq_of_testBit_eq
  intro r
  by_cases hr : r < 8
  · have := h (8 * i + r) (by omega)
    unfold bitN at this
    rw [show (8 * i + r) / 8 = i by omega, show (8 * i + r) % 8 = r by omega] at this
    simpa [List.getD_eq_getElem?_getD, h1, h2] using this
  · have e : ∀ x : Nat, x < 256 → x.testBit r = false := fun x hx => Nat.testBit_lt_two_pow (Nat.lt_of_lt_of_le hx (by have := Nat.pow_le_pow_right (n := 2) (by decide) (show 8 ≤ r by omega); simpa using this))
    rw [e _ (ha _ (List.getElem_mem _)), e _ (hb _ (List.getElem_mem _))]
theorem putB_length (l : List Bool) (e : Bool) : (putB l e).length = (l.length + (if e then 1 else 0) + 7) / 8 := by
  cases e
  · simp [putB, upB_length, zeros_length]
  · simp [putB, upB_length, zeros_length, bset_length]
theorem putB_byte (l : List Bool) (e : Bool) : ∀ z ∈ putB l e, z < 256 := by
  cases e
  · simpa [putB] using upB_byte l _ l.length
  · simpa [putB] using bset_byte (upB_byte l _ l.length) l.length
theorem getD_ge {l : List Bool} {j : Nat} (h : l.length ≤ j) : l.getD j false = false := by
  rw [List.getD_eq_getElem?_getD, List.getElem?_eq_none h]; rfl
theorem putB_bit_false (l : List Bool) (j : Nat) : bitN (putB l false) j = l.getD j false := by
  rw [putB, if_neg (by decide), upB_bit _ _ _ _ (by rw [zeros_length]; omega), zeros_bit]
  by_cases h : j < l.length
  · simp [h]
  · rw [getD_ge (by omega)]; simp
theorem putB_bit_true (l : List Bool) (j : Nat) : bitN (putB l true) j = (l.getD j false || decide (l.length = j)) := by
  rw [putB, if_pos rfl, bset_bit _ _ _ (by rw [upB_length, zeros_length]; omega), upB_bit _ _ _ _ (by rw [zeros_length]; omega), zeros_bit]
  by_cases h : j < l.length
  · simp [h]
  · rw [getD_ge (by omega)]; simp
/-- Just n bits: the bytes are theirs, if the last byte has nothing above. -/
theorem few_iff (bs : List Nat) (n : Nat) (hb : ∀ z ∈ bs, z < 256) (h0 : 0 < n) (hl : bs.length = (n + 7) / 8) : putB (bitsL bs n) false = bs ↔ bs.getD (bs.length - 1) 0 / 2 ^ ((n - 1) % 8 + 1) = 0 := by
  have hdiv : bs.getD (bs.length - 1) 0 / 2 ^ ((n - 1) % 8 + 1) = 0 ↔ ∀ j, n ≤ j → j < 8 * bs.length → bitN bs j = false := by
    rw [Nat.div_eq_zero_iff_lt (Nat.two_pow_pos _)]
    constructor
    · intro h j h1 h2
      unfold bitN
      rw [show j / 8 = bs.length - 1 by omega]
      exact Nat.testBit_lt_two_pow (Nat.lt_of_lt_of_le h (Nat.pow_le_pow_right (by decide) (by omega)))
    · intro h
      apply Nat.lt_pow_two_of_testBit
      intro r hr
      by_cases h8 : r < 8
      · have := h (8 * (bs.length - 1) + r) (by omega) (by omega)
        unfold bitN at this
        rwa [show (8 * (bs.length - 1) + r) / 8 = bs.length - 1 by omega, show (8 * (bs.length - 1) + r) % 8 = r by omega] at this
      · exact Nat.testBit_lt_two_pow (Nat.lt_of_lt_of_le (byte_at hb _) (by have := Nat.pow_le_pow_right (n := 2) (by decide) (show 8 ≤ r by omega); simpa using this))
  rw [hdiv]
  constructor
  · intro h j h1 h2
    rw [← h, putB_bit_false, bitsL_getD]
    simp; omega
  · intro h
    refine bytes_ext (by rw [putB_length, bitsL_length, hl]; simp) (putB_byte _ _) hb fun j hj => ?_
    rw [putB_length, bitsL_length] at hj
    simp at hj
    rw [putB_bit_false, bitsL_getD]
    by_cases hn : j < n
    · simp [hn]
    · rw [h j (by omega) (by omega)]; simp
/-- The place of the end. -/
def endB (bs : List Nat) : Nat := 8 * (bs.length - 1) + (bs.getD (bs.length - 1) 0).log2
/-- What TakeBits answers. -/
def takeB (bs : List Nat) (limit : Int) : Option (List Bool) :=
  if bs.length = 0 ∨ bs.getD (bs.length - 1) 0 = 0 ∨ limit < ((endB bs : Nat) : Int) then none else some (bitsL bs (endB bs))
theorem log2_byte {x : Nat} (h : x < 256) : x.log2 < 8 := by
  by_cases h0 : x = 0
  · subst h0; decide
  · exact (Nat.log2_lt h0).2 h
theorem end_bit (bs : List Nat) (h0 : 0 < bs.length) (hz : bs.getD (bs.length - 1) 0 ≠ 0) (hb : ∀ z ∈ bs, z < 256) : bitN bs (endB bs) = true := by
  have h8 := log2_byte (byte_at hb (bs.length - 1))
  unfold bitN endB
  rw [show (8 * (bs.length - 1) + (bs.getD (bs.length - 1) 0).log2) / 8 = bs.length - 1 by omega, show (8 * (bs.length - 1) + (bs.getD (bs.length - 1) 0).log2) % 8 = (bs.getD (bs.length - 1) 0).log2 by omega]
  exact Nat.testBit_log2 hz
theorem above_end (bs : List Nat) (h0 : 0 < bs.length) (hz : bs.getD (bs.length - 1) 0 ≠ 0) (hb : ∀ z ∈ bs, z < 256) (j : Nat) (h1 : endB bs < j) (h2 : j < 8 * bs.length) : bitN bs j = false := by
  have h8 := log2_byte (byte_at hb (bs.length - 1))
  unfold endB at h1
  unfold bitN
  rw [show j / 8 = bs.length - 1 by omega]
  exact Nat.testBit_lt_two_pow (Nat.lt_of_lt_of_le Nat.lt_log2_self (Nat.pow_le_pow_right (by decide) (by omega)))
/-- Bits there and back. -/
theorem take_put (l : List Bool) : takeB (putB l true) (l.length : Nat) = some l := by
  have hlen := putB_length l true
  simp at hlen
  have hb := putB_byte l true
  have hlast : ((putB l true).getD ((putB l true).length - 1) 0).testBit (l.length % 8) = true := by
    have := putB_bit_true l l.length
    unfold bitN at this
    rw [show l.length / 8 = (putB l true).length - 1 by omega] at this
    rw [this]; simp
  have hz : (putB l true).getD ((putB l true).length - 1) 0 ≠ 0 := by
    intro h; rw [h] at hlast; simp at hlast
  have hend : endB (putB l true) = l.length := by
    have h1 := end_bit (putB l true) (by omega) hz hb
    rw [putB_bit_true] at h1
    rcases Nat.lt_trichotomy (endB (putB l true)) l.length with h | h | h
    · exfalso
      have h2 := above_end (putB l true) (by omega) hz hb l.length h (by omega)
      rw [putB_bit_true] at h2
      simp at h2
    · exact h
    · exfalso
      rw [getD_ge (by omega)] at h1
      simp at h1
      omega
  rw [takeB, if_neg (by rw [hend]; omega), hend]
  congr 1
  apply List.ext_getElem (bitsL_length _ _)
  intro i h1 h2
  have := bitsL_getD (putB l true) l.length i
  rw [putB_bit_true] at this
  have hi : i < l.length := h2
  rw [List.getD_eq_getElem?_getD, List.getElem?_eq_getElem h1, List.getD_eq_getElem?_getD, List.getElem?_eq_getElem h2] at this
  simp [hi] at this
  rw [this]
  simp; omega
end Go.Proofs.Ytckmdofmplkdfaa
