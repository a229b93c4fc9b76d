/- Joined parts are parted again: the plain mathematics. -/
import Derived.Test.YtidkjpfdclkccaaApart
namespace Go.Proofs.Ytidkjpfdclkccaa
open Go.RowKit
set_option linter.unusedVariables false

theorem le_putL (x k : Nat) : ((le x k).map fun n : Nat => (n : Int)) = putL x k := by
  simp [le, putL, byteAt]
theorem tk_le (x k : Nat) (hk : k ≤ 8) : tk (le x k) = x % 256 ^ k := by
  unfold tk takeV
  rw [le_putL, List.take_of_length_le (by rw [putL_length]; omega), takeL_put]
theorem tk_le4 (x : Nat) (h : x < 4294967296) : tk (le x 4) = x := by
  rw [tk_le x 4 (by decide)]
  exact Nat.mod_eq_of_lt h
theorem lenB_cons (b : List Nat) (r : List (List Nat)) : lenB (b :: r) = b.length + lenB r := by simp [lenB]
theorem lenB_flat (bss : List (List Nat)) : bss.flatten.length = lenB bss := by
  induction bss with
  | nil => rfl
  | cons b r ih => rw [List.flatten_cons, List.length_append, ih, lenB_cons]
theorem back_flat (bss : List (List Nat)) : backB (bss.map fun b => (b, true)) = bss.flatten := by
  induction bss with
  | nil => rfl
  | cons b r ih =>
    rw [List.map_cons, List.flatten_cons, ← ih]
    simp [backB]
theorem front_at (rest : List Nat) : ∀ (bss : List (List Nat)) (p j : Nat), j < bss.length → ((frontB p (bss.map fun b => (b, true)) ++ rest).drop (4 * j)).take 4 = le (p + lenB (bss.take j)) 4
  | [], p, j, h => by simp at h
  | b :: r, p, 0, h => by
    rw [List.map_cons, frontB]
    simp only [if_true, List.append_assoc, Nat.mul_zero, List.drop_zero, List.take_zero]
    rw [List.take_append_of_le_length (by rw [le_length]; exact Nat.le_refl _), List.take_of_length_le (by rw [le_length]; exact Nat.le_refl _)]
    rfl
  | b :: r, p, j + 1, h => by
    rw [List.map_cons, frontB]
    simp only [if_true, List.append_assoc]
    have h4 : (le p 4).length = 4 := le_length _ _
    rw [show 4 * (j + 1) = (le p 4).length + 4 * j by rw [h4]; omega, List.drop_append, List.take_succ_cons, lenB_cons]
    have e : List.drop ((le p 4).length + 4 * j) (le p 4) = [] := List.drop_eq_nil_of_le (by omega)
    rw [e, List.nil_append, show (le p 4).length + 4 * j - (le p 4).length = 4 * j by omega, front_at rest r (p + b.length) j (by simpa using h), Nat.add_assoc]
theorem flat_part : ∀ (bss : List (List Nat)) (i : Nat) (x : List Nat), bss[i]? = some x → (bss.flatten.drop (lenB (bss.take i))).take x.length = x
  | [], i, x, h => by simp at h
  | b :: r, 0, x, h => by
    simp at h
    subst h
    simp [lenB]
  | b :: r, i + 1, x, h => by
    rw [List.take_succ_cons, lenB_cons, List.flatten_cons, List.drop_append, List.drop_eq_nil_of_le (by omega), List.nil_append, show b.length + lenB (r.take i) - b.length = lenB (r.take i) by omega]
    exact flat_part r i x (by simpa using h)
theorem lenB_succ (bss : List (List Nat)) (i : Nat) (x : List Nat) (h : bss[i]? = some x) : lenB (bss.take (i + 1)) = lenB (bss.take i) + x.length := by
  have hi := (List.getElem?_eq_some_iff.1 h).1
  rw [List.getElem?_eq_getElem hi] at h
  cases h
  rw [List.take_succ_eq_append_getElem hi]
  have e : ∀ (a : List (List Nat)) (b : List Nat), lenB (a ++ [b]) = lenB a + b.length := fun a b => by simp [lenB]
  exact e _ _
theorem joinB_eq (bss : List (List Nat)) : joinB bss = frontB (4 * bss.length) (bss.map fun b => (b, true)) ++ bss.flatten := by
  have e : szF (bss.map fun b => (b, true)) = 4 * bss.length := by
    induction bss with
    | nil => rfl
    | cons b r ih =>
      have : szF ((b :: r).map fun b => (b, true)) = 4 + szF (r.map fun b => (b, true)) := by simp [szF, sz1]
      rw [this, ih, List.length_cons]; omega
  rw [joinB, cont, e, back_flat]
theorem joinB_length (bss : List (List Nat)) : (joinB bss).length = 4 * bss.length + lenB bss := by
  have e : szF (bss.map fun b => (b, true)) = 4 * bss.length := by
    induction bss with
    | nil => rfl
    | cons b r ih =>
      have : szF ((b :: r).map fun b => (b, true)) = 4 + szF (r.map fun b => (b, true)) := by simp [szF, sz1]
      rw [this, ih, List.length_cons]; omega
  rw [joinB_eq, List.length_append, frontB_length, e, lenB_flat]
theorem join_place (bss : List (List Nat)) (h : 4 * bss.length + lenB bss < 4294967296) (j : Nat) (hj : j < bss.length) : placeAt (joinB bss) 0 j = 4 * bss.length + lenB (bss.take j) := by
  unfold placeAt
  rw [Nat.zero_add, joinB_eq, front_at _ bss _ j hj, tk_le4]
  have := lenB_take bss j
  omega
theorem join_good (bss : List (List Nat)) (h : 4 * bss.length + lenB bss < 4294967296) : ∀ k, k ≤ bss.length → goodB (joinB bss) (4 * bss.length) 0 k = true
  | 0, _ => rfl
  | k + 1, hk => by
    rw [goodB_succ, join_good bss h k (by omega), Bool.true_and]
    cases k with
    | zero =>
      show folB _ _ (places _ 0 0) _ = true
      rw [show places (joinB bss) 0 0 = [] from rfl, folB_nil, join_place bss h 0 (by omega)]
      simp [lenB]
    | succ k =>
      have hx := List.getElem?_eq_getElem (show k < bss.length by omega)
      have h1 := lenB_succ bss k _ hx
      have h2 := lenB_take bss (k + 1)
      rw [places_succ, folB_snoc, join_place bss h k (by omega), join_place bss h (k + 1) (by omega), joinB_length]
      simp
      omega
theorem joinB_byte {bss : List (List Nat)} (h : ∀ b ∈ bss, ∀ z ∈ b, z < 256) : ∀ z ∈ joinB bss, z < 256 := by
  intro z hz
  rw [joinB_eq] at hz
  rcases List.mem_append.1 hz with hz | hz
  · have key : ∀ (r : List (List Nat)) (p : Nat), (∀ b ∈ r, ∀ z ∈ b, z < 256) → ∀ z ∈ frontB p (r.map fun b => (b, true)), z < 256 := by
      intro r
      induction r with
      | nil => intro p _ z hz; simp [frontB] at hz
      | cons b r ih =>
        intro p hb z hz
        rw [List.map_cons, frontB] at hz
        simp only [if_true] at hz
        rcases List.mem_append.1 hz with hz | hz
        · exact le_byte _ _ z hz
        · exact ih _ (fun c hc => hb c (List.mem_cons_of_mem _ hc)) z hz
    exact key bss _ h z hz
  · obtain ⟨b, hb, hz⟩ := List.mem_flatten.1 hz
    exact h b hb z hz
theorem join_cut (bss : List (List Nat)) (h : 4 * bss.length + lenB bss < 4294967296) : cutL (joinB bss) (places (joinB bss) 0 bss.length) = bss := by
  apply List.ext_getElem?
  intro i
  by_cases hi : i < bss.length
  · have hx := List.getElem?_eq_getElem hi
    have hto : toI (joinB bss) (places (joinB bss) 0 bss.length) i = 4 * bss.length + lenB (bss.take (i + 1)) := by
      unfold toI
      rw [places_length]
      by_cases h1 : i + 1 < bss.length
      · rw [if_pos h1, places_getD _ _ _ _ h1, join_place bss h _ h1]
      · rw [if_neg h1, joinB_length, show i + 1 = bss.length by omega, List.take_length]
    rw [cutL_get (by rw [places_length]; exact hi), hto, places_getD _ _ _ _ hi, join_place bss h i hi, lenB_succ bss i _ hx, hx]
    congr 1
    have hf : (frontB (4 * bss.length) (bss.map fun b => (b, true))).length = 4 * bss.length := by
      have := joinB_length bss
      rw [joinB_eq, List.length_append, lenB_flat] at this
      omega
    rw [show 4 * bss.length + (lenB (bss.take i) + bss[i].length) - (4 * bss.length + lenB (bss.take i)) = bss[i].length by omega, joinB_eq, List.drop_append, List.drop_eq_nil_of_le (by rw [hf]; omega), List.nil_append, hf, show 4 * bss.length + lenB (bss.take i) - 4 * bss.length = lenB (bss.take i) by omega]
    exact flat_part bss i _ hx
  · rw [List.getElem?_eq_none (by rw [cutL_length, places_length]; omega), List.getElem?_eq_none (by omega)]
theorem apart_join (bss : List (List Nat)) (h : 4 * bss.length + lenB bss < 4294967296) (limit : Int) : apartO (joinB bss) limit = if 0 < bss.length ∧ limit < ((bss.length : Nat) : Int) then none else some bss := by
  by_cases h0 : bss.length = 0
  · obtain rfl : bss = [] := List.eq_nil_of_length_eq_zero h0
    rw [if_neg (by simp)]
    rfl
  · have hl := joinB_length bss
    have ht : tk ((joinB bss).take 4) = 4 * bss.length := by
      have := join_place bss h 0 (by omega)
      unfold placeAt at this
      simpa [lenB] using this
    unfold apartO
    rw [if_neg (by omega)]
    simp only [ht]
    rw [show 4 * bss.length / 4 = bss.length by omega, join_good bss h _ (Nat.le_refl _), join_cut bss h]
    by_cases hlim : limit < ((bss.length : Nat) : Int)
    · rw [if_pos (.inr (.inr (.inl hlim))), if_pos ⟨by omega, hlim⟩]
    · rw [if_neg (by omega), if_pos rfl, if_neg (by omega)]
end Go.Proofs.Ytidkjpfdclkccaa
