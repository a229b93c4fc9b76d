/- A container's bytes, read field by field: what stands where; its parts. -/
import Derived.Test.YtidkjpfdclkccaaJoinPure
namespace Go.Proofs.Ytidkjpfdclkccaa
open Go.RowKit
set_option linter.unusedVariables false

/-- The fields of any size. -/
def partsL (xs : List (List Nat × Bool)) : List (List Nat) := (xs.filter (·.2)).map (·.1)
theorem partsL_snoc (xs : List (List Nat × Bool)) (x : List Nat × Bool) : partsL (xs ++ [x]) = partsL xs ++ if x.2 then [x.1] else [] := by
  unfold partsL
  rw [List.filter_append, List.map_append]
  cases h : x.2 <;> simp [h]
theorem backB_parts (xs : List (List Nat × Bool)) : backB xs = (partsL xs).flatten := by
  induction xs with
  | nil => rfl
  | cons x r ih =>
    have e : backB (x :: r) = (if x.2 then x.1 else []) ++ backB r := by simp [backB]
    rw [e, ih]
    unfold partsL
    cases h : x.2 <;> simp [h]
/-- Their places. -/
def plB (p : Nat) (bss : List (List Nat)) : List Nat := (List.range bss.length).map fun i => p + lenB (bss.take i)
theorem plB_length (p : Nat) (bss : List (List Nat)) : (plB p bss).length = bss.length := by simp [plB]
theorem plB_getD (p : Nat) (bss : List (List Nat)) (i : Nat) (h : i < bss.length) : (plB p bss).getD i 0 = p + lenB (bss.take i) := by
  simp [plB, h]
theorem plB_snoc (p : Nat) (bss : List (List Nat)) (b : List Nat) : plB p (bss ++ [b]) = plB p bss ++ [p + lenB bss] := by
  unfold plB
  rw [List.length_append, List.length_singleton, List.range_succ, List.map_append]
  congr 1
  · apply List.map_congr_left
    intro i hi
    have := List.mem_range.1 hi
    rw [List.take_append_of_le_length (by omega)]
  · simp
theorem szF_cons (x : List Nat × Bool) (r : List (List Nat × Bool)) : szF (x :: r) = sz1 x + szF r := by simp [szF]
theorem frontB_cons (p : Nat) (x : List Nat × Bool) (r : List (List Nat × Bool)) : frontB p (x :: r) = (if x.2 then le p 4 else x.1) ++ frontB (if x.2 then p + x.1.length else p) r := rfl
theorem front_len1 (p : Nat) (x : List Nat × Bool) : (if x.2 then le p 4 else x.1).length = sz1 x := by
  unfold sz1
  cases x.2 <;> simp [le_length]
/-- What stands at a field's place. -/
theorem front_get (rest : List Nat) : ∀ (xs : List (List Nat × Bool)) (p k : Nat) (x : List Nat × Bool), xs[k]? = some x →
    ((frontB p xs ++ rest).drop (szF (xs.take k))).take (sz1 x) = if x.2 then le (p + (backB (xs.take k)).length) 4 else x.1
  | y :: r, p, 0, x, h => by
    simp at h
    subst h
    have e := front_len1 p y
    rw [List.take_zero, show szF ([] : List (List Nat × Bool)) = 0 from rfl, List.drop_zero, frontB_cons, List.append_assoc, ← e, List.take_left]
    simp [backB]
  | y :: r, p, k + 1, x, h => by
    rw [List.getElem?_cons_succ] at h
    have ih := front_get rest r (if y.2 then p + y.1.length else p) k x h
    have e := front_len1 p y
    rw [List.take_succ_cons, szF_cons, frontB_cons, List.append_assoc, ← e, ← List.drop_drop, List.drop_left, ih]
    have eb : backB (y :: r.take k) = (if y.2 then y.1 else []) ++ backB (r.take k) := by simp [backB]
    rw [eb, List.length_append]
    cases hx : x.2 <;> cases hy : y.2 <;> simp [Nat.add_assoc]
theorem plB_le (p : Nat) (bss : List (List Nat)) : ∀ z ∈ plB p bss, z ≤ p + lenB bss := fun z hz => by
  obtain ⟨i, hi, rfl⟩ := List.mem_map.1 hz
  have := lenB_take bss i
  omega
/-- The next place follows. -/
theorem plB_fol (bs : List Nat) (size : Nat) (bss : List (List Nat)) (h : size + lenB bss ≤ bs.length) : folB bs size (plB size bss) (size + lenB bss) = true := by
  unfold folB
  cases hr : (plB size bss).reverse with
  | nil =>
    have hz : bss.length = 0 := by rw [← plB_length size bss, ← List.length_reverse, hr]; rfl
    obtain rfl : bss = [] := List.eq_nil_of_length_eq_zero hz
    simp [lenB]
  | cons l rs =>
    have hm : l ∈ plB size bss := by rw [← List.mem_reverse, hr]; simp
    have := plB_le size bss l hm
    simp [this, h]
theorem lenB_all (bss : List (List Nat)) {i : Nat} {x : List Nat} (h : bss[i]? = some x) : lenB (bss.take i) + x.length ≤ lenB bss := by
  rw [← lenB_succ bss i x h]
  exact lenB_take bss (i + 1)
theorem plB_to (bs : List Nat) (size : Nat) (bss : List (List Nat)) {i : Nat} {x : List Nat} (h : bss[i]? = some x) : toI bs (plB size bss) i = if i + 1 = bss.length then bs.length else size + lenB (bss.take i) + x.length := by
  have hi := (List.getElem?_eq_some_iff.1 h).1
  unfold toI
  rw [plB_length]
  by_cases e : i + 1 = bss.length
  · rw [if_neg (by omega), if_pos e]
  · rw [if_pos (by omega), if_neg e, plB_getD size bss (i + 1) (by omega), lenB_succ bss i x h]
    omega
theorem plB_cuts (bs : List Nat) (size : Nat) (bss : List (List Nat)) (h : size + lenB bss ≤ bs.length) : Cuts bs (plB size bss) := by
  intro i hi
  rw [plB_length] at hi
  have hx := List.getElem?_eq_getElem hi
  have := lenB_all bss hx
  rw [plB_to bs size bss hx, plB_getD size bss i hi]
  split <;> omega
/-- What is cut: the parts; the last one has all that stands behind. -/
theorem cut_more (front more : List Nat) (bss : List (List Nat)) {i : Nat} {x : List Nat} (h : bss[i]? = some x) :
    (cutL (front ++ bss.flatten ++ more) (plB front.length bss))[i]? = some (if i + 1 = bss.length then x ++ more else x) := by
  have hi := (List.getElem?_eq_some_iff.1 h).1
  rw [cutL_get (by rw [plB_length]; exact hi), plB_to _ _ bss h, plB_getD _ bss i hi]
  have hb : ∀ (l : List (List Nat)) (i : Nat) (x : List Nat), l[i]? = some x → l.flatten.drop (lenB (l.take i)) = x ++ (l.drop (i + 1)).flatten := by
    intro l
    induction l with
    | nil => intro i x h; simp at h
    | cons y r ih =>
      intro i x h
      cases i with
      | zero => simp at h; subst h; simp [lenB]
      | succ i =>
        rw [List.getElem?_cons_succ] at h
        have e : lenB ((y :: r).take (i + 1)) = y.length + lenB (r.take i) := by rw [List.take_succ_cons, lenB_cons]
        rw [e, List.flatten_cons, ← List.drop_drop, List.drop_left, ih i x h]
        simp
  have hd : (front ++ bss.flatten ++ more).drop (front.length + lenB (bss.take i)) = x ++ ((bss.drop (i + 1)).flatten ++ more) := by
    rw [List.append_assoc, ← List.drop_drop, List.drop_left, List.drop_append_of_le_length (by rw [lenB_flat]; exact lenB_take bss i), hb bss i x h, List.append_assoc]
  rw [hd]
  by_cases e : i + 1 = bss.length
  · rw [if_pos e, if_pos e, e, List.drop_length, List.flatten_nil, List.nil_append]
    have hl := lenB_succ bss i x h
    rw [e, List.take_length] at hl
    rw [List.take_of_length_le]
    simp only [List.length_append, lenB_flat]
    omega
  · rw [if_neg e, if_neg e]
    rw [show front.length + lenB (bss.take i) + x.length - (front.length + lenB (bss.take i)) = x.length by omega, List.take_left]
theorem partsL_byte {xs : List (List Nat × Bool)} (h : ∀ f ∈ xs, ∀ z ∈ f.1, z < 256) : ∀ b ∈ partsL xs, ∀ z ∈ b, z < 256 := fun b hb z hz => by
  obtain ⟨f, hf, rfl⟩ := List.mem_map.1 hb
  exact h f (List.mem_filter.1 hf).1 z hz
theorem lenB_parts (xs : List (List Nat × Bool)) : lenB (partsL xs) = (backB xs).length := by rw [backB_parts, lenB_flat]
theorem szF_succ (xs : List (List Nat × Bool)) (k : Nat) (x : List Nat × Bool) (h : xs[k]? = some x) : szF (xs.take (k + 1)) = szF (xs.take k) + sz1 x := by
  have hi := (List.getElem?_eq_some_iff.1 h).1
  rw [List.getElem?_eq_getElem hi] at h
  cases h
  rw [List.take_succ_eq_append_getElem hi, szF_snoc]
theorem partsL_succ (xs : List (List Nat × Bool)) (k : Nat) (x : List Nat × Bool) (h : xs[k]? = some x) : partsL (xs.take (k + 1)) = partsL (xs.take k) ++ if x.2 then [x.1] else [] := by
  have hi := (List.getElem?_eq_some_iff.1 h).1
  rw [List.getElem?_eq_getElem hi] at h
  cases h
  rw [List.take_succ_eq_append_getElem hi, partsL_snoc]
theorem lenB_partsK (xs : List (List Nat × Bool)) (k : Nat) : lenB (partsL (xs.take k)) ≤ lenB (partsL xs) := by
  have e : partsL xs = partsL (xs.take k) ++ partsL (xs.drop k) := by
    unfold partsL
    rw [← List.map_append, ← List.filter_append, List.take_append_drop]
  rw [e]
  have : ∀ a b : List (List Nat), lenB (a ++ b) = lenB a + lenB b := fun a b => by simp [lenB]
  rw [this]
  omega
/-- A field of one size is read back. -/
theorem fix_at (xs : List (List Nat × Bool)) (rest : List Nat) (k : Nat) (b : List Nat) (h : xs[k]? = some (b, false)) :
    fixW (szF xs) (szF (xs.take k)) b.length false = false ∧ fixB (frontB (szF xs) xs ++ rest) (szF xs) (szF (xs.take k)) b.length false = b ∧ fixT (szF xs) (szF (xs.take k)) b.length false = szF (xs.take (k + 1)) ∧ partsL (xs.take (k + 1)) = partsL (xs.take k) := by
  have h1 := szF_succ xs k _ h
  have h2 := szF_take xs (k + 1)
  have h3 := front_get rest xs (szF xs) k _ h
  have e : sz1 (b, false) = b.length := rfl
  rw [e] at h1 h3
  have hw : fixW (szF xs) (szF (xs.take k)) b.length false = false := by simp [fixW]; omega
  refine ⟨hw, ?_, ?_, ?_⟩
  · rw [fixB, hw]; simpa using h3
  · rw [fixT, hw, h1]; simp
  · rw [partsL_succ xs k _ h]; simp
/-- A place is read back. -/
theorem part_at (xs : List (List Nat × Bool)) (more : List Nat) (k : Nat) (b : List Nat) (h : xs[k]? = some (b, true)) (hs : szF xs + lenB (partsL xs) < 4294967296) :
    fixT (szF xs) (szF (xs.take k)) 4 false = szF (xs.take (k + 1)) ∧ partW (frontB (szF xs) xs ++ ((partsL xs).flatten ++ more)) (szF xs) (szF (xs.take k)) (plB (szF xs) (partsL (xs.take k))) false = false ∧
      partS (frontB (szF xs) xs ++ ((partsL xs).flatten ++ more)) (szF xs) (szF (xs.take k)) (plB (szF xs) (partsL (xs.take k))) false = plB (szF xs) (partsL (xs.take (k + 1))) := by
  have h1 := szF_succ xs k _ h
  have h2 := szF_take xs (k + 1)
  have h3 := front_get ((partsL xs).flatten ++ more) xs (szF xs) k _ h
  have h5 := lenB_partsK xs k
  have e : sz1 (b, true) = 4 := rfl
  rw [e] at h1 h3
  rw [if_pos rfl, ← lenB_parts] at h3
  have hw : fixW (szF xs) (szF (xs.take k)) 4 false = false := by simp [fixW]; omega
  have hP : partP (frontB (szF xs) xs ++ ((partsL xs).flatten ++ more)) (szF xs) (szF (xs.take k)) false = szF xs + lenB (partsL (xs.take k)) := by
    rw [partP, fixB, hw]
    simp only [Bool.false_eq_true, if_false]
    rw [h3, tk_le4 _ (by omega)]
  have hl : (frontB (szF xs) xs ++ ((partsL xs).flatten ++ more)).length = szF xs + (lenB (partsL xs) + more.length) := by
    rw [List.length_append, List.length_append, frontB_length, lenB_flat]
  have hW : partW (frontB (szF xs) xs ++ ((partsL xs).flatten ++ more)) (szF xs) (szF (xs.take k)) (plB (szF xs) (partsL (xs.take k))) false = false := by
    rw [partW, hw, hP, plB_fol _ _ _ (by rw [hl]; omega)]
    rfl
  refine ⟨by rw [fixT, hw, h1]; simp, hW, ?_⟩
  rw [partS, hW, hP, partsL_succ xs k _ h, if_pos rfl, plB_snoc]
  simp
end Go.Proofs.Ytidkjpfdclkccaa
