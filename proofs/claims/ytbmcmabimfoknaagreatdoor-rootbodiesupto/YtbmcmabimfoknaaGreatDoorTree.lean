/- The plain mathematics of trees, over any way f to make one of two, and any empty leaf z: by halves, level by level, and along a branch. -/
import Derived.Test.YtbmcmabimfoknaaGreatDoorEqual
namespace Go.Proofs.YtbmcmabimfoknaaGreatDoor
set_option maxRecDepth 100000
section
variable {α : Type}

/-- The root of a tree of the depth d whose leaves are all z. -/
def zeroUp (f : α → α → α) (z : α) : Nat → α
  | 0 => z
  | d + 1 => f (zeroUp f z d) (zeroUp f z d)
/-- The root of a tree of the depth d: the first 2^d leaves of l, and z behind. -/
def full (f : α → α → α) (z : α) : Nat → List α → α
  | 0, l => l.getD 0 z
  | d + 1, l => f (full f z d l) (full f z d (l.drop (2 ^ d)))
theorem full_nil (f : α → α → α) (z : α) (d : Nat) : full f z d [] = zeroUp f z d := by
  induction d with
  | zero => rfl
  | succ d ih => rw [full, zeroUp, List.drop_nil, ih]
/-- Only the first 2^d leaves count. -/
theorem full_take (f : α → α → α) (z : α) (d : Nat) : ∀ (n : Nat) (l : List α), 2 ^ d ≤ n → full f z d (l.take n) = full f z d l := by
  induction d with
  | zero =>
    intro n l h
    cases n with
    | zero => simp at h
    | succ n => cases l <;> rfl
  | succ d ih =>
    intro n l h
    have h2 : 2 ^ (d + 1) = 2 ^ d + 2 ^ d := by rw [Nat.pow_succ]; omega
    rw [full, full, ih n l (by omega), List.drop_take, ih (n - 2 ^ d) _ (by omega)]
theorem full_of_take (f : α → α → α) (z : α) (d : Nat) (l m : List α) (h : l.take (2 ^ d) = m.take (2 ^ d)) : full f z d l = full f z d m := by
  rw [← full_take f z d (2 ^ d) l (Nat.le_refl _), ← full_take f z d (2 ^ d) m (Nat.le_refl _), h]
/-- A tree that is at most half full. -/
theorem full_half (f : α → α → α) (z : α) (d : Nat) (l : List α) (h : l.length ≤ 2 ^ d) : full f z (d + 1) l = f (full f z d l) (zeroUp f z d) := by
  rw [full, List.drop_eq_nil_of_le h, full_nil]
theorem full_zero (f : α → α → α) (z : α) (l : List α) : full f z 0 l = l.getD 0 z := rfl
theorem zeroUp_up (f : α → α → α) (z : α) (d : Nat) : zeroUp f (f z z) d = zeroUp f z (d + 1) := by
  induction d with
  | zero => rfl
  | succ d ih => rw [zeroUp, ih, zeroUp]; rfl

/-- One level up: neighbours two by two, the last one by z. -/
def level (f : α → α → α) (z : α) : List α → List α
  | [] => []
  | [a] => [f a z]
  | a :: b :: t => f a b :: level f z t
theorem level_length (f : α → α → α) (z : α) : ∀ (l : List α), (level f z l).length = (l.length + 1) / 2
  | [] => by simp [level]
  | [_] => by simp [level]
  | _ :: _ :: t => by simp only [level, List.length_cons, level_length f z t]; omega
theorem level_drop (f : α → α → α) (z : α) : ∀ (n : Nat) (l : List α), level f z (l.drop (2 * n)) = (level f z l).drop n := by
  intro n
  induction n with
  | zero => intro l; rfl
  | succ n ih =>
    intro l
    match l with
    | [] => simp [level]
    | [a] => rw [List.drop_eq_nil_of_le (by simp; omega), List.drop_eq_nil_of_le (by simp [level])]; rfl
    | a :: b :: t =>
      rw [show 2 * (n + 1) = 2 * n + 1 + 1 by omega, List.drop_succ_cons, List.drop_succ_cons, level, List.drop_succ_cons]
      exact ih t
theorem level_getD (f : α → α → α) (z : α) (i : Nat) (l : List α) : (level f z l).getD i (f z z) = f (l.getD (2 * i) z) (l.getD (2 * i + 1) z) := by
  induction i generalizing l with
  | zero =>
    match l with
    | [] => rfl
    | [_] => rfl
    | _ :: _ :: _ => rfl
  | succ i ih =>
    match l with
    | [] => rfl
    | [a] => rfl
    | a :: b :: t =>
      rw [level, show 2 * (i + 1) = 2 * i + 1 + 1 by omega, List.getD_cons_succ, List.getD_cons_succ, List.getD_cons_succ, show 2 * i + 1 + 1 + 1 = 2 * i + 1 + 1 + 1 from rfl, List.getD_cons_succ, List.getD_cons_succ]
      exact ih t
/-- A tree is that of the level above, one less deep. -/
theorem full_level (f : α → α → α) (z : α) (d : Nat) : ∀ l : List α, full f z (d + 1) l = full f (f z z) d (level f z l) := by
  induction d with
  | zero =>
    intro l
    match l with
    | [] => rfl
    | [_] => rfl
    | _ :: _ :: _ => rfl
  | succ d ih =>
    intro l
    rw [full, ih, ih, full, show 2 ^ (d + 1) = 2 * 2 ^ d by rw [Nat.pow_succ]; omega, level_drop]
/-- The k-th level above l. -/
def levels (f : α → α → α) (z : α) (l : List α) : Nat → List α
  | 0 => l
  | k + 1 => level f (zeroUp f z k) (levels f z l k)
theorem levels_getD (f : α → α → α) (z : α) (l : List α) (k : Nat) : ∀ i : Nat, (levels f z l k).getD i (zeroUp f z k) = full f z k (l.drop (i * 2 ^ k)) := by
  induction k with
  | zero => intro i; simp [levels, full, zeroUp, List.getD_eq_getElem?_getD]
  | succ k ih =>
    intro i
    rw [levels, zeroUp, level_getD, ih, ih, full, List.drop_drop]
    have e1 : 2 * i * 2 ^ k = i * 2 ^ (k + 1) := by rw [Nat.pow_succ, Nat.mul_comm 2 i, Nat.mul_assoc, Nat.mul_comm 2 (2 ^ k)]
    have e2 : (2 * i + 1) * 2 ^ k = i * 2 ^ (k + 1) + 2 ^ k := by rw [Nat.add_mul, e1, Nat.one_mul]
    rw [e1, e2]
/-- A tree of the depth k + d is that of its k-th level, d deep. -/
theorem full_levels (f : α → α → α) (z : α) (l : List α) (d : Nat) : ∀ k : Nat, full f z (k + d) l = full f (zeroUp f z k) d (levels f z l k) := by
  intro k
  induction k generalizing d with
  | zero => rw [Nat.zero_add]; rfl
  | succ k ih => rw [show k + 1 + d = k + (d + 1) by omega, ih, full_level]; rfl
/-- The whole tree, where the k-th level is at its top. -/
theorem full_top (f : α → α → α) (z : α) (l : List α) (d : Nat) : full f z d l = (levels f z l d).getD 0 (zeroUp f z d) := by
  rw [levels_getD, Nat.zero_mul]; rfl
theorem levels_nil (f : α → α → α) (z : α) (k : Nat) : levels f z [] k = [] := by
  induction k with
  | zero => rfl
  | succ k ih => rw [levels, ih]; rfl
theorem levels_length (f : α → α → α) (z : α) (l : List α) (k : Nat) : (levels f z l (k + 1)).length = ((levels f z l k).length + 1) / 2 := level_length f _ _
/-- Behind the leaves there is nothing but zero. -/
theorem full_beyond (f : α → α → α) (z : α) (k n : Nat) (l : List α) (h : l.length ≤ n) : full f z k (l.drop n) = zeroUp f z k := by
  rw [List.drop_eq_nil_of_le h, full_nil]

/-- What one comes to from a leaf along a branch: bit by bit of the place i. -/
def climb (f : α → α → α) (x : α) : List α → Nat → α
  | [], _ => x
  | b :: t, i => climb f (if i % 2 = 1 then f b x else f x b) t (i / 2)
theorem climb_append (f : α → α → α) (b : α) : ∀ (t : List α) (x : α) (i : Nat), climb f x (t ++ [b]) i = if i / 2 ^ t.length % 2 = 1 then f b (climb f x t i) else f (climb f x t i) b
  | [], x, i => by simp [climb]
  | a :: t, x, i => by
    rw [List.cons_append, climb, climb_append f b t, climb, List.length_cons, Nat.div_div_eq_div_mul, show 2 * 2 ^ t.length = 2 ^ (t.length + 1) by rw [Nat.pow_succ]; omega]
/-- The neighbour of the place i at the level k. -/
def beside (f : α → α → α) (z : α) (l : List α) (i k : Nat) : α := full f z k (l.drop ((i / 2 ^ k ^^^ 1) * 2 ^ k))
/-- The branch of the place i, k levels up. -/
def branch (f : α → α → α) (z : α) (l : List α) (i k : Nat) : List α := (List.range k).map (beside f z l i)
theorem branch_length (f : α → α → α) (z : α) (l : List α) (i k : Nat) : (branch f z l i k).length = k := by simp [branch]
theorem branch_succ (f : α → α → α) (z : α) (l : List α) (i k : Nat) : branch f z l i (k + 1) = branch f z l i k ++ [beside f z l i k] := by
  simp [branch, List.range_succ]
theorem xor_one (j : Nat) : j ^^^ 1 = if j % 2 = 1 then j - 1 else j + 1 := by
  apply Nat.eq_of_testBit_eq
  intro i
  rw [Nat.testBit_xor]
  cases i with
  | zero =>
    split
    · rename_i h
      have h2 : (j - 1) % 2 = 0 := by omega
      simp [Nat.testBit_zero, h, h2]
    · rename_i h
      have h1 : j % 2 = 0 := by omega
      have h2 : (j + 1) % 2 = 1 := by omega
      simp only [Nat.testBit_zero, h1, h2]
      rfl
  | succ i =>
    rw [Nat.testBit_succ, Nat.testBit_succ, show (1 : Nat) / 2 = 0 from rfl, Nat.zero_testBit, Bool.xor_false, Nat.testBit_succ]
    congr 1
    split <;> omega
theorem beside_levels (f : α → α → α) (z : α) (l : List α) (i k : Nat) : beside f z l i k = (levels f z l k).getD (i / 2 ^ k ^^^ 1) (zeroUp f z k) := by
  rw [levels_getD]; rfl
/-- Along the branch of the place i one comes, from any leaf x, to the tree in which x stands at i. -/
theorem climb_branch (f : α → α → α) (z x : α) (l : List α) (i k : Nat) (hi : i < l.length) : climb f x (branch f z l i k) i = full f z k ((l.set i x).drop (i / 2 ^ k * 2 ^ k)) := by
  induction k with
  | zero =>
    simp [branch, climb, full, List.getD_eq_getElem?_getD, hi]
  | succ k ih =>
    rw [branch_succ, climb_append, branch_length, ih, beside, xor_one, full, List.drop_drop]
    have hp : 0 < 2 ^ k := Nat.two_pow_pos k
    have hd : i / 2 ^ (k + 1) = i / 2 ^ k / 2 := by rw [Nat.pow_succ, Nat.div_div_eq_div_mul]
    have hlo : i / 2 ^ k * 2 ^ k ≤ i := Nat.div_mul_le_self _ _
    have hhi : i < (i / 2 ^ k + 1) * 2 ^ k := by
      rw [Nat.mul_comm]; exact Nat.lt_mul_div_succ i hp
    rw [hd]
    generalize i / 2 ^ k = j at hlo hhi ⊢
    have hq : j / 2 * 2 ^ (k + 1) = j / 2 * 2 * 2 ^ k := by rw [Nat.pow_succ, Nat.mul_assoc, Nat.mul_comm 2]
    rw [hq]
    split
    · rename_i h1
      have e1 : j / 2 * 2 = j - 1 := by omega
      have e2 : (j - 1) * 2 ^ k + 2 ^ k = j * 2 ^ k := by rw [← Nat.succ_mul]; congr 1; omega
      rw [e1, e2]
      congr 1
      apply full_of_take
      apply List.ext_getElem?
      intro n
      rw [List.getElem?_take, List.getElem?_take]
      split
      · rename_i hn
        rw [List.getElem?_drop, List.getElem?_drop, List.getElem?_set_ne (by omega)]
      · rfl
    · rename_i h1
      have e1 : j / 2 * 2 = j := by omega
      have e2 : (j + 1) * 2 ^ k = j * 2 ^ k + 2 ^ k := by rw [Nat.add_mul, Nat.one_mul]
      rw [e1, ← e2]
      congr 2
      apply List.ext_getElem?
      intro n
      rw [List.getElem?_drop, List.getElem?_drop, List.getElem?_set_ne (by omega)]
theorem climb_full (f : α → α → α) (z x : α) (l : List α) (i d : Nat) (hi : i < l.length) (hd : i < 2 ^ d) : climb f x (branch f z l i d) i = full f z d (l.set i x) := by
  rw [climb_branch f z x l i d hi, Nat.div_eq_of_lt hd, Nat.zero_mul]; rfl
theorem climb_own (f : α → α → α) (z : α) (l : List α) (i d : Nat) (hi : i < l.length) (hd : i < 2 ^ d) : climb f l[i] (branch f z l i d) i = full f z d l := by
  rw [climb_full f z _ l i d hi hd, List.set_getElem_self]
end

/-- The least depth from d on, at most n more, with 2^d at least m. -/
def depFrom (m : Int) : Nat → Nat → Nat
  | 0, d => d
  | n + 1, d => if (2 ^ d : Int) < m then depFrom m n (d + 1) else d
/-- The depth of a tree with the limit m. -/
def depth (m : Int) : Nat := depFrom m 62 0
theorem depFrom_le (m : Int) : ∀ n d : Nat, depFrom m n d ≤ d + n
  | 0, d => Nat.le_refl _
  | n + 1, d => by
    rw [depFrom]
    split
    · exact Nat.le_trans (depFrom_le m n (d + 1)) (by omega)
    · omega
theorem depth_le (m : Int) : depth m ≤ 62 := by have := depFrom_le m 62 0; rwa [Nat.zero_add] at this
theorem depFrom_same (m : Int) : ∀ n d : Nat, d ≤ n → (∀ e, e < d → (2 ^ e : Int) < m) → depFrom m (n - d) d = depFrom m n 0
  | _, 0, _, _ => by rw [Nat.sub_zero]
  | n, d + 1, h, hb => by
    rw [← depFrom_same m n d (by omega) (fun e he => hb e (by omega)), show n - d = n - (d + 1) + 1 by omega, depFrom, if_pos (hb d (by omega))]
theorem depth_at (m : Int) (d : Nat) (hd : d ≤ 62) (hb : ∀ e, e < d → (2 ^ e : Int) < m) (ht : d = 62 ∨ m ≤ 2 ^ d) : depth m = d := by
  rw [depth, ← depFrom_same m 62 d hd hb]
  cases h : 62 - d with
  | zero => rfl
  | succ n => rw [depFrom, if_neg (by rcases ht with e | e <;> omega)]

/-- The j-th part of 32 bytes, filled up with 0. -/
def chunkAt (b : List Nat) (j : Nat) : List Nat := (b.drop (32 * j)).take 32 ++ List.replicate (32 - ((b.drop (32 * j)).take 32).length) 0
theorem chunkAt_length (b : List Nat) (j : Nat) : (chunkAt b j).length = 32 := by
  simp only [chunkAt, List.length_append, List.length_replicate]
  have : ((b.drop (32 * j)).take 32).length ≤ 32 := List.length_take_le _ _
  omega
theorem chunkAt_getD (b : List Nat) (j i : Nat) (h : i < 32) : (chunkAt b j).getD i 0 = b.getD (32 * j + i) 0 := by
  simp only [chunkAt, List.getD_eq_getElem?_getD]
  by_cases hi : i < ((b.drop (32 * j)).take 32).length
  · rw [List.getElem?_append_left hi, List.getElem?_take, if_pos h, List.getElem?_drop]
  · rw [List.getElem?_append_right (by omega), List.getElem?_replicate]
    have hn : b[32 * j + i]? = none := by
      rw [List.getElem?_eq_none_iff]
      simp only [List.length_take, List.length_drop] at hi
      omega
    rw [hn]
    split <;> rfl
/-- Bytes in parts of 32. -/
def chunks (b : List Nat) : List (List Nat) := (List.range ((b.length + 31) / 32)).map (chunkAt b)
theorem chunks_length (b : List Nat) : (chunks b).length = (b.length + 31) / 32 := by simp [chunks]
end Go.Proofs.YtbmcmabimfoknaaGreatDoor
