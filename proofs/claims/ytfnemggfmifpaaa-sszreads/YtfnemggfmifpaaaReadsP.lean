/- Places: the plain mathematics of SszReads. -/
import Derived.Test.YtfnemggfmifpaaaJoinPure
namespace Go.Proofs.Ytfnemggfmifpaaa
open Go.RowKit Go.Shelf
set_option linter.unusedVariables false
set_option maxRecDepth 100000

/-- Is no place behind the first k less than the one ahead? -/
def upB2 (l : List Nat) (k : Nat) : Bool := (List.range (k - 1)).all fun i => decide (l.getD i 0 ≤ l.getD (i + 1) 0)
theorem upB2_succ (l : List Nat) (k : Nat) (h : 0 < k) : upB2 l (k + 1) = (upB2 l k && decide (l.getD (k - 1) 0 ≤ l.getD k 0)) := by
  unfold upB2
  rw [show k + 1 - 1 = (k - 1) + 1 by omega, List.range_succ, List.all_append]
  simp [show k - 1 + 1 = k by omega]
theorem upB2_one (l : List Nat) : upB2 l 1 = true := rfl
/-- All places, and the end. -/
def atL (bs : List Nat) (t k : Nat) : List Nat := places bs t k ++ [bs.length]
theorem atL_length (bs : List Nat) (t k : Nat) : (atL bs t k).length = k + 1 := by simp [atL, places_length]
theorem atL_getD (bs : List Nat) (t k j : Nat) (h : j < k) : (atL bs t k).getD j 0 = placeAt bs t j := by
  unfold atL
  rw [List.getD_eq_getElem?_getD, List.getElem?_append_left (by rw [places_length]; exact h), ← List.getD_eq_getElem?_getD, places_getD bs t k j h]
theorem atL_last (bs : List Nat) (t k : Nat) : (atL bs t k).getD k 0 = bs.length := by
  unfold atL
  rw [List.getD_eq_getElem?_getD, List.getElem?_append_right (by rw [places_length]; exact Nat.le_refl _), places_length]
  simp
theorem upB2_le {l : List Nat} {k : Nat} (h : upB2 l k = true) : ∀ j i, j ≤ i → i < k → l.getD j 0 ≤ l.getD i 0 := by
  intro j i hji hik
  have hs : ∀ x, x < k - 1 → l.getD x 0 ≤ l.getD (x + 1) 0 := by simpa [upB2] using h
  induction i with
  | zero => obtain rfl : j = 0 := by omega
            exact Nat.le_refl _
  | succ i ih =>
    by_cases e : j = i + 1
    · rw [e]; exact Nat.le_refl _
    · exact Nat.le_trans (ih (by omega) (by omega)) (hs i (by omega))
theorem upB2_false {l : List Nat} {m n : Nat} (h : upB2 l m = false) (hmn : m ≤ n) : upB2 l n = false := by
  rw [← Bool.not_eq_true] at h ⊢
  intro hn
  apply h
  simp only [upB2, List.all_eq_true, List.mem_range, decide_eq_true_eq] at hn ⊢
  exact fun i hi => hn i (by omega)
/-- What the statement asks of the places is what the Reader asks. -/
theorem good_iff (bs : List Nat) (size t k : Nat) (h0 : 0 < k) (hs : size ≤ bs.length) : goodB bs size t k = (decide ((atL bs t k).getD 0 0 = size) && upB2 (atL bs t k) (k + 1)) := by
  rw [Bool.eq_iff_iff, Bool.and_eq_true, decide_eq_true_eq]
  constructor
  · intro hg
    refine ⟨by rw [atL_getD bs t k 0 h0]; exact good_first hg h0, ?_⟩
    simp only [upB2, List.all_eq_true, List.mem_range, decide_eq_true_eq]
    intro i hi
    rw [atL_getD bs t k i (by omega)]
    by_cases h1 : i + 1 < k
    · rw [atL_getD bs t k (i + 1) h1]; exact (good_next hg i h1).1
    · rw [show i + 1 = k by omega, atL_last]
      cases i with
      | zero => rw [good_first hg h0]; exact hs
      | succ i => exact (good_next hg i (by omega)).2
  · rintro ⟨h1, h2⟩
    simp only [goodB, List.all_eq_true, List.mem_range]
    intro j hj
    cases j with
    | zero =>
      rw [show places bs t 0 = [] from rfl, folB_nil, ← atL_getD bs t k 0 h0, h1]
      simp
    | succ j =>
      rw [places_succ, folB_snoc, Bool.and_eq_true, decide_eq_true_eq, decide_eq_true_eq]
      have a := upB2_le h2 j (j + 1) (by omega) (by omega)
      have b := upB2_le h2 (j + 1) k (by omega) (by omega)
      rw [atL_getD bs t k j (by omega), atL_getD bs t k (j + 1) hj] at a
      rw [atL_getD bs t k (j + 1) hj, atL_last] at b
      exact ⟨a, b⟩
theorem placeAt_lt {bs : List Nat} (h : ∀ z ∈ bs, z < 256) (t j : Nat) (hl : t + 4 * j + 4 ≤ bs.length) : placeAt bs t j < 4294967296 :=
  tk_lt4 _ (fun z hz => h z (List.mem_of_mem_drop (List.mem_of_mem_take hz))) (by simp; omega)
theorem rtake_isB (v : Value) (bs : List Nat) (w : World) (h : IsB w v bs) :
    Calls Try.prog 25 #[v] w fun e w' => e = .returned (.int .u64 (tk bs : Nat)) ∧ w' = w := by
  obtain ⟨⟨ao, cap, rfl, h1, h2, h3, hR⟩, h8⟩ := h
  refine refTake_any ao bs.length cap (bs.map fun n : Nat => (n : Int)) w (by omega) ⟨by simp, fun z hz => ?_, ?_⟩
  · obtain ⟨n, hn, rfl⟩ := List.mem_map.1 hz; have := h8 n hn; omega
  · rcases hR with h | ⟨b, off, rfl, hc⟩
    · exact .inl h
    · refine .inr ⟨b, off, rfl, fun i hi => ?_⟩
      rw [hc i hi]
      simp [hi]
theorem cellsI_one (l : List Nat) : ∀ u ∈ l.map (fun n : Nat => Value.int .i64 (n : Int)), u.oneCell' = true := fun u hu => by obtain ⟨n, _, rfl⟩ := List.mem_map.1 hu; rfl
/-- A row of numbers of the call's own. -/
abbrev RowI (w : World) (base : Nat) (v : Value) (l : List Nat) : Prop := w.ownsRow base 3 1 v l.length (l.map fun n : Nat => Value.int .i64 (n : Int))
theorem RowI.form {w : World} {base : Nat} {v : Value} {xs : List Nat} (h : RowI w base v xs) (h0 : 0 < xs.length) : ∃ g cap, base ≤ g ∧ g < w.heap.size ∧ v = .slice (some ⟨g, 0, none⟩) xs.length cap ∧ xs.length ≤ cap ∧ ∀ i, i < xs.length → w.cell? ⟨g, i, none⟩ = some (.int .i64 (xs.getD i 0 : Nat)) := by
  obtain ⟨_, h⟩ := h
  rcases h with ⟨rfl, h1⟩ | ⟨g, cap, cur, rfl, hb, hg, hc, hm, hcs, htk⟩
  · omega
  · refine ⟨g, cap, hb, (Array.getElem?_eq_some_iff.1 hg).1, rfl, hc, fun i hi => ?_⟩
    rw [cell_of_row w g i _ _ (0, 0) hg, ← Array.getElem?_toList]
    have : (cur.toList.take (xs.length * 1))[i]? = (xs.map fun n : Nat => Value.int .i64 (n : Int))[i]? := by rw [htk]
    rw [List.getElem?_take, if_pos (by omega)] at this
    rw [this, List.getElem?_map, List.getElem?_eq_getElem hi, List.getD_eq_getElem?_getD, List.getElem?_eq_getElem hi]
    rfl
theorem cut_at (bs : List Nat) (t k m : Nat) (h : m < k) : (cutL bs (places bs t k))[m]? = some ((bs.drop ((atL bs t k).getD m 0)).take ((atL bs t k).getD (m + 1) 0 - (atL bs t k).getD m 0)) := by
  have hto : toI bs (places bs t k) m = (atL bs t k).getD (m + 1) 0 := by
    unfold toI
    rw [places_length]
    by_cases h1 : m + 1 < k
    · rw [if_pos h1, places_getD _ _ _ _ h1, atL_getD _ _ _ _ h1]
    · rw [if_neg h1, show m + 1 = k by omega, atL_last]
  rw [cutL_get (by rw [places_length]; exact h), hto, places_getD _ _ _ _ h, atL_getD _ _ _ _ h]
section
variable {w : World} {ops : Array Oper} {rest : List Oper} {o : Oper} {a : Act} {Q : Exit → Act → World → Prop}
/-- append of one number onto a row of numbers. -/
theorem wpList_append_i (hgd : o.guard = none) (s x : Operand) (ho : o.op = .call { callee := .builtin .append, args := #[s, x], argTypes := #[53, 53] })
    (base : Nat) (v : Value) (xs : List Nat) (hv : a.eval s = v) (hown : RowI w base v xs) (b n : Nat) (hx : a.eval x = .slice (some ⟨b, 0, none⟩) 1 1) (hc : w.cell? ⟨b, 0, none⟩ = some (.int .i64 (n : Nat))) (hb : xs.length + 1 ≤ 1000000) (hbase : base ≤ w.heap.size)
    (h : ∀ v' w', RowI w' base v' (xs ++ [n]) → w.grownBy w' v.ownBlock → wpList Try.prog ops Q rest (a.put o.dst v') w') : wpList Try.prog ops Q (o :: rest) a w := by
  obtain ⟨i0, hi, hz0, hz1, hz2⟩ := info_parts Try.info3
  refine wpList_append_own _ hgd s x 53 ho base 3 i0 (.int .i64 0) 1 8 Try.underlying53 hi hz0 hz1 hz2 rfl (by decide) v xs.length _ hv hown ⟨b, 0, none⟩ 1 1 [.int .i64 (n : Nat)] hx rfl ?_ ?_ (by unfold maxLen; omega) (by omega) hbase ?_
  · intro j u hj
    match j, hj with
    | 0, hj => simp at hj; subst hj; simpa [Addr.add] using hc
  · intro u hu; simp at hu; subst hu; rfl
  · intro v' w' h1 h2 _
    refine h v' w' ?_ h2
    unfold RowI
    rw [List.length_append, List.map_append]
    exact h1
end
end Go.Proofs.Ytfnemggfmifpaaa
