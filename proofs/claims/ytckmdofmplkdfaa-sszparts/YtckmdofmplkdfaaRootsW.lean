/- The Writer's Root, of any count of roots. -/
import Derived.Test.YtckmdofmplkdfaaWriterN
import Derived.Test.YtckmdofmplkdfaaAppAny
import Derived.Test.YtckmdofmplkdfaaCells
import Derived.Great.BuildSlice
namespace Go.Proofs.Ytckmdofmplkdfaa
open Go.RowKit Go.Shelf
set_option linter.unusedVariables false
set_option maxRecDepth 100000

theorem setV_nums (k : IntKind) (l r : List Nat) (o : Nat) (h : o + r.length ≤ l.length) : setV (nums k l) o (nums k r).toList = nums k (over l o r) := by
  have hn : (nums k r).toList.length = r.length := by rw [Array.length_toList, nums_size]
  apply Array.ext_getElem?
  intro i
  rw [setV_get _ _ _ (by rw [hn, nums_size]; exact h), hn]
  unfold nums over
  simp only [List.getElem?_toArray, List.getElem?_map]
  have ht : (l.take o).length = o := by rw [List.length_take]; omega
  by_cases h1 : i < o
  · rw [if_neg (by omega), List.getElem?_append_left (by omega), List.getElem?_take, if_pos h1]
  · rw [List.getElem?_append_right (by omega), ht]
    by_cases h2 : i < o + r.length
    · rw [if_pos (by omega), List.getElem?_append_left (by omega)]
    · rw [if_neg (by omega), List.getElem?_append_right (by omega), List.getElem?_drop, show o + r.length + (i - o - r.length) = i by omega]
theorem fold_setV (vs : List Value) : ∀ (k : Nat) (c : Array Value), (vs.zipIdx k).foldl (fun (cs : Array Value) (x : Value × Nat) => cs.setIfInBounds (0 + x.2) x.1) c = setV c k vs := by
  induction vs with
  | nil => intro k c; rfl
  | cons v vs ih =>
    intro k c
    rw [List.zipIdx_cons, List.foldl_cons, ih, setV, Nat.zero_add]
theorem own_keep {w w' : World} {base n s : Nat} {e : TypeId} {v : Value} {xs : List Value} (h : w.ownsRow base e s v n xs) (hb : Below w.heap.size w w') : w'.ownsRow base e s v n xs := by
  obtain ⟨h1, h2 | ⟨g, cap, cur, hv, hbg, hg, h3⟩⟩ := h
  · exact ⟨h1, .inl h2⟩
  · exact ⟨h1, .inr ⟨g, cap, cur, hv, hbg, by rw [hb.block g (Array.getElem?_eq_some_iff.1 hg).1]; exact hg, h3⟩⟩
theorem own_lt {w : World} {base n s : Nat} {e : TypeId} {v : Value} {xs : List Value} (h : w.ownsRow base e s v n xs) : ∀ g, v.ownBlock = some g → base ≤ g ∧ g < w.heap.size := fun g hg => h.lt g hg
theorem own_only {w w' : World} {base n s k : Nat} {e : TypeId} {v : Value} {xs : List Value} (h : w.ownsRow base e s v n xs) (ho : Only k w w') (hk : w.heap.size ≤ k + 1 → v.ownBlock ≠ some k) (hk2 : v.ownBlock ≠ some k) : w'.ownsRow base e s v n xs := by
  obtain ⟨h1, h2 | ⟨g, cap, cur, rfl, hbg, hg, h3⟩⟩ := h
  · exact ⟨h1, .inl h2⟩
  · exact ⟨h1, .inr ⟨g, cap, cur, rfl, hbg, by rw [ho.block g (fun e => hk2 (by simp [Value.ownBlock, e]))]; exact hg, h3⟩⟩

theorem madeZ (n : Nat) : (madeCells (Value.agg (nums .u8 (zeros 32))).cells (n * 32)).toList = (zeros (32 * n)).map fun x : Nat => Value.int .u8 (x : Int) := by
  have e : (Value.agg (nums .u8 (zeros 32))).cells = nums .u8 (zeros 32) := rfl
  rw [e]
  apply List.ext_getElem?
  intro j
  unfold madeCells zeros
  rw [Array.toList_map, Array.toList_range, List.getElem?_map, List.getElem?_map, List.getElem?_replicate]
  by_cases hj : j < 32 * n
  · rw [if_pos hj, List.getElem?_range (by omega)]
    have h32 : j % 32 < 32 := Nat.mod_lt _ (by decide)
    have e2 : nums .u8 (List.replicate 32 0) = Array.replicate 32 (Value.int .u8 0) := rfl
    rw [e2]
    simp [h32]
  · rw [if_neg hj, List.getElem?_eq_none (by simp; omega)]
    rfl
theorem over_over (l r s : List Nat) (a : Nat) (h : a + r.length ≤ l.length) : over (over l a r) (a + r.length) s = over l a (r ++ s) := by
  unfold over
  have e1 : (l.take a ++ r).length = a + r.length := by simp; omega
  have t : (l.take a ++ (r ++ l.drop (a + r.length))).take (a + r.length) = l.take a ++ r := by rw [← List.append_assoc]; exact List.take_left' e1
  have d : (l.take a ++ (r ++ l.drop (a + r.length))).drop (a + r.length + s.length) = l.drop (a + (r ++ s).length) := by
    rw [← List.append_assoc, ← List.drop_drop, List.drop_left' e1, List.drop_drop, List.length_append, Nat.add_assoc]
  first | rw [t, d] | skip
  simp
theorem over_whole (l r : List Nat) (h : l.length = r.length) : over l 0 r = r := by
  unfold over
  rw [List.take_zero, Nat.zero_add, List.drop_of_length_le (by omega)]
  simp
theorem flatten_roots : ∀ rs : List (List Nat), (∀ r ∈ rs, r.length = 32) → rs.flatten.length = rs.length * 32 := by
  intro rs
  induction rs with
  | nil => intro _; rfl
  | cons r rs ih => intro h; rw [List.flatten_cons, List.length_append, ih (fun q hq => h q (List.mem_cons_of_mem _ hq)), h r (List.mem_cons_self ..), List.length_cons]; omega
theorem flatten_root_get : ∀ (rs : List (List Nat)), (∀ r ∈ rs, r.length = 32) → ∀ (k j : Nat), k < rs.length → j < 32 → rs.flatten[k * 32 + j]? = (rs.getD k [])[j]? := by
  intro rs
  induction rs with
  | nil => intro _ k j hk; simp at hk
  | cons r rs ih =>
    intro h k j hk hj
    have h32 := h r (List.mem_cons_self ..)
    rw [List.flatten_cons]
    cases k with
    | zero => rw [List.getElem?_append_left (by omega), Nat.zero_mul, Nat.zero_add]; rfl
    | succ k =>
      rw [List.getElem?_append_right (by omega), h32, show (k + 1) * 32 + j - 32 = k * 32 + j by omega, ih (fun q hq => h q (List.mem_cons_of_mem _ hq)) k j (by simpa using hk) hj]
      rfl
/-- Roots filled into a row, one by one. -/
theorem fill_roots (n : Nat) : ∀ (rs : List (List Nat)) (k : Nat) (l : List Nat), l.length = n * 32 → k + rs.length ≤ n → (∀ r ∈ rs, r.length = 32) →
    Instr.fill (fun i => some (i * 32, 32)) (nums .u8 l) ((rs.zipIdx k).map fun p => (p.2, Value.agg (nums .u8 p.1))) = some (nums .u8 (over l (k * 32) rs.flatten)) := by
  intro rs
  induction rs with
  | nil =>
    intro k l hl hk hr
    simp only [List.zipIdx_nil, List.map_nil, Instr.fill, List.flatten_nil]
    congr 2
    unfold over
    simp
  | cons r rs ih =>
    intro k l hl hk hr
    simp only [List.length_cons] at hk
    have h32 := hr r (List.mem_cons_self ..)
    have hc : (Value.agg (nums .u8 r)).cells = nums .u8 r := rfl
    have ho : (over l (k * 32) r).length = n * 32 := by rw [over_length _ _ _ (by omega), hl]
    simp only [List.zipIdx_cons, List.map_cons, Instr.fill, hc, nums_size, h32]
    rw [if_neg (by rw [hl]; simp; omega)]
    have h3 : (nums .u8 r).zipIdx.foldl (fun (cs : Array Value) (x : Value × Nat) => cs.setIfInBounds (k * 32 + x.2) x.1) (nums .u8 l) = nums .u8 (over l (k * 32) r) := by
      rw [← setV_nums .u8 l r (k * 32) (by omega), ← Array.foldl_toList, Array.toList_zipIdx]
      generalize (nums .u8 r).toList = vs
      generalize nums .u8 l = c
      have : ∀ (vs : List Value) (q : Nat) (c : Array Value), (vs.zipIdx q).foldl (fun (cs : Array Value) (x : Value × Nat) => cs.setIfInBounds (k * 32 + x.2) x.1) c = setV c (k * 32 + q) vs := by
        intro vs
        induction vs with
        | nil => intro q c; rfl
        | cons v vs ih2 =>
          intro q c
          rw [List.zipIdx_cons, List.foldl_cons, ih2, setV, Nat.add_assoc]
      have h := this vs 0 c
      rw [Nat.add_zero] at h
      exact h
    refine Eq.trans (congrArg (fun c => Instr.fill _ c _) h3) ?_
    rw [ih (k + 1) _ ho (by omega) (fun q hq => hr q (List.mem_cons_of_mem _ hq))]
    congr 2
    rw [List.flatten_cons, show (k + 1) * 32 = k * 32 + r.length by omega, over_over _ _ _ _ (by omega)]
/-- A slice of roots, made. -/
theorem wpList_roots {P : Program} {w : World} {ops : Array Oper} {rest : List Oper} {o : Oper} {a : Act} {Q : Exit → Act → World → Prop} (hgd : o.guard = none) (t e : TypeId) (n : Nat) (ps : Array (Nat × Operand)) (ho : o.op = .buildSlice t n ps) (hu : P.underlying t = some (.slice e))
    (hi : (P.info? e).map (fun i => (i.zero, i.size, i.bytes)) = some (some (.agg (nums .u8 (zeros 32))), 32, 32)) (rs : List (List Nat)) (xs : List Operand) (hps : ps.toList = (xs.zipIdx 0).map fun p => (p.2, p.1)) (hx0 : xs.map a.eval = rs.map fun r => Value.agg (nums .u8 r)) (hr : ∀ r ∈ rs, r.length = 32) (hn : rs.length = n) (hn0 : 0 < n) (hn1 : n ≤ 1000)
    (h : ∀ w', Has w' w.heap.size e .u8 rs.flatten → Below w.heap.size w w' → w'.heap.size = w.heap.size + 1 → wpList P ops Q rest (a.put o.dst (.slice (some ⟨w.heap.size, 0, none⟩) n n)) w') : wpList P ops Q (o :: rest) a w := by
  have hx : (ps.map fun (i, x) => (i, a.eval x)).toList = (rs.zipIdx 0).map fun p => (p.2, Value.agg (nums .u8 p.1)) := by
    have e1 : ((xs.map a.eval).zipIdx 0).map (fun p => (p.2, p.1)) = ((rs.map fun r => Value.agg (nums .u8 r)).zipIdx 0).map (fun p => (p.2, p.1)) := by rw [hx0]
    rw [List.zipIdx_map, List.zipIdx_map, List.map_map, List.map_map] at e1
    rw [Array.toList_map, hps, List.map_map]
    exact e1
  obtain ⟨i0, hi0, hz0, hz1, hz2⟩ : ∃ i, P.info? e = some i ∧ i.zero = some (.agg (nums .u8 (zeros 32))) ∧ i.size = 32 ∧ i.bytes = 32 := by
    cases hq : P.info? e with
    | none => simp [hq] at hi
    | some i => simp [hq] at hi; exact ⟨i, rfl, hi.1, hi.2.1, hi.2.2⟩
  refine wpList_buildSlice hgd t e n _ ho (nums .u8 rs.flatten) i0 (.agg (nums .u8 (zeros 32))) hu hi0 hz0 (by rw [hz1]; omega) (by rw [hz1]; omega) ?_ (h _ (heap_alloc_new w _) ((Below.refl _ _).alloc (Nat.le_refl _) _) (by simp))
  rw [hz1]
  have e1 : ((Array.range (n * 32)).map ((Value.agg (nums .u8 (zeros 32))).cells[· % (Value.agg (nums .u8 (zeros 32))).cells.size]!)) = nums .u8 (zeros (n * 32)) := by
    apply Array.toList_inj.1
    have := madeZ n
    unfold madeCells at this
    rw [this, Nat.mul_comm]
    simp [nums]
  rw [e1, hx, fill_roots n rs 0 (zeros (n * 32)) (zeros_length _) (by omega) hr, Nat.zero_mul, over_whole _ _ (by rw [zeros_length, flatten_roots rs hr, hn])]

/-- What roots put. -/
def rootF (rs : List (List Nat)) : List (List Nat × Bool) := rs.map fun r => (r, false)
/-- Roots that lie one behind another from a cell on. -/
def RsAt (w : World) (b off : Nat) (rs : List (List Nat)) : Prop := b < w.heap.size ∧ ∀ k, k < rs.length → w.rangeAt b (off + k * 32) (cellsB (rs.getD k []))
theorem RsAt.grown {w w' : World} {b off g : Nat} {rs : List (List Nat)} (h : RsAt w b off rs) (hG : w.grownBy w' (some g)) (hb : b ≠ g) : RsAt w' b off rs :=
  ⟨Nat.lt_of_lt_of_le h.1 hG.size, fun k hk j v hv => hG.cell (h.2 k hk j v hv) (by simpa using hb)⟩
theorem RsAt.keep {w w' : World} {b off : Nat} {rs : List (List Nat)} (h : RsAt w b off rs) (hB : Below w.heap.size w w') : RsAt w' b off rs :=
  ⟨Nat.lt_of_lt_of_le h.1 hB.size, fun k hk j v hv => (hB.cell (p := ⟨b, off + k * 32 + j, none⟩) h.1).trans (h.2 k hk j v hv)⟩
theorem Has.rsAt {w : World} {b : Nat} {t : TypeId} {rs : List (List Nat)} (h : Has w b t .u8 rs.flatten) (hr : ∀ r ∈ rs, r.length = 32) : RsAt w b 0 rs :=
  ⟨(Array.getElem?_eq_some_iff.1 h).1, fun k hk j v hv => by
    obtain ⟨hj, rfl⟩ := cellsB_get _ j v hv
    have h32 : (rs.getD k []).length = 32 := hr _ (by rw [List.getD_eq_getElem?_getD, List.getElem?_eq_getElem hk]; exact List.getElem_mem _)
    have := flatten_root_get rs hr k j hk (by omega)
    have h2 := h.cell (k * 32 + j) (by rw [flatten_roots rs hr]; omega)
    rw [List.getD_eq_getElem?_getD, this] at h2
    rw [Nat.zero_add, List.getD_eq_getElem?_getD]
    exact h2⟩

end Go.Proofs.Ytckmdofmplkdfaa
