/- A slice of one struct, made. -/
import Derived.Test.YtckmdofmplkdfaaBuild5
import Derived.Test.YtckmdofmplkdfaaCells
namespace Go.Proofs.Ytckmdofmplkdfaa
open Go.RowKit Go.Shelf
set_option linter.unusedVariables false
set_option maxRecDepth 100000

theorem partsAt_rows (sz : Nat) : ∀ (vs : List (List Value)) (k : Nat), (∀ c ∈ vs, c.length = sz) → PartsAt (fun i => some (i * sz, sz)) (k * sz) ((vs.zipIdx k).map fun p => (p.2, Value.agg p.1.toArray)) := by
  intro vs
  induction vs with
  | nil => intro k _; trivial
  | cons c vs ih =>
    intro k h
    have hc := h c (List.mem_cons_self ..)
    rw [List.zipIdx_cons, List.map_cons, PartsAt]
    have e1 : (Value.agg c.toArray).cells.size = sz := hc
    rw [e1]
    refine ⟨rfl, ?_⟩
    have := ih (k + 1) (fun q hq => h q (List.mem_cons_of_mem _ hq))
    rw [Nat.add_mul, Nat.one_mul] at this
    exact this
theorem outC_rows : ∀ (vs : List (List Value)) (k : Nat), outC ((vs.zipIdx k).map fun p => (p.2, Value.agg p.1.toArray)) = vs.flatten := by
  intro vs
  induction vs with
  | nil => intro k; rfl
  | cons c vs ih => intro k; rw [List.zipIdx_cons, List.map_cons, outC, ih, List.flatten_cons]; rfl
theorem flatten_rows (sz : Nat) : ∀ vs : List (List Value), (∀ c ∈ vs, c.length = sz) → vs.flatten.length = vs.length * sz := by
  intro vs
  induction vs with
  | nil => intro _; simp
  | cons r rs ih => intro h; rw [List.flatten_cons, List.length_append, ih (fun q hq => h q (List.mem_cons_of_mem _ hq)), h r (List.mem_cons_self ..), List.length_cons, Nat.add_mul]; omega
/-- A slice of one struct, made. -/
theorem wpList_one_row {P : Program} {w : World} {ops : Array Oper} {rest : List Oper} {o : Oper} {a : Act} {Q : Exit → Act → World → Prop} (hgd : o.guard = none) (t e : TypeId) (sz : Nat) (x : Operand) (ho : o.op = .buildSlice t 1 #[(0, x)]) (hu : P.underlying t = some (.slice e))
    (hi : (P.info? e).map (fun i => (i.zero.isSome, i.size)) = some (true, sz)) (c : List Value) (hx0 : a.eval x = .agg c.toArray) (hc : c.length = sz) (hs0 : 0 < sz) (hn1 : sz ≤ 16777216)
    (h : ∀ w', HasC w' w.heap.size e c → Below w.heap.size w w' → w'.heap.size = w.heap.size + 1 → wpList P ops Q rest (a.put o.dst (.slice (some ⟨w.heap.size, 0, none⟩) 1 1)) w') : wpList P ops Q (o :: rest) a w := by
  have hx : ((#[(0, x)] : Array (Nat × Operand)).map fun (i, x) => (i, a.eval x)).toList = (([c] : List (List Value)).zipIdx 0).map fun p => (p.2, Value.agg p.1.toArray) := by simp [hx0]
  cases hq : P.info? e with
  | none => rw [hq] at hi; cases hi
  | some ie =>
    rw [hq] at hi
    simp only [Option.map_some, Option.some.injEq, Prod.mk.injEq] at hi
    obtain ⟨z, hz⟩ := Option.isSome_iff_exists.1 hi.1
    refine wpList_buildSlice hgd t e 1 _ ho c.toArray ie z hu hq hz (by rw [hi.2]; omega) (by rw [hi.2]; omega) ?_ (h _ (heap_alloc_new w _) ((Below.refl _ w).alloc (Nat.le_refl _) _) (by simp))
    rw [hi.2]
    have hcs : ∀ q ∈ [c], q.length = sz := fun q hq => by simp at hq; subst hq; exact hc
    have hfl := flatten_rows sz [c] hcs
    have hf := fill_out (fun i => some (i * sz, sz)) (([c].zipIdx 0).map fun p => (p.2, Value.agg p.1.toArray)) 0 ((Array.range (1 * sz)).map (z.cells[· % z.cells.size]!)).toList (by have := partsAt_rows sz [c] 0 hcs; rw [Nat.zero_mul] at this; exact this) (by rw [outC_rows, hfl]; simp)
    rw [outC_rows, List.take_zero, List.nil_append, Nat.zero_add, List.drop_of_length_le (by rw [hfl]; simp), List.append_nil, ← hx] at hf
    simp only [List.flatten_cons, List.flatten_nil, List.append_nil] at hf
    exact hf
end Go.Proofs.Ytckmdofmplkdfaa
