/- Structs in memory, whatever their cells: made, stored, read, answered. -/
import Derived.Test.YtckmdofmplkdfaaRunOps
namespace Go.Proofs.Ytckmdofmplkdfaa
open Go.RowKit
set_option linter.unusedVariables false
set_option maxRecDepth 100000

/-- A block that holds just these cells. -/
def HasC (w : World) (g : Nat) (t : TypeId) (cs : List Value) : Prop := w.heap[g]? = some (.cells cs.toArray t (0, 0))
theorem HasC.lt {w : World} {g : Nat} {t : TypeId} {cs : List Value} (h : HasC w g t cs) : g < w.heap.size := (Array.getElem?_eq_some_iff.1 h).1
theorem HasC.keep {w w' : World} {g : Nat} {t : TypeId} {cs : List Value} (h : HasC w g t cs) (hb : Below w.heap.size w w') : HasC w' g t cs := by
  unfold HasC; rw [hb.block g h.lt]; exact h
theorem HasC.only {w w' : World} {g g' : Nat} {t : TypeId} {cs : List Value} (h : HasC w g t cs) (ho : Only g' w w') (hg : g ≠ g') : HasC w' g t cs := by
  unfold HasC; rw [ho.block g hg]; exact h
theorem HasC.grown {w w' : World} {g g' : Nat} {t : TypeId} {cs : List Value} (h : HasC w g t cs) (hG : w.grownBy w' (some g')) (hg : g ≠ g') : HasC w' g t cs := by
  unfold HasC; rw [hG.block g h.lt (fun e => hg (Option.some.inj e))]; exact h
theorem HasC.cell {w : World} {g : Nat} {t : TypeId} {cs : List Value} (h : HasC w g t cs) {j : Nat} {v : Value} (hv : cs[j]? = some v) : w.cell? ⟨g, j, none⟩ = some v := by
  rw [cell_of_row w g j _ t (0, 0) h]; simpa using hv
theorem HasC.range {w : World} {g : Nat} {t : TypeId} {cs : List Value} (h : HasC w g t cs) (o : Nat) (ds : List Value) (hd : ∀ (j : Nat) v, ds[j]? = some v → cs[o + j]? = some v) : w.rangeAt g o ds := fun j v hv => h.cell (hd j v hv)
/-- What is known of a type of structs: its zero, its size. -/
structure Ty (P : Program) (t : TypeId) (zs : List Value) : Prop where
  zero : (P.info? t).map (fun i => (i.zero, i.size)) = some (some (.agg zs.toArray), zs.length)
  row : ∃ d, P.underlying t = some d ∧ d.isRow = true
theorem Ty.size {P : Program} {t : TypeId} {zs : List Value} (h : Ty P t zs) : (P.info? t).map (·.size) = some zs.length := by
  have := h.zero
  cases hq : P.info? t with
  | none => rw [hq] at this; cases this
  | some i => rw [hq] at this; simp only [Option.map_some, Option.some.injEq, Prod.mk.injEq] at this; simp [this.2]
section
variable {P : Program} {w : World} {ops : Array Oper} {rest : List Oper} {o : Oper} {a : Act} {Q : Exit → Act → World → Prop} {t : TypeId} {zs : List Value}
theorem wpList_box_c (hgd : o.guard = none) (d : Tmp) (hdst : o.dst = some d) (x : Operand) (ho : o.op = .box t x) (cs : List Value) (hx : a.eval x = .agg cs.toArray)
    (h : ∀ w', HasC w' w.heap.size t cs → Below w.heap.size w w' → w'.heap.size = w.heap.size + 1 → wpList P ops Q rest (a.put (some d) (.pointer (some ⟨w.heap.size, 0, none⟩))) w') :
    wpList P ops Q (o :: rest) a w := by
  refine wpList_plain hgd fun K hK => ?_
  have := h (w.alloc (.cells cs.toArray t)) (heap_alloc_new w _) ((Below.refl _ _).alloc (Nat.le_refl _) _) (by simp)
  unfold Oper.wp
  simp only [execOp, ho, hx, Instr.box]
  simp [newVar, newRow, newObj, Value.cells, go_sem]
  rw [← hdst] at this
  exact hK _ _ this
theorem wpList_alloc_c (hT : Ty P t zs) (hgd : o.guard = none) (d : Tmp) (hdst : o.dst = some d) (ho : o.op = .alloc t)
    (h : ∀ w', HasC w' w.heap.size t zs → Below w.heap.size w w' → w'.heap.size = w.heap.size + 1 → wpList P ops Q rest (a.put (some d) (.pointer (some ⟨w.heap.size, 0, none⟩))) w') : wpList P ops Q (o :: rest) a w := by
  refine wpList_plain hgd fun K hK => ?_
  have hzv : ∀ w, (zeroValue t).run P w = .ok (.agg zs.toArray) w := by
    intro w
    have hz := hT.zero
    cases hq : P.info? t with
    | none => rw [hq] at hz; cases hz
    | some i => rw [hq] at hz; simp only [Option.map_some, Option.some.injEq, Prod.mk.injEq] at hz; simp [zeroValue, typeInfo, hq, hz.1]
  have := h (w.alloc (.cells zs.toArray t)) (heap_alloc_new w _) ((Below.refl _ _).alloc (Nat.le_refl _) _) (by simp)
  unfold Oper.wp
  simp only [execOp, ho, Instr.alloc]
  simp [hzv, newVar, newRow, newObj, Value.cells, go_sem]
  rw [← hdst] at this
  exact hK _ _ this
theorem wpList_store_c (hT : Ty P t zs) (hgd : o.guard = none) (x y : Operand) (ho : o.op = .store t x y) (g : Nat) (cs : List Value) (hx : a.eval x = .pointer (some ⟨g, 0, none⟩)) (hy : a.eval y = .agg cs.toArray) (hl : cs.length = zs.length) (h1 : cs.toArray.all (·.oneCell') = true)
    (old : List Value) (hg : HasC w g t old) (hl0 : old.length = zs.length)
    (h : ∀ w', HasC w' g t cs → Only g w w' → wpList P ops Q rest (a.put o.dst undef) w') : wpList P ops Q (o :: rest) a w := by
  refine wpList_store_row hgd _ x y ho g cs.toArray hx hy _ _ hg (by rw [hT.size]; simp [hl]) (by simp [hl, hl0]) h1 ?_
  exact h _ (setRow_heap w g _ _ _ _ hg) (Only.setRow w g _)
theorem wpList_load_c (hT : Ty P t zs) (hgd : o.guard = none) (x : Operand) (ho : o.op = .load t x) (g : Nat) (cs : List Value) (hx : a.eval x = .pointer (some ⟨g, 0, none⟩)) (hl : cs.length = zs.length) (hg : HasC w g t cs)
    (h : wpList P ops Q rest (a.put o.dst (.agg cs.toArray)) w) : wpList P ops Q (o :: rest) a w := by
  obtain ⟨d, hu, hd⟩ := hT.row
  exact wpList_load_mid hgd t x ho g 0 hx cs d (hg.range 0 cs (fun j v hv => by rw [Nat.zero_add]; exact hv)) hu hd (by rw [hT.size, hl]) h
/-- A part of a struct read: an array, a struct. -/
theorem wpList_mid_c (hT : Ty P t zs) (hgd : o.guard = none) (x : Operand) (ho : o.op = .load t x) (g off : Nat) (t0 : TypeId) (cs ds : List Value) (hx : a.eval x = .pointer (some ⟨g, off, none⟩)) (hl : ds.length = zs.length) (hg : HasC w g t0 cs) (hd : ∀ (j : Nat) v, ds[j]? = some v → cs[off + j]? = some v)
    (h : wpList P ops Q rest (a.put o.dst (.agg ds.toArray)) w) : wpList P ops Q (o :: rest) a w := by
  obtain ⟨d, hu, hdr⟩ := hT.row
  exact wpList_load_mid hgd t x ho g off hx ds d (hg.range off ds hd) hu hdr (by rw [hT.size, hl]) h
theorem results_c (hT : Ty P t zs) {fn : Func} {p s : Tmp} (hf : fn.results = #[.cell p t, .tmp s]) (tmps : Array Value) (w : World) (g : Nat) (cs : List Value) (v : Value)
    (hp : tmps.getD p undef = .pointer (some ⟨g, 0, none⟩)) (hs : tmps.getD s undef = v) (hg : HasC w g t cs) (hl : cs.length = zs.length) :
    (results fn tmps).run P w = .ok (.tuple #[.agg cs.toArray, v]) w := by
  obtain ⟨d, hu, hd⟩ := hT.row
  have hp' : tmps[p]?.getD undef = .pointer (some ⟨g, 0, none⟩) := by simpa using hp
  have hs' : tmps[s]?.getD undef = v := by simpa using hs
  have hr := run_loadVar_mid w g 0 t cs d (hg.range 0 cs (fun j v hv => by rw [Nat.zero_add]; exact hv)) hu hd (by rw [hT.size, hl])
  simp [results, hf, hp', hs', asAddr, hr]
theorem results_c1 (hT : Ty P t zs) {fn : Func} {p : Tmp} (hf : fn.results = #[.cell p t]) (tmps : Array Value) (w : World) (g : Nat) (cs : List Value)
    (hp : tmps.getD p undef = .pointer (some ⟨g, 0, none⟩)) (hg : HasC w g t cs) (hl : cs.length = zs.length) :
    (results fn tmps).run P w = .ok (.agg cs.toArray) w := by
  obtain ⟨d, hu, hd⟩ := hT.row
  have hp' : tmps[p]?.getD undef = .pointer (some ⟨g, 0, none⟩) := by simpa using hp
  have hr := run_loadVar_mid w g 0 t cs d (hg.range 0 cs (fun j v hv => by rw [Nat.zero_add]; exact hv)) hu hd (by rw [hT.size, hl])
  simp [results, hf, hp', asAddr, hr]
theorem wpList_build_c (hgd : o.guard = none) (ps : Array (Nat × Operand)) (ho : o.op = .build t ps) (qs : Array (Nat × Value)) (hq : (ps.map fun p => (p.1, a.eval p.2)) = qs) (v : Value) (hb : (Instr.build t qs).run P w = .ok v w)
    (h : wpList P ops Q rest (a.put o.dst v) w) : wpList P ops Q (o :: rest) a w :=
  wpList_plain hgd fun K hK => wp_run (run_buildOp t ps ho qs hq v hb) (hK _ _ h)
end
end Go.Proofs.Ytckmdofmplkdfaa
