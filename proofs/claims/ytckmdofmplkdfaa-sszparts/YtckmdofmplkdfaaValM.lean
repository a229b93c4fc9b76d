/- The document's values in memory: made, stored, read, answered. -/
import Derived.Test.YtckmdofmplkdfaaRefSame
namespace Go.Proofs.Ytckmdofmplkdfaa
open Go.RowKit
set_option linter.unusedVariables false
set_option maxRecDepth 100000
abbrev nilS : Value := .slice none 0 0
theorem zeroVal : (Try.prog.info? 39).map (fun i => (i.zero, i.size)) = some (some (.agg (valL 0 (zeros 32) nilS nilS).toArray), 35) := by kernel_rfl
theorem build_none (w : World) : (Instr.build 39 #[]).run Try.prog w = .ok (.agg (valL 0 (zeros 32) nilS nilS).toArray) w := by kernel_rfl
theorem build_bits (ao : Option Addr) (l c : Nat) (w : World) : (Instr.build 39 #[(2, .slice ao l c)]).run Try.prog w = .ok (.agg (valL 0 (zeros 32) (.slice ao l c) nilS).toArray) w := by kernel_rfl
theorem build_num (n : Nat) (w : World) : (Instr.build 39 #[(0, .int .u64 (n : Nat))]).run Try.prog w = .ok (.agg (valL n (zeros 32) nilS nilS).toArray) w := by kernel_rfl
theorem build_kids (ao : Option Addr) (l c : Nat) (w : World) : (Instr.build 39 #[(3, .slice ao l c)]).run Try.prog w = .ok (.agg (valL 0 (zeros 32) nilS (.slice ao l c)).toArray) w := by kernel_rfl

/-- A block that holds a value. -/
def HasV (w : World) (g n : Nat) (r : List Nat) (sb sk : Value) : Prop := w.heap[g]? = some (.cells (valL n r sb sk).toArray 39 (0, 0))
theorem HasV.lt {w : World} {g n : Nat} {r : List Nat} {sb sk : Value} (h : HasV w g n r sb sk) : g < w.heap.size := (Array.getElem?_eq_some_iff.1 h).1
theorem HasV.keep {w w' : World} {g n : Nat} {r : List Nat} {sb sk : Value} (h : HasV w g n r sb sk) (hb : Below w.heap.size w w') : HasV w' g n r sb sk := by
  unfold HasV; rw [hb.block g h.lt]; exact h
theorem HasV.only {w w' : World} {g g' n : Nat} {r : List Nat} {sb sk : Value} (h : HasV w g n r sb sk) (ho : Only g' w w') (hg : g ≠ g') : HasV w' g n r sb sk := by
  unfold HasV; rw [ho.block g hg]; exact h
theorem HasV.boxed {w : World} {g n : Nat} {r : List Nat} {sb sk : Value} (h : HasV w g n r sb sk) (hl : r.length = 32) : Boxed w g n r sb sk := Boxed.new h hl
/-- A slice value (one cell). -/
def isSl : Value → Prop
  | .slice _ _ _ => True
  | _ => False
theorem isSl.ex {v : Value} (h : isSl v) : ∃ ao l c, v = .slice ao l c := by cases v <;> simp_all [isSl]
theorem valL_oneC (n : Nat) (r : List Nat) (sb sk : Value) (h1 : isSl sb) (h2 : isSl sk) : (valL n r sb sk).toArray.all (·.oneCell') = true := by
  obtain ⟨_, _, _, rfl⟩ := h1.ex
  obtain ⟨_, _, _, rfl⟩ := h2.ex
  simp [valL, cellsB, Value.oneCell']
theorem zeros32 : (zeros 32).length = 32 := zeros_length 32

/-- Said ahead of a law in a walk's brackets ('with_reducible refine at_list ?_'): the goal is a list of operations. -/
theorem at_list {P : Program} {w : World} {ops : Array Oper} {rest : List Oper} {o : Oper} {a : Act} {Q : Exit → Act → World → Prop} (h : wpList P ops Q (o :: rest) a w) : wpList P ops Q (o :: rest) a w := h
section
variable {w : World} {ops : Array Oper} {rest : List Oper} {o : Oper} {a : Act} {Q : Exit → Act → World → Prop}
theorem wpList_build {P : Program} (hgd : o.guard = none) (t : TypeId) (ps : Array (Nat × Operand)) (ho : o.op = .build t ps) (qs : Array (Nat × Value)) (hq : (ps.map fun p => (p.1, a.eval p.2)) = qs) (v : Value) (hb : ∀ w, (Instr.build t qs).run P w = .ok v w)
    (h : wpList P ops Q rest (a.put o.dst v) w) : wpList P ops Q (o :: rest) a w := by
  refine wpList_plain hgd fun K hK => ?_
  have hrun : (execOp a.eval o).run P w = .ok (.value v) w := by
    unfold execOp
    simp only [ho]
    have := hb w
    rw [← hq] at this
    simp [this]
  unfold Oper.wp
  rw [hrun]
  exact hK _ _ h
theorem wpList_alloc_val (hgd : o.guard = none) (d : Tmp) (hdst : o.dst = some d) (ho : o.op = .alloc 39)
    (h : ∀ w', HasV w' w.heap.size 0 (zeros 32) nilS nilS → Below w.heap.size w w' → w'.heap.size = w.heap.size + 1 → wpList Try.prog ops Q rest (a.put (some d) (.pointer (some ⟨w.heap.size, 0, none⟩))) w') : wpList Try.prog ops Q (o :: rest) a w := by
  refine wpList_plain hgd fun K hK => ?_
  have hzv : ∀ w, (zeroValue 39).run Try.prog w = .ok (.agg (valL 0 (zeros 32) nilS nilS).toArray) w := by
    intro w
    have hz := zeroVal
    cases hq : Try.prog.info? 39 with
    | none => rw [hq] at hz; cases hz
    | some i => rw [hq] at hz; simp only [Option.map_some, Option.some.injEq, Prod.mk.injEq] at hz; simp [zeroValue, typeInfo, hq, hz.1]
  have := h (w.alloc (.cells (valL 0 (zeros 32) nilS nilS).toArray 39)) (heap_alloc_new w _) ((Below.refl _ _).alloc (Nat.le_refl _) _) (by simp)
  unfold Oper.wp
  simp only [execOp, ho, Instr.alloc]
  simp [hzv, newVar, newRow, newObj, Value.cells, go_sem]
  rw [← hdst] at this
  exact hK _ _ this
theorem wpList_store_val (hgd : o.guard = none) (x y : Operand) (ho : o.op = .store 39 x y) (g n : Nat) (r : List Nat) (sb sk : Value) (hx : a.eval x = .pointer (some ⟨g, 0, none⟩)) (hy : a.eval y = .agg (valL n r sb sk).toArray) (hl : r.length = 32) (h1 : isSl sb) (h2 : isSl sk)
    (n0 : Nat) (r0 : List Nat) (sb0 sk0 : Value) (hg : HasV w g n0 r0 sb0 sk0) (hl0 : r0.length = 32)
    (h : ∀ w', HasV w' g n r sb sk → Only g w w' → wpList Try.prog ops Q rest (a.put o.dst undef) w') : wpList Try.prog ops Q (o :: rest) a w := by
  refine wpList_store_row hgd _ x y ho g (valL n r sb sk).toArray hx hy _ _ hg (by rw [sizeVal]; simp [valL_length _ _ _ _ hl]) (by simp [valL_length _ _ _ _ hl, valL_length _ _ _ _ hl0]) (valL_oneC _ _ _ _ h1 h2) ?_
  exact h _ (setRow_heap w g _ _ _ _ hg) (Only.setRow w g _)
theorem wpList_load_val (hgd : o.guard = none) (x : Operand) (ho : o.op = .load 39 x) (g n : Nat) (r : List Nat) (sb sk : Value) (hx : a.eval x = .pointer (some ⟨g, 0, none⟩)) (hl : r.length = 32) (hg : HasV w g n r sb sk)
    (h : wpList Try.prog ops Q rest (a.put o.dst (.agg (valL n r sb sk).toArray)) w) : wpList Try.prog ops Q (o :: rest) a w :=
  wpList_load_row hgd _ x ho g hx _ _ _ _ hg Try.underlying39 rfl (by rw [sizeVal]; simp [valL_length _ _ _ _ hl]) h
end
theorem results_val {fn : Func} {p s : Tmp} (h : fn.results = #[.cell p 39, .tmp s]) (tmps : Array Value) (w : World) (g n : Nat) (r : List Nat) (sb sk : Value) (v : Value)
    (hp : tmps.getD p undef = .pointer (some ⟨g, 0, none⟩)) (hs : tmps.getD s undef = v) (hg : HasV w g n r sb sk) (hl : r.length = 32) :
    (results fn tmps).run Try.prog w = .ok (.tuple #[.agg (valL n r sb sk).toArray, v]) w := by
  have hp' : tmps[p]?.getD undef = .pointer (some ⟨g, 0, none⟩) := by simpa using hp
  have hs' : tmps[s]?.getD undef = v := by simpa using hs
  simp [results, h, hp', hs', asAddr, run_loadVar_row w g _ _ (valL n r sb sk).toArray (0, 0) _ hg Try.underlying39 rfl (by rw [sizeVal]; simp [valL_length _ _ _ _ hl])]
/-- A value of bits alone. -/
def bitsV (l : List Bool) : Vt := .mk 0 (zeros 32) l []
def zeroV : Vt := bitsV []
theorem isT_nil (w : World) : IsT w nilS [] := ⟨none, 0, rfl, Nat.le_refl _, by decide, .inl rfl⟩
theorem IsT.sl {w : World} {v : Value} {l : List Bool} (h : IsT w v l) : isSl v := by obtain ⟨ao, cap, rfl, _⟩ := h; exact trivial
theorem vAt_bits {w : World} {v : Value} {l : List Bool} (h : IsT w v l) : VAt w (bitsV l) v nilS := by
  unfold bitsV
  rw [VAt]
  exact ⟨⟨by decide, zeros32, zeros_byte 32⟩, h, none, 0, rfl, Nat.le_refl _, by decide, .inl rfl⟩
theorem isV_bits {w : World} {v : Value} {l : List Bool} (h : IsT w v l) : IsV w (.agg (valL 0 (zeros 32) v nilS).toArray) (bitsV l) := ⟨v, nilS, rfl, vAt_bits h⟩
theorem isV_zero (w : World) : IsV w (.agg (valL 0 (zeros 32) nilS nilS).toArray) zeroV := isV_bits (isT_nil w)
end Go.Proofs.Ytckmdofmplkdfaa
