/- The document's Same. -/
import Derived.Test.YtckmdofmplkdfaaVals
import Derived.Test.YtckmdofmplkdfaaCls
import Derived.Test.YtckmdofmplkdfaaEqlB
namespace Go.Proofs.Ytckmdofmplkdfaa
open Go.RowKit
set_option linter.unusedVariables false
set_option maxRecDepth 100000

theorem eql_cellsB (l m : List Nat) (hl : l.length = 32) (hm : m.length = 32) (bl : ∀ z ∈ l, z < 256) (bm : ∀ z ∈ m, z < 256) (w : World) :
    (Op.equalIn 10000 35 (.agg (cellsB l).toArray) (.agg (cellsB m).toArray)).run Try.prog w = .ok (decide (l = m)) w := by
  show (Op.equalIn 10000 35 (.agg (nums .u8 l)) (.agg (nums .u8 m))).run Try.prog w = .ok (decide (l = m)) w
  rw [nums_cells l bl, nums_cells m bm, run_equalIn_bytes w 9998 35 5 32 Try.underlying35 Try.underlying5 sizeOf_u8 _ _ (by simpa using hl) (by simpa using hm), ofNat_inj l m bl bm]
theorem size32 : (Try.prog.info? 35).map (·.size) = some 32 := by kernel_rfl
theorem sizeVal : (Try.prog.info? 39).map (·.size) = some 35 := by kernel_rfl

section
variable {P : Program} {w : World} {ops : Array Oper} {rest : List Oper} {o : Oper} {a : Act} {Q : Exit → Act → World → Prop}
/-- A copy of an array or a struct that came by value. -/
theorem wpList_box_row (hgd : o.guard = none) (d : Tmp) (hdst : o.dst = some d) (t : TypeId) (x : Operand) (ho : o.op = .box t x) (cs : Array Value) (hx : a.eval x = .agg cs)
    (h : ∀ w', w'.heap[w.heap.size]? = some (.cells cs t (0, 0)) → Below w.heap.size w w' → w'.heap.size = w.heap.size + 1 → wpList P ops Q rest (a.put (some d) (.pointer (some ⟨w.heap.size, 0, none⟩))) w') :
    wpList P ops Q (o :: rest) a w := by
  refine wpList_plain hgd fun K hK => ?_
  have := h (w.alloc (.cells cs t)) (heap_alloc_new w _) ((Below.refl _ _).alloc (Nat.le_refl _) _) (by simp)
  unfold Oper.wp
  simp only [execOp, ho, hx, Instr.box]
  simp [newVar, newRow, newObj, Value.cells, go_sem]
  rw [← hdst] at this
  exact hK _ _ this
end
/-- The cells of a value that was boxed. -/
structure Boxed (w : World) (g : Nat) (n : Nat) (r : List Nat) (sb sk : Value) : Prop where
  all : w.rangeAt g 0 (valL n r sb sk)
  len : r.length = 32
theorem Boxed.c0 {w : World} {g n : Nat} {r : List Nat} {sb sk : Value} (h : Boxed w g n r sb sk) : w.cell? ⟨g, 0, none⟩ = some (.int .u64 (n : Nat)) := by have := h.all 0 _ (valL_0 _ _ _ _); simpa using this
theorem Boxed.c33 {w : World} {g n : Nat} {r : List Nat} {sb sk : Value} (h : Boxed w g n r sb sk) : w.cell? ⟨g, 33, none⟩ = some sb := by have := h.all 33 _ (valL_33 _ _ _ _ h.len); simpa using this
theorem Boxed.c34 {w : World} {g n : Nat} {r : List Nat} {sb sk : Value} (h : Boxed w g n r sb sk) : w.cell? ⟨g, 34, none⟩ = some sk := by have := h.all 34 _ (valL_34 _ _ _ _ h.len); simpa using this
theorem Boxed.root {w : World} {g n : Nat} {r : List Nat} {sb sk : Value} (h : Boxed w g n r sb sk) : w.rangeAt g 1 (cellsB r) := fun j v hv => by
  have := h.all (1 + j) v (valL_root _ _ _ _ _ _ hv)
  simpa using this
theorem Boxed.keep {w w' : World} {g n : Nat} {r : List Nat} {sb sk : Value} (h : Boxed w g n r sb sk) (hb : Below w.heap.size w w') : Boxed w' g n r sb sk := ⟨rangeAt_keep h.all hb, h.len⟩
theorem Boxed.new {w : World} {g n : Nat} {r : List Nat} {sb sk : Value} {t : TypeId} (h : w.heap[g]? = some (.cells (valL n r sb sk).toArray t (0, 0))) (hl : r.length = 32) : Boxed w g n r sb sk := by
  refine ⟨fun j v hv => ?_, hl⟩
  rw [Nat.zero_add, cell_of_row w g j _ t (0, 0) h]
  simpa using hv

theorem sameK_len {a b : List Vt} (h : sameK a b = true) : a.length = b.length := by rw [(sameK_iff a b).1 h]
theorem sameV_false_num {n n' : Nat} {r r' : List Nat} {b b' : List Bool} {k k' : List Vt} (h : n ≠ n') : sameV (.mk n r b k) (.mk n' r' b' k') = false := by
  rw [← Bool.not_eq_true, sameV_iff]; simp [h]
theorem sameV_false {a b : Vt} (h : a ≠ b) : sameV a b = false := by
  rw [← Bool.not_eq_true, sameV_iff]; exact h

end Go.Proofs.Ytckmdofmplkdfaa
