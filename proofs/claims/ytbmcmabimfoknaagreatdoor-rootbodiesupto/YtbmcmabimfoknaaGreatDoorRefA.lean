/- Contract of the document's table of numbers, and a law for array literals. -/
import Derived.Test.YtbmcmabimfoknaaGreatDoorOf
namespace Go.Proofs.YtbmcmabimfoknaaGreatDoor
set_option maxRecDepth 100000
open Go.RowKit
set_option linter.unusedVariables false

/-- An array literal. -/
theorem wpList_build_has {P : Program} {w : World} {ops : Array Oper} {rest : List Oper} {o : Oper} {a : Act} {Q : Exit → Act → World → Prop} (hgd : o.guard = none) (t : TypeId) (parts : Array (Nat × Operand)) (ho : o.op = .build t parts) (k : IntKind) (l : List Nat)
    (hb : P.built t (parts.map fun (i, x) => (i, a.eval x)).toList = some (nums k l))
    (h : wpList P ops Q rest (a.put o.dst (.agg (nums k l))) w) : wpList P ops Q (o :: rest) a w :=
  wpList_build hgd t parts ho (by rw [hb]; rfl) (by rw [hb]; exact h)

set_option maxRecDepth 100000 in
set_option maxHeartbeats 400000 in
theorem numbers_any (w : World) :
    Calls Tryz.prog 108 #[] w fun e w' => e = .returned (.agg (nums .u32 kNums)) ∧ Below w.heap.size w w' := by
  go_enter Tryz.func108, Tryz.ntmps108
  go_wp2_with (first
    | (refine wpList_alloc_has rfl 0 rfl 164 rfl .u32 64 Tryz.zero164 ?_; intro w1 H1 B1 S1)
    | (refine wpList_build_has rfl 164 _ rfl .u32 kNums (by kernel_rfl) ?_)
    | (refine wpList_store_has rfl 164 (.tmp 0) (.tmp 1) rfl w.heap.size .u32 kNums (zeros 64) rfl rfl 164 H1 Tryz.size164 (by rw [zeros_length]; rfl) ?_; intro w2 H2 O2))
  refine bodyPost_ret (results_has rfl _ _ w.heap.size 164 .u32 kNums _ _ rfl H2 Tryz.underlying164 Tryz.size164) rfl ?_
  exact ⟨rfl, below_only B1 O2 (Nat.le_refl _)⟩
end Go.Proofs.YtbmcmabimfoknaaGreatDoor
