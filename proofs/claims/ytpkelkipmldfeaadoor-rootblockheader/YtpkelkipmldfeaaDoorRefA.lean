/- Contract of the document's table of numbers, and a law for array literals. -/
import Derived.Test.YtpkelkipmldfeaaDoorOf
namespace Go.Proofs.YtpkelkipmldfeaaDoor
set_option maxRecDepth 100000
open Go.RowKit
set_option linter.unusedVariables false

/-- An array literal. -/
theorem wpList_build_has {P : Program} {w : World} {ops : Array Oper} {rest : List Oper} {o : Oper} {a : Act} {Q : Exit → Act → World → Prop} (hgd : o.guard = none) (t : TypeId) (parts : Array (Nat × Operand)) (ho : o.op = .build t parts) (k : IntKind) (l : List Nat)
    (hb : P.built t (parts.map fun (i, x) => (i, a.eval x)).toList = some (nums k l))
    (h : wpList P ops Q rest (a.put o.dst (.agg (nums k l))) w) : wpList P ops Q (o :: rest) a w :=
  wpList_build hgd t parts ho (by rw [hb]; rfl) (by rw [hb]; exact h)

end Go.Proofs.YtpkelkipmldfeaaDoor
