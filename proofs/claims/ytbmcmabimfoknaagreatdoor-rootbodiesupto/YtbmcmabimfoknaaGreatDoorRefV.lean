/- Contract of the document's Verify. -/
import Derived.Test.YtbmcmabimfoknaaGreatDoorMixD
namespace Go.Proofs.YtbmcmabimfoknaaGreatDoor
set_option maxRecDepth 100000
open Go.RowKit
set_option linter.unusedVariables false

theorem run_at26 {o : Oper} {a : Act} {w : World} (x y : Operand) (ho : o.op = .indexAddr 97 x y) (b off n cap i : Nat) (hx : a.eval x = .slice (some ⟨b, off, none⟩) n cap) (hy : a.eval y = .int .i64 (i : Int)) (hi : i < n) :
    (execOp a.eval o).run Tryz.prog w = .ok (.value (.pointer (some ⟨b, off + 32 * i, none⟩))) w := by
  rw [Nat.mul_comm]
  unfold execOp
  simp only [ho, hx, hy]
  go_simp

end Go.Proofs.YtbmcmabimfoknaaGreatDoor
