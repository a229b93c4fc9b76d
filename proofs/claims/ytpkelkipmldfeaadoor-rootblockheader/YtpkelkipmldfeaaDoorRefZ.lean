/- Contracts of the document's Zero and Depth. -/
import Derived.Test.YtpkelkipmldfeaaDoorRefPair
namespace Go.Proofs.YtpkelkipmldfeaaDoor
set_option maxRecDepth 100000
open Go.RowKit
set_option linter.unusedVariables false

theorem Tryd.root26 : (Tryd.prog.info? 23).map (fun i => (i.zero, i.size, i.bytes)) = some (some (.agg (nums .u8 (zeros 32))), 32, 32) := by kernel_rfl

end Go.Proofs.YtpkelkipmldfeaaDoor
