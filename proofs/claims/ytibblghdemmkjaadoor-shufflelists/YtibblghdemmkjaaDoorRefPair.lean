/- Contract of the document's Pair. -/
import Derived.Test.YtibblghdemmkjaaDoorOwnC
namespace Go.Proofs.YtibblghdemmkjaaDoor
set_option maxRecDepth 100000
open Go.RowKit
set_option linter.unusedVariables false

end Go.Proofs.YtibblghdemmkjaaDoor
