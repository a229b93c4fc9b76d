/- Contract of the document's Full. -/
import Derived.Test.YthmcgebnfdgniaaDoorRefZ
namespace Go.Proofs.YthmcgebnfdgniaaDoor
set_option maxRecDepth 100000
open Go.RowKit
set_option linter.unusedVariables false

end Go.Proofs.YthmcgebnfdgniaaDoor
