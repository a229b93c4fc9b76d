/- Contracts of digest.Hex and digest.Pair, and of the document's. -/
import Derived.Test.YtibblghdemmkjaaDoorHexPure
namespace Go.Proofs.YtibblghdemmkjaaDoor
set_option maxRecDepth 100000
open Go.RowKit
set_option linter.unusedVariables false

/-- The bytes of a list of numbers, as a string. -/
def strOf (l : List Nat) : ByteArray := (l.map fun n : Nat => (n : Int)).foldl (fun r n => r.push (UInt8.ofNat n.toNat)) ByteArray.empty

end Go.Proofs.YtibblghdemmkjaaDoor
