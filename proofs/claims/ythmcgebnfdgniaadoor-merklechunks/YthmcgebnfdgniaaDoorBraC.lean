/- Contract of merkle's Branch. -/
import Derived.Test.YthmcgebnfdgniaaDoorShift
namespace Go.Proofs.YthmcgebnfdgniaaDoor
set_option maxRecDepth 100000
open Go.RowKit
set_option linter.unusedVariables false

abbrev braR (rs : List (List Nat)) (i k : Nat) : List (List Nat) := branch pr (zeros 32) rs i k
theorem braR_at (rs : List (List Nat)) (i k t : Nat) (ht : t < k) : (braR rs i k).getD t [] = (lvl rs t).getD (i / 2 ^ t ^^^ 1) (zUp t) := by
  have : (braR rs i k).getD t [] = beside pr (zeros 32) rs i t := by
    unfold braR branch
    simp [ht]
  rw [this, beside_levels]
end Go.Proofs.YthmcgebnfdgniaaDoor
