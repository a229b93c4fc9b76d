/- What layer 5's Awake looks at: plain facts. -/
import Derived.Test.YtpaamhmighgjeaaGreatDecA
namespace Go.Proofs.YtpaamhmighgjeaaGreat
open Go.RowKit Go.Shelf
set_option linter.unusedVariables false
set_option maxRecDepth 100000
theorem awk_bytes : cont ([(putB [] true, true)] ++ (vtF 0 0 (zeros 32) 0 (zeros 32) 0 (zeros 32) ++ rootF [zeros 32])) = 164 :: (zeros 163 ++ [1]) := by kernel_rfl
theorem awk_good : atG (164 :: (zeros 163 ++ [0])) = true := by kernel_rfl
theorem awk_none : takeB ((164 :: (zeros 163 ++ [0])).drop 164) 32 = none := by kernel_rfl
theorem awk_cp : (cont (cpF 0 (zeros 32))).length = 40 := by kernel_rfl
end Go.Proofs.YtpaamhmighgjeaaGreat
