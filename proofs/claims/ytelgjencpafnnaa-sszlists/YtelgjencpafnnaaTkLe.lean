/- Numbers as eight bytes, there and back. -/
import Derived.Test.YtelgjencpafnnaaLenB
namespace Go.Proofs.Ytelgjencpafnnaa
open Go.RowKit
set_option maxRecDepth 100000

theorem tk_le8 (n : Nat) (h : n < 18446744073709551616) : tk (le n 8) = n := by
  unfold tk
  rw [le_putL]
  exact takeV_put8 n h
end Go.Proofs.Ytelgjencpafnnaa
