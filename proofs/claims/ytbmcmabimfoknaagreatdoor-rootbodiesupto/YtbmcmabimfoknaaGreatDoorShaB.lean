/- Digests are bytes. -/
import Derived.Test.YtbmcmabimfoknaaGreatDoorRoots
namespace Go.Proofs.YtbmcmabimfoknaaGreatDoor
set_option maxRecDepth 100000
open Go.RowKit
theorem joinUp_bytes (hs : List Nat) (i : Nat) : ∀ z ∈ joinUp hs i, z < 256 := by
  induction i with
  | zero => exact zeros_bytes 32
  | succ i ih => exact set_bytes _ _ _ ih (Nat.mod_lt _ (by decide))
theorem sha_bytes (zs : List Nat) : ∀ z ∈ sha zs, z < 256 := joinUp_bytes _ _
end Go.Proofs.YtbmcmabimfoknaaGreatDoor
