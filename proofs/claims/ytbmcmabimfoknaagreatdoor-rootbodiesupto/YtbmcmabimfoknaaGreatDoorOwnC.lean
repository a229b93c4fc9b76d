/- Contracts of the statements' own: a list of its own; and of merkle's Branch. -/
import Derived.Test.YtbmcmabimfoknaaGreatDoorShift
import Derived.Laws.AppendOwnNone
namespace Go.Proofs.YtbmcmabimfoknaaGreatDoor
set_option maxRecDepth 100000
open Go.RowKit
set_option linter.unusedVariables false

theorem own_none (w : World) : (w.alloc (.cells #[] 23)).ownsRow w.heap.size 23 32 (.slice (some ⟨w.heap.size, 0, none⟩) 0 0) 0 (cellsOf []) :=
  ⟨rfl, .inr ⟨w.heap.size, 0, #[], rfl, Nat.le_refl _, heap_alloc_new w _, Nat.le_refl _, Nat.zero_le _, rfl, rfl⟩⟩
theorem below_grownR {w w' : World} {v : Value} {B e n s : Nat} {xs : List Value} {W : World} (hW : Below W.heap.size W w) (hown : w.ownsRow B e s v n xs) (hB : W.heap.size ≤ B) (h : w.grownBy w' v.ownBlock) : Below W.heap.size W w' :=
  hW.grown h hW.size (fun k hk => Nat.le_trans hB (hown.lt k hk).1)

end Go.Proofs.YtbmcmabimfoknaaGreatDoor
