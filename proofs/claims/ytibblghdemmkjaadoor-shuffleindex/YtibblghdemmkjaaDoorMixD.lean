/- Contracts of both Mix. -/
import Derived.Test.YtibblghdemmkjaaDoorMixC
namespace Go.Proofs.YtibblghdemmkjaaDoor
set_option maxRecDepth 100000
open Go.RowKit
set_option linter.unusedVariables false

/-- Eight bytes that a call made. -/
def Eight (n : Nat) (v : Value) (w : World) : Prop := ∃ g cap, v = .slice (some ⟨g, 0, none⟩) 8 cap ∧ ∀ i, i < 8 → w.cell? ⟨g, i, none⟩ = some (.int .u8 (byteN n i : Nat))
theorem Eight.keep {n : Nat} {v : Value} {w w' : World} (h : Eight n v w) (hb : Below w.heap.size w w') : Eight n v w' := by
  obtain ⟨g, cap, e, h⟩ := h
  refine ⟨g, cap, e, fun i hi => ?_⟩
  have hlt : g < w.heap.size := block_lt_of_cell (h i hi)
  rw [World.cell?_of_block (w := w) (a := ⟨g, i, none⟩) (hb.block g hlt)]
  exact h i hi

end Go.Proofs.YtibblghdemmkjaaDoor
