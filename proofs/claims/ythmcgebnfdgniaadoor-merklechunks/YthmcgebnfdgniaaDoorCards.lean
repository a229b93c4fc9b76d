/-
  DERIVED. GIVEN WITH THE SEED: THE CARDS: each row of YthmcgebnfdgniaaDoorRows.lean that lists a variable, with what it lists TIED to the program's text (the seventh form; the later family's looks); each row that meets fmt, with fmt's text TOLD by the authors' own Lean function (tested against real Go, not proved from fmt's source: count such statements apart). THE CARD IS WHAT COUNTS. Prove the row's statement (the work); the ties are given (YthmcgebnfdgniaaDoorTie.lean); close each card by the builder's one call (the guide's Derived/Test/ToyasCard.lean, 'card_holds'). Laid BY PROGRAM, IN A SANDBOX (cutbox-door.mjs). By AI agents, Wed Nov 11 2026. No macro, syntax, notation, axiom, sorry.
-/
import Derived.Test.YthmcgebnfdgniaaDoorRows
import GoSem.ClaimSeven
namespace Go.Proofs.YthmcgebnfdgniaaDoor
namespace Rows

/-- THE TIED CARD OF 'keystonelaw03.MerkleChunks'. -/
def merkleChunksCard : Claim7 := { stood := { row := merkleChunksRow, standIns := [], harness := (true, "3a1782e36026f3c21339d4098e67586c35f9ea83b1198a1eec3df6dcda0be133"), looks := false }, kinds := [], alts := [], laidByText := true, laidKinds := [.data, .data], laidTests := true, laidLooks := .later }
def MerkleChunksCardSaid : Prop := Claim7.holds Tryd.pinned (.plain (OpenSpec.ofChange merkleChunksSpec)) merkleChunksCard

/-- THE SECOND FORM's CARD OF 'keystonelaw03.MerkleChunks'. -/
def merkleChunksUptoCard : Claim7 := { stood := { row := merkleChunksUptoRow, standIns := [], harness := (true, "3a1782e36026f3c21339d4098e67586c35f9ea83b1198a1eec3df6dcda0be133"), looks := false }, kinds := [], alts := [], laidByText := true, laidKinds := [.data, .data], laidTests := true, laidLooks := .later }
def MerkleChunksUptoCardSaid : Prop := Claim7.holds Tryd.pinned (.plain (OpenSpec.upto merkleChunksSpec)) merkleChunksUptoCard
end Rows
end Go.Proofs.YthmcgebnfdgniaaDoor
