/-
  DERIVED. GIVEN WITH THE SEED: THE CARDS: each row of YtfekefgaahoigaaDoorRows.lean that lists a variable, with what it lists TIED to the program's text (the seventh form; the later family's looks); each row that meets fmt, with fmt's text TOLD by the authors' own Lean function (tested against real Go, not proved from fmt's source: count such statements apart). THE CARD IS WHAT COUNTS. Prove the row's statement (the work); the ties are given (YtfekefgaahoigaaDoorTie.lean); close each card by the builder's one call (the guide's Derived/Test/ToyasCard.lean, 'card_holds'). Laid BY PROGRAM, IN A SANDBOX (cutbox-door.mjs). By AI agents, Wed Nov 11 2026. No macro, syntax, notation, axiom, sorry.
-/
import Derived.Test.YtfekefgaahoigaaDoorRows
import GoSem.ClaimSeven
namespace Go.Proofs.YtfekefgaahoigaaDoor
namespace Rows

/-- THE TIED CARD OF 'keystonelaw03.MerkleTrees'. -/
def merkleTreesCard : Claim7 := { stood := { row := merkleTreesRow, standIns := [], harness := (true, "0533912d42a97616fa085e302008e3d39123ce08e33a1c54bf91d042308b80e6"), looks := false }, kinds := [], alts := [], laidByText := true, laidKinds := [.data, .data], laidTests := true, laidLooks := .later }
def MerkleTreesCardSaid : Prop := Claim7.holds Tryd.pinned (.plain (OpenSpec.ofChange merkleTreesSpec)) merkleTreesCard

/-- THE TIED CARD OF 'keystonelaw03.MerkleChunks'. -/
def merkleChunksCard : Claim7 := { stood := { row := merkleChunksRow, standIns := [], harness := (true, "0533912d42a97616fa085e302008e3d39123ce08e33a1c54bf91d042308b80e6"), looks := false }, kinds := [], alts := [], laidByText := true, laidKinds := [.data, .data], laidTests := true, laidLooks := .later }
def MerkleChunksCardSaid : Prop := Claim7.holds Tryd.pinned (.plain (OpenSpec.ofChange merkleChunksSpec)) merkleChunksCard

/-- THE TIED CARD OF 'keystonelaw03.MerkleBranches'. -/
def merkleBranchesCard : Claim7 := { stood := { row := merkleBranchesRow, standIns := [], harness := (true, "0533912d42a97616fa085e302008e3d39123ce08e33a1c54bf91d042308b80e6"), looks := false }, kinds := [], alts := [], laidByText := true, laidKinds := [.data, .data], laidTests := true, laidLooks := .later }
def MerkleBranchesCardSaid : Prop := Claim7.holds Tryd.pinned (.plain (OpenSpec.ofChange merkleBranchesSpec)) merkleBranchesCard

/-- THE TIED CARD OF 'keystonelaw03.MerkleProves'. -/
def merkleProvesCard : Claim7 := { stood := { row := merkleProvesRow, standIns := [], harness := (true, "0533912d42a97616fa085e302008e3d39123ce08e33a1c54bf91d042308b80e6"), looks := false }, kinds := [], alts := [], laidByText := true, laidKinds := [.data, .data], laidTests := true, laidLooks := .later }
def MerkleProvesCardSaid : Prop := Claim7.holds Tryd.pinned (.plain (OpenSpec.ofChange merkleProvesSpec)) merkleProvesCard

/-- THE TIED CARD OF 'keystonelaw03.MerkleWider'. -/
def merkleWiderCard : Claim7 := { stood := { row := merkleWiderRow, standIns := [], harness := (true, "0533912d42a97616fa085e302008e3d39123ce08e33a1c54bf91d042308b80e6"), looks := false }, kinds := [], alts := [], laidByText := true, laidKinds := [.data, .data], laidTests := true, laidLooks := .later }
def MerkleWiderCardSaid : Prop := Claim7.holds Tryd.pinned (.plain (OpenSpec.ofChange merkleWiderSpec)) merkleWiderCard

/-- THE SECOND FORM's CARD OF 'keystonelaw03.MerkleTrees'. -/
def merkleTreesUptoCard : Claim7 := { stood := { row := merkleTreesUptoRow, standIns := [], harness := (true, "0533912d42a97616fa085e302008e3d39123ce08e33a1c54bf91d042308b80e6"), looks := false }, kinds := [], alts := [], laidByText := true, laidKinds := [.data, .data], laidTests := true, laidLooks := .later }
def MerkleTreesUptoCardSaid : Prop := Claim7.holds Tryd.pinned (.plain (OpenSpec.upto merkleTreesSpec)) merkleTreesUptoCard

/-- THE SECOND FORM's CARD OF 'keystonelaw03.MerkleChunks'. -/
def merkleChunksUptoCard : Claim7 := { stood := { row := merkleChunksUptoRow, standIns := [], harness := (true, "0533912d42a97616fa085e302008e3d39123ce08e33a1c54bf91d042308b80e6"), looks := false }, kinds := [], alts := [], laidByText := true, laidKinds := [.data, .data], laidTests := true, laidLooks := .later }
def MerkleChunksUptoCardSaid : Prop := Claim7.holds Tryd.pinned (.plain (OpenSpec.upto merkleChunksSpec)) merkleChunksUptoCard

/-- THE SECOND FORM's CARD OF 'keystonelaw03.MerkleBranches'. -/
def merkleBranchesUptoCard : Claim7 := { stood := { row := merkleBranchesUptoRow, standIns := [], harness := (true, "0533912d42a97616fa085e302008e3d39123ce08e33a1c54bf91d042308b80e6"), looks := false }, kinds := [], alts := [], laidByText := true, laidKinds := [.data, .data], laidTests := true, laidLooks := .later }
def MerkleBranchesUptoCardSaid : Prop := Claim7.holds Tryd.pinned (.plain (OpenSpec.upto merkleBranchesSpec)) merkleBranchesUptoCard

/-- THE SECOND FORM's CARD OF 'keystonelaw03.MerkleProves'. -/
def merkleProvesUptoCard : Claim7 := { stood := { row := merkleProvesUptoRow, standIns := [], harness := (true, "0533912d42a97616fa085e302008e3d39123ce08e33a1c54bf91d042308b80e6"), looks := false }, kinds := [], alts := [], laidByText := true, laidKinds := [.data, .data], laidTests := true, laidLooks := .later }
def MerkleProvesUptoCardSaid : Prop := Claim7.holds Tryd.pinned (.plain (OpenSpec.upto merkleProvesSpec)) merkleProvesUptoCard

/-- THE SECOND FORM's CARD OF 'keystonelaw03.MerkleWider'. -/
def merkleWiderUptoCard : Claim7 := { stood := { row := merkleWiderUptoRow, standIns := [], harness := (true, "0533912d42a97616fa085e302008e3d39123ce08e33a1c54bf91d042308b80e6"), looks := false }, kinds := [], alts := [], laidByText := true, laidKinds := [.data, .data], laidTests := true, laidLooks := .later }
def MerkleWiderUptoCardSaid : Prop := Claim7.holds Tryd.pinned (.plain (OpenSpec.upto merkleWiderSpec)) merkleWiderUptoCard
end Rows
end Go.Proofs.YtfekefgaahoigaaDoor
