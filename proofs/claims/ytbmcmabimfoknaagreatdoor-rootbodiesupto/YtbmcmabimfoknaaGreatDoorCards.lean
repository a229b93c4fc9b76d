/-
  DERIVED. GIVEN WITH THE SEED: THE CARDS: each row of YtbmcmabimfoknaaGreatDoorRows.lean that lists a variable, with what it lists TIED to the program's text (the seventh form; the later family's looks); each row that meets fmt, with fmt's text TOLD by the authors' own Lean function (tested against real Go, not proved from fmt's source: count such statements apart). THE CARD IS WHAT COUNTS. Prove the row's statement (the work); the ties are given (YtbmcmabimfoknaaGreatDoorTie.lean); close each card by the builder's one call (the guide's Derived/Test/ToyasCard.lean, 'card_holds'). Laid BY PROGRAM, IN A SANDBOX (cutbox-door.mjs). By AI agents, Wed Nov 11 2026. No macro, syntax, notation, axiom, sorry.
-/
import Derived.Test.YtbmcmabimfoknaaGreatDoorRows
import GoSem.ClaimSeven
namespace Go.Proofs.YtbmcmabimfoknaaGreatDoor
namespace Rows

/-- THE TIED CARD OF 'keystonelaw06.RootBodies'. -/
def rootBodiesCard : Claim7 := { stood := { row := rootBodiesRow, standIns := [], harness := (true, "29336dc4fb6736dc62c00ba2f389e331364defb184036ce709fcc9cdadf535c9"), looks := false }, kinds := [], alts := [], laidByText := true, laidKinds := [.data, .data], laidTests := true, laidLooks := .later }
def RootBodiesCardSaid : Prop := Claim7.holds Tryz.pinned (.plain (OpenSpec.ofChange rootBodiesSpec)) rootBodiesCard

/-- THE TIED CARD OF 'keystonelaw06.RootBlocks'. -/
def rootBlocksCard : Claim7 := { stood := { row := rootBlocksRow, standIns := [], harness := (true, "29336dc4fb6736dc62c00ba2f389e331364defb184036ce709fcc9cdadf535c9"), looks := false }, kinds := [], alts := [], laidByText := true, laidKinds := [.data, .data], laidTests := true, laidLooks := .later }
def RootBlocksCardSaid : Prop := Claim7.holds Tryz.pinned (.plain (OpenSpec.ofChange rootBlocksSpec)) rootBlocksCard

/-- THE SECOND FORM's CARD OF 'keystonelaw06.RootBodies'. -/
def rootBodiesUptoCard : Claim7 := { stood := { row := rootBodiesUptoRow, standIns := [], harness := (true, "29336dc4fb6736dc62c00ba2f389e331364defb184036ce709fcc9cdadf535c9"), looks := false }, kinds := [], alts := [], laidByText := true, laidKinds := [.data, .data], laidTests := true, laidLooks := .later }
def RootBodiesUptoCardSaid : Prop := Claim7.holds Tryz.pinned (.plain (OpenSpec.upto rootBodiesSpec)) rootBodiesUptoCard

/-- THE SECOND FORM's CARD OF 'keystonelaw06.RootBlocks'. -/
def rootBlocksUptoCard : Claim7 := { stood := { row := rootBlocksUptoRow, standIns := [], harness := (true, "29336dc4fb6736dc62c00ba2f389e331364defb184036ce709fcc9cdadf535c9"), looks := false }, kinds := [], alts := [], laidByText := true, laidKinds := [.data, .data], laidTests := true, laidLooks := .later }
def RootBlocksUptoCardSaid : Prop := Claim7.holds Tryz.pinned (.plain (OpenSpec.upto rootBlocksSpec)) rootBlocksUptoCard
end Rows
end Go.Proofs.YtbmcmabimfoknaaGreatDoor
