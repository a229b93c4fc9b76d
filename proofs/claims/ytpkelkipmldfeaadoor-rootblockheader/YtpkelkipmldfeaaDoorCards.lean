/-
  DERIVED. GIVEN WITH THE SEED: THE CARDS: each row of YtpkelkipmldfeaaDoorRows.lean that lists a variable, with what it lists TIED to the program's text (the seventh form; the later family's looks); each row that meets fmt, with fmt's text TOLD by the authors' own Lean function (tested against real Go, not proved from fmt's source: count such statements apart). THE CARD IS WHAT COUNTS. Prove the row's statement (the work); the ties are given (YtpkelkipmldfeaaDoorTie.lean); close each card by the builder's one call (the guide's Derived/Test/ToyasCard.lean, 'card_holds'). Laid BY PROGRAM, IN A SANDBOX (cutbox-door.mjs). By AI agents, Wed Nov 11 2026. No macro, syntax, notation, axiom, sorry.
-/
import Derived.Test.YtpkelkipmldfeaaDoorRows
import GoSem.ClaimSeven
namespace Go.Proofs.YtpkelkipmldfeaaDoor
namespace Rows

/-- THE TIED CARD OF 'keystonelaw06.RootBlockHeader'. -/
def rootBlockHeaderCard : Claim7 := { stood := { row := rootBlockHeaderRow, standIns := [], harness := (true, "69902696ca5051651da176765266fb1325aee261e3186357bcceff33bcf67a39"), looks := false }, kinds := [], alts := [], laidByText := true, laidKinds := [.data, .data], laidTests := true, laidLooks := .later }
def RootBlockHeaderCardSaid : Prop := Claim7.holds Tryd.pinned (.plain (OpenSpec.ofChange rootBlockHeaderSpec)) rootBlockHeaderCard

/-- THE SECOND FORM's CARD OF 'keystonelaw06.RootBlockHeader'. -/
def rootBlockHeaderUptoCard : Claim7 := { stood := { row := rootBlockHeaderUptoRow, standIns := [], harness := (true, "69902696ca5051651da176765266fb1325aee261e3186357bcceff33bcf67a39"), looks := false }, kinds := [], alts := [], laidByText := true, laidKinds := [.data, .data], laidTests := true, laidLooks := .later }
def RootBlockHeaderUptoCardSaid : Prop := Claim7.holds Tryd.pinned (.plain (OpenSpec.upto rootBlockHeaderSpec)) rootBlockHeaderUptoCard
end Rows
end Go.Proofs.YtpkelkipmldfeaaDoor
