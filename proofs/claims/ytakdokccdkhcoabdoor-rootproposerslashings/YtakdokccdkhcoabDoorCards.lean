/-
  DERIVED. GIVEN WITH THE SEED: THE CARDS: each row of YtakdokccdkhcoabDoorRows.lean that lists a variable, with what it lists TIED to the program's text (the seventh form; the later family's looks); each row that meets fmt, with fmt's text TOLD by the authors' own Lean function (tested against real Go, not proved from fmt's source: count such statements apart). THE CARD IS WHAT COUNTS. Prove the row's statement (the work); the ties are given (YtakdokccdkhcoabDoorTie.lean); close each card by the builder's one call (the guide's Derived/Test/ToyasCard.lean, 'card_holds'). Laid BY PROGRAM, IN A SANDBOX (cutbox-door.mjs). By AI agents, Wed Nov 11 2026. No macro, syntax, notation, axiom, sorry.
-/
import Derived.Test.YtakdokccdkhcoabDoorRows
import GoSem.ClaimSeven
namespace Go.Proofs.YtakdokccdkhcoabDoor
namespace Rows

/-- THE TIED CARD OF 'keystonelaw06.RootProposerSlashings'. -/
def rootProposerSlashingsCard : Claim7 := { stood := { row := rootProposerSlashingsRow, standIns := [], harness := (true, "7f17c2bd62961a6a13cf627a1470a60d1088b9e2641870631a15c94302053df2"), looks := false }, kinds := [], alts := [], laidByText := true, laidKinds := [.data, .data], laidTests := true, laidLooks := .later }
def RootProposerSlashingsCardSaid : Prop := Claim7.holds Tryd.pinned (.plain (OpenSpec.ofChange rootProposerSlashingsSpec)) rootProposerSlashingsCard

/-- THE TIED CARD OF 'keystonelaw06.RootDeposits'. -/
def rootDepositsCard : Claim7 := { stood := { row := rootDepositsRow, standIns := [], harness := (true, "7f17c2bd62961a6a13cf627a1470a60d1088b9e2641870631a15c94302053df2"), looks := false }, kinds := [], alts := [], laidByText := true, laidKinds := [.data, .data], laidTests := true, laidLooks := .later }
def RootDepositsCardSaid : Prop := Claim7.holds Tryd.pinned (.plain (OpenSpec.ofChange rootDepositsSpec)) rootDepositsCard

/-- THE SECOND FORM's CARD OF 'keystonelaw06.RootProposerSlashings'. -/
def rootProposerSlashingsUptoCard : Claim7 := { stood := { row := rootProposerSlashingsUptoRow, standIns := [], harness := (true, "7f17c2bd62961a6a13cf627a1470a60d1088b9e2641870631a15c94302053df2"), looks := false }, kinds := [], alts := [], laidByText := true, laidKinds := [.data, .data], laidTests := true, laidLooks := .later }
def RootProposerSlashingsUptoCardSaid : Prop := Claim7.holds Tryd.pinned (.plain (OpenSpec.upto rootProposerSlashingsSpec)) rootProposerSlashingsUptoCard

/-- THE SECOND FORM's CARD OF 'keystonelaw06.RootDeposits'. -/
def rootDepositsUptoCard : Claim7 := { stood := { row := rootDepositsUptoRow, standIns := [], harness := (true, "7f17c2bd62961a6a13cf627a1470a60d1088b9e2641870631a15c94302053df2"), looks := false }, kinds := [], alts := [], laidByText := true, laidKinds := [.data, .data], laidTests := true, laidLooks := .later }
def RootDepositsUptoCardSaid : Prop := Claim7.holds Tryd.pinned (.plain (OpenSpec.upto rootDepositsSpec)) rootDepositsUptoCard
end Rows
end Go.Proofs.YtakdokccdkhcoabDoor
