/-
  DERIVED. GIVEN WITH THE SEED: THE CARDS: each row of YtfmecdmkepnlmaaDoorRows.lean that lists a variable, with what it lists TIED to the program's text (the seventh form; the later family's looks); each row that meets fmt, with fmt's text TOLD by the authors' own Lean function (tested against real Go, not proved from fmt's source: count such statements apart). THE CARD IS WHAT COUNTS. Prove the row's statement (the work); the ties are given (YtfmecdmkepnlmaaDoorTie.lean); close each card by the builder's one call (the guide's Derived/Test/ToyasCard.lean, 'card_holds'). Laid BY PROGRAM, IN A SANDBOX (cutbox-door.mjs). By AI agents, Wed Nov 11 2026. No macro, syntax, notation, axiom, sorry.
-/
import Derived.Test.YtfmecdmkepnlmaaDoorRows
import GoSem.ClaimSeven
namespace Go.Proofs.YtfmecdmkepnlmaaDoor
namespace Rows

/-- THE TIED CARD OF 'keystonelaw06.RootIndexed'. -/
def rootIndexedCard : Claim7 := { stood := { row := rootIndexedRow, standIns := [], harness := (true, "03d8bb6ffc26d1b40937e55023dbc9100f4b27dbbd549a83800ed59b442a8ff9"), looks := false }, kinds := [], alts := [], laidByText := true, laidKinds := [.data, .data], laidTests := true, laidLooks := .later }
def RootIndexedCardSaid : Prop := Claim7.holds Tryd.pinned (.plain (OpenSpec.ofChange rootIndexedSpec)) rootIndexedCard

/-- THE TIED CARD OF 'keystonelaw06.RootAttesterSlashings'. -/
def rootAttesterSlashingsCard : Claim7 := { stood := { row := rootAttesterSlashingsRow, standIns := [], harness := (true, "03d8bb6ffc26d1b40937e55023dbc9100f4b27dbbd549a83800ed59b442a8ff9"), looks := false }, kinds := [], alts := [], laidByText := true, laidKinds := [.data, .data], laidTests := true, laidLooks := .later }
def RootAttesterSlashingsCardSaid : Prop := Claim7.holds Tryd.pinned (.plain (OpenSpec.ofChange rootAttesterSlashingsSpec)) rootAttesterSlashingsCard

/-- THE TIED CARD OF 'keystonelaw06.RootDeposits'. -/
def rootDepositsCard : Claim7 := { stood := { row := rootDepositsRow, standIns := [], harness := (true, "03d8bb6ffc26d1b40937e55023dbc9100f4b27dbbd549a83800ed59b442a8ff9"), looks := false }, kinds := [], alts := [], laidByText := true, laidKinds := [.data, .data], laidTests := true, laidLooks := .later }
def RootDepositsCardSaid : Prop := Claim7.holds Tryd.pinned (.plain (OpenSpec.ofChange rootDepositsSpec)) rootDepositsCard

/-- THE TIED CARD OF 'keystonelaw06.RootParts'. -/
def rootPartsCard : Claim7 := { stood := { row := rootPartsRow, standIns := [], harness := (true, "03d8bb6ffc26d1b40937e55023dbc9100f4b27dbbd549a83800ed59b442a8ff9"), looks := false }, kinds := [], alts := [], laidByText := true, laidKinds := [.data, .data], laidTests := true, laidLooks := .later }
def RootPartsCardSaid : Prop := Claim7.holds Tryd.pinned (.plain (OpenSpec.ofChange rootPartsSpec)) rootPartsCard

/-- THE SECOND FORM's CARD OF 'keystonelaw06.RootIndexed'. -/
def rootIndexedUptoCard : Claim7 := { stood := { row := rootIndexedUptoRow, standIns := [], harness := (true, "03d8bb6ffc26d1b40937e55023dbc9100f4b27dbbd549a83800ed59b442a8ff9"), looks := false }, kinds := [], alts := [], laidByText := true, laidKinds := [.data, .data], laidTests := true, laidLooks := .later }
def RootIndexedUptoCardSaid : Prop := Claim7.holds Tryd.pinned (.plain (OpenSpec.upto rootIndexedSpec)) rootIndexedUptoCard

/-- THE SECOND FORM's CARD OF 'keystonelaw06.RootAttesterSlashings'. -/
def rootAttesterSlashingsUptoCard : Claim7 := { stood := { row := rootAttesterSlashingsUptoRow, standIns := [], harness := (true, "03d8bb6ffc26d1b40937e55023dbc9100f4b27dbbd549a83800ed59b442a8ff9"), looks := false }, kinds := [], alts := [], laidByText := true, laidKinds := [.data, .data], laidTests := true, laidLooks := .later }
def RootAttesterSlashingsUptoCardSaid : Prop := Claim7.holds Tryd.pinned (.plain (OpenSpec.upto rootAttesterSlashingsSpec)) rootAttesterSlashingsUptoCard

/-- THE SECOND FORM's CARD OF 'keystonelaw06.RootDeposits'. -/
def rootDepositsUptoCard : Claim7 := { stood := { row := rootDepositsUptoRow, standIns := [], harness := (true, "03d8bb6ffc26d1b40937e55023dbc9100f4b27dbbd549a83800ed59b442a8ff9"), looks := false }, kinds := [], alts := [], laidByText := true, laidKinds := [.data, .data], laidTests := true, laidLooks := .later }
def RootDepositsUptoCardSaid : Prop := Claim7.holds Tryd.pinned (.plain (OpenSpec.upto rootDepositsSpec)) rootDepositsUptoCard

/-- THE SECOND FORM's CARD OF 'keystonelaw06.RootParts'. -/
def rootPartsUptoCard : Claim7 := { stood := { row := rootPartsUptoRow, standIns := [], harness := (true, "03d8bb6ffc26d1b40937e55023dbc9100f4b27dbbd549a83800ed59b442a8ff9"), looks := false }, kinds := [], alts := [], laidByText := true, laidKinds := [.data, .data], laidTests := true, laidLooks := .later }
def RootPartsUptoCardSaid : Prop := Claim7.holds Tryd.pinned (.plain (OpenSpec.upto rootPartsSpec)) rootPartsUptoCard
end Rows
end Go.Proofs.YtfmecdmkepnlmaaDoor
