/-
  DERIVED. GIVEN WITH THE SEED: THE CARDS: each row of YthodofnebonpfaaDoorRows.lean that lists a variable, with what it lists TIED to the program's text (the seventh form; the later family's looks); each row that meets fmt, with fmt's text TOLD by the authors' own Lean function (tested against real Go, not proved from fmt's source: count such statements apart). THE CARD IS WHAT COUNTS. Prove the row's statement (the work); the ties are given (YthodofnebonpfaaDoorTie.lean); close each card by the builder's one call (the guide's Derived/Test/ToyasCard.lean, 'card_holds'). Laid BY PROGRAM, IN A SANDBOX (cutbox-door.mjs). By AI agents, Wed Nov 11 2026. No macro, syntax, notation, axiom, sorry.
-/
import Derived.Test.YthodofnebonpfaaDoorRows
import GoSem.ClaimSeven
namespace Go.Proofs.YthodofnebonpfaaDoor
namespace Rows

/-- THE TIED CARD OF 'keystonelaw06.RootAttestations'. -/
def rootAttestationsCard : Claim7 := { stood := { row := rootAttestationsRow, standIns := [], harness := (true, "8c849c28b6c755ee8e8331903a9c13b95bfc3cc1e6410baa15cd25a92677955c"), looks := false }, kinds := [], alts := [], laidByText := true, laidKinds := [.data, .data], laidTests := true, laidLooks := .later }
def RootAttestationsCardSaid : Prop := Claim7.holds Tryd.pinned (.plain (OpenSpec.ofChange rootAttestationsSpec)) rootAttestationsCard

/-- THE TIED CARD OF 'keystonelaw06.RootPendings'. -/
def rootPendingsCard : Claim7 := { stood := { row := rootPendingsRow, standIns := [], harness := (true, "8c849c28b6c755ee8e8331903a9c13b95bfc3cc1e6410baa15cd25a92677955c"), looks := false }, kinds := [], alts := [], laidByText := true, laidKinds := [.data, .data], laidTests := true, laidLooks := .later }
def RootPendingsCardSaid : Prop := Claim7.holds Tryd.pinned (.plain (OpenSpec.ofChange rootPendingsSpec)) rootPendingsCard

/-- THE TIED CARD OF 'keystonelaw06.RootIndexed'. -/
def rootIndexedCard : Claim7 := { stood := { row := rootIndexedRow, standIns := [], harness := (true, "8c849c28b6c755ee8e8331903a9c13b95bfc3cc1e6410baa15cd25a92677955c"), looks := false }, kinds := [], alts := [], laidByText := true, laidKinds := [.data, .data], laidTests := true, laidLooks := .later }
def RootIndexedCardSaid : Prop := Claim7.holds Tryd.pinned (.plain (OpenSpec.ofChange rootIndexedSpec)) rootIndexedCard

/-- THE TIED CARD OF 'keystonelaw06.RootAttesterSlashings'. -/
def rootAttesterSlashingsCard : Claim7 := { stood := { row := rootAttesterSlashingsRow, standIns := [], harness := (true, "8c849c28b6c755ee8e8331903a9c13b95bfc3cc1e6410baa15cd25a92677955c"), looks := false }, kinds := [], alts := [], laidByText := true, laidKinds := [.data, .data], laidTests := true, laidLooks := .later }
def RootAttesterSlashingsCardSaid : Prop := Claim7.holds Tryd.pinned (.plain (OpenSpec.ofChange rootAttesterSlashingsSpec)) rootAttesterSlashingsCard

/-- THE SECOND FORM's CARD OF 'keystonelaw06.RootAttestations'. -/
def rootAttestationsUptoCard : Claim7 := { stood := { row := rootAttestationsUptoRow, standIns := [], harness := (true, "8c849c28b6c755ee8e8331903a9c13b95bfc3cc1e6410baa15cd25a92677955c"), looks := false }, kinds := [], alts := [], laidByText := true, laidKinds := [.data, .data], laidTests := true, laidLooks := .later }
def RootAttestationsUptoCardSaid : Prop := Claim7.holds Tryd.pinned (.plain (OpenSpec.upto rootAttestationsSpec)) rootAttestationsUptoCard

/-- THE SECOND FORM's CARD OF 'keystonelaw06.RootPendings'. -/
def rootPendingsUptoCard : Claim7 := { stood := { row := rootPendingsUptoRow, standIns := [], harness := (true, "8c849c28b6c755ee8e8331903a9c13b95bfc3cc1e6410baa15cd25a92677955c"), looks := false }, kinds := [], alts := [], laidByText := true, laidKinds := [.data, .data], laidTests := true, laidLooks := .later }
def RootPendingsUptoCardSaid : Prop := Claim7.holds Tryd.pinned (.plain (OpenSpec.upto rootPendingsSpec)) rootPendingsUptoCard

/-- THE SECOND FORM's CARD OF 'keystonelaw06.RootIndexed'. -/
def rootIndexedUptoCard : Claim7 := { stood := { row := rootIndexedUptoRow, standIns := [], harness := (true, "8c849c28b6c755ee8e8331903a9c13b95bfc3cc1e6410baa15cd25a92677955c"), looks := false }, kinds := [], alts := [], laidByText := true, laidKinds := [.data, .data], laidTests := true, laidLooks := .later }
def RootIndexedUptoCardSaid : Prop := Claim7.holds Tryd.pinned (.plain (OpenSpec.upto rootIndexedSpec)) rootIndexedUptoCard

/-- THE SECOND FORM's CARD OF 'keystonelaw06.RootAttesterSlashings'. -/
def rootAttesterSlashingsUptoCard : Claim7 := { stood := { row := rootAttesterSlashingsUptoRow, standIns := [], harness := (true, "8c849c28b6c755ee8e8331903a9c13b95bfc3cc1e6410baa15cd25a92677955c"), looks := false }, kinds := [], alts := [], laidByText := true, laidKinds := [.data, .data], laidTests := true, laidLooks := .later }
def RootAttesterSlashingsUptoCardSaid : Prop := Claim7.holds Tryd.pinned (.plain (OpenSpec.upto rootAttesterSlashingsSpec)) rootAttesterSlashingsUptoCard
end Rows
end Go.Proofs.YthodofnebonpfaaDoor
