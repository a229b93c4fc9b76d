/-
  DERIVED. GIVEN WITH THE SEED: THE CARDS: each row of YtakdokccdkhcoaaDoorRows.lean that lists a variable, with what it lists TIED to the program's text (the seventh form; the later family's looks); each row that meets fmt, with fmt's text TOLD by the authors' own Lean function (tested against real Go, not proved from fmt's source: count such statements apart). THE CARD IS WHAT COUNTS. Prove the row's statement (the work); the ties are given (YtakdokccdkhcoaaDoorTie.lean); close each card by the builder's one call (the guide's Derived/Test/ToyasCard.lean, 'card_holds'). Laid BY PROGRAM, IN A SANDBOX (cutbox-door.mjs). By AI agents, Wed Nov 11 2026. No macro, syntax, notation, axiom, sorry.
-/
import Derived.Test.YtakdokccdkhcoaaDoorRows
import GoSem.ClaimSeven
namespace Go.Proofs.YtakdokccdkhcoaaDoor
namespace Rows

/-- THE TIED CARD OF 'keystonelaw06.RootCheckpointPair'. -/
def rootCheckpointPairCard : Claim7 := { stood := { row := rootCheckpointPairRow, standIns := [], harness := (true, "7e50246fa106cb571c2d80876dd1f0aab35a84ae60b9f4f8bdd0dcc629365566"), looks := false }, kinds := [], alts := [], laidByText := true, laidKinds := [.data, .data], laidTests := true, laidLooks := .later }
def RootCheckpointPairCardSaid : Prop := Claim7.holds Tryd.pinned (.plain (OpenSpec.ofChange rootCheckpointPairSpec)) rootCheckpointPairCard

/-- THE TIED CARD OF 'keystonelaw06.RootCheckpoints'. -/
def rootCheckpointsCard : Claim7 := { stood := { row := rootCheckpointsRow, standIns := [], harness := (true, "7e50246fa106cb571c2d80876dd1f0aab35a84ae60b9f4f8bdd0dcc629365566"), looks := false }, kinds := [], alts := [], laidByText := true, laidKinds := [.data, .data], laidTests := true, laidLooks := .later }
def RootCheckpointsCardSaid : Prop := Claim7.holds Tryd.pinned (.plain (OpenSpec.ofChange rootCheckpointsSpec)) rootCheckpointsCard

/-- THE TIED CARD OF 'keystonelaw06.RootHeaders'. -/
def rootHeadersCard : Claim7 := { stood := { row := rootHeadersRow, standIns := [], harness := (true, "7e50246fa106cb571c2d80876dd1f0aab35a84ae60b9f4f8bdd0dcc629365566"), looks := false }, kinds := [], alts := [], laidByText := true, laidKinds := [.data, .data], laidTests := true, laidLooks := .later }
def RootHeadersCardSaid : Prop := Claim7.holds Tryd.pinned (.plain (OpenSpec.ofChange rootHeadersSpec)) rootHeadersCard

/-- THE TIED CARD OF 'keystonelaw06.RootVotes'. -/
def rootVotesCard : Claim7 := { stood := { row := rootVotesRow, standIns := [], harness := (true, "7e50246fa106cb571c2d80876dd1f0aab35a84ae60b9f4f8bdd0dcc629365566"), looks := false }, kinds := [], alts := [], laidByText := true, laidKinds := [.data, .data], laidTests := true, laidLooks := .later }
def RootVotesCardSaid : Prop := Claim7.holds Tryd.pinned (.plain (OpenSpec.ofChange rootVotesSpec)) rootVotesCard

/-- THE TIED CARD OF 'keystonelaw06.RootExits'. -/
def rootExitsCard : Claim7 := { stood := { row := rootExitsRow, standIns := [], harness := (true, "7e50246fa106cb571c2d80876dd1f0aab35a84ae60b9f4f8bdd0dcc629365566"), looks := false }, kinds := [], alts := [], laidByText := true, laidKinds := [.data, .data], laidTests := true, laidLooks := .later }
def RootExitsCardSaid : Prop := Claim7.holds Tryd.pinned (.plain (OpenSpec.ofChange rootExitsSpec)) rootExitsCard

/-- THE TIED CARD OF 'keystonelaw06.RootValidators'. -/
def rootValidatorsCard : Claim7 := { stood := { row := rootValidatorsRow, standIns := [], harness := (true, "7e50246fa106cb571c2d80876dd1f0aab35a84ae60b9f4f8bdd0dcc629365566"), looks := false }, kinds := [], alts := [], laidByText := true, laidKinds := [.data, .data], laidTests := true, laidLooks := .later }
def RootValidatorsCardSaid : Prop := Claim7.holds Tryd.pinned (.plain (OpenSpec.ofChange rootValidatorsSpec)) rootValidatorsCard

/-- THE SECOND FORM's CARD OF 'keystonelaw06.RootCheckpointPair'. -/
def rootCheckpointPairUptoCard : Claim7 := { stood := { row := rootCheckpointPairUptoRow, standIns := [], harness := (true, "7e50246fa106cb571c2d80876dd1f0aab35a84ae60b9f4f8bdd0dcc629365566"), looks := false }, kinds := [], alts := [], laidByText := true, laidKinds := [.data, .data], laidTests := true, laidLooks := .later }
def RootCheckpointPairUptoCardSaid : Prop := Claim7.holds Tryd.pinned (.plain (OpenSpec.upto rootCheckpointPairSpec)) rootCheckpointPairUptoCard

/-- THE SECOND FORM's CARD OF 'keystonelaw06.RootCheckpoints'. -/
def rootCheckpointsUptoCard : Claim7 := { stood := { row := rootCheckpointsUptoRow, standIns := [], harness := (true, "7e50246fa106cb571c2d80876dd1f0aab35a84ae60b9f4f8bdd0dcc629365566"), looks := false }, kinds := [], alts := [], laidByText := true, laidKinds := [.data, .data], laidTests := true, laidLooks := .later }
def RootCheckpointsUptoCardSaid : Prop := Claim7.holds Tryd.pinned (.plain (OpenSpec.upto rootCheckpointsSpec)) rootCheckpointsUptoCard

/-- THE SECOND FORM's CARD OF 'keystonelaw06.RootHeaders'. -/
def rootHeadersUptoCard : Claim7 := { stood := { row := rootHeadersUptoRow, standIns := [], harness := (true, "7e50246fa106cb571c2d80876dd1f0aab35a84ae60b9f4f8bdd0dcc629365566"), looks := false }, kinds := [], alts := [], laidByText := true, laidKinds := [.data, .data], laidTests := true, laidLooks := .later }
def RootHeadersUptoCardSaid : Prop := Claim7.holds Tryd.pinned (.plain (OpenSpec.upto rootHeadersSpec)) rootHeadersUptoCard

/-- THE SECOND FORM's CARD OF 'keystonelaw06.RootVotes'. -/
def rootVotesUptoCard : Claim7 := { stood := { row := rootVotesUptoRow, standIns := [], harness := (true, "7e50246fa106cb571c2d80876dd1f0aab35a84ae60b9f4f8bdd0dcc629365566"), looks := false }, kinds := [], alts := [], laidByText := true, laidKinds := [.data, .data], laidTests := true, laidLooks := .later }
def RootVotesUptoCardSaid : Prop := Claim7.holds Tryd.pinned (.plain (OpenSpec.upto rootVotesSpec)) rootVotesUptoCard

/-- THE SECOND FORM's CARD OF 'keystonelaw06.RootExits'. -/
def rootExitsUptoCard : Claim7 := { stood := { row := rootExitsUptoRow, standIns := [], harness := (true, "7e50246fa106cb571c2d80876dd1f0aab35a84ae60b9f4f8bdd0dcc629365566"), looks := false }, kinds := [], alts := [], laidByText := true, laidKinds := [.data, .data], laidTests := true, laidLooks := .later }
def RootExitsUptoCardSaid : Prop := Claim7.holds Tryd.pinned (.plain (OpenSpec.upto rootExitsSpec)) rootExitsUptoCard

/-- THE SECOND FORM's CARD OF 'keystonelaw06.RootValidators'. -/
def rootValidatorsUptoCard : Claim7 := { stood := { row := rootValidatorsUptoRow, standIns := [], harness := (true, "7e50246fa106cb571c2d80876dd1f0aab35a84ae60b9f4f8bdd0dcc629365566"), looks := false }, kinds := [], alts := [], laidByText := true, laidKinds := [.data, .data], laidTests := true, laidLooks := .later }
def RootValidatorsUptoCardSaid : Prop := Claim7.holds Tryd.pinned (.plain (OpenSpec.upto rootValidatorsSpec)) rootValidatorsUptoCard
end Rows
end Go.Proofs.YtakdokccdkhcoaaDoor
