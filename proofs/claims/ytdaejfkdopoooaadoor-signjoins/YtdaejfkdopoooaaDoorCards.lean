/-
  DERIVED. GIVEN WITH THE SEED: THE CARDS: each row of YtdaejfkdopoooaaDoorRows.lean that lists a variable, with what it lists TIED to the program's text (the seventh form; the later family's looks); each row that meets fmt, with fmt's text TOLD by the authors' own Lean function (tested against real Go, not proved from fmt's source: count such statements apart). THE CARD IS WHAT COUNTS. Prove the row's statement (the work); the ties are given (YtdaejfkdopoooaaDoorTie.lean); close each card by the builder's one call (the guide's Derived/Test/ToyasCard.lean, 'card_holds'). Laid BY PROGRAM, IN A SANDBOX (cutbox-door.mjs). By AI agents, Wed Nov 11 2026. No macro, syntax, notation, axiom, sorry.
-/
import Derived.Test.YtdaejfkdopoooaaDoorRows
import GoSem.ClaimSeven
namespace Go.Proofs.YtdaejfkdopoooaaDoor
namespace Rows

/-- THE TIED CARD OF 'keystonelaw07.SignTags'. -/
def signTagsCard : Claim7 := { stood := { row := signTagsRow, standIns := [], harness := (true, "1a52a75a7e120afe868129e9afe768b3e69d716bf68bad84c88228df73e6c9f0"), looks := false }, kinds := [], alts := [], laidByText := true, laidKinds := [.data, .data], laidTests := true, laidLooks := .later }
def SignTagsCardSaid : Prop := Claim7.holds Tryd.pinned (.plain (OpenSpec.ofChange signTagsSpec)) signTagsCard

/-- THE TIED CARD OF 'keystonelaw07.SignJoins'. -/
def signJoinsCard : Claim7 := { stood := { row := signJoinsRow, standIns := [], harness := (true, "1a52a75a7e120afe868129e9afe768b3e69d716bf68bad84c88228df73e6c9f0"), looks := false }, kinds := [], alts := [], laidByText := true, laidKinds := [.data, .data], laidTests := true, laidLooks := .later }
def SignJoinsCardSaid : Prop := Claim7.holds Tryd.pinned (.plain (OpenSpec.ofChange signJoinsSpec)) signJoinsCard

/-- THE SECOND FORM's CARD OF 'keystonelaw07.SignTags'. -/
def signTagsUptoCard : Claim7 := { stood := { row := signTagsUptoRow, standIns := [], harness := (true, "1a52a75a7e120afe868129e9afe768b3e69d716bf68bad84c88228df73e6c9f0"), looks := false }, kinds := [], alts := [], laidByText := true, laidKinds := [.data, .data], laidTests := true, laidLooks := .later }
def SignTagsUptoCardSaid : Prop := Claim7.holds Tryd.pinned (.plain (OpenSpec.upto signTagsSpec)) signTagsUptoCard

/-- THE SECOND FORM's CARD OF 'keystonelaw07.SignJoins'. -/
def signJoinsUptoCard : Claim7 := { stood := { row := signJoinsUptoRow, standIns := [], harness := (true, "1a52a75a7e120afe868129e9afe768b3e69d716bf68bad84c88228df73e6c9f0"), looks := false }, kinds := [], alts := [], laidByText := true, laidKinds := [.data, .data], laidTests := true, laidLooks := .later }
def SignJoinsUptoCardSaid : Prop := Claim7.holds Tryd.pinned (.plain (OpenSpec.upto signJoinsSpec)) signJoinsUptoCard
end Rows
end Go.Proofs.YtdaejfkdopoooaaDoor
