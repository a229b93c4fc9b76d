/-
  DERIVED. GIVEN WITH THE SEED: THE CARDS: each row of YtlnjeplifndjgaaDoorRows.lean that lists a variable, with what it lists TIED to the program's text (the seventh form; the later family's looks); each row that meets fmt, with fmt's text TOLD by the authors' own Lean function (tested against real Go, not proved from fmt's source: count such statements apart). THE CARD IS WHAT COUNTS. Prove the row's statement (the work); the ties are given (YtlnjeplifndjgaaDoorTie.lean); close each card by the builder's one call (the guide's Derived/Test/ToyasCard.lean, 'card_holds'). Laid BY PROGRAM, IN A SANDBOX (cutbox-door.mjs). By AI agents, Wed Nov 11 2026. No macro, syntax, notation, axiom, sorry.
-/
import Derived.Test.YtlnjeplifndjgaaDoorRows
import GoSem.ClaimSeven
namespace Go.Proofs.YtlnjeplifndjgaaDoor
namespace Rows

/-- THE TIED CARD OF 'keystonelaw02.DigestSums'. -/
def digestSumsCard : Claim7 := { stood := { row := digestSumsRow, standIns := [], harness := (true, "5eeade3dfd8d06400420e478f9efbf4015adcc843ba32884961136392063049a"), looks := false }, kinds := [], alts := [], laidByText := true, laidKinds := [.data, .data], laidTests := true, laidLooks := .later }
def DigestSumsCardSaid : Prop := Claim7.holds Tryd.pinned (.plain (OpenSpec.ofChange digestSumsSpec)) digestSumsCard

/-- THE TIED CARD OF 'keystonelaw02.DigestEnds'. -/
def digestEndsCard : Claim7 := { stood := { row := digestEndsRow, standIns := [], harness := (true, "5eeade3dfd8d06400420e478f9efbf4015adcc843ba32884961136392063049a"), looks := false }, kinds := [], alts := [], laidByText := true, laidKinds := [.data, .data], laidTests := true, laidLooks := .later }
def DigestEndsCardSaid : Prop := Claim7.holds Tryd.pinned (.plain (OpenSpec.ofChange digestEndsSpec)) digestEndsCard

/-- THE TIED CARD OF 'keystonelaw02.DigestPairs'. -/
def digestPairsCard : Claim7 := { stood := { row := digestPairsRow, standIns := [], harness := (true, "5eeade3dfd8d06400420e478f9efbf4015adcc843ba32884961136392063049a"), looks := false }, kinds := [], alts := [], laidByText := true, laidKinds := [.data, .data], laidTests := true, laidLooks := .later }
def DigestPairsCardSaid : Prop := Claim7.holds Tryd.pinned (.plain (OpenSpec.ofChange digestPairsSpec)) digestPairsCard

/-- THE SECOND FORM's CARD OF 'keystonelaw02.DigestSums'. -/
def digestSumsUptoCard : Claim7 := { stood := { row := digestSumsUptoRow, standIns := [], harness := (true, "5eeade3dfd8d06400420e478f9efbf4015adcc843ba32884961136392063049a"), looks := false }, kinds := [], alts := [], laidByText := true, laidKinds := [.data, .data], laidTests := true, laidLooks := .later }
def DigestSumsUptoCardSaid : Prop := Claim7.holds Tryd.pinned (.plain (OpenSpec.upto digestSumsSpec)) digestSumsUptoCard

/-- THE SECOND FORM's CARD OF 'keystonelaw02.DigestEnds'. -/
def digestEndsUptoCard : Claim7 := { stood := { row := digestEndsUptoRow, standIns := [], harness := (true, "5eeade3dfd8d06400420e478f9efbf4015adcc843ba32884961136392063049a"), looks := false }, kinds := [], alts := [], laidByText := true, laidKinds := [.data, .data], laidTests := true, laidLooks := .later }
def DigestEndsUptoCardSaid : Prop := Claim7.holds Tryd.pinned (.plain (OpenSpec.upto digestEndsSpec)) digestEndsUptoCard

/-- THE SECOND FORM's CARD OF 'keystonelaw02.DigestPairs'. -/
def digestPairsUptoCard : Claim7 := { stood := { row := digestPairsUptoRow, standIns := [], harness := (true, "5eeade3dfd8d06400420e478f9efbf4015adcc843ba32884961136392063049a"), looks := false }, kinds := [], alts := [], laidByText := true, laidKinds := [.data, .data], laidTests := true, laidLooks := .later }
def DigestPairsUptoCardSaid : Prop := Claim7.holds Tryd.pinned (.plain (OpenSpec.upto digestPairsSpec)) digestPairsUptoCard
end Rows
end Go.Proofs.YtlnjeplifndjgaaDoor
