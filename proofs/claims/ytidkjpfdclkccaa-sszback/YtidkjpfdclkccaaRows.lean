/-
  No cell of these rows narrows 'for every input' (looked for: loops, veiled, ifaces, maps, wideKeys, modest, calm, conditions, laid).
  DERIVED. THE GIVEN ROWS OF THIS SEAT. 6 by the template 'for every input the law returns true; each argument reads behind the call as it read before'; 0 by the template 'total and deterministic' (their statements: YtidkjpfdclkccaaTotals.lean).
  GIVEN WITH THE SEED: the statements are not yours to turn. If you find one false, say at which input.
  Laid BY PROGRAM, IN A SANDBOX (cutbox-rows.mjs): the forced cells as the released guide's own fill.sh prints them over the translation 6c2f13b7f903018c… (all of the seat's roots in one cut). By AI agents, Wed Nov 11 2026. No macro, syntax, notation, axiom, sorry.
-/
import Derived.Test.YtidkjpfdclkccaaChecked
import GoSem.Claim
import GoSem.ClaimJoined
import GoSem.ClaimMapViews
import Derived.JoinedTies
import Derived.KernelRfl
namespace Go.Proofs.Ytidkjpfdclkccaa
/- THE CELL 'sum', in the pinned program and in every row, IS THE sha256 OF THE DUMP (.gsa) THAT YtidkjpfdclkccaaProg.lean LOADS. Nothing in Lean hashes anything: it is a label: what it is worth is what the hold of that sum in a sandbox is worth. -/
noncomputable def Try.pinned : Pinned := { name := "ytidkjpfdclkccaa", sum := "6c2f13b7f903018c6e4492640b6fb34053c92bf30f80fe88abb2007fd6304b0b", checked := Try.checked }
namespace Rows
def none {H : Type} : Left H := { results := [], args := [] }

/-- 'keystonelaw04.SszWrites': WHATEVER THE INPUT: true; the input reads as it did. -/
def sszWritesSpec : ChangeSpec := { name := "sszWrites", fn := fun _ => fun
  | [d] => { results := [.lit (.bool true)], args := [d] }
  | _ => none }
def sszWritesRow : OpenClaim := { program := "ytidkjpfdclkccaa", sum := "6c2f13b7f903018c6e4492640b6fb34053c92bf30f80fe88abb2007fd6304b0b", func := "keystone/keystonelaw04.SszWrites", spec := "sszWrites", unfollowed := true, recurses := true, apart := false }
def SszWritesSaid : Prop := sszWritesRow.holds Try.pinned (OpenSpec.ofChange sszWritesSpec)

/-- ITS FALSE NEIGHBOUR: 'it returns false'. Refute it at one input. -/
def sszWritesWrong : ChangeSpec := { name := "sszWrites", fn := fun _ => fun
  | [d] => { results := [.lit (.bool false)], args := [d] }
  | _ => none }
def SszWritesWrongFalsely : Prop := sszWritesRow.holds Try.pinned (OpenSpec.ofChange sszWritesWrong)

/-- 'keystonelaw04.SszBack': WHATEVER THE INPUT: true; the input reads as it did. -/
def sszBackSpec : ChangeSpec := { name := "sszBack", fn := fun _ => fun
  | [d1, d2] => { results := [.lit (.bool true)], args := [d1, d2] }
  | _ => none }
def sszBackRow : OpenClaim := { program := "ytidkjpfdclkccaa", sum := "6c2f13b7f903018c6e4492640b6fb34053c92bf30f80fe88abb2007fd6304b0b", func := "keystone/keystonelaw04.SszBack", spec := "sszBack", unfollowed := true, recurses := true, apart := false }
def SszBackSaid : Prop := sszBackRow.holds Try.pinned (OpenSpec.ofChange sszBackSpec)

/-- ITS FALSE NEIGHBOUR: 'it returns false'. Refute it at one input. -/
def sszBackWrong : ChangeSpec := { name := "sszBack", fn := fun _ => fun
  | [d1, d2] => { results := [.lit (.bool false)], args := [d1, d2] }
  | _ => none }
def SszBackWrongFalsely : Prop := sszBackRow.holds Try.pinned (OpenSpec.ofChange sszBackWrong)

/-- 'keystonelaw04.SszReads': WHATEVER THE INPUT: true; the input reads as it did. -/
def sszReadsSpec : ChangeSpec := { name := "sszReads", fn := fun _ => fun
  | [d1, d2, d3, d4] => { results := [.lit (.bool true)], args := [d1, d2, d3, d4] }
  | _ => none }
def sszReadsRow : OpenClaim := { program := "ytidkjpfdclkccaa", sum := "6c2f13b7f903018c6e4492640b6fb34053c92bf30f80fe88abb2007fd6304b0b", func := "keystone/keystonelaw04.SszReads", spec := "sszReads", unfollowed := true, recurses := true, apart := false }
def SszReadsSaid : Prop := sszReadsRow.holds Try.pinned (OpenSpec.ofChange sszReadsSpec)

/-- ITS FALSE NEIGHBOUR: 'it returns false'. Refute it at one input. -/
def sszReadsWrong : ChangeSpec := { name := "sszReads", fn := fun _ => fun
  | [d1, d2, d3, d4] => { results := [.lit (.bool false)], args := [d1, d2, d3, d4] }
  | _ => none }
def SszReadsWrongFalsely : Prop := sszReadsRow.holds Try.pinned (OpenSpec.ofChange sszReadsWrong)

/-- 'keystonelaw04.SszSplits': WHATEVER THE INPUT: true; the input reads as it did. -/
def sszSplitsSpec : ChangeSpec := { name := "sszSplits", fn := fun _ => fun
  | [d1, d2, d3, d4] => { results := [.lit (.bool true)], args := [d1, d2, d3, d4] }
  | _ => none }
def sszSplitsRow : OpenClaim := { program := "ytidkjpfdclkccaa", sum := "6c2f13b7f903018c6e4492640b6fb34053c92bf30f80fe88abb2007fd6304b0b", func := "keystone/keystonelaw04.SszSplits", spec := "sszSplits", unfollowed := true, recurses := true, apart := false }
def SszSplitsSaid : Prop := sszSplitsRow.holds Try.pinned (OpenSpec.ofChange sszSplitsSpec)

/-- ITS FALSE NEIGHBOUR: 'it returns false'. Refute it at one input. -/
def sszSplitsWrong : ChangeSpec := { name := "sszSplits", fn := fun _ => fun
  | [d1, d2, d3, d4] => { results := [.lit (.bool false)], args := [d1, d2, d3, d4] }
  | _ => none }
def SszSplitsWrongFalsely : Prop := sszSplitsRow.holds Try.pinned (OpenSpec.ofChange sszSplitsWrong)

/-- 'keystonelaw04.SszJoins': WHATEVER THE INPUT: true; the input reads as it did. -/
def sszJoinsSpec : ChangeSpec := { name := "sszJoins", fn := fun _ => fun
  | [d1, d2] => { results := [.lit (.bool true)], args := [d1, d2] }
  | _ => none }
def sszJoinsRow : OpenClaim := { program := "ytidkjpfdclkccaa", sum := "6c2f13b7f903018c6e4492640b6fb34053c92bf30f80fe88abb2007fd6304b0b", func := "keystone/keystonelaw04.SszJoins", spec := "sszJoins", unfollowed := true, recurses := true, apart := false }
def SszJoinsSaid : Prop := sszJoinsRow.holds Try.pinned (OpenSpec.ofChange sszJoinsSpec)

/-- ITS FALSE NEIGHBOUR: 'it returns false'. Refute it at one input. -/
def sszJoinsWrong : ChangeSpec := { name := "sszJoins", fn := fun _ => fun
  | [d1, d2] => { results := [.lit (.bool false)], args := [d1, d2] }
  | _ => none }
def SszJoinsWrongFalsely : Prop := sszJoinsRow.holds Try.pinned (OpenSpec.ofChange sszJoinsWrong)

/-- 'keystonelaw04.SszParts': WHATEVER THE INPUT: true; the input reads as it did. -/
def sszPartsSpec : ChangeSpec := { name := "sszParts", fn := fun _ => fun
  | [d1, d2] => { results := [.lit (.bool true)], args := [d1, d2] }
  | _ => none }
def sszPartsRow : OpenClaim := { program := "ytidkjpfdclkccaa", sum := "6c2f13b7f903018c6e4492640b6fb34053c92bf30f80fe88abb2007fd6304b0b", func := "keystone/keystonelaw04.SszParts", spec := "sszParts", unfollowed := true, recurses := true, apart := false }
def SszPartsSaid : Prop := sszPartsRow.holds Try.pinned (OpenSpec.ofChange sszPartsSpec)

/-- ITS FALSE NEIGHBOUR: 'it returns false'. Refute it at one input. -/
def sszPartsWrong : ChangeSpec := { name := "sszParts", fn := fun _ => fun
  | [d1, d2] => { results := [.lit (.bool false)], args := [d1, d2] }
  | _ => none }
def SszPartsWrongFalsely : Prop := sszPartsRow.holds Try.pinned (OpenSpec.ofChange sszPartsWrong)

/- THE SECOND FORM. 'bulk': how many values and letters a reading holds, each counted each time it is reached (what is shared counts as often as it is met; a slice's spare places count too). A statement '..UptoSaid' is the law's where the arguments, and the package variables that the reading takes, are together of bulk at most 1048576: NARROWER than '..Said'. Prove '..Said' where nothing that the law and all that it calls make is longer than what came in: it says more and counts as full. Else prove '..UptoSaid'. A law counts once. -/
mutual
def uptoBulk {H : Type} : DataW H → Nat
  | .lit (.string bytes) => bytes.length + 1
  | .lit _ => 1
  | .nil => 1
  | .ptr d => uptoBulk d + 1
  | .slice elems spare => uptoBulkAll elems + uptoBulkAll spare + 1
  | .agg parts => uptoBulkAll parts + 1
  | .iface _ d => uptoBulk d + 1
  | .map entries => uptoBulkEntries entries + 1
  | .held _ => 1
def uptoBulkAll {H : Type} : List (DataW H) → Nat
  | [] => 0
  | d :: r => uptoBulk d + uptoBulkAll r
def uptoBulkEntries {H : Type} : List (Lit × DataW H) → Nat
  | [] => 0
  | x :: r => uptoBulkEntry x + uptoBulkEntries r
def uptoBulkEntry {H : Type} : Lit × DataW H → Nat
  | (.string bytes, d) => bytes.length + uptoBulk d + 1
  | (_, d) => uptoBulk d + 1
 end
def uptoSmall : (H : Type) → List (DataW H) → Bool := fun _ ds => decide (uptoBulkAll ds ≤ 1048576)
def OpenSpec.upto (s : _root_.Go.ChangeSpec) : _root_.Go.OpenSpec := { _root_.Go.OpenSpec.ofChange s with cond := some uptoSmall }

/-- 'keystonelaw04.SszWrites', WHERE WHAT IT READS IS OF BULK AT MOST 1048576: true; the input reads as it did. -/
def sszWritesUptoRow : OpenClaim := { program := "ytidkjpfdclkccaa", sum := "6c2f13b7f903018c6e4492640b6fb34053c92bf30f80fe88abb2007fd6304b0b", func := "keystone/keystonelaw04.SszWrites", spec := "sszWrites", unfollowed := true, recurses := true, apart := false, narrowed := true }
def SszWritesUptoSaid : Prop := sszWritesUptoRow.holds Try.pinned (OpenSpec.upto sszWritesSpec)

/-- 'keystonelaw04.SszBack', WHERE WHAT IT READS IS OF BULK AT MOST 1048576: true; the input reads as it did. -/
def sszBackUptoRow : OpenClaim := { program := "ytidkjpfdclkccaa", sum := "6c2f13b7f903018c6e4492640b6fb34053c92bf30f80fe88abb2007fd6304b0b", func := "keystone/keystonelaw04.SszBack", spec := "sszBack", unfollowed := true, recurses := true, apart := false, narrowed := true }
def SszBackUptoSaid : Prop := sszBackUptoRow.holds Try.pinned (OpenSpec.upto sszBackSpec)

/-- 'keystonelaw04.SszReads', WHERE WHAT IT READS IS OF BULK AT MOST 1048576: true; the input reads as it did. -/
def sszReadsUptoRow : OpenClaim := { program := "ytidkjpfdclkccaa", sum := "6c2f13b7f903018c6e4492640b6fb34053c92bf30f80fe88abb2007fd6304b0b", func := "keystone/keystonelaw04.SszReads", spec := "sszReads", unfollowed := true, recurses := true, apart := false, narrowed := true }
def SszReadsUptoSaid : Prop := sszReadsUptoRow.holds Try.pinned (OpenSpec.upto sszReadsSpec)

/-- 'keystonelaw04.SszSplits', WHERE WHAT IT READS IS OF BULK AT MOST 1048576: true; the input reads as it did. -/
def sszSplitsUptoRow : OpenClaim := { program := "ytidkjpfdclkccaa", sum := "6c2f13b7f903018c6e4492640b6fb34053c92bf30f80fe88abb2007fd6304b0b", func := "keystone/keystonelaw04.SszSplits", spec := "sszSplits", unfollowed := true, recurses := true, apart := false, narrowed := true }
def SszSplitsUptoSaid : Prop := sszSplitsUptoRow.holds Try.pinned (OpenSpec.upto sszSplitsSpec)

/-- 'keystonelaw04.SszJoins', WHERE WHAT IT READS IS OF BULK AT MOST 1048576: true; the input reads as it did. -/
def sszJoinsUptoRow : OpenClaim := { program := "ytidkjpfdclkccaa", sum := "6c2f13b7f903018c6e4492640b6fb34053c92bf30f80fe88abb2007fd6304b0b", func := "keystone/keystonelaw04.SszJoins", spec := "sszJoins", unfollowed := true, recurses := true, apart := false, narrowed := true }
def SszJoinsUptoSaid : Prop := sszJoinsUptoRow.holds Try.pinned (OpenSpec.upto sszJoinsSpec)

/-- 'keystonelaw04.SszParts', WHERE WHAT IT READS IS OF BULK AT MOST 1048576: true; the input reads as it did. -/
def sszPartsUptoRow : OpenClaim := { program := "ytidkjpfdclkccaa", sum := "6c2f13b7f903018c6e4492640b6fb34053c92bf30f80fe88abb2007fd6304b0b", func := "keystone/keystonelaw04.SszParts", spec := "sszParts", unfollowed := true, recurses := true, apart := false, narrowed := true }
def SszPartsUptoSaid : Prop := sszPartsUptoRow.holds Try.pinned (OpenSpec.upto sszPartsSpec)

end Rows
end Go.Proofs.Ytidkjpfdclkccaa
