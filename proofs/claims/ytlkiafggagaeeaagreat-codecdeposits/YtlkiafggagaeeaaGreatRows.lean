/-
  No cell of these rows narrows 'for every input' (looked for: loops, veiled, ifaces, maps, wideKeys, modest, calm, conditions, laid).
  DERIVED. THE GIVEN ROWS OF THIS SEAT. 6 by the template 'for every input the law returns true; each argument reads behind the call as it read before'; 0 by the template 'total and deterministic' (their statements: YtlkiafggagaeeaaGreatTotals.lean).
  GIVEN WITH THE SEED: the statements are not yours to turn. If you find one false, say at which input.
  Laid BY PROGRAM, IN A SANDBOX (cutbox-rows.mjs): the forced cells as the released guide's own fill.sh prints them over the translation a0418dddd1296e3b… (all of the seat's roots in one cut). By AI agents, Wed Nov 11 2026. No macro, syntax, notation, axiom, sorry.
-/
import Derived.Test.YtlkiafggagaeeaaGreatChecked
import GoSem.Claim
import GoSem.ClaimJoined
import GoSem.ClaimMapViews
import Derived.JoinedTies
import Derived.KernelRfl
namespace Go.Proofs.YtlkiafggagaeeaaGreat
/- THE CELL 'sum', in the pinned program and in every row, IS THE sha256 OF THE DUMP (.gsa) THAT YtlkiafggagaeeaaGreatProg.lean LOADS. Nothing in Lean hashes anything: it is a label: what it is worth is what the hold of that sum in a sandbox is worth. -/
noncomputable def Tryz.pinned : Pinned := { name := "ytlkiafggagaeeaagreat", sum := "a0418dddd1296e3ba12fa4fbeba170b0fef4e3eb4f502d385262e3cf2137c489", checked := Tryz.checked }
namespace Rows
def none {H : Type} : Left H := { results := [], args := [] }

/-- 'keystonelaw05.CodecVotes': WHATEVER THE INPUT: true; the input reads as it did. -/
def codecVotesSpec : ChangeSpec := { name := "codecVotes", fn := fun _ => fun
  | [d] => { results := [.lit (.bool true)], args := [d] }
  | _ => none }
def codecVotesRow : OpenClaim := { program := "ytlkiafggagaeeaagreat", sum := "a0418dddd1296e3ba12fa4fbeba170b0fef4e3eb4f502d385262e3cf2137c489", func := "keystone/keystonelaw05.CodecVotes", spec := "codecVotes", unfollowed := true, recurses := true, apart := false }
def CodecVotesSaid : Prop := codecVotesRow.holds Tryz.pinned (OpenSpec.ofChange codecVotesSpec)

/-- ITS FALSE NEIGHBOUR: 'it returns false'. Refute it at one input. -/
def codecVotesWrong : ChangeSpec := { name := "codecVotes", fn := fun _ => fun
  | [d] => { results := [.lit (.bool false)], args := [d] }
  | _ => none }
def CodecVotesWrongFalsely : Prop := codecVotesRow.holds Tryz.pinned (OpenSpec.ofChange codecVotesWrong)

/-- 'keystonelaw05.CodecAttestations': WHATEVER THE INPUT: true; the input reads as it did. -/
def codecAttestationsSpec : ChangeSpec := { name := "codecAttestations", fn := fun _ => fun
  | [d] => { results := [.lit (.bool true)], args := [d] }
  | _ => none }
def codecAttestationsRow : OpenClaim := { program := "ytlkiafggagaeeaagreat", sum := "a0418dddd1296e3ba12fa4fbeba170b0fef4e3eb4f502d385262e3cf2137c489", func := "keystone/keystonelaw05.CodecAttestations", spec := "codecAttestations", unfollowed := true, recurses := true, apart := false }
def CodecAttestationsSaid : Prop := codecAttestationsRow.holds Tryz.pinned (OpenSpec.ofChange codecAttestationsSpec)

/-- ITS FALSE NEIGHBOUR: 'it returns false'. Refute it at one input. -/
def codecAttestationsWrong : ChangeSpec := { name := "codecAttestations", fn := fun _ => fun
  | [d] => { results := [.lit (.bool false)], args := [d] }
  | _ => none }
def CodecAttestationsWrongFalsely : Prop := codecAttestationsRow.holds Tryz.pinned (OpenSpec.ofChange codecAttestationsWrong)

/-- 'keystonelaw05.CodecPendings': WHATEVER THE INPUT: true; the input reads as it did. -/
def codecPendingsSpec : ChangeSpec := { name := "codecPendings", fn := fun _ => fun
  | [d] => { results := [.lit (.bool true)], args := [d] }
  | _ => none }
def codecPendingsRow : OpenClaim := { program := "ytlkiafggagaeeaagreat", sum := "a0418dddd1296e3ba12fa4fbeba170b0fef4e3eb4f502d385262e3cf2137c489", func := "keystone/keystonelaw05.CodecPendings", spec := "codecPendings", unfollowed := true, recurses := true, apart := false }
def CodecPendingsSaid : Prop := codecPendingsRow.holds Tryz.pinned (OpenSpec.ofChange codecPendingsSpec)

/-- ITS FALSE NEIGHBOUR: 'it returns false'. Refute it at one input. -/
def codecPendingsWrong : ChangeSpec := { name := "codecPendings", fn := fun _ => fun
  | [d] => { results := [.lit (.bool false)], args := [d] }
  | _ => none }
def CodecPendingsWrongFalsely : Prop := codecPendingsRow.holds Tryz.pinned (OpenSpec.ofChange codecPendingsWrong)

/-- 'keystonelaw05.CodecProposerSlashings': WHATEVER THE INPUT: true; the input reads as it did. -/
def codecProposerSlashingsSpec : ChangeSpec := { name := "codecProposerSlashings", fn := fun _ => fun
  | [d] => { results := [.lit (.bool true)], args := [d] }
  | _ => none }
def codecProposerSlashingsRow : OpenClaim := { program := "ytlkiafggagaeeaagreat", sum := "a0418dddd1296e3ba12fa4fbeba170b0fef4e3eb4f502d385262e3cf2137c489", func := "keystone/keystonelaw05.CodecProposerSlashings", spec := "codecProposerSlashings", unfollowed := true, recurses := true, apart := false }
def CodecProposerSlashingsSaid : Prop := codecProposerSlashingsRow.holds Tryz.pinned (OpenSpec.ofChange codecProposerSlashingsSpec)

/-- ITS FALSE NEIGHBOUR: 'it returns false'. Refute it at one input. -/
def codecProposerSlashingsWrong : ChangeSpec := { name := "codecProposerSlashings", fn := fun _ => fun
  | [d] => { results := [.lit (.bool false)], args := [d] }
  | _ => none }
def CodecProposerSlashingsWrongFalsely : Prop := codecProposerSlashingsRow.holds Tryz.pinned (OpenSpec.ofChange codecProposerSlashingsWrong)

/-- 'keystonelaw05.CodecDeposits': WHATEVER THE INPUT: true; the input reads as it did. -/
def codecDepositsSpec : ChangeSpec := { name := "codecDeposits", fn := fun _ => fun
  | [d] => { results := [.lit (.bool true)], args := [d] }
  | _ => none }
def codecDepositsRow : OpenClaim := { program := "ytlkiafggagaeeaagreat", sum := "a0418dddd1296e3ba12fa4fbeba170b0fef4e3eb4f502d385262e3cf2137c489", func := "keystone/keystonelaw05.CodecDeposits", spec := "codecDeposits", unfollowed := true, recurses := true, apart := false }
def CodecDepositsSaid : Prop := codecDepositsRow.holds Tryz.pinned (OpenSpec.ofChange codecDepositsSpec)

/-- ITS FALSE NEIGHBOUR: 'it returns false'. Refute it at one input. -/
def codecDepositsWrong : ChangeSpec := { name := "codecDeposits", fn := fun _ => fun
  | [d] => { results := [.lit (.bool false)], args := [d] }
  | _ => none }
def CodecDepositsWrongFalsely : Prop := codecDepositsRow.holds Tryz.pinned (OpenSpec.ofChange codecDepositsWrong)

/-- 'keystonelaw05.CodecExits': WHATEVER THE INPUT: true; the input reads as it did. -/
def codecExitsSpec : ChangeSpec := { name := "codecExits", fn := fun _ => fun
  | [d] => { results := [.lit (.bool true)], args := [d] }
  | _ => none }
def codecExitsRow : OpenClaim := { program := "ytlkiafggagaeeaagreat", sum := "a0418dddd1296e3ba12fa4fbeba170b0fef4e3eb4f502d385262e3cf2137c489", func := "keystone/keystonelaw05.CodecExits", spec := "codecExits", unfollowed := true, recurses := true, apart := false }
def CodecExitsSaid : Prop := codecExitsRow.holds Tryz.pinned (OpenSpec.ofChange codecExitsSpec)

/-- ITS FALSE NEIGHBOUR: 'it returns false'. Refute it at one input. -/
def codecExitsWrong : ChangeSpec := { name := "codecExits", fn := fun _ => fun
  | [d] => { results := [.lit (.bool false)], args := [d] }
  | _ => none }
def CodecExitsWrongFalsely : Prop := codecExitsRow.holds Tryz.pinned (OpenSpec.ofChange codecExitsWrong)

/- THE SECOND FORM. 'bulk': how many values and letters a reading holds, each counted each time it is reached (what is shared counts as often as it is met; a slice's spare places count too). A statement '..UptoSaid' is the law's where the arguments, and the package variables that the reading takes, are together of bulk at most 1048576: NARROWER than '..Said'. Prove '..Said' where nothing that the law and all that it calls make is longer than what came in: it says more and counts as full. Else prove '..UptoSaid'. A law counts once. -/
mutual
def uptoBulk {H : Type} : DataW H → Nat
  | .lit (.string bytes) => bytes.length + 1
  | .lit _ => 1
  | .nil => 1
  | .ptr d => uptoBulk d + 1
  | .slice elems spare => uptoBulkAll elems + uptoBulkAll spare + 1
  | .agg parts => uptoBulkAll parts + 1
  | .iface _ d => uptoBulk d + 1
  | .map entries => uptoBulkEntries entries + 1
  | .held _ => 1
def uptoBulkAll {H : Type} : List (DataW H) → Nat
  | [] => 0
  | d :: r => uptoBulk d + uptoBulkAll r
def uptoBulkEntries {H : Type} : List (Lit × DataW H) → Nat
  | [] => 0
  | x :: r => uptoBulkEntry x + uptoBulkEntries r
def uptoBulkEntry {H : Type} : Lit × DataW H → Nat
  | (.string bytes, d) => bytes.length + uptoBulk d + 1
  | (_, d) => uptoBulk d + 1
 end
def uptoSmall : (H : Type) → List (DataW H) → Bool := fun _ ds => decide (uptoBulkAll ds ≤ 1048576)
def OpenSpec.upto (s : _root_.Go.ChangeSpec) : _root_.Go.OpenSpec := { _root_.Go.OpenSpec.ofChange s with cond := some uptoSmall }

/-- 'keystonelaw05.CodecVotes', WHERE WHAT IT READS IS OF BULK AT MOST 1048576: true; the input reads as it did. -/
def codecVotesUptoRow : OpenClaim := { program := "ytlkiafggagaeeaagreat", sum := "a0418dddd1296e3ba12fa4fbeba170b0fef4e3eb4f502d385262e3cf2137c489", func := "keystone/keystonelaw05.CodecVotes", spec := "codecVotes", unfollowed := true, recurses := true, apart := false, narrowed := true }
def CodecVotesUptoSaid : Prop := codecVotesUptoRow.holds Tryz.pinned (OpenSpec.upto codecVotesSpec)

/-- 'keystonelaw05.CodecAttestations', WHERE WHAT IT READS IS OF BULK AT MOST 1048576: true; the input reads as it did. -/
def codecAttestationsUptoRow : OpenClaim := { program := "ytlkiafggagaeeaagreat", sum := "a0418dddd1296e3ba12fa4fbeba170b0fef4e3eb4f502d385262e3cf2137c489", func := "keystone/keystonelaw05.CodecAttestations", spec := "codecAttestations", unfollowed := true, recurses := true, apart := false, narrowed := true }
def CodecAttestationsUptoSaid : Prop := codecAttestationsUptoRow.holds Tryz.pinned (OpenSpec.upto codecAttestationsSpec)

/-- 'keystonelaw05.CodecPendings', WHERE WHAT IT READS IS OF BULK AT MOST 1048576: true; the input reads as it did. -/
def codecPendingsUptoRow : OpenClaim := { program := "ytlkiafggagaeeaagreat", sum := "a0418dddd1296e3ba12fa4fbeba170b0fef4e3eb4f502d385262e3cf2137c489", func := "keystone/keystonelaw05.CodecPendings", spec := "codecPendings", unfollowed := true, recurses := true, apart := false, narrowed := true }
def CodecPendingsUptoSaid : Prop := codecPendingsUptoRow.holds Tryz.pinned (OpenSpec.upto codecPendingsSpec)

/-- 'keystonelaw05.CodecProposerSlashings', WHERE WHAT IT READS IS OF BULK AT MOST 1048576: true; the input reads as it did. -/
def codecProposerSlashingsUptoRow : OpenClaim := { program := "ytlkiafggagaeeaagreat", sum := "a0418dddd1296e3ba12fa4fbeba170b0fef4e3eb4f502d385262e3cf2137c489", func := "keystone/keystonelaw05.CodecProposerSlashings", spec := "codecProposerSlashings", unfollowed := true, recurses := true, apart := false, narrowed := true }
def CodecProposerSlashingsUptoSaid : Prop := codecProposerSlashingsUptoRow.holds Tryz.pinned (OpenSpec.upto codecProposerSlashingsSpec)

/-- 'keystonelaw05.CodecDeposits', WHERE WHAT IT READS IS OF BULK AT MOST 1048576: true; the input reads as it did. -/
def codecDepositsUptoRow : OpenClaim := { program := "ytlkiafggagaeeaagreat", sum := "a0418dddd1296e3ba12fa4fbeba170b0fef4e3eb4f502d385262e3cf2137c489", func := "keystone/keystonelaw05.CodecDeposits", spec := "codecDeposits", unfollowed := true, recurses := true, apart := false, narrowed := true }
def CodecDepositsUptoSaid : Prop := codecDepositsUptoRow.holds Tryz.pinned (OpenSpec.upto codecDepositsSpec)

/-- 'keystonelaw05.CodecExits', WHERE WHAT IT READS IS OF BULK AT MOST 1048576: true; the input reads as it did. -/
def codecExitsUptoRow : OpenClaim := { program := "ytlkiafggagaeeaagreat", sum := "a0418dddd1296e3ba12fa4fbeba170b0fef4e3eb4f502d385262e3cf2137c489", func := "keystone/keystonelaw05.CodecExits", spec := "codecExits", unfollowed := true, recurses := true, apart := false, narrowed := true }
def CodecExitsUptoSaid : Prop := codecExitsUptoRow.holds Tryz.pinned (OpenSpec.upto codecExitsSpec)

end Rows
end Go.Proofs.YtlkiafggagaeeaaGreat
