/-
  No cell of these rows narrows 'for every input' (looked for: loops, veiled, ifaces, maps, wideKeys, modest, calm, conditions, laid).
  DERIVED. THE GIVEN ROWS OF THIS SEAT. 3 by the template 'for every input the law returns true; each argument reads behind the call as it read before'; 0 by the template 'total and deterministic' (their statements: YtidkjpfdclkccabTotals.lean).
  GIVEN WITH THE SEED: the statements are not yours to turn. If you find one false, say at which input.
  Laid BY PROGRAM, IN A SANDBOX (cutbox-rows.mjs): the forced cells as the released guide's own fill.sh prints them over the translation e41cd32873114101… (all of the seat's roots in one cut). By AI agents, Wed Nov 11 2026. No macro, syntax, notation, axiom, sorry.
-/
import Derived.Test.YtidkjpfdclkccabChecked
import GoSem.Claim
import GoSem.ClaimJoined
import GoSem.ClaimMapViews
import Derived.JoinedTies
import Derived.KernelRfl
namespace Go.Proofs.Ytidkjpfdclkccab
/- THE CELL 'sum', in the pinned program and in every row, IS THE sha256 OF THE DUMP (.gsa) THAT YtidkjpfdclkccabProg.lean LOADS. Nothing in Lean hashes anything: it is a label: what it is worth is what the hold of that sum in a sandbox is worth. -/
noncomputable def Try.pinned : Pinned := { name := "ytidkjpfdclkccab", sum := "e41cd3287311410119ed2ffd182d8a91f64dd08a3b535dffb7a152b44e4754c7", checked := Try.checked }
namespace Rows
def none {H : Type} : Left H := { results := [], args := [] }

/-- 'keystonelaw04.SszBits': WHATEVER THE INPUT: true; the input reads as it did. -/
def sszBitsSpec : ChangeSpec := { name := "sszBits", fn := fun _ => fun
  | [d1, d2, d3] => { results := [.lit (.bool true)], args := [d1, d2, d3] }
  | _ => none }
def sszBitsRow : OpenClaim := { program := "ytidkjpfdclkccab", sum := "e41cd3287311410119ed2ffd182d8a91f64dd08a3b535dffb7a152b44e4754c7", func := "keystone/keystonelaw04.SszBits", spec := "sszBits", unfollowed := true, recurses := true, apart := false }
def SszBitsSaid : Prop := sszBitsRow.holds Try.pinned (OpenSpec.ofChange sszBitsSpec)

/-- ITS FALSE NEIGHBOUR: 'it returns false'. Refute it at one input. -/
def sszBitsWrong : ChangeSpec := { name := "sszBits", fn := fun _ => fun
  | [d1, d2, d3] => { results := [.lit (.bool false)], args := [d1, d2, d3] }
  | _ => none }
def SszBitsWrongFalsely : Prop := sszBitsRow.holds Try.pinned (OpenSpec.ofChange sszBitsWrong)

/-- 'keystonelaw04.SszFew': WHATEVER THE INPUT: true; the input reads as it did. -/
def sszFewSpec : ChangeSpec := { name := "sszFew", fn := fun _ => fun
  | [d1, d2] => { results := [.lit (.bool true)], args := [d1, d2] }
  | _ => none }
def sszFewRow : OpenClaim := { program := "ytidkjpfdclkccab", sum := "e41cd3287311410119ed2ffd182d8a91f64dd08a3b535dffb7a152b44e4754c7", func := "keystone/keystonelaw04.SszFew", spec := "sszFew", unfollowed := true, recurses := true, apart := false }
def SszFewSaid : Prop := sszFewRow.holds Try.pinned (OpenSpec.ofChange sszFewSpec)

/-- ITS FALSE NEIGHBOUR: 'it returns false'. Refute it at one input. -/
def sszFewWrong : ChangeSpec := { name := "sszFew", fn := fun _ => fun
  | [d1, d2] => { results := [.lit (.bool false)], args := [d1, d2] }
  | _ => none }
def SszFewWrongFalsely : Prop := sszFewRow.holds Try.pinned (OpenSpec.ofChange sszFewWrong)

/-- 'keystonelaw04.SszLists': WHATEVER THE INPUT: true; the input reads as it did. -/
def sszListsSpec : ChangeSpec := { name := "sszLists", fn := fun _ => fun
  | [d1, d2, d3] => { results := [.lit (.bool true)], args := [d1, d2, d3] }
  | _ => none }
def sszListsRow : OpenClaim := { program := "ytidkjpfdclkccab", sum := "e41cd3287311410119ed2ffd182d8a91f64dd08a3b535dffb7a152b44e4754c7", func := "keystone/keystonelaw04.SszLists", spec := "sszLists", unfollowed := true, recurses := true, apart := false }
def SszListsSaid : Prop := sszListsRow.holds Try.pinned (OpenSpec.ofChange sszListsSpec)

/-- ITS FALSE NEIGHBOUR: 'it returns false'. Refute it at one input. -/
def sszListsWrong : ChangeSpec := { name := "sszLists", fn := fun _ => fun
  | [d1, d2, d3] => { results := [.lit (.bool false)], args := [d1, d2, d3] }
  | _ => none }
def SszListsWrongFalsely : Prop := sszListsRow.holds Try.pinned (OpenSpec.ofChange sszListsWrong)

/- THE SECOND FORM. 'bulk': how many values and letters a reading holds, each counted each time it is reached (what is shared counts as often as it is met; a slice's spare places count too). A statement '..UptoSaid' is the law's where the arguments, and the package variables that the reading takes, are together of bulk at most 1048576: NARROWER than '..Said'. Prove '..Said' where nothing that the law and all that it calls make is longer than what came in: it says more and counts as full. Else prove '..UptoSaid'. A law counts once. -/
mutual
def uptoBulk {H : Type} : DataW H → Nat
  | .lit (.string bytes) => bytes.length + 1
  | .lit _ => 1
  | .nil => 1
  | .ptr d => uptoBulk d + 1
  | .slice elems spare => uptoBulkAll elems + uptoBulkAll spare + 1
  | .agg parts => uptoBulkAll parts + 1
  | .iface _ d => uptoBulk d + 1
  | .map entries => uptoBulkEntries entries + 1
  | .held _ => 1
def uptoBulkAll {H : Type} : List (DataW H) → Nat
  | [] => 0
  | d :: r => uptoBulk d + uptoBulkAll r
def uptoBulkEntries {H : Type} : List (Lit × DataW H) → Nat
  | [] => 0
  | x :: r => uptoBulkEntry x + uptoBulkEntries r
def uptoBulkEntry {H : Type} : Lit × DataW H → Nat
  | (.string bytes, d) => bytes.length + uptoBulk d + 1
  | (_, d) => uptoBulk d + 1
 end
def uptoSmall : (H : Type) → List (DataW H) → Bool := fun _ ds => decide (uptoBulkAll ds ≤ 1048576)
def OpenSpec.upto (s : _root_.Go.ChangeSpec) : _root_.Go.OpenSpec := { _root_.Go.OpenSpec.ofChange s with cond := some uptoSmall }

/-- 'keystonelaw04.SszBits', WHERE WHAT IT READS IS OF BULK AT MOST 1048576: true; the input reads as it did. -/
def sszBitsUptoRow : OpenClaim := { program := "ytidkjpfdclkccab", sum := "e41cd3287311410119ed2ffd182d8a91f64dd08a3b535dffb7a152b44e4754c7", func := "keystone/keystonelaw04.SszBits", spec := "sszBits", unfollowed := true, recurses := true, apart := false, narrowed := true }
def SszBitsUptoSaid : Prop := sszBitsUptoRow.holds Try.pinned (OpenSpec.upto sszBitsSpec)

/-- 'keystonelaw04.SszFew', WHERE WHAT IT READS IS OF BULK AT MOST 1048576: true; the input reads as it did. -/
def sszFewUptoRow : OpenClaim := { program := "ytidkjpfdclkccab", sum := "e41cd3287311410119ed2ffd182d8a91f64dd08a3b535dffb7a152b44e4754c7", func := "keystone/keystonelaw04.SszFew", spec := "sszFew", unfollowed := true, recurses := true, apart := false, narrowed := true }
def SszFewUptoSaid : Prop := sszFewUptoRow.holds Try.pinned (OpenSpec.upto sszFewSpec)

/-- 'keystonelaw04.SszLists', WHERE WHAT IT READS IS OF BULK AT MOST 1048576: true; the input reads as it did. -/
def sszListsUptoRow : OpenClaim := { program := "ytidkjpfdclkccab", sum := "e41cd3287311410119ed2ffd182d8a91f64dd08a3b535dffb7a152b44e4754c7", func := "keystone/keystonelaw04.SszLists", spec := "sszLists", unfollowed := true, recurses := true, apart := false, narrowed := true }
def SszListsUptoSaid : Prop := sszListsUptoRow.holds Try.pinned (OpenSpec.upto sszListsSpec)

end Rows
end Go.Proofs.Ytidkjpfdclkccab
