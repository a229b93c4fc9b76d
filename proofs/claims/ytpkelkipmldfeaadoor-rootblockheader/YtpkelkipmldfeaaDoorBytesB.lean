/- Contracts of Put and Take of package num, and of the document's answers: bytes of a number, the lowest first. -/
import Derived.Test.YtpkelkipmldfeaaDoorAppOwn
namespace Go.Proofs.YtpkelkipmldfeaaDoor
set_option maxRecDepth 100000
open Go.RowKit
set_option linter.unusedVariables false
set_option maxRecDepth 100000

set_option maxHeartbeats 400000 in
theorem put_none (n : Nat) (size : Int) (hs : size < 1) (w : World) :
    Calls Tryd.prog 30 #[.int .u64 n, .int .i64 size] w fun e w' => e = .returned (.slice none 0 0) ∧ w' = w := by
  go_enter Tryd.func30, Tryd.ntmps30
  go_wp2
  go_ret
  exact ⟨rfl, rfl⟩

/-- The slice value's first len bytes, read in the world w, are zs. -/
def ReadsBytes (w : World) (ao : Option Addr) (len : Nat) (zs : List Int) : Prop :=
  zs.length = len ∧ (∀ z ∈ zs, 0 ≤ z ∧ z < 256) ∧ (len = 0 ∨ ∃ b off, ao = some ⟨b, off, none⟩ ∧ ∀ i, i < len → w.cell? ⟨b, off + i, none⟩ = some (.int .u8 (zs.getD i 0)))

theorem getD_get (zs : List Int) (k : Nat) (h : k < zs.length) : zs.getD k 0 = zs[k] := by simp [List.getD_eq_getElem?_getD, h]

end Go.Proofs.YtpkelkipmldfeaaDoor
