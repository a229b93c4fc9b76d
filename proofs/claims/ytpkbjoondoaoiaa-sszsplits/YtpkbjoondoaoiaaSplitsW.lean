/- SszSplits answers true. -/
import Derived.Test.YtpkbjoondoaoiaaSplP
namespace Go.Proofs.Ytpkbjoondoaoiaa
open Go.RowKit
set_option linter.unusedVariables false

theorem splits_walk (v0 : Value) (bs : List Nat) (i1 i2 i3 : Int) (w : World) (hB : IsB w v0 bs) (h1 : -9223372036854775808 ≤ i1 ∧ i1 ≤ 9223372036854775807) (h2 : -9223372036854775808 ≤ i2 ∧ i2 ≤ 9223372036854775807) (h3 : -9223372036854775808 ≤ i3 ∧ i3 ≤ 9223372036854775807) :
    Calls Try.prog 3 #[v0, .int .i64 i1, .int .i64 i2, .int .i64 i3] w fun e w' => e = .returned (.bool true) ∧ Below w.heap.size w w' := by
  obtain ⟨ao, cap, rfl⟩ : ∃ ao cap, v0 = .slice ao bs.length cap := by obtain ⟨⟨a, c, e, _⟩, _⟩ := hB; exact ⟨a, c, e⟩
  exact callsIn_wide.1 (splits_in ao cap bs i1 i2 i3 w hB h1 h3 h2)
end Go.Proofs.Ytpkbjoondoaoiaa
