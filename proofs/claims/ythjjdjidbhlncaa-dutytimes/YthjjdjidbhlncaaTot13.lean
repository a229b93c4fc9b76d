/- Totals of nobody. -/
import Derived.Test.YthjjdjidbhlncaaSlash
namespace Go.Proofs.Ythjjdjidbhlncaa
open Go.RowKit
set_option linter.unusedVariables false
set_option linter.unusedSimpArgs false
set_option maxRecDepth 100000

set_option maxHeartbeats 1000000 in
theorem total_none (cs : Array Value) (w : World) :
    Calls Try.prog 15 #[.agg cs, .slice none 0 0] w fun e w' => e = .returned (.int .u64 1000) ∧ Below w.heap.size w w' := by
  go_enter Try.func15, Try.ntmps15
  go_wp2
  have B1 := shut (((Below.refl w.heap.size w).alloc (Nat.le_refl _) (.cells cs 43)))
  generalize w.alloc (.cells cs 43) = w1 at B1 ⊢
  go_loopw [5, 10] (fun c i wr => c = .int .u64 0 ∧ i = .int .i64 0 ∧ wr = w1) (fun _ _ _ => 0)
  case atStart => exact ⟨rfl, rfl, rfl⟩
  case round =>
    obtain ⟨rfl, rfl, rfl⟩ := hrel
    go_wp2
    go_ret
    exact ⟨rfl, B1.out⟩
set_option maxHeartbeats 1000000 in
theorem epoch_any (n : Nat) (hn : n < 18446744073709551616) (w : World) :
    Calls Try.prog 6 #[.int .u64 (n : Nat)] w fun e w' => e = .returned (.int .u64 ((n / 4 : Nat) : Int)) ∧ w' = w := by
  go_enter Try.func6, Try.ntmps6
  go_wp2
  go_ret
  exact ⟨by simp, rfl⟩
set_option maxHeartbeats 1000000 in
theorem start_any (n : Nat) (hn : n < 18446744073709551616) (w : World) :
    Calls Try.prog 7 #[.int .u64 (n : Nat)] w fun e w' => e = .returned (.int .u64 ((4 * n % 18446744073709551616 : Nat) : Int)) ∧ w' = w := by
  have hw : IntKind.u64.wrap (4 * (n : Int)) = ((4 * n % 18446744073709551616 : Nat) : Int) := by unfold IntKind.wrap; simp [IntKind.signed, IntKind.bits]
  go_enter Try.func7, Try.ntmps7
  go_wp2
  go_ret
  exact ⟨by simp [hw], rfl⟩
end Go.Proofs.Ythjjdjidbhlncaa
