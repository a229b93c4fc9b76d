/- Contracts of the turns by bits: the program's and the document's. -/
import Derived.Test.YtbmcmabimfoknaaGreatDoorSha
import Derived.Test.YtbmcmabimfoknaaGreatDoorRows
import Derived.WalkKit
import Derived.WalkLawsBesides
import Derived.Laws.BitsAllLaws
import Derived.Deep.QuietTactic
import Derived.BigQuiet
namespace Go.Proofs.YtbmcmabimfoknaaGreatDoor
set_option maxRecDepth 100000
open Go.RowKit
set_option linter.unusedVariables false

theorem turn_mask (n : Int) (h0 : 0 < n) (h1 : n < 32) : bits .and .u64 (IntKind.u64.wrap (-n)) 31 = 32 - n := by
  have e : IntKind.u64.wrap (-n) = 18446744073709551616 - n := by
    simp [IntKind.wrap, IntKind.bits, IntKind.signed]; omega
  rw [e, u64_and _ _ (by omega) (by omega) (by omega) (by omega), show (31 : Int).toNat = 31 from rfl, nat_mask5]
  omega
theorem turn_or (x : Nat) (n : Int) (h0 : 0 < n) (h1 : n < 32) (hx : x < 4294967296) :
    bits .or .u32 ((x : Int) * 2 ^ (32 - n).toNat % 4294967296) ((x : Int) / 2 ^ n.toNat) = (rr n.toNat x : Nat) := by
  obtain ⟨m, rfl⟩ := Int.eq_ofNat_of_zero_le (Int.le_of_lt h0)
  have e : ((32 : Int) - (m : Int)).toNat = 32 - m := by omega
  rw [e, Int.toNat_natCast]
  have e1 : (x : Int) * 2 ^ (32 - m) % 4294967296 = ((x * 2 ^ (32 - m) % 4294967296 : Nat) : Int) := by simp
  have e2 : (x : Int) / 2 ^ m = ((x / 2 ^ m : Nat) : Int) := by simp
  rw [e1, e2, u32_or_nat _ _ (Nat.mod_lt _ (by decide)) (Nat.lt_of_le_of_lt (Nat.div_le_self _ _) hx)]
  unfold rr
  rw [Nat.or_comm]
theorem turn_or' (x : Nat) (n : Int) (h0 : 0 < n) (h1 : n < 32) (hx : x < 4294967296) :
    bits .or .u32 ((x : Int) / 2 ^ n.toNat) ((x : Int) * 2 ^ (32 - n).toNat % 4294967296) = (rr n.toNat x : Nat) := by
  obtain ⟨m, rfl⟩ := Int.eq_ofNat_of_zero_le (Int.le_of_lt h0)
  have e : ((32 : Int) - (m : Int)).toNat = 32 - m := by omega
  rw [e, Int.toNat_natCast]
  have e1 : (x : Int) * 2 ^ (32 - m) % 4294967296 = ((x * 2 ^ (32 - m) % 4294967296 : Nat) : Int) := by simp
  have e2 : (x : Int) / 2 ^ m = ((x / 2 ^ m : Nat) : Int) := by simp
  rw [e1, e2, u32_or_nat _ _ (Nat.lt_of_le_of_lt (Nat.div_le_self _ _) hx) (Nat.mod_lt _ (by decide))]
  rfl
theorem ret_int {k : IntKind} {a b : Int} (h : a = b) : Ending.returned (.int k a) = .returned (.int k b) := by rw [h]

set_option maxHeartbeats 400000 in
theorem rot_any (x : Nat) (n : Int) (h0 : 0 < n) (h1 : n < 32) (hx : x < 4294967296) (w : World) :
    Calls Tryz.prog 116 #[.int .u32 x, .int .i64 (-n)] w fun e w' => e = .returned (.int .u32 (rr n.toNat x : Nat)) ∧ w' = w := by
  have hm := turn_mask n h0 h1
  have HT : Hid _ := turn_or x n h0 h1 hx
  go_enter Tryz.func116, Tryz.ntmps116
  go_wp2
  go_ret
  refine ⟨ret_int ?_, rfl⟩
  rw [← HT.out]
  have : (32 - (32 - n)).toNat = n.toNat := by omega
  rw [this]

set_option maxHeartbeats 400000 in
theorem right_any (x : Nat) (n : Int) (h0 : 0 < n) (h1 : n < 32) (hx : x < 4294967296) (w : World) :
    Calls Tryz.prog 111 #[.int .u32 x, .int .i64 n] w fun e w' => e = .returned (.int .u32 (rr n.toNat x : Nat)) ∧ w' = w := by
  go_enter Tryz.func111, Tryz.ntmps111
  go_wp2_with fail
  refine (rot_any x n h0 h1 hx _).mono ?_
  rintro e w' ⟨rfl, rfl⟩
  go_wp2
  go_ret
  exact ⟨rfl, rfl⟩

set_option maxHeartbeats 400000 in
theorem rright_any (x : Nat) (n : Int) (h0 : 0 < n) (h1 : n < 32) (hx : x < 4294967296) (w : World) :
    Calls Tryz.prog 109 #[.int .u32 x, .int .i64 n] w fun e w' => e = .returned (.int .u32 (rr n.toNat x : Nat)) ∧ ∃ m, w' = w.drewN m := by
  have HT : Hid _ := turn_or' x n h0 h1 hx
  go_enter Tryz.func109, Tryz.ntmps109
  go_wp2
  go_quiet (fail)
  go_wp2
  go_ret
  exact ⟨ret_int HT.out, _, rfl⟩
end Go.Proofs.YtbmcmabimfoknaaGreatDoor
