/- Contracts of the small functions of package num, and of the document's answers to them: each returns what a plain function on whole numbers says, and leaves the world as it was. -/
import Derived.Test.YthjjdjidbhlncaaFlowM
import Derived.Test.YthjjdjidbhlncaaRows
import Derived.WalkKit
import Derived.WalkLawsBesides
namespace Go.Proofs.Ythjjdjidbhlncaa
set_option maxRecDepth 100000
open Go.RowKit

def addV (a b : Int) : Int := if a + b < 18446744073709551616 then a + b else 0
def addB (a b : Int) : Bool := decide (a + b < 18446744073709551616)
def mulV (a b : Int) : Int := if a * b < 18446744073709551616 then a * b else 0
def mulB (a b : Int) : Bool := decide (a * b < 18446744073709551616)
def subV (a b : Int) : Int := if b ≤ a then a - b else 0
def subB (a b : Int) : Bool := decide (b ≤ a)
def divV (a b : Int) : Int := if b = 0 then 0 else a / b
def divB (b : Int) : Bool := !(b == 0)
def mostV (a b : Int) : Int := if a + b < 18446744073709551616 then a + b else 18446744073709551615

theorem add64_run (x y : Int) (hx : 0 ≤ x) (hy : 0 ≤ y) (w : World) :
    (callFunc 21 #[.int .u64 x, .int .u64 y, .int .u64 0]).run Try.prog w =
      .ok (.value (.tuple #[.int .u64 ((x + y) % 18446744073709551616), .int .u64 ((x + y) / 18446744073709551616)])) w := by
  rw [run_callFunc_extern Try.func21 (by kernel_rfl) (by kernel_rfl) (by kernel_rfl) (e := add64Entry) (by kernel_rfl), run_add64 x y 0 hx hy (by omega) (by omega)]
  simp [Result.andThen]

theorem add64_small (x y : Int) (hx : 0 ≤ x) (hy : 0 ≤ y) (h : x + y < 18446744073709551616) (w : World) :
    (callFunc 21 #[.int .u64 x, .int .u64 y, .int .u64 0]).run Try.prog w = .ok (.value (.tuple #[.int .u64 (x + y), .int .u64 0])) w := by
  rw [add64_run x y hx hy]
  rw [show (x + y) % 18446744073709551616 = x + y by omega, show (x + y) / 18446744073709551616 = 0 by omega]

theorem add64_great (x y : Int) (hx : 0 ≤ x) (hy : 0 ≤ y) (hx' : x < 18446744073709551616) (hy' : y < 18446744073709551616) (h : ¬ x + y < 18446744073709551616) (w : World) :
    (callFunc 21 #[.int .u64 x, .int .u64 y, .int .u64 0]).run Try.prog w = .ok (.value (.tuple #[.int .u64 (x + y - 18446744073709551616), .int .u64 1])) w := by
  rw [add64_run x y hx hy]
  rw [show (x + y) % 18446744073709551616 = x + y - 18446744073709551616 by omega, show (x + y) / 18446744073709551616 = 1 by omega]


set_option maxHeartbeats 400000 in
theorem sub_any (a b : Int) (ha : 0 ≤ a) (ha' : a < 18446744073709551616) (hb : 0 ≤ b) (hb' : b < 18446744073709551616) (w : World) :
    Calls Try.prog 19 #[.int .u64 a, .int .u64 b] w fun e w' => e = .returned (.tuple #[.int .u64 (subV a b), .bool (subB a b)]) ∧ w' = w := by
  by_cases h : a < b
  · have e0 : subV a b = 0 := by unfold subV; rw [if_neg (by omega)]
    have e1 : subB a b = false := by unfold subB; simp; omega
    rw [e0, e1]
    clear e0 e1
    go_enter Try.func19, Try.ntmps19
    go_wp2
    go_ret2
    exact ⟨rfl, rfl⟩
  · have e0 : subV a b = a - b := by unfold subV; rw [if_pos (by omega)]
    have e1 : subB a b = true := by unfold subB; simp; omega
    rw [e0, e1]
    clear e0 e1
    go_enter Try.func19, Try.ntmps19
    go_wp2
    go_ret2
    exact ⟨rfl, rfl⟩


set_option maxHeartbeats 400000 in
theorem add_any (a b : Int) (ha : 0 ≤ a) (ha' : a < 18446744073709551616) (hb : 0 ≤ b) (hb' : b < 18446744073709551616) (w : World) :
    Calls Try.prog 20 #[.int .u64 a, .int .u64 b] w fun e w' => e = .returned (.tuple #[.int .u64 (addV a b), .bool (addB a b)]) ∧ w' = w := by
  by_cases h : a + b < 18446744073709551616
  · have e0 : addV a b = a + b := by unfold addV; rw [if_pos h]
    have e1 : addB a b = true := by unfold addB; simp; omega
    rw [e0, e1]
    clear e0 e1
    go_enter Try.func20, Try.ntmps20
    have hr := add64_small a b ha hb h
    go_wp2_with (simp only [hr])
    go_ret2
    exact ⟨rfl, rfl⟩
  · have e0 : addV a b = 0 := by unfold addV; rw [if_neg h]
    have e1 : addB a b = false := by unfold addB; simp; omega
    rw [e0, e1]
    clear e0 e1
    go_enter Try.func20, Try.ntmps20
    have hr := add64_great a b ha hb ha' hb' h
    go_wp2_with (simp only [hr])
    go_ret2
    exact ⟨rfl, rfl⟩


set_option maxHeartbeats 400000 in
theorem refLess_any (a b : Int) (ha : 0 ≤ a) (ha' : a < 18446744073709551616) (hb : 0 ≤ b) (hb' : b < 18446744073709551616) (w : World) :
    Calls Try.prog 10 #[.int .u64 a, .int .u64 b] w fun e w' => e = .returned (.int .u64 (subV a b)) ∧ w' = w := by
  by_cases h : a < b
  · have e0 : subV a b = 0 := by unfold subV; rw [if_neg (by omega)]
    rw [e0]
    clear e0
    go_enter Try.func10, Try.ntmps10
    go_wp2
    go_ret
    exact ⟨rfl, rfl⟩
  · have e0 : subV a b = a - b := by unfold subV; rw [if_pos (by omega)]
    rw [e0]
    clear e0
    go_enter Try.func10, Try.ntmps10
    go_wp2
    go_ret
    exact ⟨rfl, rfl⟩


set_option maxHeartbeats 400000 in
theorem less_any (a b : Int) (ha : 0 ≤ a) (ha' : a < 18446744073709551616) (hb : 0 ≤ b) (hb' : b < 18446744073709551616) (w : World) :
    Calls Try.prog 16 #[.int .u64 a, .int .u64 b] w fun e w' => e = .returned (.int .u64 (subV a b)) ∧ w' = w := by
  go_enter Try.func16, Try.ntmps16
  go_wp2_with (go_at_call 19; refine (sub_any _ _ ha ha' hb hb' _).mono ?_; rintro e w' ⟨rfl, rfl⟩)
  go_ret
  exact ⟨rfl, rfl⟩


set_option maxHeartbeats 400000 in
theorem most_any (a b : Int) (ha : 0 ≤ a) (ha' : a < 18446744073709551616) (hb : 0 ≤ b) (hb' : b < 18446744073709551616) (w : World) :
    Calls Try.prog 18 #[.int .u64 a, .int .u64 b] w fun e w' => e = .returned (.int .u64 (mostV a b)) ∧ w' = w := by
  by_cases h : a + b < 18446744073709551616
  · have e0 : mostV a b = a + b := by unfold mostV; rw [if_pos h]
    have e1 : addV a b = a + b := by unfold addV; rw [if_pos h]
    have e2 : addB a b = true := by unfold addB; simp; omega
    have hc := add_any a b ha ha' hb hb'
    rw [e1, e2] at hc
    rw [e0]
    clear e0 e1 e2
    have H : Hid _ := hc
    clear hc
    go_enter Try.func18, Try.ntmps18
    go_wp2_with (go_at_call 20; refine (H.out _).mono ?_; rintro e w' ⟨rfl, rfl⟩)
    go_ret
    exact ⟨rfl, rfl⟩
  · have e0 : mostV a b = 18446744073709551615 := by unfold mostV; rw [if_neg h]
    have e1 : addV a b = 0 := by unfold addV; rw [if_neg h]
    have e2 : addB a b = false := by unfold addB; simp; omega
    have hc := add_any a b ha ha' hb hb'
    rw [e1, e2] at hc
    rw [e0]
    clear e0 e1 e2
    have H : Hid _ := hc
    clear hc
    go_enter Try.func18, Try.ntmps18
    go_wp2_with (go_at_call 20; refine (H.out _).mono ?_; rintro e w' ⟨rfl, rfl⟩)
    go_ret
    exact ⟨rfl, rfl⟩

end Go.Proofs.Ythjjdjidbhlncaa
