/- Contracts of the product and of the root, of package num and of the document's answers. -/
import Derived.Test.YtbffjbdpabkfaaaNum
import Derived.Test.YtbffjbdpabkfaaaPure
import Derived.OwnWalk
import Derived.Shelf.Bits.Mul64
namespace Go.Proofs.Ytbffjbdpabkfaaa
open Go.RowKit
set_option linter.unusedVariables false

namespace M64
theorem wrapN (a : Nat) (ha : a < 18446744073709551616) : IntKind.u64.wrap (a : Int) = (a : Int) := by rw [IntKind.wrap_u64]; omega
theorem wrapM (a : Nat) : IntKind.u64.wrap (a : Int) = ((a % 18446744073709551616 : Nat) : Int) := by rw [IntKind.wrap_u64]; omega
end M64

/- The library's bits.Mul64, by the shelf's contract laid at this program. -/
def mulRen : Go.Shelf.Ren := ⟨fun | 264 => 18 | n => n, fun | 53 => 22 | 46 => 37 | n => n, fun | n => n⟩
theorem mulLays : Go.Proofs.Lays.n264 Try.prog mulRen := {
  mixed := by kernel_rfl
  f264 := Try.func18.trans (congrArg some (by kernel_rfl))
  t46 := Try.underlying37
  a46 := Try.isAgg37
  z46 := Try.sizeOf37
  v46 := Try.zeroValue37
  t53 := Try.underlying22
  a53 := Try.isAgg22
  z53 := Try.sizeOf22
  v53 := Try.zeroValue22 }
theorem mul64_any (x y : Nat) (hx : x < 18446744073709551616) (hy : y < 18446744073709551616) (w : World) :
    Calls Try.prog 18 #[.int .u64 x, .int .u64 y] w fun e w' => e = .returned (.tuple #[.int .u64 ((x * y / 18446744073709551616 : Nat) : Int), .int .u64 ((x * y % 18446744073709551616 : Nat) : Int)]) ∧ w' = w :=
  Any.bits_Mul64 mulLays x y hx hy w

/-- One step of the search, in the walk's own numbers. -/
theorem root_step (n k r : Nat) (hk : k + 1 ≤ 32) (hm : r % 2 ^ (k + 1) = 0) (hg : rootGo n (k + 1) r = rootV n) (hb : r + 2 ^ (k + 1) ≤ 4294967296) :
    ∃ p : Nat, p = 2 ^ k ∧ 0 < p ∧ r + p + p ≤ 4294967296 ∧ bits .or .u64 (r : Int) (p : Int) = (r : Int) + (p : Int) ∧ IntKind.u64.wrap ((2 : Int) ^ k) = (p : Int) ∧
      IntKind.u64.wrap (((r : Int) + p) * ((r : Int) + p)) = ((r : Int) + p) * ((r : Int) + p) ∧
      (((r : Int) + p) * ((r : Int) + p) ≤ (n : Int) → Hid ((r + p) % 2 ^ k = 0 ∧ rootGo n k (r + p) = rootV n) ∧ r + p + 2 ^ k ≤ 4294967296) ∧
      (¬ ((r : Int) + p) * ((r : Int) + p) ≤ (n : Int) → Hid (r % 2 ^ k = 0 ∧ rootGo n k r = rootV n) ∧ r + 2 ^ k ≤ 4294967296) := by
  have hor := or_next r k hm hb
  have hsq := next_sq r k hb
  have hmm := next_mod r k hm
  have hle := next_le r k hb
  have hpos := Nat.two_pow_pos k
  have hgo : rootGo n (k + 1) r = if (r + 2 ^ k) * (r + 2 ^ k) ≤ n then rootGo n k (r + 2 ^ k) else rootGo n k r := rfl
  rw [hgo] at hg
  refine ⟨2 ^ k, rfl, hpos, hle.2, by rw [hor]; simp, ?_, ?_, ?_, ?_⟩
  · have h2 : 2 ^ k < 18446744073709551616 := by omega
    have := M64.wrapN _ h2
    simpa using this
  · have := M64.wrapN _ hsq
    simpa using this
  · intro h
    have h' : (r + 2 ^ k) * (r + 2 ^ k) ≤ n := by exact_mod_cast h
    rw [if_pos h'] at hg
    exact ⟨⟨hmm.2, hg⟩, hle.2⟩
  · intro h
    have h' : ¬ (r + 2 ^ k) * (r + 2 ^ k) ≤ n := by intro h2; exact h (by exact_mod_cast h2)
    rw [if_neg h'] at hg
    exact ⟨⟨hmm.1, hg⟩, hle.1⟩

theorem ret_u64 {a b : Int} (h : a = b) : Ending.returned (.int .u64 a) = .returned (.int .u64 b) := by rw [h]

set_option maxHeartbeats 400000 in
theorem root_any (n : Nat) (w : World) :
    Calls Try.prog 17 #[.int .u64 n] w fun e w' => e = .returned (.int .u64 (rootV n : Nat)) ∧ w' = w := by
  go_enter Try.func17, Try.ntmps17
  go_wp2
  go_loop [3, 4] (fun ro bi => ∃ k r : Nat, k ≤ 32 ∧ Hid (r % 2 ^ k = 0 ∧ rootGo n k r = rootV n) ∧ r + 2 ^ k ≤ 4294967296 ∧ ro = .int .u64 (r : Nat) ∧ bi = .int .u64 ((2 ^ k / 2 : Nat) : Int)) (fun _ bi => (intOf bi).toNat)
  case atStart => exact ⟨32, 0, by omega, ⟨rfl, rfl⟩, by simp, rfl, rfl⟩
  case round =>
    obtain ⟨k, r, hk, hh, hb, rfl, rfl⟩ := hrel
    cases k with
    | zero =>
      go_wp2
      go_ret
      exact ⟨ret_u64 (by rw [← hh.out.2]; rfl), rfl⟩
    | succ k =>
      obtain ⟨p, hp, hp0, hpb, hor, _, hwr, h1, h2⟩ := root_step n k r hk hh.out.1 hh.out.2 hb
      have e1 : 2 ^ (k + 1) / 2 = p := by rw [hp, Nat.pow_succ]; omega
      have HP : Hid (p = 2 ^ k) := hp
      have H1 : Hid _ := h1
      have H2 : Hid _ := h2
      rw [e1]
      have hne : ((p : Int) != 0) = true := by rw [bne_iff_ne]; omega
      clear e1 hp h1 h2 hh hb
      by_cases hc : ((r : Int) + p) * ((r : Int) + p) ≤ (n : Int)
      · go_wp2
        go_round
        case rel => exact ⟨k, r + p, by omega, (H1.out hc).1, (H1.out hc).2, by simp, by rw [← HP.out]; simp⟩
        case measure => simp [intOf]; omega
      · go_wp2
        go_round
        case rel => exact ⟨k, r, by omega, (H2.out hc).1, (H2.out hc).2, rfl, by rw [← HP.out]; simp⟩
        case measure => simp [intOf]; omega

set_option maxHeartbeats 400000 in
theorem refRoot_any (n : Nat) (w : World) :
    Calls Try.prog 19 #[.int .u64 n] w fun e w' => e = .returned (.int .u64 (rootV n : Nat)) ∧ w' = w := by
  go_enter Try.func19, Try.ntmps19
  go_wp2
  go_loop [3, 4] (fun ro i => ∃ k r : Nat, k ≤ 32 ∧ Hid (r % 2 ^ k = 0 ∧ rootGo n k r = rootV n) ∧ r + 2 ^ k ≤ 4294967296 ∧ ro = .int .u64 (r : Nat) ∧ i = .int .i64 ((k : Int) - 1)) (fun _ i => (intOf i + 1).toNat)
  case atStart => exact ⟨32, 0, by omega, ⟨rfl, rfl⟩, by simp, rfl, rfl⟩
  case round =>
    obtain ⟨k, r, hk, hh, hb, rfl, rfl⟩ := hrel
    cases k with
    | zero =>
      go_wp2
      go_ret
      exact ⟨ret_u64 (by rw [← hh.out.2]; rfl), rfl⟩
    | succ k =>
      obtain ⟨p, hp, hp0, hpb, hor, hsh, hwr, h1, h2⟩ := root_step n k r hk hh.out.1 hh.out.2 hb
      have H1 : Hid _ := h1
      have H2 : Hid _ := h2
      clear hp h1 h2 hh hb
      by_cases hc : ((r : Int) + p) * ((r : Int) + p) ≤ (n : Int)
      · go_wp2
        go_round
        case rel => exact ⟨k, r + p, by omega, (H1.out hc).1, (H1.out hc).2, by simp, rfl⟩
        case measure => simp [intOf]
      · go_wp2
        go_round
        case rel => exact ⟨k, r, by omega, (H2.out hc).1, (H2.out hc).2, rfl, rfl⟩
        case measure => simp [intOf]

theorem mul_cast (a b : Nat) : mulV a b = ((if a * b < 18446744073709551616 then a * b else 0 : Nat) : Int) ∧ mulB a b = decide (a * b < 18446744073709551616) := by
  unfold mulV mulB
  rw [← Int.natCast_mul]
  constructor
  · by_cases h : a * b < 18446744073709551616
    · rw [if_pos (by omega), if_pos h]
    · rw [if_neg (by omega), if_neg h]; rfl
  · rw [decide_eq_decide]; omega

set_option maxHeartbeats 400000 in
theorem mul_any (a b : Nat) (ha : a < 18446744073709551616) (hb : b < 18446744073709551616) (w : World) :
    Calls Try.prog 10 #[.int .u64 a, .int .u64 b] w fun e w' => e = .returned (.tuple #[.int .u64 (mulV a b), .bool (mulB a b)]) ∧ w' = w := by
  have hc := mul64_any a b ha hb
  rw [(mul_cast a b).1, (mul_cast a b).2]
  generalize a * b = p at *
  by_cases h : p < 18446744073709551616
  · rw [if_pos h, show decide (p < 18446744073709551616) = true by simpa using h]
    rw [show p / 18446744073709551616 = 0 by omega, show p % 18446744073709551616 = p by omega] at hc
    have H : Hid _ := hc
    clear hc
    go_enter Try.func10, Try.ntmps10
    go_wp2_with (go_at_call 18; refine (H.out _).mono ?_; rintro e w' ⟨rfl, rfl⟩)
    go_ret2
    exact ⟨rfl, rfl⟩
  · rw [if_neg h, show decide (p < 18446744073709551616) = false by simpa using h]
    have hq : ∃ q : Nat, p / 18446744073709551616 = q ∧ 0 < q := ⟨_, rfl, by omega⟩
    obtain ⟨q, hq, hq0⟩ := hq
    rw [hq] at hc
    have H : Hid _ := hc
    have hne : ((q : Int) != 0) = true := by rw [bne_iff_ne]; omega
    clear hc hq
    go_enter Try.func10, Try.ntmps10
    go_wp2_with (go_at_call 18; refine (H.out _).mono ?_; rintro e w' ⟨rfl, rfl⟩)
    go_ret2
    exact ⟨rfl, rfl⟩

theorem div_test (a b : Nat) (h0 : a ≠ 0) : ((18446744073709551615 : Int) / (a : Int) < (b : Int)) ↔ ¬ a * b < 18446744073709551616 := by
  have h1 : ((18446744073709551615 : Int) / (a : Int)) = ((18446744073709551615 / a : Nat) : Int) := by simp
  rw [h1]
  have h2 : 18446744073709551615 / a < b ↔ 18446744073709551615 < b * a := Nat.div_lt_iff_lt_mul (by omega)
  rw [Nat.mul_comm a b]
  omega

set_option maxHeartbeats 400000 in
theorem refMul_any (a b : Nat) (ha : a < 18446744073709551616) (hb : b < 18446744073709551616) (w : World) :
    Calls Try.prog 11 #[.int .u64 a, .int .u64 b] w fun e w' => e = .returned (.tuple #[.int .u64 (mulV a b), .bool (mulB a b)]) ∧ w' = w := by
  rw [(mul_cast a b).1, (mul_cast a b).2]
  by_cases h0 : a = 0
  · subst h0
    rw [show decide (0 * b < 18446744073709551616) = true by simp]
    go_enter Try.func11, Try.ntmps11
    go_wp2
    go_ret2
    exact ⟨by simp, rfl⟩
  · have hd := div_test a b h0
    have hw := M64.wrapM (a * b)
    rw [Int.natCast_mul] at hw
    have hne : ((a : Int) != 0) = true := by rw [bne_iff_ne]; omega
    by_cases h : a * b < 18446744073709551616
    · rw [if_pos h, show decide (a * b < 18446744073709551616) = true by simpa using h]
      rw [show a * b % 18446744073709551616 = a * b by omega, Int.natCast_mul] at hw
      have hd' : ¬ (18446744073709551615 : Int) / (a : Int) < (b : Int) := by rw [hd]; simpa using h
      clear hd h
      go_enter Try.func11, Try.ntmps11
      go_wp2
      go_ret2
      exact ⟨by simp, rfl⟩
    · rw [if_neg h, show decide (a * b < 18446744073709551616) = false by simpa using h]
      have hd' : (18446744073709551615 : Int) / (a : Int) < (b : Int) := by rw [hd]; simpa using h
      clear hd h hw
      go_enter Try.func11, Try.ntmps11
      go_wp2
      go_ret2
      exact ⟨by simp, rfl⟩

theorem mul_int (a b : Int) (ha : 0 ≤ a) (ha' : a < 18446744073709551616) (hb : 0 ≤ b) (hb' : b < 18446744073709551616) (w : World) :
    Calls Try.prog 10 #[.int .u64 a, .int .u64 b] w fun e w' => e = .returned (.tuple #[.int .u64 (mulV a b), .bool (mulB a b)]) ∧ w' = w := by
  obtain ⟨A, rfl⟩ := Int.eq_ofNat_of_zero_le ha
  obtain ⟨B, rfl⟩ := Int.eq_ofNat_of_zero_le hb
  exact mul_any A B (by omega) (by omega) w
theorem refMul_int (a b : Int) (ha : 0 ≤ a) (ha' : a < 18446744073709551616) (hb : 0 ≤ b) (hb' : b < 18446744073709551616) (w : World) :
    Calls Try.prog 11 #[.int .u64 a, .int .u64 b] w fun e w' => e = .returned (.tuple #[.int .u64 (mulV a b), .bool (mulB a b)]) ∧ w' = w := by
  obtain ⟨A, rfl⟩ := Int.eq_ofNat_of_zero_le ha
  obtain ⟨B, rfl⟩ := Int.eq_ofNat_of_zero_le hb
  exact refMul_any A B (by omega) (by omega) w
end Go.Proofs.Ytbffjbdpabkfaaa
