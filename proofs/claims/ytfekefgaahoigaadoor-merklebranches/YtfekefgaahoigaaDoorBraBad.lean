/- Both Branch where there is none. -/
import Derived.Test.YtfekefgaahoigaaDoorRefB
namespace Go.Proofs.YtfekefgaahoigaaDoor
open Go.RowKit
set_option linter.unusedVariables false

set_option maxRecDepth 100000 in
set_option maxHeartbeats 2000000 in
theorem branch_bad (ao : Option Addr) (cap : Nat) (rs : List (List Nat)) (D I : Int) (w : World) (hcap : rs.length ≤ cap) (hm : cap ≤ maxLen) (d0 : -9223372036854775808 ≤ D) (d1 : D ≤ 9223372036854775807) (i0 : -9223372036854775808 ≤ I) (i1 : I ≤ 9223372036854775807) (hbad : D < 0 ∨ 40 < D ∨ I < 0 ∨ ((2 ^ D.toNat : Nat) : Int) ≤ I ∨ 2 ^ D.toNat < rs.length) :
    Calls Tryd.prog 21 #[.slice ao rs.length cap, .int .i64 D, .int .i64 I] w fun e w' => e = .returned (.tuple #[.slice none 0 0, .int .i64 2]) ∧ Below w.heap.size w w' := by
  unfold maxLen at hm
  by_cases hd1 : D < 0
  ·
    go_enter Tryd.func21, Tryd.ntmps21
    go_wp2_with fail
    refine bodyPost_ret (results_tmp_tmp rfl _ _) rfl ?_
    exact ⟨rfl, Below.refl _ w⟩
  by_cases hd2 : 40 < D
  ·
    go_enter Tryd.func21, Tryd.ntmps21
    go_wp2_with fail
    refine bodyPost_ret (results_tmp_tmp rfl _ _) rfl ?_
    exact ⟨rfl, Below.refl _ w⟩
  obtain ⟨d, rfl⟩ := Int.eq_ofNat_of_zero_le (show 0 ≤ D by omega)
  have hp40 : 2 ^ d ≤ 2 ^ 40 := Nat.pow_le_pow_right (by decide) (by omega)
  obtain ⟨p, hp⟩ : ∃ p, Hid (1 * 2 ^ d = p) := ⟨_, hid rfl⟩
  have hpe : 2 ^ d = p := by rw [← hp.out, Nat.one_mul]
  have hw2 : wrap64 ((2 : Int) ^ d) = (p : Int) := by
    have e : ((2 : Int) ^ d) = ((2 ^ d : Nat) : Int) := by simp
    rw [e, hpe]; unfold wrap64; rw [hpe] at hp40; omega
  rw [hpe] at hp40
  have hbad' : I < 0 ∨ (p : Int) ≤ I ∨ p < rs.length := by
    rcases hbad with h | h | h | h | h
    · omega
    · omega
    · exact .inl h
    · rw [Int.toNat_natCast, hpe] at h; exact .inr (.inl h)
    · rw [Int.toNat_natCast, hpe] at h; exact .inr (.inr h)
  clear hpe hbad
  by_cases hi1 : I < 0
  ·
    go_enter Tryd.func21, Tryd.ntmps21
    go_wp2_with (refine wpList_run rfl _ (run_shl 3 3 (.const (.int .i64 1)) (.tmp 19) rfl 1 d p rfl rfl (by omega) hp (by omega)) ?_)
    refine bodyPost_ret (results_tmp_tmp rfl _ _) rfl ?_
    exact ⟨rfl, Below.refl _ w⟩
  by_cases hi2 : (p : Int) ≤ I
  ·
    go_enter Tryd.func21, Tryd.ntmps21
    go_wp2_with (refine wpList_run rfl _ (run_shl 3 3 (.const (.int .i64 1)) (.tmp 19) rfl 1 d p rfl rfl (by omega) hp (by omega)) ?_)
    refine bodyPost_ret (results_tmp_tmp rfl _ _) rfl ?_
    exact ⟨rfl, Below.refl _ w⟩
  have hi3 : p < rs.length := by omega
  have hi4 : (p : Int) < (rs.length : Int) := by omega
  ·
    go_enter Tryd.func21, Tryd.ntmps21
    go_wp2_with (refine wpList_run rfl _ (run_shl 3 3 (.const (.int .i64 1)) (.tmp 19) rfl 1 d p rfl rfl (by omega) hp (by omega)) ?_)
    refine bodyPost_ret (results_tmp_tmp rfl _ _) rfl ?_
    exact ⟨rfl, Below.refl _ w⟩

set_option maxRecDepth 100000 in
set_option maxHeartbeats 2000000 in
theorem rbranch_bad (ao : Option Addr) (cap : Nat) (rs : List (List Nat)) (D I : Int) (w : World) (hcap : rs.length ≤ cap) (hm : cap ≤ maxLen) (d0 : -9223372036854775808 ≤ D) (d1 : D ≤ 9223372036854775807) (i0 : -9223372036854775808 ≤ I) (i1 : I ≤ 9223372036854775807) (hbad : D < 0 ∨ 40 < D ∨ I < 0 ∨ ((2 ^ D.toNat : Nat) : Int) ≤ I ∨ 2 ^ D.toNat < rs.length) :
    Calls Tryd.prog 22 #[.slice ao rs.length cap, .int .i64 D, .int .i64 I] w fun e w' => e = .returned (.tuple #[.slice none 0 0, .bool false]) ∧ Below w.heap.size w w' := by
  unfold maxLen at hm
  by_cases hd1 : D < 0
  ·
    go_enter Tryd.func22, Tryd.ntmps22
    go_wp2_with fail
    refine bodyPost_ret (results_tmp_tmp rfl _ _) rfl ?_
    exact ⟨rfl, Below.refl _ w⟩
  by_cases hd2 : 40 < D
  ·
    go_enter Tryd.func22, Tryd.ntmps22
    go_wp2_with fail
    refine bodyPost_ret (results_tmp_tmp rfl _ _) rfl ?_
    exact ⟨rfl, Below.refl _ w⟩
  obtain ⟨d, rfl⟩ := Int.eq_ofNat_of_zero_le (show 0 ≤ D by omega)
  have hp40 : 2 ^ d ≤ 2 ^ 40 := Nat.pow_le_pow_right (by decide) (by omega)
  obtain ⟨p, hp⟩ : ∃ p, Hid (1 * 2 ^ d = p) := ⟨_, hid rfl⟩
  have hpe : 2 ^ d = p := by rw [← hp.out, Nat.one_mul]
  have hw2 : wrap64 ((2 : Int) ^ d) = (p : Int) := by
    have e : ((2 : Int) ^ d) = ((2 ^ d : Nat) : Int) := by simp
    rw [e, hpe]; unfold wrap64; rw [hpe] at hp40; omega
  rw [hpe] at hp40
  have hbad' : I < 0 ∨ (p : Int) ≤ I ∨ p < rs.length := by
    rcases hbad with h | h | h | h | h
    · omega
    · omega
    · exact .inl h
    · rw [Int.toNat_natCast, hpe] at h; exact .inr (.inl h)
    · rw [Int.toNat_natCast, hpe] at h; exact .inr (.inr h)
  clear hpe hbad
  by_cases hi1 : I < 0
  ·
    go_enter Tryd.func22, Tryd.ntmps22
    go_wp2_with fail
    refine bodyPost_ret (results_tmp_tmp rfl _ _) rfl ?_
    exact ⟨rfl, Below.refl _ w⟩
  by_cases hi2 : (p : Int) ≤ I
  ·
    go_enter Tryd.func22, Tryd.ntmps22
    go_wp2_with fail
    refine bodyPost_ret (results_tmp_tmp rfl _ _) rfl ?_
    exact ⟨rfl, Below.refl _ w⟩
  have hi3 : p < rs.length := by omega
  have hi4 : (p : Int) < (rs.length : Int) := by omega
  ·
    go_enter Tryd.func22, Tryd.ntmps22
    go_wp2_with fail
    refine bodyPost_ret (results_tmp_tmp rfl _ _) rfl ?_
    exact ⟨rfl, Below.refl _ w⟩
end Go.Proofs.YtfekefgaahoigaaDoor
