/- The document's Take. -/
import Derived.Test.YtckmdofmplkdfaaBytesB
namespace Go.Proofs.Ytckmdofmplkdfaa
open Go.RowKit
set_option linter.unusedVariables false
set_option maxRecDepth 100000

set_option maxHeartbeats 1000000 in
theorem refTake_any (ao : Option Addr) (len cap : Nat) (zs : List Int) (w : World) (hl : len ≤ maxLen) (hz : ReadsBytes w ao len zs) :
    Calls Try.prog 19 #[.slice ao len cap] w fun e w' => e = .returned (.int .u64 (takeV zs : Nat)) ∧ w' = w := by
  obtain ⟨hlen, hby, hcs⟩ := hz
  unfold maxLen at hl
  rcases hcs with h0 | ⟨b, off, rfl, hc⟩
  · subst h0
    have hnil : zs = [] := List.length_eq_zero_iff.1 hlen
    subst hnil
    clear hlen hby
    go_enter Try.func19, Try.ntmps19
    go_wp2
    refine wp_loop_rounds 1 ?_
    rw [rounds_succ]
    go_wp2
    go_ret
    exact ⟨rfl, rfl⟩
  · go_enter Try.func19, Try.ntmps19
    go_wp2
    go_loop [3, 4] (fun n i => ∃ k : Nat, k ≤ len ∧ i = .int .i64 ((k : Int) - 1) ∧ n = .int .u64 (takeL ((zs.take 8).drop k) : Nat)) (fun _ i => (intOf i + 1).toNat)
    case atStart => exact ⟨len, Nat.le_refl _, rfl, by rw [List.drop_of_length_le (by simp; omega)]; rfl⟩
    case round =>
      obtain ⟨k, hk, rfl, rfl⟩ := hrel
      cases k with
      | zero =>
        clear hc hby hlen
        go_wp2
        go_ret
        exact ⟨by simp [takeV], rfl⟩
      | succ k =>
        by_cases h8 : k < 8
        · have hst := drop_step (zs.take 8) k (by simp; omega)
          have hcl := hc k (by omega)
          rw [getD_get zs k (by omega)] at hcl
          have hx := hby (zs[k]'(by omega)) (List.getElem_mem (by omega))
          have htl := takeL_lt ((zs.take 8).drop k) (fun x hx => hby x (List.mem_of_mem_take (List.mem_of_mem_drop hx)))
          have hle : 256 ^ ((zs.take 8).drop k).length ≤ 256 ^ 8 := Nat.pow_le_pow_right (by omega) (by simp; omega)
          rw [List.getElem_take] at hst
          generalize zs[k]'(by omega) = x at *
          generalize takeL ((zs.take 8).drop (k + 1)) = t at *
          generalize ht' : takeL ((zs.take 8).drop k) = t' at *
          have hb : t' < 18446744073709551616 := by omega
          have HT : Hid _ := ht'
          have HS : Hid _ := hst
          have hb1 : (t : Int) * 256 + x < 18446744073709551616 := by omega
          clear ht' hst htl hle hc hby hlen
          go_wp2
          go_round
          case rel => exact ⟨k, by omega, rfl, by rw [HT.out, HS.out]; go_num⟩
          case measure => simp [intOf]
        · have hst : takeL ((zs.take 8).drop (k + 1)) = takeL ((zs.take 8).drop k) := by
            rw [List.drop_of_length_le (by simp; omega), List.drop_of_length_le (by simp; omega)]
          rw [hst]
          clear hst hc hby
          go_wp2
          go_round
          case rel => exact ⟨k, by omega, rfl, rfl⟩
          case measure => simp [intOf]
end Go.Proofs.Ytckmdofmplkdfaa
