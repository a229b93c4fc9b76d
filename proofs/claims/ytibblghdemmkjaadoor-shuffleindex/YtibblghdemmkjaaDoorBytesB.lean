/- Contracts of Put and Take of package num, and of the document's answers: bytes of a number, the lowest first. -/
import Derived.Test.YtibblghdemmkjaaDoorXor
namespace Go.Proofs.YtibblghdemmkjaaDoor
set_option maxRecDepth 100000
open Go.RowKit
set_option linter.unusedVariables false
set_option maxRecDepth 100000

set_option maxHeartbeats 400000 in
theorem put_none (n : Nat) (size : Int) (hs : size < 1) (w : World) :
    Calls Tryd.prog 25 #[.int .u64 n, .int .i64 size] w fun e w' => e = .returned (.slice none 0 0) ∧ w' = w := by
  go_enter Tryd.func25, Tryd.ntmps25
  go_wp2
  go_ret
  exact ⟨rfl, rfl⟩

/-- The slice value's first len bytes, read in the world w, are zs. -/
def ReadsBytes (w : World) (ao : Option Addr) (len : Nat) (zs : List Int) : Prop :=
  zs.length = len ∧ (∀ z ∈ zs, 0 ≤ z ∧ z < 256) ∧ (len = 0 ∨ ∃ b off, ao = some ⟨b, off, none⟩ ∧ ∀ i, i < len → w.cell? ⟨b, off + i, none⟩ = some (.int .u8 (zs.getD i 0)))

theorem getD_get (zs : List Int) (k : Nat) (h : k < zs.length) : zs.getD k 0 = zs[k] := by simp [List.getD_eq_getElem?_getD, h]

set_option maxHeartbeats 1000000 in
theorem take_any (ao : Option Addr) (len cap : Nat) (zs : List Int) (w : World) (hl : len ≤ maxLen) (hz : ReadsBytes w ao len zs) :
    Calls Tryd.prog 23 #[.slice ao len cap] w fun e w' => e = .returned (.int .u64 (takeV zs : Nat)) ∧ w' = w := by
  obtain ⟨hlen, hby, hcs⟩ := hz
  unfold maxLen at hl
  rcases hcs with h0 | ⟨b, off, rfl, hc⟩
  · subst h0
    have hnil : zs = [] := List.length_eq_zero_iff.1 hlen
    subst hnil
    clear hlen hby
    go_enter Tryd.func23, Tryd.ntmps23
    go_wp2
    refine wp_loop_rounds 1 ?_
    rw [rounds_succ]
    go_wp2
    go_ret
    exact ⟨rfl, rfl⟩
  · by_cases h8 : 8 < len
    · go_enter Tryd.func23, Tryd.ntmps23
      go_wp2
      go_loop [3, 4, 8] (fun n _ i => ∃ k : Nat, k ≤ 8 ∧ i = .int .i64 k ∧ n = .int .u64 (takeL (zs.take k) : Nat)) (fun _ _ i => 8 - (intOf i).toNat)
      case atStart => exact ⟨0, Nat.zero_le _, rfl, by simp [takeL]⟩
      case round =>
        obtain ⟨k, hk, rfl, rfl⟩ := hrel
        by_cases hlt : k < 8
        · have hor := take_or zs k (by omega) (by omega) hby
          have hcl := hc k (by omega)
          rw [getD_get zs k (by omega)] at hcl
          have hx := hby (zs[k]) (List.getElem_mem (by omega))
          generalize zs[k] = x at *
          generalize takeL (zs.take k) = t at *
          generalize ht' : takeL (zs.take (k + 1)) = t' at *
          have HT : Hid _ := ht'
          clear ht' hc hby hlen
          go_wp2
          go_round
          case rel => exact ⟨k + 1, by omega, by go_num, by rw [HT.out]⟩
          case measure => simp [intOf]; omega
        · have hke : takeL (zs.take k) = takeV zs := by
            unfold takeV
            first
              | rw [show k = 8 by omega]
              | rw [List.take_of_length_le (by omega), List.take_of_length_le (by omega)]
          rw [hke]
          clear hke hc hby
          go_wp2
          go_ret
          exact ⟨rfl, rfl⟩
    · go_enter Tryd.func23, Tryd.ntmps23
      go_wp2
      go_loop [3, 4, 8] (fun n _ i => ∃ k : Nat, k ≤ len ∧ i = .int .i64 k ∧ n = .int .u64 (takeL (zs.take k) : Nat)) (fun _ _ i => len - (intOf i).toNat)
      case atStart => exact ⟨0, Nat.zero_le _, rfl, by simp [takeL]⟩
      case round =>
        obtain ⟨k, hk, rfl, rfl⟩ := hrel
        by_cases hlt : k < len
        · have hor := take_or zs k (by omega) (by omega) hby
          have hcl := hc k (by omega)
          rw [getD_get zs k (by omega)] at hcl
          have hx := hby (zs[k]) (List.getElem_mem (by omega))
          generalize zs[k] = x at *
          generalize takeL (zs.take k) = t at *
          generalize ht' : takeL (zs.take (k + 1)) = t' at *
          have HT : Hid _ := ht'
          clear ht' hc hby hlen
          go_wp2
          go_round
          case rel => exact ⟨k + 1, by omega, by go_num, by rw [HT.out]⟩
          case measure => simp [intOf]; omega
        · have hke : takeL (zs.take k) = takeV zs := by
            unfold takeV
            first
              | rw [show k = 8 by omega]
              | rw [List.take_of_length_le (by omega), List.take_of_length_le (by omega)]
          rw [hke]
          clear hke hc hby
          go_wp2
          go_ret
          exact ⟨rfl, rfl⟩

end Go.Proofs.YtibblghdemmkjaaDoor
