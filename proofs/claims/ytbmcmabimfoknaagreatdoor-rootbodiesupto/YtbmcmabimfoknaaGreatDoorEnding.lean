/- Contracts of digest.ending (the last block, or two) and digest.join (the registers' bytes). -/
import Derived.Test.YtbmcmabimfoknaaGreatDoorMix
namespace Go.Proofs.YtbmcmabimfoknaaGreatDoor
set_option maxRecDepth 100000
open Go.RowKit
set_option linter.unusedVariables false

theorem Tryz.zero5 : (Tryz.prog.info? 5).map (fun i => (i.zero, i.size, i.bytes)) = some (some (.int .u8 0), 1, 1) := by kernel_rfl
theorem Tryz.one5 : (Tryz.prog.info? 5).map (·.size) = some 1 := by kernel_rfl
theorem Tryz.zero23 : (Tryz.prog.info? 23).map (fun i => (i.zero, i.size)) = some (some (.agg (nums .u8 (zeros 32))), 32) := by kernel_rfl
theorem Tryz.size23 : (Tryz.prog.info? 23).map (·.size) = some 32 := by kernel_rfl
theorem Tryz.und23 : Tryz.prog.underlying 23 = some (.array 32 5) := by kernel_rfl

/-- The slice at that address reads as these bytes. -/
def Reads (w : World) (ao : Option Addr) (zs : List Nat) : Prop :=
  zs.length = 0 ∨ ∃ b off, ao = some ⟨b, off, none⟩ ∧ ∀ i, i < zs.length → w.cell? ⟨b, off + i, none⟩ = some (.int .u8 (zs.getD i 0 : Nat))
theorem Reads.keep {w w' : World} {ao : Option Addr} {zs : List Nat} (h : Reads w ao zs) (hb : Below w.heap.size w w') : Reads w' ao zs := by
  rcases h with h | ⟨b, off, rfl, hc⟩
  · exact .inl h
  · refine .inr ⟨b, off, rfl, fun i hi => ?_⟩
    exact (hb.cell (p := ⟨b, off + i, none⟩) (block_lt_of_cell (hc i hi))).trans (hc i hi)
theorem Reads.src {w : World} {ao : Option Addr} {zs : List Nat} (h : Reads w ao zs) (h0 : 0 < zs.length) : ∃ ad, ao = some ad ∧ ∀ j, j < zs.length → w.cell? (ad.add j) = some (.int .u8 (zs.getD j 0 : Nat)) := by
  rcases h with h | ⟨b, off, rfl, hc⟩
  · omega
  · exact ⟨_, rfl, fun j hj => by rw [Addr.add_lit]; exact hc j hj⟩

theorem byte_walk (n k : Nat) : (8 * (n : Int)) / 2 ^ (8 * k) % 256 = ((8 * n / 256 ^ k % 256 : Nat) : Int) := by
  have e2 : (256 : Nat) ^ k = 2 ^ (8 * k) := by rw [Nat.pow_mul]
  rw [e2]
  simp

set_option maxRecDepth 100000 in
set_option maxHeartbeats 2000000 in
theorem ending_any (ao : Option Addr) (cap : Nat) (zs : List Nat) (n : Nat) (L : Nat) (hL : L = if zs.length + 9 ≤ 64 then 64 else 128) (hr : zs.length < 64) (hn : 8 * n < 18446744073709551616) (w : World) (hz : Reads w ao zs) :
    Calls Tryz.prog 99 #[.slice ao zs.length cap, .int .u64 n] w fun e w' => e = .returned (.slice (some ⟨w.heap.size, 0, none⟩) L L) ∧ Has w' w.heap.size 5 .u8 (pad zs L (8 * n)) ∧ Below w.heap.size w w' := by
  by_cases h9 : zs.length + 9 ≤ 64
  · rw [if_pos h9] at hL
    subst hL
    have HP : Hid (pad zs 64 (8 * n) = beUp ((over (zeros 64) 0 zs).set zs.length 128) 64 (8 * n) 8) := rfl
    have hol : (over (zeros 64) 0 zs).length = 64 := by rw [over_length _ _ _ (by rw [zeros_length]; omega), zeros_length]
    have hmin : Hid (zs.length = Nat.min zs.length 64) := by show zs.length = Nat.min zs.length 64; simp [Nat.min_def]; omega
    generalize hrr0 : zs.length = r at *
    have hrr : Hid (zs.length = r) := hrr0
    clear hrr0
    go_enter Tryz.func99, Tryz.ntmps99
    go_wp2_with (first
      | (refine wpList_make_has rfl (.tmp 14) (.tmp 14) 99 rfl 5 .u8 Tryz.underlying99 Tryz.zero5 .i64 .i64 _ _ 64 rfl rfl rfl rfl (by decide) ?_; intro w1 H1 B1)
      | (refine wpList_copy_has rfl (.tmp 16) (.tmp 17) 99 99 rfl 5 Tryz.underlying99 Tryz.one5 _ _ _ _ _ _ rfl rfl w.heap.size 0 .u8 (zeros 64) 5 H1 zs (by rw [hrr.out]; exact hmin.out) (fun h0 => ⟨rfl, (hz.keep B1).src h0⟩) (by rw [zeros_length, hrr.out]; omega) ?_; intro w2 H2 O2; have c2 := H2.cell r (by rw [hol]; omega); have f2 := H2.frozen r))
    have H3 := H2.set r 128
    have B3 : Below w.heap.size w _ := below_only (below_only B1 O2 (Nat.le_refl _)) (Only.setCell w2 w.heap.size r (.int .u8 128)) (Nat.le_refl _)
    have hol2 : ((over (zeros 64) 0 zs).set r 128).length = 64 := by rw [List.length_set]; exact hol
    clear c2 f2 H1 B1 H2 O2 hol
    generalize (over (zeros 64) 0 zs).set r 128 = l0 at *
    go_loopw [25] (fun i wr => ∃ k : Nat, k ≤ 8 ∧ i = .int .i64 k ∧ Has wr w.heap.size 5 .u8 (beUp l0 64 (8 * n) k) ∧ Below w.heap.size w wr) (fun i _ => 8 - (intOf i).toNat)
    case atStart => exact ⟨0, by omega, rfl, H3, B3⟩
    case round =>
      clear H3 B3
      obtain ⟨k, hk, rfl, HA, HW⟩ := hrel
      by_cases hlt : k < 8
      · have hlen := beUp_length l0 64 (8 * n) k
        have c1 := HA.cell (64 - 1 - k) (by rw [hlen, hol2]; omega)
        have f1 := HA.frozen (64 - 1 - k)
        have HB : Hid _ := byte_walk n k
        have HS : Hid (beUp l0 64 (8 * n) (k + 1) = (beUp l0 64 (8 * n) k).set (64 - 1 - k) (8 * n / 256 ^ k % 256)) := rfl
        have et : (64 - 1 - (k : Int)).toNat = 64 - 1 - k := by omega
        have et2 : ((63 : Int) - (k : Int)).toNat = 64 - 1 - k := by omega
        clear hlen
        go_wp2
        go_roundw
        case rel =>
          rw [HB.out]
          exact ⟨k + 1, by omega, by go_num, by rw [HS.out]; exact HA.set (64 - 1 - k) _, below_only HW (Only.setCell wr w.heap.size _ _) (Nat.le_refl _)⟩
        case measure => simp [intOf]; omega
      · have hk8 : k = 8 := by omega
        subst hk8
        rw [← HP.out] at HA
        go_wp2
        go_ret
        exact ⟨rfl, HA, HW⟩
  · rw [if_neg h9] at hL
    subst hL
    have HP : Hid (pad zs 128 (8 * n) = beUp ((over (zeros 128) 0 zs).set zs.length 128) 128 (8 * n) 8) := rfl
    have hol : (over (zeros 128) 0 zs).length = 128 := by rw [over_length _ _ _ (by rw [zeros_length]; omega), zeros_length]
    have hmin : Hid (zs.length = Nat.min zs.length 128) := by show zs.length = Nat.min zs.length 128; simp [Nat.min_def]; omega
    generalize hrr0 : zs.length = r at *
    have hrr : Hid (zs.length = r) := hrr0
    clear hrr0
    go_enter Tryz.func99, Tryz.ntmps99
    go_wp2_with (first
      | (refine wpList_make_has rfl (.tmp 14) (.tmp 14) 99 rfl 5 .u8 Tryz.underlying99 Tryz.zero5 .i64 .i64 _ _ 128 rfl rfl rfl rfl (by decide) ?_; intro w1 H1 B1)
      | (refine wpList_copy_has rfl (.tmp 16) (.tmp 17) 99 99 rfl 5 Tryz.underlying99 Tryz.one5 _ _ _ _ _ _ rfl rfl w.heap.size 0 .u8 (zeros 128) 5 H1 zs (by rw [hrr.out]; exact hmin.out) (fun h0 => ⟨rfl, (hz.keep B1).src h0⟩) (by rw [zeros_length, hrr.out]; omega) ?_; intro w2 H2 O2; have c2 := H2.cell r (by rw [hol]; omega); have f2 := H2.frozen r))
    have H3 := H2.set r 128
    have B3 : Below w.heap.size w _ := below_only (below_only B1 O2 (Nat.le_refl _)) (Only.setCell w2 w.heap.size r (.int .u8 128)) (Nat.le_refl _)
    have hol2 : ((over (zeros 128) 0 zs).set r 128).length = 128 := by rw [List.length_set]; exact hol
    clear c2 f2 H1 B1 H2 O2 hol
    generalize (over (zeros 128) 0 zs).set r 128 = l0 at *
    go_loopw [25] (fun i wr => ∃ k : Nat, k ≤ 8 ∧ i = .int .i64 k ∧ Has wr w.heap.size 5 .u8 (beUp l0 128 (8 * n) k) ∧ Below w.heap.size w wr) (fun i _ => 8 - (intOf i).toNat)
    case atStart => exact ⟨0, by omega, rfl, H3, B3⟩
    case round =>
      clear H3 B3
      obtain ⟨k, hk, rfl, HA, HW⟩ := hrel
      by_cases hlt : k < 8
      · have hlen := beUp_length l0 128 (8 * n) k
        have c1 := HA.cell (128 - 1 - k) (by rw [hlen, hol2]; omega)
        have f1 := HA.frozen (128 - 1 - k)
        have HB : Hid _ := byte_walk n k
        have HS : Hid (beUp l0 128 (8 * n) (k + 1) = (beUp l0 128 (8 * n) k).set (128 - 1 - k) (8 * n / 256 ^ k % 256)) := rfl
        have et : (128 - 1 - (k : Int)).toNat = 128 - 1 - k := by omega
        have et2 : ((127 : Int) - (k : Int)).toNat = 128 - 1 - k := by omega
        clear hlen
        go_wp2
        go_roundw
        case rel =>
          rw [HB.out]
          exact ⟨k + 1, by omega, by go_num, by rw [HS.out]; exact HA.set (128 - 1 - k) _, below_only HW (Only.setCell wr w.heap.size _ _) (Nat.le_refl _)⟩
        case measure => simp [intOf]; omega
      · have hk8 : k = 8 := by omega
        subst hk8
        rw [← HP.out] at HA
        go_wp2
        go_ret
        exact ⟨rfl, HA, HW⟩

set_option maxRecDepth 100000 in
set_option maxHeartbeats 2000000 in
theorem join_any (hs : List Nat) (hr : Reg hs) (w : World) :
    Calls Tryz.prog 100 #[.agg (nums .u32 hs)] w fun e w' => e = .returned (.agg (nums .u8 (joinUp hs 32))) ∧ Below w.heap.size w w' := by
  go_enter Tryz.func100, Tryz.ntmps100
  go_wp2_with (first
    | (refine wpList_box_has rfl 1 rfl 152 (.tmp 0) rfl .u32 hs rfl ?_; intro w1 H1 B1 S1)
    | (refine wpList_alloc_has rfl 2 rfl 23 rfl .u8 32 Tryz.zero23 ?_; intro w2 H2 B2 S2)
    | (refine wpList_alloc_has rfl 3 rfl 23 rfl .u8 32 Tryz.zero23 ?_; intro w3 H3 B3 S3))
  rw [S2] at H3 B3 S3
  rw [S1] at H2 B2 S3 B3 H3
  have HA : Has w3 w.heap.size 152 .u32 hs := (H1.keep (by rw [S1]; exact B2)).keep (by rw [S2, S1]; exact B3)
  have HB : Has w3 (w.heap.size + 1) 23 .u8 (zeros 32) := H2.keep (by rw [S2, S1]; exact B3)
  have HW : Below w.heap.size w w3 := (B1.trans (B2.mono (by omega))).trans (B3.mono (by omega))
  clear H1 B1 H2 B2 B3 
  go_loopw [5] (fun i wr => ∃ t : Nat, t ≤ 32 ∧ i = .int .i64 t ∧ Has wr w.heap.size 152 .u32 hs ∧ Has wr (w.heap.size + 1) 23 .u8 (zeros 32) ∧ Has wr (w.heap.size + 2) 23 .u8 (joinUp hs t) ∧ Below w.heap.size w wr) (fun i _ => 32 - (intOf i).toNat)
  case atStart => exact ⟨0, by omega, rfl, HA, HB, H3, HW⟩
  case round =>
    clear HA HB H3 HW
    obtain ⟨t, ht, rfl, HA, HB, HC, HW⟩ := hrel
    by_cases hlt : t < 32
    · have h8 := hr.1
      have c1 := HA.cell (t / 4) (by omega)
      have hl := joinUp_length hs t
      have c2 := HC.cell t (by omega)
      have f2 := HC.frozen t
      have HS : Hid (joinUp hs (t + 1) = (joinUp hs t).set t (hs.getD (t / 4) 0 / 2 ^ (24 - 8 * (t % 4)) % 256)) := rfl
      have bx := reg_getD hs hr (t / 4)
      generalize hs.getD (t / 4) 0 = x at *
      clear hl h8
      go_wp2
      go_roundw
      case rel =>
        have e1 : (x : Int) / 2 ^ (24 - 8 * (t % 4)) % 256 = ((x / 2 ^ (24 - 8 * (t % 4)) % 256 : Nat) : Int) := by simp
        rw [e1]
        have HO := Only.setCell wr (w.heap.size + 2) t (.int .u8 ((x / 2 ^ (24 - 8 * (t % 4)) % 256 : Nat) : Int))
        exact ⟨t + 1, by omega, by go_num, HA.only HO (by omega), HB.only HO (by omega), by rw [HS.out]; exact HC.set t _, below_only HW HO (by omega)⟩
      case measure => simp [intOf]; omega
    · have ht2 : t = 32 := by omega
      subst ht2
      have h9 := joinUp_length hs 32
      go_wp2_with (first
        | (refine wpList_load_has rfl 23 (.tmp 3) rfl (w.heap.size + 2) .u8 (joinUp hs 32) rfl 23 HC _ _ Tryz.und23 (by rw [h9]; exact Tryz.size23) ?_)
        | (refine wpList_store_has rfl 23 (.tmp 2) (.tmp 21) rfl (w.heap.size + 1) .u8 (joinUp hs 32) (zeros 32) rfl rfl 23 HB (by rw [h9]; exact Tryz.size23) (by rw [h9, zeros_length]) ?_; intro w9 H9 O9))
      refine bodyPost_ret (results_has rfl _ _ (w.heap.size + 1) 23 .u8 (joinUp hs 32) _ _ rfl H9 Tryz.und23 (by rw [h9]; exact Tryz.size23)) rfl ?_
      exact ⟨rfl, below_only HW O9 (by omega)⟩
end Go.Proofs.YtbmcmabimfoknaaGreatDoor
