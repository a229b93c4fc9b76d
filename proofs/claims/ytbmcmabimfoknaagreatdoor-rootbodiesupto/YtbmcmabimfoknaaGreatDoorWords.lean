/- Contract of digest.words: a block's 64 words. -/
import Derived.Test.YtbmcmabimfoknaaGreatDoorMem
namespace Go.Proofs.YtbmcmabimfoknaaGreatDoor
set_option maxRecDepth 100000
open Go.RowKit
set_option linter.unusedVariables false

theorem Tryz.zero164 : (Tryz.prog.info? 164).map (fun i => (i.zero, i.size)) = some (some (.agg (nums .u32 (zeros 64))), 64) := by kernel_rfl
theorem Tryz.size164 : (Tryz.prog.info? 164).map (·.size) = some 64 := by kernel_rfl

theorem or_byte (q x : Nat) (hq : q < 16777216) (hx : x < 256) : bits .or .u32 ((q : Int) * 256) (x : Int) = ((q * 256 + x : Nat) : Int) := by
  have e : (q : Int) * 256 = ((q * 256 : Nat) : Int) := by simp
  rw [e, u32_or_nat _ _ (by omega) (by omega), nat_join 8 (q * 256) x (by omega) (by omega)]

theorem sg0_walk (x : Nat) (hx : x < 4294967296) : bits .xor .u32 (bits .xor .u32 (rr 7 x : Nat) (rr 18 x : Nat)) ((x : Int) / 8) = (sg0 x : Nat) := by
  have e : (x : Int) / 8 = ((x / 8 : Nat) : Int) := by simp
  have h1 := rr_lt 7 x hx
  have h2 := rr_lt 18 x hx
  rw [e, u32_xor_nat _ _ h1 h2, u32_xor_nat _ _ (Nat.xor_lt_two_pow (n := 32) h1 h2) (by omega)]
  rfl
theorem sg1_walk (x : Nat) (hx : x < 4294967296) : bits .xor .u32 (bits .xor .u32 (rr 17 x : Nat) (rr 19 x : Nat)) ((x : Int) / 1024) = (sg1 x : Nat) := by
  have e : (x : Int) / 1024 = ((x / 1024 : Nat) : Int) := by simp
  have h1 := rr_lt 17 x hx
  have h2 := rr_lt 19 x hx
  rw [e, u32_xor_nat _ _ h1 h2, u32_xor_nat _ _ (Nat.xor_lt_two_pow (n := 32) h1 h2) (by omega)]
  rfl

set_option maxHeartbeats 1000000 in
theorem words_any (b off cap : Nat) (zs : List Nat) (w : World) (hl : zs.length = 64) (hcap : 64 ≤ cap) (hm : cap ≤ maxLen) (hby : ∀ z ∈ zs, z < 256)
    (hc : ∀ i, i < 64 → w.cell? ⟨b, off + i, none⟩ = some (.int .u8 (zs.getD i 0 : Nat))) :
    Calls Tryz.prog 110 #[.slice (some ⟨b, off, none⟩) 64 cap] w fun e w' => e = .returned (.agg (nums .u32 (fill zs 64))) ∧ Below w.heap.size w w' := by
  unfold maxLen at hm
  go_enter Tryz.func110, Tryz.ntmps110
  go_wp2_with (first
    | (refine wpList_alloc_has rfl 2 rfl 164 rfl .u32 64 Tryz.zero164 ?_; intro w1 H1 B1 S1)
    | (refine wpList_alloc_has rfl 3 rfl 164 rfl .u32 64 Tryz.zero164 ?_; intro w2 H2 B2 S2))
  rw [S1] at H2 B2 S2
  have hbl := block_lt_of_cell (hc 0 (by omega))
  have B02 : Below w.heap.size w w2 := B1.trans (B2.mono (by omega))
  have H12 : Has w2 w.heap.size 164 .u32 (zeros 64) := H1.keep (by rw [S1]; exact B2)
  clear B1 B2 H1
  go_loopw [12] (fun i wr => ∃ t : Nat, t ≤ 16 ∧ i = .int .i64 t ∧ Has wr w.heap.size 164 .u32 (zeros 64) ∧ Has wr (w.heap.size + 1) 164 .u32 (fill zs t) ∧ Below w.heap.size w wr) (fun i _ => 16 - (intOf i).toNat)
  case atStart => exact ⟨0, by omega, rfl, H12, H2, B02⟩
  case round =>
    clear H12 H2 B02
    obtain ⟨t, ht, rfl, HA, HB, HW⟩ := hrel
    by_cases hlt : t < 16
    · have hcap4 : ¬ cap = 4 * t := by omega
      go_wp2
      go_loopw [23] (fun i wq => ∃ j : Nat, j ≤ 4 ∧ i = .int .i64 j ∧ Has wq w.heap.size 164 .u32 (zeros 64) ∧ Has wq (w.heap.size + 1) 164 .u32 ((fill zs t).set t (wpart zs t j)) ∧ Below w.heap.size w wq) (fun i _ => 4 - (intOf i).toNat)
      case atStart => exact ⟨0, by omega, rfl, HA, by rw [fill_start]; exact HB, HW⟩
      case round =>
        clear HA HB HW
        obtain ⟨j, hj, rfl, HA, HB, HW⟩ := hrel
        by_cases hj4 : j < 4
        · have hcb := (HW.cell (p := ⟨b, off + (4 * t + j), none⟩) hbl).trans (hc (4 * t + j) (by omega))
          have hct := HB.cell t (by rw [List.length_set, fill_length]; omega)
          have hft := HB.frozen t
          rw [getD_set, if_pos ⟨rfl, by rw [fill_length]; omega⟩] at hct
          rw [← Nat.add_assoc] at hcb
          have hx := bytes_getD zs hby (4 * t + j)
          have hp := wpart_lt zs hby t j
          have hp3 : 256 ^ j ≤ 256 ^ 3 := Nat.pow_le_pow_right (by omega) (by omega)
          have hor := or_byte (wpart zs t j) (zs.getD (4 * t + j) 0) (by omega) hx
          have HS : Hid (wpart zs t (j + 1) = wpart zs t j * 256 + zs.getD (4 * t + j) 0) := rfl
          generalize zs.getD (4 * t + j) 0 = x at *
          generalize wpart zs t j = q at *
          have HR : Hid _ := HB.set t (q * 256 + x)
          have HO : Hid _ := Only.setCell wr (w.heap.size + 1) t (.int .u32 ((q * 256 + x : Nat) : Int))
          have HQ : Hid _ := hor
          clear hc HB hor
          go_wp2
          go_roundw
          case rel =>
            rw [HQ.out]
            exact ⟨j + 1, by omega, by go_num, HA.only HO.out (by omega), by rw [HS.out, ← List.set_set q]; exact HR.out, below_only HW HO.out (by omega)⟩
          case measure => simp [intOf]; omega
        · have hj5 : j = 4 := by omega
          subst hj5
          rw [fill_word zs t hlt] at HB
          clear hc hj4
          go_wp2
          go_roundw
          case rel => exact ⟨t + 1, by omega, by go_num, HA, HB, HW⟩
          case measure => simp [intOf]; omega
    · have ht2 : t = 16 := by omega
      subst ht2
      clear hc hlt
      go_wp2
      go_loopw [7] (fun i wr => ∃ t : Nat, 16 ≤ t ∧ t ≤ 64 ∧ i = .int .i64 t ∧ Has wr w.heap.size 164 .u32 (zeros 64) ∧ Has wr (w.heap.size + 1) 164 .u32 (fill zs t) ∧ Below w.heap.size w wr) (fun i _ => 64 - (intOf i).toNat)
      case atStart => exact ⟨16, by omega, by omega, rfl, HA, HB, HW⟩
      case round =>
        clear HA HB HW
        obtain ⟨t, ht1, ht, rfl, HA, HB, HW⟩ := hrel
        by_cases hlt : t < 64
        · have c15 := HB.cell (t - 15) (by rw [fill_length]; omega)
          have c2 := HB.cell (t - 2) (by rw [fill_length]; omega)
          have c16 := HB.cell (t - 16) (by rw [fill_length]; omega)
          have c7 := HB.cell (t - 7) (by rw [fill_length]; omega)
          have c0 := HB.cell t (by rw [fill_length]; omega)
          have hft := HB.frozen t
          have b15 := fill_lt zs hby t (t - 15)
          have b2 := fill_lt zs hby t (t - 2)
          have b16 := fill_lt zs hby t (t - 16)
          have b7 := fill_lt zs hby t (t - 7)
          have HN : Hid (nextW (fill zs t) t = ((fill zs t).getD (t - 16) 0 + sg0 ((fill zs t).getD (t - 15) 0) + (fill zs t).getD (t - 7) 0 + sg1 ((fill zs t).getD (t - 2) 0)) % 4294967296) := rfl
          have HF : Hid _ := fill_next zs t (by omega)
          generalize (fill zs t).getD (t - 15) 0 = x15 at *
          generalize (fill zs t).getD (t - 2) 0 = x2 at *
          generalize (fill zs t).getD (t - 16) 0 = x16 at *
          generalize (fill zs t).getD (t - 7) 0 = x7 at *
          have s0 := sg0_walk x15 b15
          have s1 := sg1_walk x2 b2
          have l0 := sg0_lt x15 b15
          have l1 := sg1_lt x2 b2
          go_wp2
          go_quiet (fail)
          go_wp2_with (go_at_call 111; refine (right_any _ _ (by omega) (by omega) (by omega) _).mono ?_; rintro e w' ⟨rfl, rfl⟩)
          generalize sg0 x15 = y0 at *
          generalize sg1 x2 = y1 at *
          clear s0 s1
          go_region
          go_wp2
          go_roundw
          case rel =>
            have e : ((x16 : Int) + y0 + x7 + y1) % 4294967296 = (((x16 + y0 + x7 + y1) % 4294967296 : Nat) : Int) := by simp
            rw [e]
            have HO := Only.setCell (wr.drewN (nq + 1)) (w.heap.size + 1) t (.int .u32 (((x16 + y0 + x7 + y1) % 4294967296 : Nat) : Int))
            exact ⟨t + 1, by omega, by omega, by go_num, (HA.drewN _).only HO (by omega), by rw [← HF.out, HN.out]; exact (HB.drewN (nq + 1)).set t _, below_only (below_drewN HW _) HO (by omega)⟩
          case measure => simp [intOf]; omega
        · have ht3 : t = 64 := by omega
          subst ht3
          go_wp2_with (first
            | (refine wpList_load_has rfl 164 (.tmp 3) rfl (w.heap.size + 1) .u32 (fill zs 64) rfl 164 HB _ _ Tryz.underlying164 (by rw [fill_length]; exact Tryz.size164) ?_)
            | (refine wpList_store_has rfl 164 (.tmp 2) (.tmp 81) rfl w.heap.size .u32 (fill zs 64) (zeros 64) rfl rfl 164 HA (by rw [fill_length]; exact Tryz.size164) (by rw [fill_length, zeros_length]) ?_; intro w5 H5 O5))
          refine bodyPost_ret (results_has rfl _ _ w.heap.size 164 .u32 (fill zs 64) _ _ rfl H5 Tryz.underlying164 (by rw [fill_length]; exact Tryz.size164)) rfl ?_
          exact ⟨rfl, below_only HW O5 (by omega)⟩
end Go.Proofs.YtbmcmabimfoknaaGreatDoor
