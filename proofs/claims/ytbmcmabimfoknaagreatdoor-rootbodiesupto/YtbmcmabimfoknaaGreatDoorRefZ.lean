/- Contracts of the document's Zero and Depth. -/
import Derived.Test.YtbmcmabimfoknaaGreatDoorRefPair
namespace Go.Proofs.YtbmcmabimfoknaaGreatDoor
set_option maxRecDepth 100000
open Go.RowKit
set_option linter.unusedVariables false

theorem Tryz.root26 : (Tryz.prog.info? 22).map (fun i => (i.zero, i.size, i.bytes)) = some (some (.agg (nums .u8 (zeros 32))), 32, 32) := by kernel_rfl

set_option maxRecDepth 100000 in
set_option maxHeartbeats 1000000 in
theorem rzero_any (d : Int) (h0 : -9223372036854775808 ≤ d) (h1 : d ≤ 2147483647) (w : World) :
    Calls Tryz.prog 75 #[.int .i64 d] w fun e w' => e = .returned (.agg (nums .u8 (zUp d.toNat))) ∧ Below w.heap.size w w' := by
  have hzr := zero_rt
  go_enter Tryz.func75, Tryz.ntmps75
  go_wp2_with (first
    | (refine wpList_alloc_has rfl 2 rfl 22 rfl .u8 32 Tryz.zero22 ?_; intro w1 H1 B1 S1)
    | (refine wpList_build_has rfl 22 _ rfl .u8 (zeros 32) (by kernel_rfl) ?_)
    | (refine wpList_alloc_has rfl 3 rfl 22 rfl .u8 32 Tryz.zero22 ?_; intro w2 H2 B2 S2; rw [S1] at H2 ⊢)
    | (refine wpList_store_has rfl 22 (.tmp 3) (.tmp 5) rfl (w.heap.size + 1) .u8 (zeros 32) (zeros 32) rfl rfl 22 H2 (hzr.size _ Tryz.size22) rfl ?_; intro w3 H3 O3))
  have HW3 := below_only (below_more B1 B2 (Nat.le_refl _)) O3 (by omega)
  have HA3 := (H1.keep B2).only O3 (by omega)
  clear H1 B1 H2 B2 S1 S2 O3
  go_loopw [4] (fun i wr => ∃ t : Nat, t ≤ d.toNat ∧ i = .int .i64 t ∧ Has wr (w.heap.size + 1) 22 .u8 (zUp t) ∧ Has wr w.heap.size 22 .u8 (zeros 32) ∧ Below w.heap.size w wr) (fun i _ => d.toNat - (intOf i).toNat)
  case atStart => exact ⟨0, by omega, rfl, H3, HA3, HW3⟩
  case round =>
    clear H3 HA3 HW3
    obtain ⟨t, ht, rfl, HZ, HA, HW⟩ := hrel
    have hz := zeroUp_rt t
    by_cases hlt : (t : Int) < d
    · go_wp2_with (first
        | (refine wpList_load_has rfl 22 (.tmp 3) rfl (w.heap.size + 1) .u8 (zUp t) rfl 22 HZ _ _ Tryz.underlying22 (hz.size _ Tryz.size22) ?_)
        | (go_at_call 76; refine (rpair_any (zUp t) (zUp t) hz.len hz.len hz.byte hz.byte wr).mono ?_; rintro e w7 ⟨rfl, B7⟩)
        | (refine wpList_store_has rfl 22 (.tmp 3) (.tmp 13) rfl (w.heap.size + 1) .u8 (zUp (t + 1)) (zUp t) rfl rfl 22 (HZ.keep B7) ((zeroUp_rt (t + 1)).size _ Tryz.size22) (by rw [hz.len, (zeroUp_rt (t + 1)).len]) ?_; intro w9 H9 O9))
      go_roundw
      case rel =>
        exact ⟨t + 1, by omega, by go_num, H9, (HA.keep B7).only O9 (by omega), below_only (below_more HW B7 (Nat.le_refl _)) O9 (by omega)⟩
      case measure => simp [intOf]; omega
    · have ht2 : t = d.toNat := by omega
      go_wp2_with (first
        | (refine wpList_load_has rfl 22 (.tmp 3) rfl (w.heap.size + 1) .u8 (zUp t) rfl 22 HZ _ _ Tryz.underlying22 (hz.size _ Tryz.size22) ?_)
        | (refine wpList_store_has rfl 22 (.tmp 2) (.tmp 14) rfl w.heap.size .u8 (zUp t) (zeros 32) rfl rfl 22 HA (hz.size _ Tryz.size22) (by rw [hz.len, zeros_length]) ?_; intro w9 H9 O9))
      refine bodyPost_ret (results_has rfl _ _ w.heap.size 22 .u8 (zUp t) _ _ rfl H9 Tryz.underlying22 (hz.size _ Tryz.size22)) rfl ?_
      rw [← ht2]
      exact ⟨rfl, below_only HW O9 (by omega)⟩

set_option maxRecDepth 100000 in
set_option maxHeartbeats 1000000 in
theorem rdepth_any (m : Int) (h0 : -9223372036854775808 ≤ m) (h1 : m ≤ 9223372036854775807) (w : World) :
    Calls Tryz.prog 35 #[.int .i64 m] w fun e w' => e = .returned (.int .i64 (depth m)) ∧ w' = w := by
  go_enter Tryz.func35, Tryz.ntmps35
  go_wp2_with fail
  go_loop [3] (fun i => ∃ t : Nat, t ≤ 62 ∧ i = .int .i64 t ∧ Hid (∀ e, e < t → (2 ^ e : Int) < m)) (fun i => 62 - (intOf i).toNat)
  case atStart => exact ⟨0, by omega, rfl, hid fun e he => by omega⟩
  case round =>
    obtain ⟨t, ht, rfl, hb⟩ := hrel
    by_cases hlt : t < 62
    · obtain ⟨p, hp⟩ : ∃ p, Hid (1 * 2 ^ t = p) := ⟨_, hid rfl⟩
      have hpb : p < 9223372036854775808 := by have h : 2 ^ t ≤ 2 ^ 62 := Nat.pow_le_pow_right (by decide) (by omega); rw [← hp.out]; omega
      have hpe : ((2 : Int) ^ t) = (p : Int) := by rw [← hp.out, Nat.one_mul]; simp
      have hw2 : wrap64 ((2 : Int) ^ t) = (p : Int) := by rw [hpe]; unfold wrap64; omega
      have HPE := hid hpe
      clear hpe
      by_cases hpm : (p : Int) < m
      · go_wp2_with fail
        go_round
        case rel => exact ⟨t + 1, by omega, by go_num, hid fun e he => by
          by_cases h2 : e < t
          · exact hb.out e h2
          · rw [show e = t by omega, HPE.out]; exact hpm⟩
        case measure => simp [intOf]; omega
      · have hdp : depth m = t := depth_at m t (by omega) hb.out (.inr (by rw [HPE.out]; omega))
        go_wp2_with fail
        go_ret
        exact ⟨rfl, rfl⟩
    · have hdp : depth m = t := depth_at m t (by omega) hb.out (.inl (by omega))
      go_wp2_with fail
      go_ret
      exact ⟨rfl, rfl⟩

end Go.Proofs.YtbmcmabimfoknaaGreatDoor
