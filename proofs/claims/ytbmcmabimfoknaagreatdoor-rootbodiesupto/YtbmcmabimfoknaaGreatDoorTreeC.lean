/- Contracts of merkle's Zero and Tree. -/
import Derived.Test.YtbmcmabimfoknaaGreatDoorDepth
namespace Go.Proofs.YtbmcmabimfoknaaGreatDoor
set_option maxRecDepth 100000
open Go.RowKit
set_option linter.unusedVariables false

/-- Zero roots above each other; full trees; levels: of the digest of two roots. -/
abbrev zUp (d : Nat) : List Nat := zeroUp pr (zeros 32) d
abbrev fullR (d : Nat) (rs : List (List Nat)) : List Nat := full pr (zeros 32) d rs
abbrev lvl (rs : List (List Nat)) (k : Nat) : List (List Nat) := levels pr (zeros 32) rs k
theorem zUp_succ (d : Nat) : zUp (d + 1) = pr (zUp d) (zUp d) := rfl
theorem lvl_le (rs : List (List Nat)) (k : Nat) : (lvl rs k).length ≤ rs.length := by
  induction k with
  | zero => exact Nat.le_refl _
  | succ k ih => have := levels_length pr (zeros 32) rs k; unfold lvl at *; omega

set_option maxRecDepth 100000 in
set_option maxHeartbeats 1000000 in
theorem zero_any (d : Int) (h0 : -9223372036854775808 ≤ d) (h1 : d ≤ 2147483647) (w : World) (hT : Tabs w) :
    Calls Tryz.prog 16 #[.int .i64 d] w fun e w' => e = .returned (.agg (nums .u8 (zUp d.toNat))) ∧ Below w.heap.size w w' := by
  go_enter Tryz.func16, Tryz.ntmps16
  go_wp2_with (first
    | (refine wpList_alloc_has rfl 2 rfl 23 rfl .u8 32 Tryz.zero23 ?_; intro w1 H1 B1 S1)
    | (refine wpList_alloc_has rfl 3 rfl 23 rfl .u8 32 Tryz.zero23 ?_; intro w2 H2 B2 S2; have HW2 := below_more B1 B2 (Nat.le_refl _); rw [S1] at H2; have HA2 := H1.keep B2))
  clear H1 B1 B2 S1 S2
  go_loopw [8] (fun i wr => ∃ t : Nat, t ≤ d.toNat ∧ i = .int .i64 t ∧ Has wr (w.heap.size + 1) 23 .u8 (zUp t) ∧ Has wr w.heap.size 23 .u8 (zeros 32) ∧ Below w.heap.size w wr) (fun i _ => d.toNat - (intOf i).toNat)
  case atStart => exact ⟨0, by omega, rfl, H2, HA2, HW2⟩
  case round =>
    clear H2 HA2 HW2
    obtain ⟨t, ht, rfl, HZ, HA, HW⟩ := hrel
    have hz := zeroUp_rt t
    by_cases hlt : (t : Int) < d
    · go_wp2_with (first
        | (refine wpList_load_has rfl 23 (.tmp 3) rfl (w.heap.size + 1) .u8 (zUp t) rfl 23 HZ _ _ Tryz.und23 (hz.size _ Tryz.size23) ?_)
        | (go_at_call 60; refine (pair_any (zUp t) (zUp t) hz.len hz.len hz.byte hz.byte wr (hT.keep HW)).mono ?_; rintro e w7 ⟨rfl, B7⟩)
        | (refine wpList_store_has rfl 23 (.tmp 3) (.tmp 12) rfl (w.heap.size + 1) .u8 (zUp (t + 1)) (zUp t) rfl rfl 23 (HZ.keep B7) ((zeroUp_rt (t + 1)).size _ Tryz.size23) (by rw [hz.len, (zeroUp_rt (t + 1)).len]) ?_; intro w9 H9 O9))
      go_roundw
      case rel =>
        exact ⟨t + 1, by omega, by go_num, H9, (HA.keep B7).only O9 (by omega), below_only (below_more HW B7 (Nat.le_refl _)) O9 (by omega)⟩
      case measure => simp [intOf]; omega
    · have ht2 : t = d.toNat := by omega
      go_wp2_with (first
        | (refine wpList_load_has rfl 23 (.tmp 3) rfl (w.heap.size + 1) .u8 (zUp t) rfl 23 HZ _ _ Tryz.und23 (hz.size _ Tryz.size23) ?_)
        | (refine wpList_store_has rfl 23 (.tmp 2) (.tmp 14) rfl w.heap.size .u8 (zUp t) (zeros 32) rfl rfl 23 HA (hz.size _ Tryz.size23) (by rw [hz.len, zeros_length]) ?_; intro w9 H9 O9))
      refine bodyPost_ret (results_has rfl _ _ w.heap.size 23 .u8 (zUp t) _ _ rfl H9 Tryz.und23 (hz.size _ Tryz.size23)) rfl ?_
      rw [← ht2]
      exact ⟨rfl, below_only HW O9 (by omega)⟩

set_option maxRecDepth 100000 in
set_option maxHeartbeats 1000000 in
theorem tree_bad (ao : Option Addr) (cap : Nat) (rs : List (List Nat)) (m : Int) (w : World) (hcap : rs.length ≤ cap) (hm : cap ≤ maxLen) (h0 : -9223372036854775808 ≤ m) (h1 : m ≤ 9223372036854775807) (hbad : m < 0 ∨ m < (rs.length : Int)) :
    Calls Tryz.prog 90 #[.slice ao rs.length cap, .int .i64 m] w fun e w' => e = .returned (.tuple #[.agg (nums .u8 (zeros 32)), .int .i64 4]) ∧ Below w.heap.size w w' := by
  unfold maxLen at hm
  have hzr := zero_rt
  by_cases hneg : m < 0
  · go_enter Tryz.func90, Tryz.ntmps90
    go_wp2_with (first
      | (refine wpList_alloc_has rfl 4 rfl 23 rfl .u8 32 Tryz.zero23 ?_; intro w1 H1 B1 S1)
      | (refine wpList_build_has rfl 23 _ rfl .u8 (zeros 32) (by kernel_rfl) ?_)
      | (refine wpList_store_has rfl 23 (.tmp 4) (.tmp 16) rfl w.heap.size .u8 (zeros 32) (zeros 32) rfl rfl 23 H1 (hzr.size _ Tryz.size23) rfl ?_; intro w9 H9 O9))
    refine bodyPost_ret (results_cell_tmp rfl _ _ w.heap.size 23 .u8 (zeros 32) _ _ _ rfl rfl H9 Tryz.und23 (hzr.size _ Tryz.size23)) rfl ?_
    exact ⟨rfl, below_only B1 O9 (Nat.le_refl _)⟩
  · have hlt : m < (rs.length : Int) := by omega
    go_enter Tryz.func90, Tryz.ntmps90
    go_wp2_with (first
      | (refine wpList_alloc_has rfl 4 rfl 23 rfl .u8 32 Tryz.zero23 ?_; intro w1 H1 B1 S1)
      | (refine wpList_build_has rfl 23 _ rfl .u8 (zeros 32) (by kernel_rfl) ?_)
      | (refine wpList_store_has rfl 23 (.tmp 4) (.tmp 16) rfl w.heap.size .u8 (zeros 32) (zeros 32) rfl rfl 23 H1 (hzr.size _ Tryz.size23) rfl ?_; intro w9 H9 O9))
    refine bodyPost_ret (results_cell_tmp rfl _ _ w.heap.size 23 .u8 (zeros 32) _ _ _ rfl rfl H9 Tryz.und23 (hzr.size _ Tryz.size23)) rfl ?_
    exact ⟨rfl, below_only B1 O9 (Nat.le_refl _)⟩

set_option maxRecDepth 100000 in
set_option maxHeartbeats 2000000 in
theorem tree_any (ao : Option Addr) (cap : Nat) (rs : List (List Nat)) (m : Int) (w : World) (hT : Tabs w) (hcap : rs.length ≤ cap) (hm : cap ≤ maxLen) (hlen : rs.length ≤ 8796093022208) (hR : RootsAt w ao rs) (h0 : (rs.length : Int) ≤ m) (h1 : m ≤ 9223372036854775807) :
    Calls Tryz.prog 90 #[.slice ao rs.length cap, .int .i64 m] w fun e w' => e = .returned (.tuple #[.agg (nums .u8 (fullR (depth m) rs)), .int .i64 0]) ∧ Below w.heap.size w w' := by
  have hm' := hm
  unfold maxLen at hm
  have hzr := zero_rt
  have hd62 := depth_le m
  have HD := hid (fun w => depth_any m (by omega) h1 w)
  have hfull : fullR (depth m) rs = (lvl rs (depth m)).getD 0 (zUp (depth m)) := full_top pr (zeros 32) rs (depth m)
  have hmn : ¬ m < 0 := by omega
  have hml : ¬ m < (rs.length : Int) := by omega
  rw [hfull]
  clear hfull
  generalize depth m = d at *
  go_enter Tryz.func90, Tryz.ntmps90
  go_wp2_with (first
    | (refine wpList_alloc_has rfl 4 rfl 23 rfl .u8 32 Tryz.zero23 ?_; intro w1 H1 B1 S1)
    | (refine wpList_build_has rfl 23 _ rfl .u8 (zeros 32) (by kernel_rfl) ?_)
    | (refine wpList_alloc_has rfl 7 rfl 23 rfl .u8 32 Tryz.zero23 ?_; intro w2 H2 B2 S2; rw [S1] at H2)
    | (refine wpList_store_has rfl 23 (.tmp 7) (.tmp 18) rfl (w.heap.size + 1) .u8 (zeros 32) (zeros 32) rfl rfl 23 H2 (hzr.size _ Tryz.size23) rfl ?_; intro w3 H3 O3)
    | (go_at_call 101; refine (HD.out _).mono ?_; rintro e w4 ⟨rfl, rfl⟩))
  have HW3 := below_only (below_more B1 B2 (Nat.le_refl _)) O3 (by omega)
  have HA3 := (H1.keep B2).only O3 (by omega)
  clear H1 B1 H2 B2 S1 S2 O3
  go_loopw [6, 21] (fun v i wr => ∃ t : Nat, t ≤ d ∧ i = .int .i64 t ∧ (∃ ap c, v = .slice ap (lvl rs t).length c ∧ (lvl rs t).length ≤ c ∧ c ≤ maxLen ∧ RootsAt wr ap (lvl rs t)) ∧ Has wr (w.heap.size + 1) 23 .u8 (zUp t) ∧ Has wr w.heap.size 23 .u8 (zeros 32) ∧ Below w.heap.size w wr) (fun _ i _ => d - (intOf i).toNat)
  case atStart => exact ⟨0, by omega, rfl, ⟨ao, cap, rfl, hcap, hm', hR.keep HW3⟩, H3, HA3, HW3⟩
  case round =>
    clear H3 HA3 HW3
    obtain ⟨t, ht, rfl, ⟨ap, c, rfl, hc1, hc2, HR⟩, HZ, HA, HW⟩ := hrel
    have hz := zeroUp_rt t
    have hll := lvl_le rs t
    have hlr := levels_rts rs hR.rts t
    by_cases hlt : t < d
    · have HAb := hid (above_any ap c (lvl rs t) (zUp t) wr (hT.keep HW) hc1 hc2 (by omega) HR hz)
      have hnx := hid (levels_length pr (zeros 32) rs t)
      go_wp2_with (first
        | (refine wpList_load_has rfl 23 (.tmp 7) rfl (w.heap.size + 1) .u8 (zUp t) rfl 23 HZ _ _ Tryz.und23 (hz.size _ Tryz.size23) ?_)
        | (go_at_call 102; refine HAb.out.mono ?_; rintro e w7 ⟨g, hg7, rfl, R7, B7⟩)
        | (refine wpList_store_has rfl 23 (.tmp 7) (.tmp 28) rfl (w.heap.size + 1) .u8 (zUp (t + 1)) (zUp t) rfl rfl 23 (HZ.keep B7) ((zeroUp_rt (t + 1)).size _ Tryz.size23) (by rw [hz.len, (zeroUp_rt (t + 1)).len]) ?_; intro w9 H9 O9))
      go_roundw
      case rel =>
        refine ⟨t + 1, by omega, by go_num, ⟨some ⟨g, 0, none⟩, ((lvl rs t).length + 1) / 2, ?_, ?_, ?_, ?_⟩, H9, (HA.keep B7).only O9 (by omega), below_only (below_more HW B7 (Nat.le_refl _)) O9 (by omega)⟩
        · rw [show (lvl rs (t + 1)).length = ((lvl rs t).length + 1) / 2 from hnx.out]
        · exact Nat.le_of_eq hnx.out
        · unfold maxLen; omega
        · exact RootsAt.only (rs := lvl rs (t + 1)) R7 O9 (by have := HZ.lt; omega)
      case measure => simp [intOf]; omega
    · have ht2 : t = d := by omega
      subst ht2
      have HPk := hid (pick_any ap c (lvl rs t) 0 (zUp t) wr hc1 hc2 HR hz (by omega))
      have hrt := hlr.rtz hz 0
      go_wp2_with (first
        | (refine wpList_load_has rfl 23 (.tmp 7) rfl (w.heap.size + 1) .u8 (zUp t) rfl 23 HZ _ _ Tryz.und23 (hz.size _ Tryz.size23) ?_)
        | (go_at_call 103; refine HPk.out.mono ?_; rintro e w7 ⟨rfl, B7⟩)
        | (refine wpList_store_has rfl 23 (.tmp 4) (.tmp 32) rfl w.heap.size .u8 ((lvl rs t).getD 0 (zUp t)) (zeros 32) rfl rfl 23 (HA.keep B7) (hrt.size _ Tryz.size23) (by rw [hrt.len, zeros_length]) ?_; intro w9 H9 O9))
      refine bodyPost_ret (results_cell_tmp rfl _ _ w.heap.size 23 .u8 ((lvl rs t).getD 0 (zUp t)) _ _ _ rfl rfl H9 Tryz.und23 (hrt.size _ Tryz.size23)) rfl ?_
      exact ⟨rfl, below_only (below_more HW B7 (Nat.le_refl _)) O9 (by omega)⟩
end Go.Proofs.YtbmcmabimfoknaaGreatDoor
