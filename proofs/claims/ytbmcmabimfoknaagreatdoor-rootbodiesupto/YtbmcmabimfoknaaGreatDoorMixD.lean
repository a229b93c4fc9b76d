/- Contracts of both Mix. -/
import Derived.Test.YtbmcmabimfoknaaGreatDoorMixC
namespace Go.Proofs.YtbmcmabimfoknaaGreatDoor
set_option maxRecDepth 100000
open Go.RowKit
set_option linter.unusedVariables false

set_option maxRecDepth 100000 in
set_option maxHeartbeats 600000 in
theorem rmix_any (r : List Nat) (n : Nat) (hr : Rt r) (hn : n < 18446744073709551616) (w : World) :
    Calls Tryz.prog 37 #[.agg (nums .u8 r), .int .u64 n] w fun e w' => e = .returned (.agg (nums .u8 (pr r (wUp n 8)))) ∧ Below w.heap.size w w' := by
  have HWq := hid (fun (wq : World) => word_any n hn wq)
  have hwr := wUp_rt n 8
  obtain ⟨W8, hW8⟩ : ∃ W, wUp n 8 = W := ⟨_, rfl⟩
  rw [hW8] at HWq hwr ⊢
  clear hW8
  have hprt := pr_rt r W8
  have HPq := hid (fun (wq : World) => rpair_any r W8 hr.len hwr.len hr.byte hwr.byte wq)
  go_enter Tryz.func37, Tryz.ntmps37
  go_wp2_with (first
    | (refine wpList_box_has rfl 2 rfl 22 (.tmp 0) rfl .u8 r rfl ?_; intro w1 H1 B1 S1)
    | (refine wpList_alloc_has rfl 4 rfl 22 rfl .u8 32 Tryz.zero22 ?_; intro w2 H2 B2 S2; rw [S1] at H2; have HA2 := H1.keep B2; have HW2 := below_more B1 B2 (Nat.le_refl _)))
  have HAq := hid (fun wq (hq : Cls w2 wq) => HA2.keep hq.bel)
  have lt2 := H2.lt
  simp only [Act.put, List.setIfInBounds_toArray, List.set_cons_succ, List.set_cons_zero, S1]
  clear H1 B1 B2 S1 S2 HA2
  refine wp_region_cls_tail 4 (by kernel_rfl) (by kernel_rfl) ?_
  simp only [List.take_succ_cons, List.take_zero, List.drop_succ_cons, List.drop_zero]
  go_big_quiet_want
  refine quiet_load 22 (.tmp 2) rfl w.heap.size .u8 r rfl 22 HAq.out _ _ Tryz.underlying22 (hr.size _ Tryz.size22) ?_
  simp only [Act.put, List.setIfInBounds_toArray, List.set_cons_succ, List.set_cons_zero]
  go_big_quiet_on
  go_big_quiet_step (fail)
  go_big_quiet_want
  refine quiet_call 31 #[.int .u64 (n : Int)] (.agg (nums .u8 W8)) (fun _ => by simp [go_sem]) (fun wq hq => (HWq.out wq).mono fun e w' h => ⟨h.1, hq.more h.2⟩) ?_
  simp only [Act.put, List.setIfInBounds_toArray, List.set_cons_succ, List.set_cons_zero]
  go_big_quiet_on
  go_big_quiet_want
  refine quiet_call 76 #[.agg (nums .u8 r), .agg (nums .u8 W8)] (.agg (nums .u8 (pr r W8))) (fun _ => by simp [go_sem]) (fun wq hq => (HPq.out wq).mono fun e w' h => ⟨h.1, hq.more h.2⟩) ?_
  simp only [Act.put, List.setIfInBounds_toArray, List.set_cons_succ, List.set_cons_zero]
  go_big_quiet_on
  refine wpQuiet_nil ?_
  intro w5 hq5
  refine wpList_store_has rfl 22 (.tmp 4) (.tmp 8) rfl (w.heap.size + 1) .u8 (pr r W8) (zeros 32) rfl rfl 22 (H2.keep hq5.bel) (hprt.size _ Tryz.size22) (by rw [hprt.len, zeros_length]) ?_
  intro w9 H9 O9
  go_wp2
  refine bodyPost_ret (results_has rfl _ _ (w.heap.size + 1) 22 .u8 (pr r W8) _ _ rfl H9 Tryz.underlying22 (hprt.size _ Tryz.size22)) rfl ?_
  exact ⟨rfl, below_only (below_more HW2 hq5.bel (Nat.le_refl _)) O9 (by omega)⟩

/-- Eight bytes that a call made. -/
def Eight (n : Nat) (v : Value) (w : World) : Prop := ∃ g cap, v = .slice (some ⟨g, 0, none⟩) 8 cap ∧ ∀ i, i < 8 → w.cell? ⟨g, i, none⟩ = some (.int .u8 (byteN n i : Nat))
theorem Eight.keep {n : Nat} {v : Value} {w w' : World} (h : Eight n v w) (hb : Below w.heap.size w w') : Eight n v w' := by
  obtain ⟨g, cap, e, h⟩ := h
  refine ⟨g, cap, e, fun i hi => ?_⟩
  have hlt : g < w.heap.size := block_lt_of_cell (h i hi)
  rw [World.cell?_of_block (w := w) (a := ⟨g, i, none⟩) (hb.block g hlt)]
  exact h i hi

set_option maxRecDepth 100000 in
set_option maxHeartbeats 600000 in
theorem mix_any' (r : List Nat) (n : Nat) (hr : Rt r) (hn : n < 18446744073709551616) (w : World) (hT : Tabs w) :
    Calls Tryz.prog 18 #[.agg (nums .u8 r), .int .u64 n] w fun e w' => e = .returned (.agg (nums .u8 (pr r (wUp n 8)))) ∧ Below w.heap.size w w' := by
  have hwr := wUp_rt n 8
  obtain ⟨W8, hW8⟩ : ∃ W, Hid (wUp n 8 = W) := ⟨_, hid rfl⟩
  rw [hW8.out] at hwr ⊢
  have hprt := pr_rt r W8
  go_enter Tryz.func18, Tryz.ntmps18
  go_wp2_with (first
    | (refine wpList_box_has rfl 2 rfl 23 (.tmp 0) rfl .u8 r rfl ?_; intro w1 H1 B1 S1)
    | (refine wpList_alloc_has rfl 4 rfl 23 rfl .u8 32 Tryz.zero23 ?_; intro w2 H2 B2 S2; rw [S1] at H2)
    | (refine wpList_alloc_has rfl 5 rfl 23 rfl .u8 32 Tryz.zero23 ?_; intro w3 H3 B3 S3; rw [S2, S1] at H3))
  have HA3 := (H1.keep B2).keep B3
  have HR3 := H2.keep B3
  have HW3 := below_more (below_more B1 B2 (Nat.le_refl _)) B3 (Nat.le_refl _)
  have hT3 := hT.keep HW3
  have lt3 := H3.lt
  simp only [Act.put, List.setIfInBounds_toArray, List.set_cons_succ, List.set_cons_zero, S2, S1]
  clear H1 B1 H2 B2 B3 S1 S2 S3
  refine wp_region_flow 3 3 (fun i v wq => match i with
    | 0 => v = .slice (some ⟨w.heap.size + 1 + 1, 0, none⟩) 32 32
    | 1 => v = .int .u64 (n : Int)
    | _ => Eight n v wq) (by kernel_rfl) (by kernel_rfl) (fun _ d _ _ _ h => by cases d <;> exact h) ?_ ?_ ?_ ?_
  · intro i v wq wq' hi hv hb
    match i, hi with
    | 0, _ => exact hv
    | 1, _ => exact hv
    | 2, _ => exact hv.keep hb
  · intro i o hi ho aq wq hc hk hdep
    match i, hi with
    | 0, _ =>
      cases ho
      have e5 : aq.eval (.tmp 5) = .pointer (some ⟨w.heap.size + 1 + 1, 0, none⟩) := hk 5 (by decide)
      have e5' : aq.tmps[5]?.getD undef = .pointer (some ⟨w.heap.size + 1 + 1, 0, none⟩) := by simpa [Act.eval] using e5
      refine flow_value _ ?_ rfl
      unfold execOp
      simp [e5', go_sem]
    | 1, _ => cases ho; exact flow_move (.tmp 1) rfl (hk 1 (by decide))
    | 2, _ =>
      cases ho
      have e1 : aq.tmps.getD 7 undef = .int .u64 (n : Int) := hdep 1 7 rfl (by kernel_rfl)
      refine flow_fun 63 _ _ rfl (fun _ _ => by simp [go_sem]) #[.int .u64 (n : Int), .int .i64 8] (by rw [show (#[Operand.tmp 7, Operand.const (.int .i64 8)] : Array Operand).map aq.eval = #[aq.tmps.getD 7 undef, .int .i64 8] from by simp [Act.eval], e1]) ?_
      refine (put_any n 8 hn (by omega) (by omega) wq).mono ?_
      rintro e w' ⟨cap, rfl, own', B'⟩
      obtain ⟨g, cap', _, _, _, ev, hcell⟩ := put_cells own'
      exact ⟨_, rfl, ⟨g, cap', ev, hcell⟩, B'⟩
  · intro o h3 ho
    omega
  intro vf w4 hc hv
  have e0 : vf 0 = _ := hv 0 6 (by decide) rfl
  have e1 : vf 1 = _ := hv 1 7 (by decide) rfl
  obtain ⟨g, cap, e2, hcell⟩ : Eight n (vf 2) w4 := hv 2 8 (by decide) rfl
  clear hv
  simp only [List.take_succ_cons, List.take_zero, List.drop_succ_cons, List.drop_zero, putAll, Act.put, List.setIfInBounds_toArray, List.set_cons_succ, List.set_cons_zero]
  rw [e0, e1, e2]
  clear e0 e1 e2
  have H34 := H3.keep hc.bel
  refine wpList_copy_has rfl (.tmp 6) (.tmp 8) 99 99 rfl 5 Tryz.underlying99 Tryz.one5 _ _ _ _ _ _ rfl rfl (w.heap.size + 1 + 1) 0 .u8 (zeros 32) 23 H34 (byte8 n) rfl (fun _ => ⟨rfl, ⟨g, 0, none⟩, rfl, fun j hj => ?_⟩) (by rw [zeros_length]; simp [byte8]) ?_
  · rw [Addr.add_lit, Nat.zero_add]
    have hj8 : j < 8 := hj
    rw [hcell j hj8]
    simp [byte8, hj8]
  intro w5 H5 O5
  rw [over_word, hW8.out] at H5
  have HW5 := below_only (below_more HW3 hc.bel (Nat.le_refl _)) O5 (by omega)
  have HA5 := (HA3.keep hc.bel).only O5 (by omega)
  have HR5 := (HR3.keep hc.bel).only O5 (by omega)
  have HP := hid (pair_any r W8 hr.len hwr.len hr.byte hwr.byte w5 (hT.keep HW5))
  clear hcell hc H34 HA3 HR3 H3 HW3 hT3 O5 hW8
  go_wp2_with (first
    | (refine wpList_load_has rfl 23 (.tmp 2) rfl w.heap.size .u8 r rfl 23 HA5 _ _ Tryz.und23 (hr.size _ Tryz.size23) ?_)
    | (refine wpList_load_has rfl 23 (.tmp 5) rfl (w.heap.size + 1 + 1) .u8 W8 rfl 23 H5 _ _ Tryz.und23 (hwr.size _ Tryz.size23) ?_)
    | (go_at_call 60; refine HP.out.mono ?_; rintro e w7 ⟨rfl, B7⟩)
    | (refine wpList_store_has rfl 23 (.tmp 4) (.tmp 12) rfl (w.heap.size + 1) .u8 (pr r W8) (zeros 32) rfl rfl 23 (HR5.keep B7) (hprt.size _ Tryz.size23) (by rw [hprt.len, zeros_length]) ?_; intro w9 H9 O9))
  refine bodyPost_ret (results_has rfl _ _ (w.heap.size + 1) 23 .u8 (pr r W8) _ _ rfl H9 Tryz.und23 (hprt.size _ Tryz.size23)) rfl ?_
  exact ⟨rfl, below_only (below_more HW5 B7 (Nat.le_refl _)) O9 (by omega)⟩
end Go.Proofs.YtbmcmabimfoknaaGreatDoor
