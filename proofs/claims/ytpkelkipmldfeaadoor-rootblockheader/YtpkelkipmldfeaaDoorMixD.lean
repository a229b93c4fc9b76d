/- Contracts of both Mix. -/
import Derived.Test.YtpkelkipmldfeaaDoorMixC
namespace Go.Proofs.YtpkelkipmldfeaaDoor
set_option maxRecDepth 100000
open Go.RowKit
set_option linter.unusedVariables false

/-- Eight bytes that a call made. -/
def Eight (n : Nat) (v : Value) (w : World) : Prop := ∃ g cap, v = .slice (some ⟨g, 0, none⟩) 8 cap ∧ ∀ i, i < 8 → w.cell? ⟨g, i, none⟩ = some (.int .u8 (byteN n i : Nat))
theorem Eight.keep {n : Nat} {v : Value} {w w' : World} (h : Eight n v w) (hb : Below w.heap.size w w') : Eight n v w' := by
  obtain ⟨g, cap, e, h⟩ := h
  refine ⟨g, cap, e, fun i hi => ?_⟩
  have hlt : g < w.heap.size := block_lt_of_cell (h i hi)
  rw [World.cell?_of_block (w := w) (a := ⟨g, i, none⟩) (hb.block g hlt)]
  exact h i hi

set_option maxRecDepth 100000 in
set_option maxHeartbeats 600000 in
theorem mix_any' (r : List Nat) (n : Nat) (hr : Rt r) (hn : n < 18446744073709551616) (w : World) (hT : Tabs w) :
    Calls Tryd.prog 13 #[.agg (nums .u8 r), .int .u64 n] w fun e w' => e = .returned (.agg (nums .u8 (pr r (wUp n 8)))) ∧ Below w.heap.size w w' := by
  have hwr := wUp_rt n 8
  obtain ⟨W8, hW8⟩ : ∃ W, Hid (wUp n 8 = W) := ⟨_, hid rfl⟩
  rw [hW8.out] at hwr ⊢
  have hprt := pr_rt r W8
  go_enter Tryd.func13, Tryd.ntmps13
  go_wp2_with (first
    | (refine wpList_box_has rfl 2 rfl 24 (.tmp 0) rfl .u8 r rfl ?_; intro w1 H1 B1 S1)
    | (refine wpList_alloc_has rfl 4 rfl 24 rfl .u8 32 Tryd.zero24 ?_; intro w2 H2 B2 S2; rw [S1] at H2)
    | (refine wpList_alloc_has rfl 5 rfl 24 rfl .u8 32 Tryd.zero24 ?_; intro w3 H3 B3 S3; rw [S2, S1] at H3))
  have HA3 := (H1.keep B2).keep B3
  have HR3 := H2.keep B3
  have HW3 := below_more (below_more B1 B2 (Nat.le_refl _)) B3 (Nat.le_refl _)
  have hT3 := hT.keep HW3
  have lt3 := H3.lt
  simp only [Act.put, List.setIfInBounds_toArray, List.set_cons_succ, List.set_cons_zero, S2, S1]
  clear H1 B1 H2 B2 B3 S1 S2 S3
  refine wp_region_flow 3 3 (fun i v wq => match i with
    | 0 => v = .slice (some ⟨w.heap.size + 1 + 1, 0, none⟩) 32 32
    | 1 => v = .int .u64 (n : Int)
    | _ => Eight n v wq) (by kernel_rfl) (by kernel_rfl) (fun _ d _ _ _ h => by cases d <;> exact h) ?_ ?_ ?_ ?_
  · intro i v wq wq' hi hv hb
    match i, hi with
    | 0, _ => exact hv
    | 1, _ => exact hv
    | 2, _ => exact hv.keep hb
  · intro i o hi ho aq wq hc hk hdep
    match i, hi with
    | 0, _ =>
      cases ho
      have e5 : aq.eval (.tmp 5) = .pointer (some ⟨w.heap.size + 1 + 1, 0, none⟩) := hk 5 (by decide)
      have e5' : aq.tmps[5]?.getD undef = .pointer (some ⟨w.heap.size + 1 + 1, 0, none⟩) := by simpa [Act.eval] using e5
      refine flow_value _ ?_ rfl
      unfold execOp
      simp [e5', go_sem]
    | 1, _ => cases ho; exact flow_move (.tmp 1) rfl (hk 1 (by decide))
    | 2, _ =>
      cases ho
      have e1 : aq.tmps.getD 7 undef = .int .u64 (n : Int) := hdep 1 7 rfl (by kernel_rfl)
      refine flow_fun 30 _ _ rfl (fun _ _ => by simp [go_sem]) #[.int .u64 (n : Int), .int .i64 8] (by rw [show (#[Operand.tmp 7, Operand.const (.int .i64 8)] : Array Operand).map aq.eval = #[aq.tmps.getD 7 undef, .int .i64 8] from by simp [Act.eval], e1]) ?_
      refine (put_any n 8 hn (by omega) (by omega) wq).mono ?_
      rintro e w' ⟨cap, rfl, own', B'⟩
      obtain ⟨g, cap', _, _, _, ev, hcell⟩ := put_cells own'
      exact ⟨_, rfl, ⟨g, cap', ev, hcell⟩, B'⟩
  · intro o h3 ho
    omega
  intro vf w4 hc hv
  have e0 : vf 0 = _ := hv 0 6 (by decide) rfl
  have e1 : vf 1 = _ := hv 1 7 (by decide) rfl
  obtain ⟨g, cap, e2, hcell⟩ : Eight n (vf 2) w4 := hv 2 8 (by decide) rfl
  clear hv
  simp only [List.take_succ_cons, List.take_zero, List.drop_succ_cons, List.drop_zero, putAll, Act.put, List.setIfInBounds_toArray, List.set_cons_succ, List.set_cons_zero]
  rw [e0, e1, e2]
  clear e0 e1 e2
  have H34 := H3.keep hc.bel
  refine wpList_copy_has rfl (.tmp 6) (.tmp 8) 91 91 rfl 5 Tryd.underlying91 Tryd.one5 _ _ _ _ _ _ rfl rfl (w.heap.size + 1 + 1) 0 .u8 (zeros 32) 24 H34 (byte8 n) rfl (fun _ => ⟨rfl, ⟨g, 0, none⟩, rfl, fun j hj => ?_⟩) (by rw [zeros_length]; simp [byte8]) ?_
  · rw [Addr.add_lit, Nat.zero_add]
    have hj8 : j < 8 := hj
    rw [hcell j hj8]
    simp [byte8, hj8]
  intro w5 H5 O5
  rw [over_word, hW8.out] at H5
  have HW5 := below_only (below_more HW3 hc.bel (Nat.le_refl _)) O5 (by omega)
  have HA5 := (HA3.keep hc.bel).only O5 (by omega)
  have HR5 := (HR3.keep hc.bel).only O5 (by omega)
  have HP := hid (pair_any r W8 hr.len hwr.len hr.byte hwr.byte w5 (hT.keep HW5))
  clear hcell hc H34 HA3 HR3 H3 HW3 hT3 O5 hW8
  go_wp2_with (first
    | (refine wpList_load_has rfl 24 (.tmp 2) rfl w.heap.size .u8 r rfl 24 HA5 _ _ Tryd.und24 (hr.size _ Tryd.size24) ?_)
    | (refine wpList_load_has rfl 24 (.tmp 5) rfl (w.heap.size + 1 + 1) .u8 W8 rfl 24 H5 _ _ Tryd.und24 (hwr.size _ Tryd.size24) ?_)
    | (go_at_call 27; refine HP.out.mono ?_; rintro e w7 ⟨rfl, B7⟩)
    | (refine wpList_store_has rfl 24 (.tmp 4) (.tmp 12) rfl (w.heap.size + 1) .u8 (pr r W8) (zeros 32) rfl rfl 24 (HR5.keep B7) (hprt.size _ Tryd.size24) (by rw [hprt.len, zeros_length]) ?_; intro w9 H9 O9))
  refine bodyPost_ret (results_has rfl _ _ (w.heap.size + 1) 24 .u8 (pr r W8) _ _ rfl H9 Tryd.und24 (hprt.size _ Tryd.size24)) rfl ?_
  exact ⟨rfl, below_only (below_more HW5 B7 (Nat.le_refl _)) O9 (by omega)⟩
end Go.Proofs.YtpkelkipmldfeaaDoor
