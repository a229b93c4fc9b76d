/- Own texts of the proof, joined: CoVote CoExit CoSignedExit CoValidator Open6. -/
import Derived.Test.YtakdokccdkhcoaaDoorGrcnts8
import Derived.ProofKit
import Derived.OpenShut
import Derived.ShutString
import Derived.ChangeOld
import Derived.Deep.Slices
import Derived.SevenTiedAt
import Derived.Stop.Joined
/- The root of a struct (Vote), by the program. -/
namespace Go.Proofs.YtakdokccdkhcoaaDoor
open Go.RowKit Go.Shelf
set_option linter.unusedVariables false
set_option linter.unusedSimpArgs false
set_option maxRecDepth 100000

def vtP (zs : Nat) (zi : Nat) (zb : List Nat) (zcze : Nat) (zczr : List Nat) (ztze : Nat) (ztzr : List Nat) : List (List Value) := [[.int .u64 (zs : Nat)], [.int .u64 (zi : Nat)], cellsB zb, cpC zcze zczr, cpC ztze ztzr]
def vtC (zs : Nat) (zi : Nat) (zb : List Nat) (zcze : Nat) (zczr : List Nat) (ztze : Nat) (ztzr : List Nat) : List Value := (vtP zs zi zb zcze zczr ztze ztzr).flatten
theorem vtC_length (zs : Nat) (zi : Nat) (zb : List Nat) (zcze : Nat) (zczr : List Nat) (ztze : Nat) (ztzr : List Nat) (hzb : zb.length = 32) (hzczr : zczr.length = 32) (hztzr : ztzr.length = 32) : (vtC zs zi zb zcze zczr ztze ztzr).length = 100 := by simp [vtC, vtP, cellsB_length, hzb, hzczr, hztzr, cpC_length zcze zczr hzczr, cpC_length ztze ztzr hztzr]
def vtR (zs : Nat) (zi : Nat) (zb : List Nat) (zcze : Nat) (zczr : List Nat) (ztze : Nat) (ztzr : List Nat) : List Nat := fullR (depth (([wUp zs 8, wUp zi 8, zb, cpR zcze zczr, cpR ztze ztzr] : List (List Nat)).length : Nat)) [wUp zs 8, wUp zi 8, zb, cpR zcze zczr, cpR ztze ztzr]
theorem vtR_rt (zs : Nat) (zi : Nat) (zb : List Nat) (zcze : Nat) (zczr : List Nat) (ztze : Nat) (ztzr : List Nat) (hzb : Rt zb) (hzczr : Rt zczr) (hztzr : Rt ztzr) : Rt (vtR zs zi zb zcze zczr ztze ztzr) := full_rt _ _ (Rts.more (wUp_rt zs 8) (Rts.more (wUp_rt zi 8) (Rts.more hzb (Rts.more (cpR_rt zcze zczr hzczr) (Rts.more (cpR_rt ztze ztzr hztzr) Rts.nil)))))
set_option maxHeartbeats 2000000 in
theorem vtR_any (zs : Nat) (zi : Nat) (zb : List Nat) (zcze : Nat) (zczr : List Nat) (ztze : Nat) (ztzr : List Nat) (hzs : zs < 18446744073709551616) (hzi : zi < 18446744073709551616) (hzb : Rt zb) (hzcze : zcze < 18446744073709551616) (hzczr : Rt zczr) (hztze : ztze < 18446744073709551616) (hztzr : Rt ztzr) (w : World) (hT : Tabs w) :
    Calls Tryd.prog 18 #[.agg (vtC zs zi zb zcze zczr ztze ztzr).toArray] w fun x w' => x = .returned (.agg (nums .u8 (vtR zs zi zb zcze zczr ztze ztzr))) ∧ Below w.heap.size w w' := by
  have hfr := vtR_rt zs zi zb zcze zczr ztze ztzr hzb hzczr hztzr
  obtain ⟨W, HW⟩ : ∃ W, Hid (vtR zs zi zb zcze zczr ztze ztzr = W) := ⟨_, hid rfl⟩
  rw [HW.out] at hfr ⊢
  go_enter Tryd.func18, Tryd.ntmps18
  go_wp2_with ((with_reducible refine at_list' ?_); first
    | (refine wpList_box_c rfl 1 rfl (.tmp 0) rfl (vtC zs zi zb zcze zczr ztze ztzr) rfl ?_; intro w1 H1 B1 S1)
    | (refine wpList_alloc_has rfl 2 rfl 24 rfl .u8 32 Tryd.zero24 ?_; intro w2 H2 B2 S2; rw [S1] at H2 S2; rw [S1]))
  have HX := hid (H1.keep B2)
  have HY := hid H2
  have HB := hid (B1.trans (B2.mono (by omega)))
  have HT := hid (hT.keep HB.out)
  have s2 : w2.heap.size = w.heap.size + 2 := by omega
  clear H1 B1 S1 H2 B2 S2
  try simp only [Act.put, List.setIfInBounds_toArray, List.set_cons_succ, List.set_cons_zero]
  refine wp_region_flow 16 16 (fun i v wq => match i with
    | 0 => v = .pointer (some ⟨w.heap.size, 0, none⟩)
    | 1 => v = .int .u64 (zs : Nat)
    | 2 => v = .agg (nums .u8 (wUp zs 8))
    | 3 => v = .pointer (some ⟨w.heap.size, 1, none⟩)
    | 4 => v = .int .u64 (zi : Nat)
    | 5 => v = .agg (nums .u8 (wUp zi 8))
    | 6 => v = .pointer (some ⟨w.heap.size, 2, none⟩)
    | 7 => v = .agg (nums .u8 zb)
    | 8 => v = .pointer (some ⟨w.heap.size, 34, none⟩)
    | 9 => v = .agg (cpC zcze zczr).toArray
    | 10 => v = .agg (nums .u8 (cpR zcze zczr))
    | 11 => v = .pointer (some ⟨w.heap.size, 67, none⟩)
    | 12 => v = .agg (cpC ztze ztzr).toArray
    | 13 => v = .agg (nums .u8 (cpR ztze ztzr))
    | 14 => ∃ b, v = .slice (some ⟨b, 0, none⟩) 5 5 ∧ RootsAt wq (some ⟨b, 0, none⟩) [wUp zs 8, wUp zi 8, zb, cpR zcze zczr, cpR ztze ztzr]
    | _ => v = .agg (nums .u8 W)) (by kernel_rfl) (by kernel_rfl) (fun _ d _ _ _ h => by cases d <;> exact h) ?_ ?_ ?_ ?_
  · intro i v wq wq' hi hv hb
    match i, hi with
    | 0, _ => exact hv
    | 1, _ => exact hv
    | 2, _ => exact hv
    | 3, _ => exact hv
    | 4, _ => exact hv
    | 5, _ => exact hv
    | 6, _ => exact hv
    | 7, _ => exact hv
    | 8, _ => exact hv
    | 9, _ => exact hv
    | 10, _ => exact hv
    | 11, _ => exact hv
    | 12, _ => exact hv
    | 13, _ => exact hv
    | 14, _ => obtain ⟨b, h1, h2⟩ := hv; exact ⟨b, h1, h2.keep hb⟩
    | 15, _ => exact hv
    | (k + 16), hk => exact absurd hk (by omega)
  · intro i o hi ho aq wq hc hk hdep
    match i, hi with
    | 0, _ =>
      cases ho
      have e1 : aq.tmps.getD 1 undef = .pointer (some ⟨w.heap.size, 0, none⟩) := hk 1 (by decide)
      exact flow_value _ (run_fieldAt 45 (.tmp 1) 0 rfl _ _ e1 (by kernel_rfl)) rfl
    | 1, _ =>
      cases ho
      have e0 : aq.tmps.getD 3 undef = .pointer (some ⟨w.heap.size, 0, none⟩) := hdep 0 3 rfl (by kernel_rfl)
      exact flow_value _ (run_cell 22 (.tmp 3) rfl _ e0 _ ((HX.out.keep (hcB hc)).cell (seg (ps := vtP zs zi zb zcze zczr ztze ztzr) (i := 0) (off := 0) rfl (by simp [vtP, cellsB_length, hzb.len, hzczr.len, hztzr.len, cpC_length zcze zczr hzczr.len, cpC_length ztze ztzr hztzr.len]) 0 _ rfl)) _ Tryd.underlying22 rfl) rfl
    | 2, _ =>
      cases ho
      have e0 : aq.tmps.getD 4 undef = .int .u64 (zs : Nat) := hdep 1 4 rfl (by kernel_rfl)
      refine flow_fun 31 _ _ rfl (fun _ _ => by simp [go_sem]) #[.int .u64 (zs : Nat)] (by rw [show (#[Operand.tmp 4] : Array Operand).map aq.eval = #[aq.tmps.getD 4 undef] from by simp [Act.eval], e0]) ?_
      refine (number_any zs hzs wq).mono ?_
      rintro x w' ⟨rfl, q⟩
      exact ⟨_, rfl, rfl, q⟩
    | 3, _ =>
      cases ho
      have e1 : aq.tmps.getD 1 undef = .pointer (some ⟨w.heap.size, 0, none⟩) := hk 1 (by decide)
      exact flow_value _ (run_fieldAt 45 (.tmp 1) 1 rfl _ _ e1 (by kernel_rfl)) rfl
    | 4, _ =>
      cases ho
      have e0 : aq.tmps.getD 6 undef = .pointer (some ⟨w.heap.size, 1, none⟩) := hdep 3 6 rfl (by kernel_rfl)
      exact flow_value _ (run_cell 22 (.tmp 6) rfl _ e0 _ ((HX.out.keep (hcB hc)).cell (seg (ps := vtP zs zi zb zcze zczr ztze ztzr) (i := 1) (off := 1) rfl (by simp [vtP, cellsB_length, hzb.len, hzczr.len, hztzr.len, cpC_length zcze zczr hzczr.len, cpC_length ztze ztzr hztzr.len]) 0 _ rfl)) _ Tryd.underlying22 rfl) rfl
    | 5, _ =>
      cases ho
      have e0 : aq.tmps.getD 7 undef = .int .u64 (zi : Nat) := hdep 4 7 rfl (by kernel_rfl)
      refine flow_fun 31 _ _ rfl (fun _ _ => by simp [go_sem]) #[.int .u64 (zi : Nat)] (by rw [show (#[Operand.tmp 7] : Array Operand).map aq.eval = #[aq.tmps.getD 7 undef] from by simp [Act.eval], e0]) ?_
      refine (number_any zi hzi wq).mono ?_
      rintro x w' ⟨rfl, q⟩
      exact ⟨_, rfl, rfl, q⟩
    | 6, _ =>
      cases ho
      have e1 : aq.tmps.getD 1 undef = .pointer (some ⟨w.heap.size, 0, none⟩) := hk 1 (by decide)
      exact flow_value _ (run_fieldAt 45 (.tmp 1) 2 rfl _ _ e1 (by kernel_rfl)) rfl
    | 7, _ =>
      cases ho
      have e0 : aq.tmps.getD 9 undef = .pointer (some ⟨w.heap.size, 2, none⟩) := hdep 6 9 rfl (by kernel_rfl)
      exact flow_value _ (run_mid 24 (.tmp 9) rfl w.heap.size 2 e0 (cellsB zb) ((HX.out.keep (hcB hc)).range 2 (cellsB zb) (seg (ps := vtP zs zi zb zcze zczr ztze ztzr) (i := 2) (off := 2) rfl (by simp [vtP, cellsB_length, hzb.len, hzczr.len, hztzr.len, cpC_length zcze zczr hzczr.len, cpC_length ztze ztzr hztzr.len]))) _ Tryd.und24 rfl (by rw [cellsB_length, hzb.len]; exact Tryd.size24)) rfl
    | 8, _ =>
      cases ho
      have e1 : aq.tmps.getD 1 undef = .pointer (some ⟨w.heap.size, 0, none⟩) := hk 1 (by decide)
      exact flow_value _ (run_fieldAt 45 (.tmp 1) 3 rfl _ _ e1 (by kernel_rfl)) rfl
    | 9, _ =>
      cases ho
      have e0 : aq.tmps.getD 11 undef = .pointer (some ⟨w.heap.size, 34, none⟩) := hdep 8 11 rfl (by kernel_rfl)
      exact flow_value _ (run_mid 26 (.tmp 11) rfl w.heap.size 34 e0 (cpC zcze zczr) ((HX.out.keep (hcB hc)).range 34 (cpC zcze zczr) (seg (ps := vtP zs zi zb zcze zczr ztze ztzr) (i := 3) (off := 34) rfl (by simp [vtP, cellsB_length, hzb.len, hzczr.len, hztzr.len, cpC_length zcze zczr hzczr.len, cpC_length ztze ztzr hztzr.len]))) _ Tryd.underlying26 rfl (by rw [cpC_length zcze zczr hzczr.len]; kernel_rfl)) rfl
    | 10, _ =>
      cases ho
      have e0 : aq.tmps.getD 12 undef = .agg (cpC zcze zczr).toArray := hdep 9 12 rfl (by kernel_rfl)
      refine flow_fun 10 _ _ rfl (fun _ _ => by simp [go_sem]) #[.agg (cpC zcze zczr).toArray] (by rw [show (#[Operand.tmp 12] : Array Operand).map aq.eval = #[aq.tmps.getD 12 undef] from by simp [Act.eval], e0]) ?_
      refine (cpR_any zcze zczr hzcze hzczr wq (HT.out.keep (hcB hc))).mono ?_
      rintro x w' ⟨rfl, q⟩
      exact ⟨_, rfl, rfl, q⟩
    | 11, _ =>
      cases ho
      have e1 : aq.tmps.getD 1 undef = .pointer (some ⟨w.heap.size, 0, none⟩) := hk 1 (by decide)
      exact flow_value _ (run_fieldAt 45 (.tmp 1) 4 rfl _ _ e1 (by kernel_rfl)) rfl
    | 12, _ =>
      cases ho
      have e0 : aq.tmps.getD 14 undef = .pointer (some ⟨w.heap.size, 67, none⟩) := hdep 11 14 rfl (by kernel_rfl)
      exact flow_value _ (run_mid 26 (.tmp 14) rfl w.heap.size 67 e0 (cpC ztze ztzr) ((HX.out.keep (hcB hc)).range 67 (cpC ztze ztzr) (seg (ps := vtP zs zi zb zcze zczr ztze ztzr) (i := 4) (off := 67) rfl (by simp [vtP, cellsB_length, hzb.len, hzczr.len, hztzr.len, cpC_length zcze zczr hzczr.len, cpC_length ztze ztzr hztzr.len]))) _ Tryd.underlying26 rfl (by rw [cpC_length ztze ztzr hztzr.len]; kernel_rfl)) rfl
    | 13, _ =>
      cases ho
      have e0 : aq.tmps.getD 15 undef = .agg (cpC ztze ztzr).toArray := hdep 12 15 rfl (by kernel_rfl)
      refine flow_fun 10 _ _ rfl (fun _ _ => by simp [go_sem]) #[.agg (cpC ztze ztzr).toArray] (by rw [show (#[Operand.tmp 15] : Array Operand).map aq.eval = #[aq.tmps.getD 15 undef] from by simp [Act.eval], e0]) ?_
      refine (cpR_any ztze ztzr hztze hztzr wq (HT.out.keep (hcB hc))).mono ?_
      rintro x w' ⟨rfl, q⟩
      exact ⟨_, rfl, rfl, q⟩
    | 14, _ =>
      cases ho
      have e0 : aq.tmps.getD 5 undef = .agg (nums .u8 (wUp zs 8)) := hdep 2 5 rfl (by kernel_rfl)
      have e1 : aq.tmps.getD 8 undef = .agg (nums .u8 (wUp zi 8)) := hdep 5 8 rfl (by kernel_rfl)
      have e2 : aq.tmps.getD 10 undef = .agg (nums .u8 zb) := hdep 7 10 rfl (by kernel_rfl)
      have e3 : aq.tmps.getD 13 undef = .agg (nums .u8 (cpR zcze zczr)) := hdep 10 13 rfl (by kernel_rfl)
      have e4 : aq.tmps.getD 16 undef = .agg (nums .u8 (cpR ztze ztzr)) := hdep 13 16 rfl (by kernel_rfl)
      exact flow_rows 91 24 5 32 _ rfl Tryd.underlying91 rootInfo6 [cellsB (wUp zs 8), cellsB (wUp zi 8), cellsB (zb), cellsB (cpR zcze zczr), cellsB (cpR ztze ztzr)] [.tmp 5, .tmp 8, .tmp 10, .tmp 13, .tmp 16] rfl (by rw [show [Operand.tmp 5, Operand.tmp 8, Operand.tmp 10, Operand.tmp 13, Operand.tmp 16].map aq.eval = [aq.tmps.getD 5 undef, aq.tmps.getD 8 undef, aq.tmps.getD 10 undef, aq.tmps.getD 13 undef, aq.tmps.getD 16 undef] from rfl, e0, e1, e2, e3, e4]; rfl) (by simp [cellsB_length, ((wUp_rt zs 8)).len, ((wUp_rt zi 8)).len, (hzb).len, ((cpR_rt zcze zczr hzczr)).len, ((cpR_rt ztze ztzr hztzr)).len]) rfl (by decide) (by decide) (by decide) (fun w' h => ⟨_, rfl, hasC_roots (rs := [wUp zs 8, wUp zi 8, zb, cpR zcze zczr, cpR ztze ztzr]) h (Rts.more (wUp_rt zs 8) (Rts.more (wUp_rt zi 8) (Rts.more hzb (Rts.more (cpR_rt zcze zczr hzczr) (Rts.more (cpR_rt ztze ztzr hztzr) Rts.nil)))))⟩)
    | 15, _ =>
      cases ho
      obtain ⟨b, e6, h6⟩ := hdep 14 17 rfl (by kernel_rfl)
      refine flow_fun 30 _ _ rfl (fun _ _ => by simp [go_sem]) #[.slice (some ⟨b, 0, none⟩) 5 5] (by rw [show (#[Operand.tmp 17] : Array Operand).map aq.eval = #[aq.tmps.getD 17 undef] from by simp [Act.eval], e6]) ?_
      refine (cont_any (some ⟨b, 0, none⟩) 5 [wUp zs 8, wUp zi 8, zb, cpR zcze zczr, cpR ztze ztzr] wq (HT.out.keep (hcB hc)) (Nat.le_refl _) (by decide) (by show 5 ≤ 1048576; decide) h6).mono ?_
      rintro x w' ⟨rfl, q⟩
      exact ⟨_, rfl, (by rw [← HW.out]; rfl), q⟩
    | (k + 16), hk => exact absurd hk (by omega)
  · intro o h16 ho
    omega
  intro vf w8 hc hv
  have e7 : vf 15 = _ := hv 15 18 (by decide) rfl
  have B8 := HB.out.trans ((hcB hc).mono (by omega))
  have H8v := HY.out.keep (hcB hc)
  have s8 := (hcB hc).size
  clear hv hc
  simp only [List.take_succ_cons, List.take_zero, List.drop_succ_cons, List.drop_zero, putAll, Act.put, List.setIfInBounds_toArray, List.set_cons_succ, List.set_cons_zero]
  rw [e7]
  have HB8 := hid B8
  clear B8 e7 HB
  go_wp2_with ((with_reducible refine at_list' ?_); first
    | (refine wpList_store_has rfl 24 (.tmp 2) (.tmp 18) rfl (w.heap.size + 1) .u8 W (zeros 32) rfl rfl 24 H8v (hfr.size _ Tryd.size24) (by rw [hfr.len, zeros_length]) ?_; intro w9 H9 O9))
  refine bodyPost_ret (results_has rfl _ _ (w.heap.size + 1) 24 .u8 W _ _ rfl H9 Tryd.und24 (hfr.size _ Tryd.size24)) rfl ?_
  exact ⟨rfl, below_only HB8.out O9 (by omega)⟩
end Go.Proofs.YtakdokccdkhcoaaDoor

/- The root of a struct (Exit), by the program. -/
namespace Go.Proofs.YtakdokccdkhcoaaDoor
open Go.RowKit Go.Shelf
set_option linter.unusedVariables false
set_option linter.unusedSimpArgs false
set_option maxRecDepth 100000

def exP (ze : Nat) (zi : Nat) : List (List Value) := [[.int .u64 (ze : Nat)], [.int .u64 (zi : Nat)]]
def exC (ze : Nat) (zi : Nat) : List Value := (exP ze zi).flatten
theorem exC_length (ze : Nat) (zi : Nat)  : (exC ze zi).length = 2 := by simp [exC, exP, cellsB_length]
def exR (ze : Nat) (zi : Nat) : List Nat := fullR (depth (([wUp ze 8, wUp zi 8] : List (List Nat)).length : Nat)) [wUp ze 8, wUp zi 8]
theorem exR_rt (ze : Nat) (zi : Nat)  : Rt (exR ze zi) := full_rt _ _ (Rts.more (wUp_rt ze 8) (Rts.more (wUp_rt zi 8) Rts.nil))
set_option maxHeartbeats 2000000 in
theorem exR_any (ze : Nat) (zi : Nat) (hze : ze < 18446744073709551616) (hzi : zi < 18446744073709551616) (w : World) (hT : Tabs w) :
    Calls Tryd.prog 47 #[.agg (exC ze zi).toArray] w fun x w' => x = .returned (.agg (nums .u8 (exR ze zi))) ∧ Below w.heap.size w w' := by
  have hfr := exR_rt ze zi 
  obtain ⟨W, HW⟩ : ∃ W, Hid (exR ze zi = W) := ⟨_, hid rfl⟩
  rw [HW.out] at hfr ⊢
  go_enter Tryd.func47, Tryd.ntmps47
  go_wp2_with ((with_reducible refine at_list' ?_); first
    | (refine wpList_box_c rfl 1 rfl (.tmp 0) rfl (exC ze zi) rfl ?_; intro w1 H1 B1 S1)
    | (refine wpList_alloc_has rfl 2 rfl 24 rfl .u8 32 Tryd.zero24 ?_; intro w2 H2 B2 S2; rw [S1] at H2 S2; rw [S1]))
  have HX := hid (H1.keep B2)
  have HY := hid H2
  have HB := hid (B1.trans (B2.mono (by omega)))
  have HT := hid (hT.keep HB.out)
  have s2 : w2.heap.size = w.heap.size + 2 := by omega
  clear H1 B1 S1 H2 B2 S2
  try simp only [Act.put, List.setIfInBounds_toArray, List.set_cons_succ, List.set_cons_zero]
  refine wp_region_flow 8 8 (fun i v wq => match i with
    | 0 => v = .pointer (some ⟨w.heap.size, 0, none⟩)
    | 1 => v = .int .u64 (ze : Nat)
    | 2 => v = .agg (nums .u8 (wUp ze 8))
    | 3 => v = .pointer (some ⟨w.heap.size, 1, none⟩)
    | 4 => v = .int .u64 (zi : Nat)
    | 5 => v = .agg (nums .u8 (wUp zi 8))
    | 6 => ∃ b, v = .slice (some ⟨b, 0, none⟩) 2 2 ∧ RootsAt wq (some ⟨b, 0, none⟩) [wUp ze 8, wUp zi 8]
    | _ => v = .agg (nums .u8 W)) (by kernel_rfl) (by kernel_rfl) (fun _ d _ _ _ h => by cases d <;> exact h) ?_ ?_ ?_ ?_
  · intro i v wq wq' hi hv hb
    match i, hi with
    | 0, _ => exact hv
    | 1, _ => exact hv
    | 2, _ => exact hv
    | 3, _ => exact hv
    | 4, _ => exact hv
    | 5, _ => exact hv
    | 6, _ => obtain ⟨b, h1, h2⟩ := hv; exact ⟨b, h1, h2.keep hb⟩
    | 7, _ => exact hv
    | (k + 8), hk => exact absurd hk (by omega)
  · intro i o hi ho aq wq hc hk hdep
    match i, hi with
    | 0, _ =>
      cases ho
      have e1 : aq.tmps.getD 1 undef = .pointer (some ⟨w.heap.size, 0, none⟩) := hk 1 (by decide)
      exact flow_value _ (run_fieldAt 50 (.tmp 1) 0 rfl _ _ e1 (by kernel_rfl)) rfl
    | 1, _ =>
      cases ho
      have e0 : aq.tmps.getD 3 undef = .pointer (some ⟨w.heap.size, 0, none⟩) := hdep 0 3 rfl (by kernel_rfl)
      exact flow_value _ (run_cell 22 (.tmp 3) rfl _ e0 _ ((HX.out.keep (hcB hc)).cell (seg (ps := exP ze zi) (i := 0) (off := 0) rfl (by simp [exP, cellsB_length]) 0 _ rfl)) _ Tryd.underlying22 rfl) rfl
    | 2, _ =>
      cases ho
      have e0 : aq.tmps.getD 4 undef = .int .u64 (ze : Nat) := hdep 1 4 rfl (by kernel_rfl)
      refine flow_fun 31 _ _ rfl (fun _ _ => by simp [go_sem]) #[.int .u64 (ze : Nat)] (by rw [show (#[Operand.tmp 4] : Array Operand).map aq.eval = #[aq.tmps.getD 4 undef] from by simp [Act.eval], e0]) ?_
      refine (number_any ze hze wq).mono ?_
      rintro x w' ⟨rfl, q⟩
      exact ⟨_, rfl, rfl, q⟩
    | 3, _ =>
      cases ho
      have e1 : aq.tmps.getD 1 undef = .pointer (some ⟨w.heap.size, 0, none⟩) := hk 1 (by decide)
      exact flow_value _ (run_fieldAt 50 (.tmp 1) 1 rfl _ _ e1 (by kernel_rfl)) rfl
    | 4, _ =>
      cases ho
      have e0 : aq.tmps.getD 6 undef = .pointer (some ⟨w.heap.size, 1, none⟩) := hdep 3 6 rfl (by kernel_rfl)
      exact flow_value _ (run_cell 22 (.tmp 6) rfl _ e0 _ ((HX.out.keep (hcB hc)).cell (seg (ps := exP ze zi) (i := 1) (off := 1) rfl (by simp [exP, cellsB_length]) 0 _ rfl)) _ Tryd.underlying22 rfl) rfl
    | 5, _ =>
      cases ho
      have e0 : aq.tmps.getD 7 undef = .int .u64 (zi : Nat) := hdep 4 7 rfl (by kernel_rfl)
      refine flow_fun 31 _ _ rfl (fun _ _ => by simp [go_sem]) #[.int .u64 (zi : Nat)] (by rw [show (#[Operand.tmp 7] : Array Operand).map aq.eval = #[aq.tmps.getD 7 undef] from by simp [Act.eval], e0]) ?_
      refine (number_any zi hzi wq).mono ?_
      rintro x w' ⟨rfl, q⟩
      exact ⟨_, rfl, rfl, q⟩
    | 6, _ =>
      cases ho
      have e0 : aq.tmps.getD 5 undef = .agg (nums .u8 (wUp ze 8)) := hdep 2 5 rfl (by kernel_rfl)
      have e1 : aq.tmps.getD 8 undef = .agg (nums .u8 (wUp zi 8)) := hdep 5 8 rfl (by kernel_rfl)
      exact flow_rows 91 24 2 32 _ rfl Tryd.underlying91 rootInfo6 [cellsB (wUp ze 8), cellsB (wUp zi 8)] [.tmp 5, .tmp 8] rfl (by rw [show [Operand.tmp 5, Operand.tmp 8].map aq.eval = [aq.tmps.getD 5 undef, aq.tmps.getD 8 undef] from rfl, e0, e1]; rfl) (by simp [cellsB_length, ((wUp_rt ze 8)).len, ((wUp_rt zi 8)).len]) rfl (by decide) (by decide) (by decide) (fun w' h => ⟨_, rfl, hasC_roots (rs := [wUp ze 8, wUp zi 8]) h (Rts.more (wUp_rt ze 8) (Rts.more (wUp_rt zi 8) Rts.nil))⟩)
    | 7, _ =>
      cases ho
      obtain ⟨b, e6, h6⟩ := hdep 6 9 rfl (by kernel_rfl)
      refine flow_fun 30 _ _ rfl (fun _ _ => by simp [go_sem]) #[.slice (some ⟨b, 0, none⟩) 2 2] (by rw [show (#[Operand.tmp 9] : Array Operand).map aq.eval = #[aq.tmps.getD 9 undef] from by simp [Act.eval], e6]) ?_
      refine (cont_any (some ⟨b, 0, none⟩) 2 [wUp ze 8, wUp zi 8] wq (HT.out.keep (hcB hc)) (Nat.le_refl _) (by decide) (by show 2 ≤ 1048576; decide) h6).mono ?_
      rintro x w' ⟨rfl, q⟩
      exact ⟨_, rfl, (by rw [← HW.out]; rfl), q⟩
    | (k + 8), hk => exact absurd hk (by omega)
  · intro o h8 ho
    omega
  intro vf w8 hc hv
  have e7 : vf 7 = _ := hv 7 10 (by decide) rfl
  have B8 := HB.out.trans ((hcB hc).mono (by omega))
  have H8v := HY.out.keep (hcB hc)
  have s8 := (hcB hc).size
  clear hv hc
  simp only [List.take_succ_cons, List.take_zero, List.drop_succ_cons, List.drop_zero, putAll, Act.put, List.setIfInBounds_toArray, List.set_cons_succ, List.set_cons_zero]
  rw [e7]
  have HB8 := hid B8
  clear B8 e7 HB
  go_wp2_with ((with_reducible refine at_list' ?_); first
    | (refine wpList_store_has rfl 24 (.tmp 2) (.tmp 10) rfl (w.heap.size + 1) .u8 W (zeros 32) rfl rfl 24 H8v (hfr.size _ Tryd.size24) (by rw [hfr.len, zeros_length]) ?_; intro w9 H9 O9))
  refine bodyPost_ret (results_has rfl _ _ (w.heap.size + 1) 24 .u8 W _ _ rfl H9 Tryd.und24 (hfr.size _ Tryd.size24)) rfl ?_
  exact ⟨rfl, below_only HB8.out O9 (by omega)⟩
end Go.Proofs.YtakdokccdkhcoaaDoor

/- The root of a struct (SignedExit), by the program. -/
namespace Go.Proofs.YtakdokccdkhcoaaDoor
open Go.RowKit Go.Shelf
set_option linter.unusedVariables false
set_option linter.unusedSimpArgs false
set_option maxRecDepth 100000

def sxP (zxze : Nat) (zxzi : Nat) (zsg : List Nat) : List (List Value) := [exC zxze zxzi, cellsB zsg]
def sxC (zxze : Nat) (zxzi : Nat) (zsg : List Nat) : List Value := (sxP zxze zxzi zsg).flatten
theorem sxC_length (zxze : Nat) (zxzi : Nat) (zsg : List Nat) (hzsg : zsg.length = 32) : (sxC zxze zxzi zsg).length = 34 := by simp [sxC, sxP, cellsB_length, hzsg, exC_length zxze zxzi ]
def sxR (zxze : Nat) (zxzi : Nat) (zsg : List Nat) : List Nat := fullR (depth (([exR zxze zxzi, zsg] : List (List Nat)).length : Nat)) [exR zxze zxzi, zsg]
theorem sxR_rt (zxze : Nat) (zxzi : Nat) (zsg : List Nat) (hzsg : Rt zsg) : Rt (sxR zxze zxzi zsg) := full_rt _ _ (Rts.more (exR_rt zxze zxzi ) (Rts.more hzsg Rts.nil))
set_option maxHeartbeats 2000000 in
theorem sxR_any (zxze : Nat) (zxzi : Nat) (zsg : List Nat) (hzxze : zxze < 18446744073709551616) (hzxzi : zxzi < 18446744073709551616) (hzsg : Rt zsg) (w : World) (hT : Tabs w) :
    Calls Tryd.prog 21 #[.agg (sxC zxze zxzi zsg).toArray] w fun x w' => x = .returned (.agg (nums .u8 (sxR zxze zxzi zsg))) ∧ Below w.heap.size w w' := by
  have hfr := sxR_rt zxze zxzi zsg hzsg
  obtain ⟨W, HW⟩ : ∃ W, Hid (sxR zxze zxzi zsg = W) := ⟨_, hid rfl⟩
  rw [HW.out] at hfr ⊢
  go_enter Tryd.func21, Tryd.ntmps21
  go_wp2_with ((with_reducible refine at_list' ?_); first
    | (refine wpList_box_c rfl 1 rfl (.tmp 0) rfl (sxC zxze zxzi zsg) rfl ?_; intro w1 H1 B1 S1)
    | (refine wpList_alloc_has rfl 2 rfl 24 rfl .u8 32 Tryd.zero24 ?_; intro w2 H2 B2 S2; rw [S1] at H2 S2; rw [S1]))
  have HX := hid (H1.keep B2)
  have HY := hid H2
  have HB := hid (B1.trans (B2.mono (by omega)))
  have HT := hid (hT.keep HB.out)
  have s2 : w2.heap.size = w.heap.size + 2 := by omega
  clear H1 B1 S1 H2 B2 S2
  try simp only [Act.put, List.setIfInBounds_toArray, List.set_cons_succ, List.set_cons_zero]
  refine wp_region_flow 7 7 (fun i v wq => match i with
    | 0 => v = .pointer (some ⟨w.heap.size, 0, none⟩)
    | 1 => v = .agg (exC zxze zxzi).toArray
    | 2 => v = .agg (nums .u8 (exR zxze zxzi))
    | 3 => v = .pointer (some ⟨w.heap.size, 2, none⟩)
    | 4 => v = .agg (nums .u8 zsg)
    | 5 => ∃ b, v = .slice (some ⟨b, 0, none⟩) 2 2 ∧ RootsAt wq (some ⟨b, 0, none⟩) [exR zxze zxzi, zsg]
    | _ => v = .agg (nums .u8 W)) (by kernel_rfl) (by kernel_rfl) (fun _ d _ _ _ h => by cases d <;> exact h) ?_ ?_ ?_ ?_
  · intro i v wq wq' hi hv hb
    match i, hi with
    | 0, _ => exact hv
    | 1, _ => exact hv
    | 2, _ => exact hv
    | 3, _ => exact hv
    | 4, _ => exact hv
    | 5, _ => obtain ⟨b, h1, h2⟩ := hv; exact ⟨b, h1, h2.keep hb⟩
    | 6, _ => exact hv
    | (k + 7), hk => exact absurd hk (by omega)
  · intro i o hi ho aq wq hc hk hdep
    match i, hi with
    | 0, _ =>
      cases ho
      have e1 : aq.tmps.getD 1 undef = .pointer (some ⟨w.heap.size, 0, none⟩) := hk 1 (by decide)
      exact flow_value _ (run_fieldAt 52 (.tmp 1) 0 rfl _ _ e1 (by kernel_rfl)) rfl
    | 1, _ =>
      cases ho
      have e0 : aq.tmps.getD 3 undef = .pointer (some ⟨w.heap.size, 0, none⟩) := hdep 0 3 rfl (by kernel_rfl)
      exact flow_value _ (run_mid 50 (.tmp 3) rfl w.heap.size 0 e0 (exC zxze zxzi) ((HX.out.keep (hcB hc)).range 0 (exC zxze zxzi) (seg (ps := sxP zxze zxzi zsg) (i := 0) (off := 0) rfl (by simp [sxP, cellsB_length, hzsg.len, exC_length zxze zxzi ]))) _ Tryd.underlying50 rfl (by rw [exC_length zxze zxzi ]; kernel_rfl)) rfl
    | 2, _ =>
      cases ho
      have e0 : aq.tmps.getD 4 undef = .agg (exC zxze zxzi).toArray := hdep 1 4 rfl (by kernel_rfl)
      refine flow_fun 47 _ _ rfl (fun _ _ => by simp [go_sem]) #[.agg (exC zxze zxzi).toArray] (by rw [show (#[Operand.tmp 4] : Array Operand).map aq.eval = #[aq.tmps.getD 4 undef] from by simp [Act.eval], e0]) ?_
      refine (exR_any zxze zxzi hzxze hzxzi wq (HT.out.keep (hcB hc))).mono ?_
      rintro x w' ⟨rfl, q⟩
      exact ⟨_, rfl, rfl, q⟩
    | 3, _ =>
      cases ho
      have e1 : aq.tmps.getD 1 undef = .pointer (some ⟨w.heap.size, 0, none⟩) := hk 1 (by decide)
      exact flow_value _ (run_fieldAt 52 (.tmp 1) 1 rfl _ _ e1 (by kernel_rfl)) rfl
    | 4, _ =>
      cases ho
      have e0 : aq.tmps.getD 6 undef = .pointer (some ⟨w.heap.size, 2, none⟩) := hdep 3 6 rfl (by kernel_rfl)
      exact flow_value _ (run_mid 24 (.tmp 6) rfl w.heap.size 2 e0 (cellsB zsg) ((HX.out.keep (hcB hc)).range 2 (cellsB zsg) (seg (ps := sxP zxze zxzi zsg) (i := 1) (off := 2) rfl (by simp [sxP, cellsB_length, hzsg.len, exC_length zxze zxzi ]))) _ Tryd.und24 rfl (by rw [cellsB_length, hzsg.len]; exact Tryd.size24)) rfl
    | 5, _ =>
      cases ho
      have e0 : aq.tmps.getD 5 undef = .agg (nums .u8 (exR zxze zxzi)) := hdep 2 5 rfl (by kernel_rfl)
      have e1 : aq.tmps.getD 7 undef = .agg (nums .u8 zsg) := hdep 4 7 rfl (by kernel_rfl)
      exact flow_rows 91 24 2 32 _ rfl Tryd.underlying91 rootInfo6 [cellsB (exR zxze zxzi), cellsB (zsg)] [.tmp 5, .tmp 7] rfl (by rw [show [Operand.tmp 5, Operand.tmp 7].map aq.eval = [aq.tmps.getD 5 undef, aq.tmps.getD 7 undef] from rfl, e0, e1]; rfl) (by simp [cellsB_length, ((exR_rt zxze zxzi )).len, (hzsg).len]) rfl (by decide) (by decide) (by decide) (fun w' h => ⟨_, rfl, hasC_roots (rs := [exR zxze zxzi, zsg]) h (Rts.more (exR_rt zxze zxzi ) (Rts.more hzsg Rts.nil))⟩)
    | 6, _ =>
      cases ho
      obtain ⟨b, e6, h6⟩ := hdep 5 8 rfl (by kernel_rfl)
      refine flow_fun 30 _ _ rfl (fun _ _ => by simp [go_sem]) #[.slice (some ⟨b, 0, none⟩) 2 2] (by rw [show (#[Operand.tmp 8] : Array Operand).map aq.eval = #[aq.tmps.getD 8 undef] from by simp [Act.eval], e6]) ?_
      refine (cont_any (some ⟨b, 0, none⟩) 2 [exR zxze zxzi, zsg] wq (HT.out.keep (hcB hc)) (Nat.le_refl _) (by decide) (by show 2 ≤ 1048576; decide) h6).mono ?_
      rintro x w' ⟨rfl, q⟩
      exact ⟨_, rfl, (by rw [← HW.out]; rfl), q⟩
    | (k + 7), hk => exact absurd hk (by omega)
  · intro o h7 ho
    omega
  intro vf w8 hc hv
  have e7 : vf 6 = _ := hv 6 9 (by decide) rfl
  have B8 := HB.out.trans ((hcB hc).mono (by omega))
  have H8v := HY.out.keep (hcB hc)
  have s8 := (hcB hc).size
  clear hv hc
  simp only [List.take_succ_cons, List.take_zero, List.drop_succ_cons, List.drop_zero, putAll, Act.put, List.setIfInBounds_toArray, List.set_cons_succ, List.set_cons_zero]
  rw [e7]
  have HB8 := hid B8
  clear B8 e7 HB
  go_wp2_with ((with_reducible refine at_list' ?_); first
    | (refine wpList_store_has rfl 24 (.tmp 2) (.tmp 9) rfl (w.heap.size + 1) .u8 W (zeros 32) rfl rfl 24 H8v (hfr.size _ Tryd.size24) (by rw [hfr.len, zeros_length]) ?_; intro w9 H9 O9))
  refine bodyPost_ret (results_has rfl _ _ (w.heap.size + 1) 24 .u8 W _ _ rfl H9 Tryd.und24 (hfr.size _ Tryd.size24)) rfl ?_
  exact ⟨rfl, below_only HB8.out O9 (by omega)⟩
end Go.Proofs.YtakdokccdkhcoaaDoor

/- The root of a struct (Validator), by the program. -/
namespace Go.Proofs.YtakdokccdkhcoaaDoor
open Go.RowKit Go.Shelf
set_option linter.unusedVariables false
set_option linter.unusedSimpArgs false
set_option maxRecDepth 100000

def vaP (zk : List Nat) (zcr : List Nat) (zef : Nat) (zsl : Bool) (zel : Nat) (zac : Nat) (zxi : Nat) (zwi : Nat) : List (List Value) := [cellsB zk, cellsB zcr, [.int .u64 (zef : Nat)], [.bool zsl], [.int .u64 (zel : Nat)], [.int .u64 (zac : Nat)], [.int .u64 (zxi : Nat)], [.int .u64 (zwi : Nat)]]
def vaC (zk : List Nat) (zcr : List Nat) (zef : Nat) (zsl : Bool) (zel : Nat) (zac : Nat) (zxi : Nat) (zwi : Nat) : List Value := (vaP zk zcr zef zsl zel zac zxi zwi).flatten
theorem vaC_length (zk : List Nat) (zcr : List Nat) (zef : Nat) (zsl : Bool) (zel : Nat) (zac : Nat) (zxi : Nat) (zwi : Nat) (hzk : zk.length = 32) (hzcr : zcr.length = 32) : (vaC zk zcr zef zsl zel zac zxi zwi).length = 70 := by simp [vaC, vaP, cellsB_length, hzk, hzcr]
def vaR (zk : List Nat) (zcr : List Nat) (zef : Nat) (zsl : Bool) (zel : Nat) (zac : Nat) (zxi : Nat) (zwi : Nat) : List Nat := fullR (depth (([zk, zcr, wUp zef 8, boolR zsl, wUp zel 8, wUp zac 8, wUp zxi 8, wUp zwi 8] : List (List Nat)).length : Nat)) [zk, zcr, wUp zef 8, boolR zsl, wUp zel 8, wUp zac 8, wUp zxi 8, wUp zwi 8]
theorem vaR_rt (zk : List Nat) (zcr : List Nat) (zef : Nat) (zsl : Bool) (zel : Nat) (zac : Nat) (zxi : Nat) (zwi : Nat) (hzk : Rt zk) (hzcr : Rt zcr) : Rt (vaR zk zcr zef zsl zel zac zxi zwi) := full_rt _ _ (Rts.more hzk (Rts.more hzcr (Rts.more (wUp_rt zef 8) (Rts.more (boolR_rt zsl) (Rts.more (wUp_rt zel 8) (Rts.more (wUp_rt zac 8) (Rts.more (wUp_rt zxi 8) (Rts.more (wUp_rt zwi 8) Rts.nil))))))))
set_option maxHeartbeats 2000000 in
theorem vaR_any (zk : List Nat) (zcr : List Nat) (zef : Nat) (zsl : Bool) (zel : Nat) (zac : Nat) (zxi : Nat) (zwi : Nat) (hzk : Rt zk) (hzcr : Rt zcr) (hzef : zef < 18446744073709551616) (hzel : zel < 18446744073709551616) (hzac : zac < 18446744073709551616) (hzxi : zxi < 18446744073709551616) (hzwi : zwi < 18446744073709551616) (w : World) (hT : Tabs w) :
    Calls Tryd.prog 24 #[.agg (vaC zk zcr zef zsl zel zac zxi zwi).toArray] w fun x w' => x = .returned (.agg (nums .u8 (vaR zk zcr zef zsl zel zac zxi zwi))) ∧ Below w.heap.size w w' := by
  have hfr := vaR_rt zk zcr zef zsl zel zac zxi zwi hzk hzcr
  obtain ⟨W, HW⟩ : ∃ W, Hid (vaR zk zcr zef zsl zel zac zxi zwi = W) := ⟨_, hid rfl⟩
  rw [HW.out] at hfr ⊢
  go_enter Tryd.func24, Tryd.ntmps24
  go_wp2_with ((with_reducible refine at_list' ?_); first
    | (refine wpList_box_c rfl 1 rfl (.tmp 0) rfl (vaC zk zcr zef zsl zel zac zxi zwi) rfl ?_; intro w1 H1 B1 S1)
    | (refine wpList_alloc_has rfl 2 rfl 24 rfl .u8 32 Tryd.zero24 ?_; intro w2 H2 B2 S2; rw [S1] at H2 S2; rw [S1]))
  have HX := hid (H1.keep B2)
  have HY := hid H2
  have HB := hid (B1.trans (B2.mono (by omega)))
  have HT := hid (hT.keep HB.out)
  have s2 : w2.heap.size = w.heap.size + 2 := by omega
  clear H1 B1 S1 H2 B2 S2
  try simp only [Act.put, List.setIfInBounds_toArray, List.set_cons_succ, List.set_cons_zero]
  refine wp_region_flow 24 24 (fun i v wq => match i with
    | 0 => v = .pointer (some ⟨w.heap.size, 0, none⟩)
    | 1 => v = .agg (nums .u8 zk)
    | 2 => v = .pointer (some ⟨w.heap.size, 32, none⟩)
    | 3 => v = .agg (nums .u8 zcr)
    | 4 => v = .pointer (some ⟨w.heap.size, 64, none⟩)
    | 5 => v = .int .u64 (zef : Nat)
    | 6 => v = .agg (nums .u8 (wUp zef 8))
    | 7 => v = .pointer (some ⟨w.heap.size, 65, none⟩)
    | 8 => v = .bool zsl
    | 9 => v = .agg (nums .u8 (boolR zsl))
    | 10 => v = .pointer (some ⟨w.heap.size, 66, none⟩)
    | 11 => v = .int .u64 (zel : Nat)
    | 12 => v = .agg (nums .u8 (wUp zel 8))
    | 13 => v = .pointer (some ⟨w.heap.size, 67, none⟩)
    | 14 => v = .int .u64 (zac : Nat)
    | 15 => v = .agg (nums .u8 (wUp zac 8))
    | 16 => v = .pointer (some ⟨w.heap.size, 68, none⟩)
    | 17 => v = .int .u64 (zxi : Nat)
    | 18 => v = .agg (nums .u8 (wUp zxi 8))
    | 19 => v = .pointer (some ⟨w.heap.size, 69, none⟩)
    | 20 => v = .int .u64 (zwi : Nat)
    | 21 => v = .agg (nums .u8 (wUp zwi 8))
    | 22 => ∃ b, v = .slice (some ⟨b, 0, none⟩) 8 8 ∧ RootsAt wq (some ⟨b, 0, none⟩) [zk, zcr, wUp zef 8, boolR zsl, wUp zel 8, wUp zac 8, wUp zxi 8, wUp zwi 8]
    | _ => v = .agg (nums .u8 W)) (by kernel_rfl) (by kernel_rfl) (fun _ d _ _ _ h => by cases d <;> exact h) ?_ ?_ ?_ ?_
  · intro i v wq wq' hi hv hb
    match i, hi with
    | 0, _ => exact hv
    | 1, _ => exact hv
    | 2, _ => exact hv
    | 3, _ => exact hv
    | 4, _ => exact hv
    | 5, _ => exact hv
    | 6, _ => exact hv
    | 7, _ => exact hv
    | 8, _ => exact hv
    | 9, _ => exact hv
    | 10, _ => exact hv
    | 11, _ => exact hv
    | 12, _ => exact hv
    | 13, _ => exact hv
    | 14, _ => exact hv
    | 15, _ => exact hv
    | 16, _ => exact hv
    | 17, _ => exact hv
    | 18, _ => exact hv
    | 19, _ => exact hv
    | 20, _ => exact hv
    | 21, _ => exact hv
    | 22, _ => obtain ⟨b, h1, h2⟩ := hv; exact ⟨b, h1, h2.keep hb⟩
    | 23, _ => exact hv
    | (k + 24), hk => exact absurd hk (by omega)
  · intro i o hi ho aq wq hc hk hdep
    match i, hi with
    | 0, _ =>
      cases ho
      have e1 : aq.tmps.getD 1 undef = .pointer (some ⟨w.heap.size, 0, none⟩) := hk 1 (by decide)
      exact flow_value _ (run_fieldAt 57 (.tmp 1) 0 rfl _ _ e1 (by kernel_rfl)) rfl
    | 1, _ =>
      cases ho
      have e0 : aq.tmps.getD 3 undef = .pointer (some ⟨w.heap.size, 0, none⟩) := hdep 0 3 rfl (by kernel_rfl)
      exact flow_value _ (run_mid 24 (.tmp 3) rfl w.heap.size 0 e0 (cellsB zk) ((HX.out.keep (hcB hc)).range 0 (cellsB zk) (seg (ps := vaP zk zcr zef zsl zel zac zxi zwi) (i := 0) (off := 0) rfl (by simp [vaP, cellsB_length, hzk.len, hzcr.len]))) _ Tryd.und24 rfl (by rw [cellsB_length, hzk.len]; exact Tryd.size24)) rfl
    | 2, _ =>
      cases ho
      have e1 : aq.tmps.getD 1 undef = .pointer (some ⟨w.heap.size, 0, none⟩) := hk 1 (by decide)
      exact flow_value _ (run_fieldAt 57 (.tmp 1) 1 rfl _ _ e1 (by kernel_rfl)) rfl
    | 3, _ =>
      cases ho
      have e0 : aq.tmps.getD 5 undef = .pointer (some ⟨w.heap.size, 32, none⟩) := hdep 2 5 rfl (by kernel_rfl)
      exact flow_value _ (run_mid 24 (.tmp 5) rfl w.heap.size 32 e0 (cellsB zcr) ((HX.out.keep (hcB hc)).range 32 (cellsB zcr) (seg (ps := vaP zk zcr zef zsl zel zac zxi zwi) (i := 1) (off := 32) rfl (by simp [vaP, cellsB_length, hzk.len, hzcr.len]))) _ Tryd.und24 rfl (by rw [cellsB_length, hzcr.len]; exact Tryd.size24)) rfl
    | 4, _ =>
      cases ho
      have e1 : aq.tmps.getD 1 undef = .pointer (some ⟨w.heap.size, 0, none⟩) := hk 1 (by decide)
      exact flow_value _ (run_fieldAt 57 (.tmp 1) 2 rfl _ _ e1 (by kernel_rfl)) rfl
    | 5, _ =>
      cases ho
      have e0 : aq.tmps.getD 7 undef = .pointer (some ⟨w.heap.size, 64, none⟩) := hdep 4 7 rfl (by kernel_rfl)
      exact flow_value _ (run_cell 22 (.tmp 7) rfl _ e0 _ ((HX.out.keep (hcB hc)).cell (seg (ps := vaP zk zcr zef zsl zel zac zxi zwi) (i := 2) (off := 64) rfl (by simp [vaP, cellsB_length, hzk.len, hzcr.len]) 0 _ rfl)) _ Tryd.underlying22 rfl) rfl
    | 6, _ =>
      cases ho
      have e0 : aq.tmps.getD 8 undef = .int .u64 (zef : Nat) := hdep 5 8 rfl (by kernel_rfl)
      refine flow_fun 31 _ _ rfl (fun _ _ => by simp [go_sem]) #[.int .u64 (zef : Nat)] (by rw [show (#[Operand.tmp 8] : Array Operand).map aq.eval = #[aq.tmps.getD 8 undef] from by simp [Act.eval], e0]) ?_
      refine (number_any zef hzef wq).mono ?_
      rintro x w' ⟨rfl, q⟩
      exact ⟨_, rfl, rfl, q⟩
    | 7, _ =>
      cases ho
      have e1 : aq.tmps.getD 1 undef = .pointer (some ⟨w.heap.size, 0, none⟩) := hk 1 (by decide)
      exact flow_value _ (run_fieldAt 57 (.tmp 1) 3 rfl _ _ e1 (by kernel_rfl)) rfl
    | 8, _ =>
      cases ho
      have e0 : aq.tmps.getD 10 undef = .pointer (some ⟨w.heap.size, 65, none⟩) := hdep 7 10 rfl (by kernel_rfl)
      exact flow_value _ (run_cell 4 (.tmp 10) rfl _ e0 _ ((HX.out.keep (hcB hc)).cell (seg (ps := vaP zk zcr zef zsl zel zac zxi zwi) (i := 3) (off := 65) rfl (by simp [vaP, cellsB_length, hzk.len, hzcr.len]) 0 _ rfl)) _ Tryd.underlying4 rfl) rfl
    | 9, _ =>
      cases ho
      have e0 : aq.tmps.getD 11 undef = .bool zsl := hdep 8 11 rfl (by kernel_rfl)
      refine flow_fun 50 _ _ rfl (fun _ _ => by simp [go_sem]) #[.bool zsl] (by rw [show (#[Operand.tmp 11] : Array Operand).map aq.eval = #[aq.tmps.getD 11 undef] from by simp [Act.eval], e0]) ?_
      refine (truth_any zsl wq).mono ?_
      rintro x w' ⟨rfl, q⟩
      exact ⟨_, rfl, rfl, q⟩
    | 10, _ =>
      cases ho
      have e1 : aq.tmps.getD 1 undef = .pointer (some ⟨w.heap.size, 0, none⟩) := hk 1 (by decide)
      exact flow_value _ (run_fieldAt 57 (.tmp 1) 4 rfl _ _ e1 (by kernel_rfl)) rfl
    | 11, _ =>
      cases ho
      have e0 : aq.tmps.getD 13 undef = .pointer (some ⟨w.heap.size, 66, none⟩) := hdep 10 13 rfl (by kernel_rfl)
      exact flow_value _ (run_cell 22 (.tmp 13) rfl _ e0 _ ((HX.out.keep (hcB hc)).cell (seg (ps := vaP zk zcr zef zsl zel zac zxi zwi) (i := 4) (off := 66) rfl (by simp [vaP, cellsB_length, hzk.len, hzcr.len]) 0 _ rfl)) _ Tryd.underlying22 rfl) rfl
    | 12, _ =>
      cases ho
      have e0 : aq.tmps.getD 14 undef = .int .u64 (zel : Nat) := hdep 11 14 rfl (by kernel_rfl)
      refine flow_fun 31 _ _ rfl (fun _ _ => by simp [go_sem]) #[.int .u64 (zel : Nat)] (by rw [show (#[Operand.tmp 14] : Array Operand).map aq.eval = #[aq.tmps.getD 14 undef] from by simp [Act.eval], e0]) ?_
      refine (number_any zel hzel wq).mono ?_
      rintro x w' ⟨rfl, q⟩
      exact ⟨_, rfl, rfl, q⟩
    | 13, _ =>
      cases ho
      have e1 : aq.tmps.getD 1 undef = .pointer (some ⟨w.heap.size, 0, none⟩) := hk 1 (by decide)
      exact flow_value _ (run_fieldAt 57 (.tmp 1) 5 rfl _ _ e1 (by kernel_rfl)) rfl
    | 14, _ =>
      cases ho
      have e0 : aq.tmps.getD 16 undef = .pointer (some ⟨w.heap.size, 67, none⟩) := hdep 13 16 rfl (by kernel_rfl)
      exact flow_value _ (run_cell 22 (.tmp 16) rfl _ e0 _ ((HX.out.keep (hcB hc)).cell (seg (ps := vaP zk zcr zef zsl zel zac zxi zwi) (i := 5) (off := 67) rfl (by simp [vaP, cellsB_length, hzk.len, hzcr.len]) 0 _ rfl)) _ Tryd.underlying22 rfl) rfl
    | 15, _ =>
      cases ho
      have e0 : aq.tmps.getD 17 undef = .int .u64 (zac : Nat) := hdep 14 17 rfl (by kernel_rfl)
      refine flow_fun 31 _ _ rfl (fun _ _ => by simp [go_sem]) #[.int .u64 (zac : Nat)] (by rw [show (#[Operand.tmp 17] : Array Operand).map aq.eval = #[aq.tmps.getD 17 undef] from by simp [Act.eval], e0]) ?_
      refine (number_any zac hzac wq).mono ?_
      rintro x w' ⟨rfl, q⟩
      exact ⟨_, rfl, rfl, q⟩
    | 16, _ =>
      cases ho
      have e1 : aq.tmps.getD 1 undef = .pointer (some ⟨w.heap.size, 0, none⟩) := hk 1 (by decide)
      exact flow_value _ (run_fieldAt 57 (.tmp 1) 6 rfl _ _ e1 (by kernel_rfl)) rfl
    | 17, _ =>
      cases ho
      have e0 : aq.tmps.getD 19 undef = .pointer (some ⟨w.heap.size, 68, none⟩) := hdep 16 19 rfl (by kernel_rfl)
      exact flow_value _ (run_cell 22 (.tmp 19) rfl _ e0 _ ((HX.out.keep (hcB hc)).cell (seg (ps := vaP zk zcr zef zsl zel zac zxi zwi) (i := 6) (off := 68) rfl (by simp [vaP, cellsB_length, hzk.len, hzcr.len]) 0 _ rfl)) _ Tryd.underlying22 rfl) rfl
    | 18, _ =>
      cases ho
      have e0 : aq.tmps.getD 20 undef = .int .u64 (zxi : Nat) := hdep 17 20 rfl (by kernel_rfl)
      refine flow_fun 31 _ _ rfl (fun _ _ => by simp [go_sem]) #[.int .u64 (zxi : Nat)] (by rw [show (#[Operand.tmp 20] : Array Operand).map aq.eval = #[aq.tmps.getD 20 undef] from by simp [Act.eval], e0]) ?_
      refine (number_any zxi hzxi wq).mono ?_
      rintro x w' ⟨rfl, q⟩
      exact ⟨_, rfl, rfl, q⟩
    | 19, _ =>
      cases ho
      have e1 : aq.tmps.getD 1 undef = .pointer (some ⟨w.heap.size, 0, none⟩) := hk 1 (by decide)
      exact flow_value _ (run_fieldAt 57 (.tmp 1) 7 rfl _ _ e1 (by kernel_rfl)) rfl
    | 20, _ =>
      cases ho
      have e0 : aq.tmps.getD 22 undef = .pointer (some ⟨w.heap.size, 69, none⟩) := hdep 19 22 rfl (by kernel_rfl)
      exact flow_value _ (run_cell 22 (.tmp 22) rfl _ e0 _ ((HX.out.keep (hcB hc)).cell (seg (ps := vaP zk zcr zef zsl zel zac zxi zwi) (i := 7) (off := 69) rfl (by simp [vaP, cellsB_length, hzk.len, hzcr.len]) 0 _ rfl)) _ Tryd.underlying22 rfl) rfl
    | 21, _ =>
      cases ho
      have e0 : aq.tmps.getD 23 undef = .int .u64 (zwi : Nat) := hdep 20 23 rfl (by kernel_rfl)
      refine flow_fun 31 _ _ rfl (fun _ _ => by simp [go_sem]) #[.int .u64 (zwi : Nat)] (by rw [show (#[Operand.tmp 23] : Array Operand).map aq.eval = #[aq.tmps.getD 23 undef] from by simp [Act.eval], e0]) ?_
      refine (number_any zwi hzwi wq).mono ?_
      rintro x w' ⟨rfl, q⟩
      exact ⟨_, rfl, rfl, q⟩
    | 22, _ =>
      cases ho
      have e0 : aq.tmps.getD 4 undef = .agg (nums .u8 zk) := hdep 1 4 rfl (by kernel_rfl)
      have e1 : aq.tmps.getD 6 undef = .agg (nums .u8 zcr) := hdep 3 6 rfl (by kernel_rfl)
      have e2 : aq.tmps.getD 9 undef = .agg (nums .u8 (wUp zef 8)) := hdep 6 9 rfl (by kernel_rfl)
      have e3 : aq.tmps.getD 12 undef = .agg (nums .u8 (boolR zsl)) := hdep 9 12 rfl (by kernel_rfl)
      have e4 : aq.tmps.getD 15 undef = .agg (nums .u8 (wUp zel 8)) := hdep 12 15 rfl (by kernel_rfl)
      have e5 : aq.tmps.getD 18 undef = .agg (nums .u8 (wUp zac 8)) := hdep 15 18 rfl (by kernel_rfl)
      have e6 : aq.tmps.getD 21 undef = .agg (nums .u8 (wUp zxi 8)) := hdep 18 21 rfl (by kernel_rfl)
      have e7 : aq.tmps.getD 24 undef = .agg (nums .u8 (wUp zwi 8)) := hdep 21 24 rfl (by kernel_rfl)
      exact flow_rows 91 24 8 32 _ rfl Tryd.underlying91 rootInfo6 [cellsB (zk), cellsB (zcr), cellsB (wUp zef 8), cellsB (boolR zsl), cellsB (wUp zel 8), cellsB (wUp zac 8), cellsB (wUp zxi 8), cellsB (wUp zwi 8)] [.tmp 4, .tmp 6, .tmp 9, .tmp 12, .tmp 15, .tmp 18, .tmp 21, .tmp 24] rfl (by rw [show [Operand.tmp 4, Operand.tmp 6, Operand.tmp 9, Operand.tmp 12, Operand.tmp 15, Operand.tmp 18, Operand.tmp 21, Operand.tmp 24].map aq.eval = [aq.tmps.getD 4 undef, aq.tmps.getD 6 undef, aq.tmps.getD 9 undef, aq.tmps.getD 12 undef, aq.tmps.getD 15 undef, aq.tmps.getD 18 undef, aq.tmps.getD 21 undef, aq.tmps.getD 24 undef] from rfl, e0, e1, e2, e3, e4, e5, e6, e7]; rfl) (by simp [cellsB_length, (hzk).len, (hzcr).len, ((wUp_rt zef 8)).len, ((boolR_rt zsl)).len, ((wUp_rt zel 8)).len, ((wUp_rt zac 8)).len, ((wUp_rt zxi 8)).len, ((wUp_rt zwi 8)).len]) rfl (by decide) (by decide) (by decide) (fun w' h => ⟨_, rfl, hasC_roots (rs := [zk, zcr, wUp zef 8, boolR zsl, wUp zel 8, wUp zac 8, wUp zxi 8, wUp zwi 8]) h (Rts.more hzk (Rts.more hzcr (Rts.more (wUp_rt zef 8) (Rts.more (boolR_rt zsl) (Rts.more (wUp_rt zel 8) (Rts.more (wUp_rt zac 8) (Rts.more (wUp_rt zxi 8) (Rts.more (wUp_rt zwi 8) Rts.nil))))))))⟩)
    | 23, _ =>
      cases ho
      obtain ⟨b, e6, h6⟩ := hdep 22 25 rfl (by kernel_rfl)
      refine flow_fun 30 _ _ rfl (fun _ _ => by simp [go_sem]) #[.slice (some ⟨b, 0, none⟩) 8 8] (by rw [show (#[Operand.tmp 25] : Array Operand).map aq.eval = #[aq.tmps.getD 25 undef] from by simp [Act.eval], e6]) ?_
      refine (cont_any (some ⟨b, 0, none⟩) 8 [zk, zcr, wUp zef 8, boolR zsl, wUp zel 8, wUp zac 8, wUp zxi 8, wUp zwi 8] wq (HT.out.keep (hcB hc)) (Nat.le_refl _) (by decide) (by show 8 ≤ 1048576; decide) h6).mono ?_
      rintro x w' ⟨rfl, q⟩
      exact ⟨_, rfl, (by rw [← HW.out]; rfl), q⟩
    | (k + 24), hk => exact absurd hk (by omega)
  · intro o h24 ho
    omega
  intro vf w8 hc hv
  have e7 : vf 23 = _ := hv 23 26 (by decide) rfl
  have B8 := HB.out.trans ((hcB hc).mono (by omega))
  have H8v := HY.out.keep (hcB hc)
  have s8 := (hcB hc).size
  clear hv hc
  simp only [List.take_succ_cons, List.take_zero, List.drop_succ_cons, List.drop_zero, putAll, Act.put, List.setIfInBounds_toArray, List.set_cons_succ, List.set_cons_zero]
  rw [e7]
  have HB8 := hid B8
  clear B8 e7 HB
  go_wp2_with ((with_reducible refine at_list' ?_); first
    | (refine wpList_store_has rfl 24 (.tmp 2) (.tmp 26) rfl (w.heap.size + 1) .u8 W (zeros 32) rfl rfl 24 H8v (hfr.size _ Tryd.size24) (by rw [hfr.len, zeros_length]) ?_; intro w9 H9 O9))
  refine bodyPost_ret (results_has rfl _ _ (w.heap.size + 1) 24 .u8 W _ _ rfl H9 Tryd.und24 (hfr.size _ Tryd.size24)) rfl ?_
  exact ⟨rfl, below_only HB8.out O9 (by omega)⟩
end Go.Proofs.YtakdokccdkhcoaaDoor

/- Structs that came in by value. -/
namespace Go.Proofs.YtakdokccdkhcoaaDoor
open Go.RowKit Go.Deep Go.WideShapes
set_option linter.unusedVariables false
set_option linter.unusedSimpArgs false
set_option maxRecDepth 100000

theorem cellsRt : Tryd.prog.cellsOf 24 = 32 := by kernel_rfl
theorem cellsU8 : Tryd.prog.cellsOf 5 = 1 := by kernel_rfl
theorem cellsU64 : Tryd.prog.cellsOf 22 = 1 := by kernel_rfl
theorem cellsBo : Tryd.prog.cellsOf 4 = 1 := by kernel_rfl
/-- Parts of a list, one behind the other. -/
def cutAt {α : Type} (cs : List α) : Nat → List Nat → List (List α)
  | _, [] => []
  | o, k :: ks => (cs.drop o).take k :: cutAt cs (o + k) ks
theorem cut_flat {α : Type} (cs : List α) : ∀ (ks : List Nat) (o : Nat), o + ks.sum = cs.length → cs.drop o = (cutAt cs o ks).flatten := by
  intro ks
  induction ks with
  | nil => intro o h; simp at h; rw [h, List.drop_length]; rfl
  | cons k ks ih =>
    intro o h
    rw [cutAt, List.flatten_cons, ← ih (o + k) (by simp at h; omega), ← List.drop_drop, List.take_append_drop]
section
variable {H : Type} {enc : TypeId × Value → H} {W : World} {b0 : Nat} {sp : Nat → Bool} {held : Bool}
theorem root_of_trod {fuel : Nat} {cs : List Value} {x : DataW H × List MemPlace} (h : DataW.trod enc Tryd.prog W b0 sp held fuel 24 cs = some x) : ∃ r : List Nat, cs = (nums .u8 r).toList ∧ Rt r := by
  obtain ⟨xs, m, _, _, hl, hxs, hel⟩ := DataW.trod_array Tryd.und24 h
  rw [cellsRt] at hl
  have key : ∀ i (hi : i < cs.length), ∃ n : Nat, cs[i] = .int .u8 (n : Int) ∧ n < 256 := by
    intro i hi
    have h1 := hel i (by omega)
    rw [cellsU8, Nat.mul_one, List.getElem?_eq_getElem (by omega)] at h1
    obtain ⟨n, e1, _, hw⟩ := DataW.trod_int Tryd.underlying5 h1
    have hb := bounds_u8 hw
    have e2 : (cs.drop i).take 1 = [cs[i]] := by
      rw [List.drop_eq_getElem_cons hi, List.take_succ_cons, List.take_zero]
    have e3 : [cs[i]] = [Value.int .u8 n] := e2.symm.trans e1
    refine ⟨n.toNat, ?_, by omega⟩
    have e4 : cs[i] = Value.int .u8 n := by simpa using e3
    rw [e4]
    congr 1
    omega
  refine ⟨cs.map fun v => (intOf v).toNat, ?_, by simp [hl], ?_⟩
  · unfold nums
    apply List.ext_getElem
    · simp
    · intro i h1 h2
      obtain ⟨n, e, hn⟩ := key i h1
      simp [e, intOf]
  · intro z hz
    obtain ⟨v, hv, rfl⟩ := List.mem_map.1 hz
    obtain ⟨i, hi, rfl⟩ := List.mem_iff_getElem.1 hv
    obtain ⟨n, e, hn⟩ := key i hi
    simp [e, intOf, hn]
theorem num_of_trod {fuel : Nat} {cs : List Value} {x : DataW H × List MemPlace} (h : DataW.trod enc Tryd.prog W b0 sp held fuel 22 cs = some x) : ∃ n : Nat, cs = [.int .u64 (n : Nat)] ∧ n < 18446744073709551616 := by
  obtain ⟨i, e, _, hw⟩ := DataW.trod_int Tryd.underlying22 h
  have hb := bounds_u64 hw
  refine ⟨i.toNat, ?_, by omega⟩
  rw [e, Int.toNat_of_nonneg hb.1]
theorem bool_of_trod {fuel : Nat} {cs : List Value} {x : DataW H × List MemPlace} (h : DataW.trod enc Tryd.prog W b0 sp held fuel 4 cs = some x) : ∃ b : Bool, cs = [.bool b] := by
  obtain ⟨b, e, _⟩ := DataW.trod_bool Tryd.underlying4 h
  exact ⟨b, e⟩
theorem cells_cp : Tryd.prog.cellsOf 26 = 33 := by kernel_rfl
theorem cp_of_trod {fuel : Nat} {cs : List Value} {x : DataW H × List MemPlace} (h : DataW.trod enc Tryd.prog W b0 sp held fuel 26 cs = some x) : ∃ (ze : Nat) (zr : List Nat), cs = cpC ze zr ∧ ze < 18446744073709551616 ∧ Rt zr := by
  obtain ⟨xs, n, _, _, hl, hlen, hf⟩ := DataW.trod_struct Tryd.underlying26 h
  rw [cells_cp] at hl
  have hx : xs.length = 2 := hlen
  have f0 : ∃ y, DataW.trod enc Tryd.prog W b0 sp held n 22 ((cs.drop 0).take 1) = some y := by
    have := hf 0 _ rfl
    change DataW.trod enc Tryd.prog W b0 sp held n 22 (List.take (Tryd.prog.cellsOf 22) (List.drop 0 cs)) = xs[0]? at this
    rw [cellsU64, List.getElem?_eq_getElem (by omega)] at this
    exact ⟨_, this⟩
  obtain ⟨y0, f0⟩ := f0
  obtain ⟨ze, e0, hze⟩ := num_of_trod f0
  have f1 : ∃ y, DataW.trod enc Tryd.prog W b0 sp held n 24 ((cs.drop 1).take 32) = some y := by
    have := hf 1 _ rfl
    change DataW.trod enc Tryd.prog W b0 sp held n 24 (List.take (Tryd.prog.cellsOf 24) (List.drop 1 cs)) = xs[1]? at this
    rw [cellsRt, List.getElem?_eq_getElem (by omega)] at this
    exact ⟨_, this⟩
  obtain ⟨y1, f1⟩ := f1
  obtain ⟨zr, e1, hzr⟩ := root_of_trod f1
  have hc := cut_flat cs [1, 32] 0 (by rw [hl]; rfl)
  rw [List.drop_zero] at e0
  simp only [cutAt, List.drop_zero, Nat.zero_add, Nat.reduceAdd, e0, e1] at hc
  refine ⟨ze, zr, hc, hze, hzr⟩
theorem open_cp {base : Nat} {v : Value} {d : DataW H} {p : List MemPlace} (hv : Value.okWide Tryd.prog W .any base 26 v) (h : DataW.Trod enc Tryd.prog W b0 sp held 26 v d p) : ∃ (ze : Nat) (zr : List Nat), v = .agg (cpC ze zr).toArray ∧ ze < 18446744073709551616 ∧ Rt zr := by
  obtain ⟨cs, rfl, _⟩ := okWide_struct Tryd.underlying26 hv
  obtain ⟨fuel, hf⟩ := h
  obtain ⟨ze, zr, e, hze, hzr⟩ := cp_of_trod hf
  exact ⟨ze, zr, by rw [← Array.toList_inj.1 (show cs.toList = (cpC ze zr).toArray.toList from e)], hze, hzr⟩
theorem cells_hd : Tryd.prog.cellsOf 40 = 98 := by kernel_rfl
theorem hd_of_trod {fuel : Nat} {cs : List Value} {x : DataW H × List MemPlace} (h : DataW.trod enc Tryd.prog W b0 sp held fuel 40 cs = some x) : ∃ (zs : Nat) (zp : Nat) (zpa : List Nat) (zst : List Nat) (zbo : List Nat), cs = hdC zs zp zpa zst zbo ∧ zs < 18446744073709551616 ∧ zp < 18446744073709551616 ∧ Rt zpa ∧ Rt zst ∧ Rt zbo := by
  obtain ⟨xs, n, _, _, hl, hlen, hf⟩ := DataW.trod_struct Tryd.underlying40 h
  rw [cells_hd] at hl
  have hx : xs.length = 5 := hlen
  have f0 : ∃ y, DataW.trod enc Tryd.prog W b0 sp held n 22 ((cs.drop 0).take 1) = some y := by
    have := hf 0 _ rfl
    change DataW.trod enc Tryd.prog W b0 sp held n 22 (List.take (Tryd.prog.cellsOf 22) (List.drop 0 cs)) = xs[0]? at this
    rw [cellsU64, List.getElem?_eq_getElem (by omega)] at this
    exact ⟨_, this⟩
  obtain ⟨y0, f0⟩ := f0
  obtain ⟨zs, e0, hzs⟩ := num_of_trod f0
  have f1 : ∃ y, DataW.trod enc Tryd.prog W b0 sp held n 22 ((cs.drop 1).take 1) = some y := by
    have := hf 1 _ rfl
    change DataW.trod enc Tryd.prog W b0 sp held n 22 (List.take (Tryd.prog.cellsOf 22) (List.drop 1 cs)) = xs[1]? at this
    rw [cellsU64, List.getElem?_eq_getElem (by omega)] at this
    exact ⟨_, this⟩
  obtain ⟨y1, f1⟩ := f1
  obtain ⟨zp, e1, hzp⟩ := num_of_trod f1
  have f2 : ∃ y, DataW.trod enc Tryd.prog W b0 sp held n 24 ((cs.drop 2).take 32) = some y := by
    have := hf 2 _ rfl
    change DataW.trod enc Tryd.prog W b0 sp held n 24 (List.take (Tryd.prog.cellsOf 24) (List.drop 2 cs)) = xs[2]? at this
    rw [cellsRt, List.getElem?_eq_getElem (by omega)] at this
    exact ⟨_, this⟩
  obtain ⟨y2, f2⟩ := f2
  obtain ⟨zpa, e2, hzpa⟩ := root_of_trod f2
  have f3 : ∃ y, DataW.trod enc Tryd.prog W b0 sp held n 24 ((cs.drop 34).take 32) = some y := by
    have := hf 3 _ rfl
    change DataW.trod enc Tryd.prog W b0 sp held n 24 (List.take (Tryd.prog.cellsOf 24) (List.drop 34 cs)) = xs[3]? at this
    rw [cellsRt, List.getElem?_eq_getElem (by omega)] at this
    exact ⟨_, this⟩
  obtain ⟨y3, f3⟩ := f3
  obtain ⟨zst, e3, hzst⟩ := root_of_trod f3
  have f4 : ∃ y, DataW.trod enc Tryd.prog W b0 sp held n 24 ((cs.drop 66).take 32) = some y := by
    have := hf 4 _ rfl
    change DataW.trod enc Tryd.prog W b0 sp held n 24 (List.take (Tryd.prog.cellsOf 24) (List.drop 66 cs)) = xs[4]? at this
    rw [cellsRt, List.getElem?_eq_getElem (by omega)] at this
    exact ⟨_, this⟩
  obtain ⟨y4, f4⟩ := f4
  obtain ⟨zbo, e4, hzbo⟩ := root_of_trod f4
  have hc := cut_flat cs [1, 1, 32, 32, 32] 0 (by rw [hl]; rfl)
  rw [List.drop_zero] at e0
  simp only [cutAt, List.drop_zero, Nat.zero_add, Nat.reduceAdd, e0, e1, e2, e3, e4] at hc
  refine ⟨zs, zp, zpa, zst, zbo, hc, hzs, hzp, hzpa, hzst, hzbo⟩
theorem open_hd {base : Nat} {v : Value} {d : DataW H} {p : List MemPlace} (hv : Value.okWide Tryd.prog W .any base 40 v) (h : DataW.Trod enc Tryd.prog W b0 sp held 40 v d p) : ∃ (zs : Nat) (zp : Nat) (zpa : List Nat) (zst : List Nat) (zbo : List Nat), v = .agg (hdC zs zp zpa zst zbo).toArray ∧ zs < 18446744073709551616 ∧ zp < 18446744073709551616 ∧ Rt zpa ∧ Rt zst ∧ Rt zbo := by
  obtain ⟨cs, rfl, _⟩ := okWide_struct Tryd.underlying40 hv
  obtain ⟨fuel, hf⟩ := h
  obtain ⟨zs, zp, zpa, zst, zbo, e, hzs, hzp, hzpa, hzst, hzbo⟩ := hd_of_trod hf
  exact ⟨zs, zp, zpa, zst, zbo, by rw [← Array.toList_inj.1 (show cs.toList = (hdC zs zp zpa zst zbo).toArray.toList from e)], hzs, hzp, hzpa, hzst, hzbo⟩
theorem cells_vt : Tryd.prog.cellsOf 45 = 100 := by kernel_rfl
theorem vt_of_trod {fuel : Nat} {cs : List Value} {x : DataW H × List MemPlace} (h : DataW.trod enc Tryd.prog W b0 sp held fuel 45 cs = some x) : ∃ (zs : Nat) (zi : Nat) (zb : List Nat) (zcze : Nat) (zczr : List Nat) (ztze : Nat) (ztzr : List Nat), cs = vtC zs zi zb zcze zczr ztze ztzr ∧ zs < 18446744073709551616 ∧ zi < 18446744073709551616 ∧ Rt zb ∧ zcze < 18446744073709551616 ∧ Rt zczr ∧ ztze < 18446744073709551616 ∧ Rt ztzr := by
  obtain ⟨xs, n, _, _, hl, hlen, hf⟩ := DataW.trod_struct Tryd.underlying45 h
  rw [cells_vt] at hl
  have hx : xs.length = 5 := hlen
  have f0 : ∃ y, DataW.trod enc Tryd.prog W b0 sp held n 22 ((cs.drop 0).take 1) = some y := by
    have := hf 0 _ rfl
    change DataW.trod enc Tryd.prog W b0 sp held n 22 (List.take (Tryd.prog.cellsOf 22) (List.drop 0 cs)) = xs[0]? at this
    rw [cellsU64, List.getElem?_eq_getElem (by omega)] at this
    exact ⟨_, this⟩
  obtain ⟨y0, f0⟩ := f0
  obtain ⟨zs, e0, hzs⟩ := num_of_trod f0
  have f1 : ∃ y, DataW.trod enc Tryd.prog W b0 sp held n 22 ((cs.drop 1).take 1) = some y := by
    have := hf 1 _ rfl
    change DataW.trod enc Tryd.prog W b0 sp held n 22 (List.take (Tryd.prog.cellsOf 22) (List.drop 1 cs)) = xs[1]? at this
    rw [cellsU64, List.getElem?_eq_getElem (by omega)] at this
    exact ⟨_, this⟩
  obtain ⟨y1, f1⟩ := f1
  obtain ⟨zi, e1, hzi⟩ := num_of_trod f1
  have f2 : ∃ y, DataW.trod enc Tryd.prog W b0 sp held n 24 ((cs.drop 2).take 32) = some y := by
    have := hf 2 _ rfl
    change DataW.trod enc Tryd.prog W b0 sp held n 24 (List.take (Tryd.prog.cellsOf 24) (List.drop 2 cs)) = xs[2]? at this
    rw [cellsRt, List.getElem?_eq_getElem (by omega)] at this
    exact ⟨_, this⟩
  obtain ⟨y2, f2⟩ := f2
  obtain ⟨zb, e2, hzb⟩ := root_of_trod f2
  have f3 : ∃ y, DataW.trod enc Tryd.prog W b0 sp held n 26 ((cs.drop 34).take 33) = some y := by
    have := hf 3 _ rfl
    change DataW.trod enc Tryd.prog W b0 sp held n 26 (List.take (Tryd.prog.cellsOf 26) (List.drop 34 cs)) = xs[3]? at this
    rw [cells_cp, List.getElem?_eq_getElem (by omega)] at this
    exact ⟨_, this⟩
  obtain ⟨y3, f3⟩ := f3
  obtain ⟨zcze, zczr, e3, hzcze, hzczr⟩ := cp_of_trod f3
  have f4 : ∃ y, DataW.trod enc Tryd.prog W b0 sp held n 26 ((cs.drop 67).take 33) = some y := by
    have := hf 4 _ rfl
    change DataW.trod enc Tryd.prog W b0 sp held n 26 (List.take (Tryd.prog.cellsOf 26) (List.drop 67 cs)) = xs[4]? at this
    rw [cells_cp, List.getElem?_eq_getElem (by omega)] at this
    exact ⟨_, this⟩
  obtain ⟨y4, f4⟩ := f4
  obtain ⟨ztze, ztzr, e4, hztze, hztzr⟩ := cp_of_trod f4
  have hc := cut_flat cs [1, 1, 32, 33, 33] 0 (by rw [hl]; rfl)
  rw [List.drop_zero] at e0
  simp only [cutAt, List.drop_zero, Nat.zero_add, Nat.reduceAdd, e0, e1, e2, e3, e4] at hc
  refine ⟨zs, zi, zb, zcze, zczr, ztze, ztzr, hc, hzs, hzi, hzb, hzcze, hzczr, hztze, hztzr⟩
theorem open_vt {base : Nat} {v : Value} {d : DataW H} {p : List MemPlace} (hv : Value.okWide Tryd.prog W .any base 45 v) (h : DataW.Trod enc Tryd.prog W b0 sp held 45 v d p) : ∃ (zs : Nat) (zi : Nat) (zb : List Nat) (zcze : Nat) (zczr : List Nat) (ztze : Nat) (ztzr : List Nat), v = .agg (vtC zs zi zb zcze zczr ztze ztzr).toArray ∧ zs < 18446744073709551616 ∧ zi < 18446744073709551616 ∧ Rt zb ∧ zcze < 18446744073709551616 ∧ Rt zczr ∧ ztze < 18446744073709551616 ∧ Rt ztzr := by
  obtain ⟨cs, rfl, _⟩ := okWide_struct Tryd.underlying45 hv
  obtain ⟨fuel, hf⟩ := h
  obtain ⟨zs, zi, zb, zcze, zczr, ztze, ztzr, e, hzs, hzi, hzb, hzcze, hzczr, hztze, hztzr⟩ := vt_of_trod hf
  exact ⟨zs, zi, zb, zcze, zczr, ztze, ztzr, by rw [← Array.toList_inj.1 (show cs.toList = (vtC zs zi zb zcze zczr ztze ztzr).toArray.toList from e)], hzs, hzi, hzb, hzcze, hzczr, hztze, hztzr⟩
theorem cells_ex : Tryd.prog.cellsOf 50 = 2 := by kernel_rfl
theorem ex_of_trod {fuel : Nat} {cs : List Value} {x : DataW H × List MemPlace} (h : DataW.trod enc Tryd.prog W b0 sp held fuel 50 cs = some x) : ∃ (ze : Nat) (zi : Nat), cs = exC ze zi ∧ ze < 18446744073709551616 ∧ zi < 18446744073709551616 := by
  obtain ⟨xs, n, _, _, hl, hlen, hf⟩ := DataW.trod_struct Tryd.underlying50 h
  rw [cells_ex] at hl
  have hx : xs.length = 2 := hlen
  have f0 : ∃ y, DataW.trod enc Tryd.prog W b0 sp held n 22 ((cs.drop 0).take 1) = some y := by
    have := hf 0 _ rfl
    change DataW.trod enc Tryd.prog W b0 sp held n 22 (List.take (Tryd.prog.cellsOf 22) (List.drop 0 cs)) = xs[0]? at this
    rw [cellsU64, List.getElem?_eq_getElem (by omega)] at this
    exact ⟨_, this⟩
  obtain ⟨y0, f0⟩ := f0
  obtain ⟨ze, e0, hze⟩ := num_of_trod f0
  have f1 : ∃ y, DataW.trod enc Tryd.prog W b0 sp held n 22 ((cs.drop 1).take 1) = some y := by
    have := hf 1 _ rfl
    change DataW.trod enc Tryd.prog W b0 sp held n 22 (List.take (Tryd.prog.cellsOf 22) (List.drop 1 cs)) = xs[1]? at this
    rw [cellsU64, List.getElem?_eq_getElem (by omega)] at this
    exact ⟨_, this⟩
  obtain ⟨y1, f1⟩ := f1
  obtain ⟨zi, e1, hzi⟩ := num_of_trod f1
  have hc := cut_flat cs [1, 1] 0 (by rw [hl]; rfl)
  rw [List.drop_zero] at e0
  simp only [cutAt, List.drop_zero, Nat.zero_add, Nat.reduceAdd, e0, e1] at hc
  refine ⟨ze, zi, hc, hze, hzi⟩
theorem open_ex {base : Nat} {v : Value} {d : DataW H} {p : List MemPlace} (hv : Value.okWide Tryd.prog W .any base 50 v) (h : DataW.Trod enc Tryd.prog W b0 sp held 50 v d p) : ∃ (ze : Nat) (zi : Nat), v = .agg (exC ze zi).toArray ∧ ze < 18446744073709551616 ∧ zi < 18446744073709551616 := by
  obtain ⟨cs, rfl, _⟩ := okWide_struct Tryd.underlying50 hv
  obtain ⟨fuel, hf⟩ := h
  obtain ⟨ze, zi, e, hze, hzi⟩ := ex_of_trod hf
  exact ⟨ze, zi, by rw [← Array.toList_inj.1 (show cs.toList = (exC ze zi).toArray.toList from e)], hze, hzi⟩
theorem cells_sx : Tryd.prog.cellsOf 52 = 34 := by kernel_rfl
theorem sx_of_trod {fuel : Nat} {cs : List Value} {x : DataW H × List MemPlace} (h : DataW.trod enc Tryd.prog W b0 sp held fuel 52 cs = some x) : ∃ (zxze : Nat) (zxzi : Nat) (zsg : List Nat), cs = sxC zxze zxzi zsg ∧ zxze < 18446744073709551616 ∧ zxzi < 18446744073709551616 ∧ Rt zsg := by
  obtain ⟨xs, n, _, _, hl, hlen, hf⟩ := DataW.trod_struct Tryd.underlying52 h
  rw [cells_sx] at hl
  have hx : xs.length = 2 := hlen
  have f0 : ∃ y, DataW.trod enc Tryd.prog W b0 sp held n 50 ((cs.drop 0).take 2) = some y := by
    have := hf 0 _ rfl
    change DataW.trod enc Tryd.prog W b0 sp held n 50 (List.take (Tryd.prog.cellsOf 50) (List.drop 0 cs)) = xs[0]? at this
    rw [cells_ex, List.getElem?_eq_getElem (by omega)] at this
    exact ⟨_, this⟩
  obtain ⟨y0, f0⟩ := f0
  obtain ⟨zxze, zxzi, e0, hzxze, hzxzi⟩ := ex_of_trod f0
  have f1 : ∃ y, DataW.trod enc Tryd.prog W b0 sp held n 24 ((cs.drop 2).take 32) = some y := by
    have := hf 1 _ rfl
    change DataW.trod enc Tryd.prog W b0 sp held n 24 (List.take (Tryd.prog.cellsOf 24) (List.drop 2 cs)) = xs[1]? at this
    rw [cellsRt, List.getElem?_eq_getElem (by omega)] at this
    exact ⟨_, this⟩
  obtain ⟨y1, f1⟩ := f1
  obtain ⟨zsg, e1, hzsg⟩ := root_of_trod f1
  have hc := cut_flat cs [2, 32] 0 (by rw [hl]; rfl)
  rw [List.drop_zero] at e0
  simp only [cutAt, List.drop_zero, Nat.zero_add, Nat.reduceAdd, e0, e1] at hc
  refine ⟨zxze, zxzi, zsg, hc, hzxze, hzxzi, hzsg⟩
theorem open_sx {base : Nat} {v : Value} {d : DataW H} {p : List MemPlace} (hv : Value.okWide Tryd.prog W .any base 52 v) (h : DataW.Trod enc Tryd.prog W b0 sp held 52 v d p) : ∃ (zxze : Nat) (zxzi : Nat) (zsg : List Nat), v = .agg (sxC zxze zxzi zsg).toArray ∧ zxze < 18446744073709551616 ∧ zxzi < 18446744073709551616 ∧ Rt zsg := by
  obtain ⟨cs, rfl, _⟩ := okWide_struct Tryd.underlying52 hv
  obtain ⟨fuel, hf⟩ := h
  obtain ⟨zxze, zxzi, zsg, e, hzxze, hzxzi, hzsg⟩ := sx_of_trod hf
  exact ⟨zxze, zxzi, zsg, by rw [← Array.toList_inj.1 (show cs.toList = (sxC zxze zxzi zsg).toArray.toList from e)], hzxze, hzxzi, hzsg⟩
theorem cells_va : Tryd.prog.cellsOf 57 = 70 := by kernel_rfl
theorem va_of_trod {fuel : Nat} {cs : List Value} {x : DataW H × List MemPlace} (h : DataW.trod enc Tryd.prog W b0 sp held fuel 57 cs = some x) : ∃ (zk : List Nat) (zcr : List Nat) (zef : Nat) (zsl : Bool) (zel : Nat) (zac : Nat) (zxi : Nat) (zwi : Nat), cs = vaC zk zcr zef zsl zel zac zxi zwi ∧ Rt zk ∧ Rt zcr ∧ zef < 18446744073709551616 ∧ zel < 18446744073709551616 ∧ zac < 18446744073709551616 ∧ zxi < 18446744073709551616 ∧ zwi < 18446744073709551616 := by
  obtain ⟨xs, n, _, _, hl, hlen, hf⟩ := DataW.trod_struct Tryd.underlying57 h
  rw [cells_va] at hl
  have hx : xs.length = 8 := hlen
  have f0 : ∃ y, DataW.trod enc Tryd.prog W b0 sp held n 24 ((cs.drop 0).take 32) = some y := by
    have := hf 0 _ rfl
    change DataW.trod enc Tryd.prog W b0 sp held n 24 (List.take (Tryd.prog.cellsOf 24) (List.drop 0 cs)) = xs[0]? at this
    rw [cellsRt, List.getElem?_eq_getElem (by omega)] at this
    exact ⟨_, this⟩
  obtain ⟨y0, f0⟩ := f0
  obtain ⟨zk, e0, hzk⟩ := root_of_trod f0
  have f1 : ∃ y, DataW.trod enc Tryd.prog W b0 sp held n 24 ((cs.drop 32).take 32) = some y := by
    have := hf 1 _ rfl
    change DataW.trod enc Tryd.prog W b0 sp held n 24 (List.take (Tryd.prog.cellsOf 24) (List.drop 32 cs)) = xs[1]? at this
    rw [cellsRt, List.getElem?_eq_getElem (by omega)] at this
    exact ⟨_, this⟩
  obtain ⟨y1, f1⟩ := f1
  obtain ⟨zcr, e1, hzcr⟩ := root_of_trod f1
  have f2 : ∃ y, DataW.trod enc Tryd.prog W b0 sp held n 22 ((cs.drop 64).take 1) = some y := by
    have := hf 2 _ rfl
    change DataW.trod enc Tryd.prog W b0 sp held n 22 (List.take (Tryd.prog.cellsOf 22) (List.drop 64 cs)) = xs[2]? at this
    rw [cellsU64, List.getElem?_eq_getElem (by omega)] at this
    exact ⟨_, this⟩
  obtain ⟨y2, f2⟩ := f2
  obtain ⟨zef, e2, hzef⟩ := num_of_trod f2
  have f3 : ∃ y, DataW.trod enc Tryd.prog W b0 sp held n 4 ((cs.drop 65).take 1) = some y := by
    have := hf 3 _ rfl
    change DataW.trod enc Tryd.prog W b0 sp held n 4 (List.take (Tryd.prog.cellsOf 4) (List.drop 65 cs)) = xs[3]? at this
    rw [cellsBo, List.getElem?_eq_getElem (by omega)] at this
    exact ⟨_, this⟩
  obtain ⟨y3, f3⟩ := f3
  obtain ⟨zsl, e3⟩ := bool_of_trod f3
  have f4 : ∃ y, DataW.trod enc Tryd.prog W b0 sp held n 22 ((cs.drop 66).take 1) = some y := by
    have := hf 4 _ rfl
    change DataW.trod enc Tryd.prog W b0 sp held n 22 (List.take (Tryd.prog.cellsOf 22) (List.drop 66 cs)) = xs[4]? at this
    rw [cellsU64, List.getElem?_eq_getElem (by omega)] at this
    exact ⟨_, this⟩
  obtain ⟨y4, f4⟩ := f4
  obtain ⟨zel, e4, hzel⟩ := num_of_trod f4
  have f5 : ∃ y, DataW.trod enc Tryd.prog W b0 sp held n 22 ((cs.drop 67).take 1) = some y := by
    have := hf 5 _ rfl
    change DataW.trod enc Tryd.prog W b0 sp held n 22 (List.take (Tryd.prog.cellsOf 22) (List.drop 67 cs)) = xs[5]? at this
    rw [cellsU64, List.getElem?_eq_getElem (by omega)] at this
    exact ⟨_, this⟩
  obtain ⟨y5, f5⟩ := f5
  obtain ⟨zac, e5, hzac⟩ := num_of_trod f5
  have f6 : ∃ y, DataW.trod enc Tryd.prog W b0 sp held n 22 ((cs.drop 68).take 1) = some y := by
    have := hf 6 _ rfl
    change DataW.trod enc Tryd.prog W b0 sp held n 22 (List.take (Tryd.prog.cellsOf 22) (List.drop 68 cs)) = xs[6]? at this
    rw [cellsU64, List.getElem?_eq_getElem (by omega)] at this
    exact ⟨_, this⟩
  obtain ⟨y6, f6⟩ := f6
  obtain ⟨zxi, e6, hzxi⟩ := num_of_trod f6
  have f7 : ∃ y, DataW.trod enc Tryd.prog W b0 sp held n 22 ((cs.drop 69).take 1) = some y := by
    have := hf 7 _ rfl
    change DataW.trod enc Tryd.prog W b0 sp held n 22 (List.take (Tryd.prog.cellsOf 22) (List.drop 69 cs)) = xs[7]? at this
    rw [cellsU64, List.getElem?_eq_getElem (by omega)] at this
    exact ⟨_, this⟩
  obtain ⟨y7, f7⟩ := f7
  obtain ⟨zwi, e7, hzwi⟩ := num_of_trod f7
  have hc := cut_flat cs [32, 32, 1, 1, 1, 1, 1, 1] 0 (by rw [hl]; rfl)
  rw [List.drop_zero] at e0
  simp only [cutAt, List.drop_zero, Nat.zero_add, Nat.reduceAdd, e0, e1, e2, e3, e4, e5, e6, e7] at hc
  refine ⟨zk, zcr, zef, zsl, zel, zac, zxi, zwi, hc, hzk, hzcr, hzef, hzel, hzac, hzxi, hzwi⟩
theorem open_va {base : Nat} {v : Value} {d : DataW H} {p : List MemPlace} (hv : Value.okWide Tryd.prog W .any base 57 v) (h : DataW.Trod enc Tryd.prog W b0 sp held 57 v d p) : ∃ (zk : List Nat) (zcr : List Nat) (zef : Nat) (zsl : Bool) (zel : Nat) (zac : Nat) (zxi : Nat) (zwi : Nat), v = .agg (vaC zk zcr zef zsl zel zac zxi zwi).toArray ∧ Rt zk ∧ Rt zcr ∧ zef < 18446744073709551616 ∧ zel < 18446744073709551616 ∧ zac < 18446744073709551616 ∧ zxi < 18446744073709551616 ∧ zwi < 18446744073709551616 := by
  obtain ⟨cs, rfl, _⟩ := okWide_struct Tryd.underlying57 hv
  obtain ⟨fuel, hf⟩ := h
  obtain ⟨zk, zcr, zef, zsl, zel, zac, zxi, zwi, e, hzk, hzcr, hzef, hzel, hzac, hzxi, hzwi⟩ := va_of_trod hf
  exact ⟨zk, zcr, zef, zsl, zel, zac, zxi, zwi, by rw [← Array.toList_inj.1 (show cs.toList = (vaC zk zcr zef zsl zel zac zxi zwi).toArray.toList from e)], hzk, hzcr, hzef, hzel, hzac, hzxi, hzwi⟩
end
end Go.Proofs.YtakdokccdkhcoaaDoor

