/- Own texts of the proof, joined: CoHeader CoCheckpoint Coll Num0. -/
import Derived.Test.YtfmecdmkepnlmaaDoorH1
/- The root of a struct (Header), by the program. -/
namespace Go.Proofs.YtfmecdmkepnlmaaDoor
open Go.RowKit Go.Shelf
set_option linter.unusedVariables false
set_option linter.unusedSimpArgs false
set_option maxRecDepth 100000

def hdP (zs : Nat) (zp : Nat) (zpa : List Nat) (zst : List Nat) (zbo : List Nat) : List (List Value) := [[.int .u64 (zs : Nat)], [.int .u64 (zp : Nat)], cellsB zpa, cellsB zst, cellsB zbo]
def hdC (zs : Nat) (zp : Nat) (zpa : List Nat) (zst : List Nat) (zbo : List Nat) : List Value := (hdP zs zp zpa zst zbo).flatten
theorem hdC_length (zs : Nat) (zp : Nat) (zpa : List Nat) (zst : List Nat) (zbo : List Nat) (hzpa : zpa.length = 32) (hzst : zst.length = 32) (hzbo : zbo.length = 32) : (hdC zs zp zpa zst zbo).length = 98 := by simp [hdC, hdP, cellsB_length, hzpa, hzst, hzbo]
def hdR (zs : Nat) (zp : Nat) (zpa : List Nat) (zst : List Nat) (zbo : List Nat) : List Nat := fullR (depth (([wUp zs 8, wUp zp 8, zpa, zst, zbo] : List (List Nat)).length : Nat)) [wUp zs 8, wUp zp 8, zpa, zst, zbo]
theorem hdR_rt (zs : Nat) (zp : Nat) (zpa : List Nat) (zst : List Nat) (zbo : List Nat) (hzpa : Rt zpa) (hzst : Rt zst) (hzbo : Rt zbo) : Rt (hdR zs zp zpa zst zbo) := full_rt _ _ (Rts.more (wUp_rt zs 8) (Rts.more (wUp_rt zp 8) (Rts.more hzpa (Rts.more hzst (Rts.more hzbo Rts.nil)))))
set_option maxHeartbeats 2000000 in
theorem hdR_any (zs : Nat) (zp : Nat) (zpa : List Nat) (zst : List Nat) (zbo : List Nat) (hzs : zs < 18446744073709551616) (hzp : zp < 18446744073709551616) (hzpa : Rt zpa) (hzst : Rt zst) (hzbo : Rt zbo) (w : World) (hT : Tabs w) :
    Calls Tryd.prog 32 #[.agg (hdC zs zp zpa zst zbo).toArray] w fun x w' => x = .returned (.agg (nums .u8 (hdR zs zp zpa zst zbo))) ∧ Below w.heap.size w w' := by
  have hfr := hdR_rt zs zp zpa zst zbo hzpa hzst hzbo
  obtain ⟨W, HW⟩ : ∃ W, Hid (hdR zs zp zpa zst zbo = W) := ⟨_, hid rfl⟩
  rw [HW.out] at hfr ⊢
  go_enter Tryd.func32, Tryd.ntmps32
  go_wp2_with ((with_reducible refine at_list' ?_); first
    | (refine wpList_box_c rfl 1 rfl (.tmp 0) rfl (hdC zs zp zpa zst zbo) rfl ?_; intro w1 H1 B1 S1)
    | (refine wpList_alloc_has rfl 2 rfl 25 rfl .u8 32 Tryd.zero25 ?_; intro w2 H2 B2 S2; rw [S1] at H2 S2; rw [S1]))
  have HX := hid (H1.keep B2)
  have HY := hid H2
  have HB := hid (B1.trans (B2.mono (by omega)))
  have HT := hid (hT.keep HB.out)
  have s2 : w2.heap.size = w.heap.size + 2 := by omega
  clear H1 B1 S1 H2 B2 S2
  try simp only [Act.put, List.setIfInBounds_toArray, List.set_cons_succ, List.set_cons_zero]
  refine wp_region_flow 14 14 (fun i v wq => match i with
    | 0 => v = .pointer (some ⟨w.heap.size, 0, none⟩)
    | 1 => v = .int .u64 (zs : Nat)
    | 2 => v = .agg (nums .u8 (wUp zs 8))
    | 3 => v = .pointer (some ⟨w.heap.size, 1, none⟩)
    | 4 => v = .int .u64 (zp : Nat)
    | 5 => v = .agg (nums .u8 (wUp zp 8))
    | 6 => v = .pointer (some ⟨w.heap.size, 2, none⟩)
    | 7 => v = .agg (nums .u8 zpa)
    | 8 => v = .pointer (some ⟨w.heap.size, 34, none⟩)
    | 9 => v = .agg (nums .u8 zst)
    | 10 => v = .pointer (some ⟨w.heap.size, 66, none⟩)
    | 11 => v = .agg (nums .u8 zbo)
    | 12 => ∃ b, v = .slice (some ⟨b, 0, none⟩) 5 5 ∧ RootsAt wq (some ⟨b, 0, none⟩) [wUp zs 8, wUp zp 8, zpa, zst, zbo]
    | _ => v = .agg (nums .u8 W)) (by kernel_rfl) (by kernel_rfl) (fun _ d _ _ _ h => by cases d <;> exact h) ?_ ?_ ?_ ?_
  · intro i v wq wq' hi hv hb
    match i, hi with
    | 0, _ => exact hv
    | 1, _ => exact hv
    | 2, _ => exact hv
    | 3, _ => exact hv
    | 4, _ => exact hv
    | 5, _ => exact hv
    | 6, _ => exact hv
    | 7, _ => exact hv
    | 8, _ => exact hv
    | 9, _ => exact hv
    | 10, _ => exact hv
    | 11, _ => exact hv
    | 12, _ => obtain ⟨b, h1, h2⟩ := hv; exact ⟨b, h1, h2.keep hb⟩
    | 13, _ => exact hv
    | (k + 14), hk => exact absurd hk (by omega)
  · intro i o hi ho aq wq hc hk hdep
    match i, hi with
    | 0, _ =>
      cases ho
      have e1 : aq.tmps.getD 1 undef = .pointer (some ⟨w.heap.size, 0, none⟩) := hk 1 (by decide)
      exact flow_value _ (run_fieldAt 71 (.tmp 1) 0 rfl _ _ e1 (by kernel_rfl)) rfl
    | 1, _ =>
      cases ho
      have e0 : aq.tmps.getD 3 undef = .pointer (some ⟨w.heap.size, 0, none⟩) := hdep 0 3 rfl (by kernel_rfl)
      exact flow_value _ (run_cell 23 (.tmp 3) rfl _ e0 _ ((HX.out.keep (hcB hc)).cell (seg (ps := hdP zs zp zpa zst zbo) (i := 0) (off := 0) rfl (by simp [hdP, cellsB_length, hzpa.len, hzst.len, hzbo.len]) 0 _ rfl)) _ Tryd.underlying23 rfl) rfl
    | 2, _ =>
      cases ho
      have e0 : aq.tmps.getD 4 undef = .int .u64 (zs : Nat) := hdep 1 4 rfl (by kernel_rfl)
      refine flow_fun 58 _ _ rfl (fun _ _ => by simp [go_sem]) #[.int .u64 (zs : Nat)] (by rw [show (#[Operand.tmp 4] : Array Operand).map aq.eval = #[aq.tmps.getD 4 undef] from by simp [Act.eval], e0]) ?_
      refine (number_any zs hzs wq).mono ?_
      rintro x w' ⟨rfl, q⟩
      exact ⟨_, rfl, rfl, q⟩
    | 3, _ =>
      cases ho
      have e1 : aq.tmps.getD 1 undef = .pointer (some ⟨w.heap.size, 0, none⟩) := hk 1 (by decide)
      exact flow_value _ (run_fieldAt 71 (.tmp 1) 1 rfl _ _ e1 (by kernel_rfl)) rfl
    | 4, _ =>
      cases ho
      have e0 : aq.tmps.getD 6 undef = .pointer (some ⟨w.heap.size, 1, none⟩) := hdep 3 6 rfl (by kernel_rfl)
      exact flow_value _ (run_cell 23 (.tmp 6) rfl _ e0 _ ((HX.out.keep (hcB hc)).cell (seg (ps := hdP zs zp zpa zst zbo) (i := 1) (off := 1) rfl (by simp [hdP, cellsB_length, hzpa.len, hzst.len, hzbo.len]) 0 _ rfl)) _ Tryd.underlying23 rfl) rfl
    | 5, _ =>
      cases ho
      have e0 : aq.tmps.getD 7 undef = .int .u64 (zp : Nat) := hdep 4 7 rfl (by kernel_rfl)
      refine flow_fun 58 _ _ rfl (fun _ _ => by simp [go_sem]) #[.int .u64 (zp : Nat)] (by rw [show (#[Operand.tmp 7] : Array Operand).map aq.eval = #[aq.tmps.getD 7 undef] from by simp [Act.eval], e0]) ?_
      refine (number_any zp hzp wq).mono ?_
      rintro x w' ⟨rfl, q⟩
      exact ⟨_, rfl, rfl, q⟩
    | 6, _ =>
      cases ho
      have e1 : aq.tmps.getD 1 undef = .pointer (some ⟨w.heap.size, 0, none⟩) := hk 1 (by decide)
      exact flow_value _ (run_fieldAt 71 (.tmp 1) 2 rfl _ _ e1 (by kernel_rfl)) rfl
    | 7, _ =>
      cases ho
      have e0 : aq.tmps.getD 9 undef = .pointer (some ⟨w.heap.size, 2, none⟩) := hdep 6 9 rfl (by kernel_rfl)
      exact flow_value _ (run_mid 25 (.tmp 9) rfl w.heap.size 2 e0 (cellsB zpa) ((HX.out.keep (hcB hc)).range 2 (cellsB zpa) (seg (ps := hdP zs zp zpa zst zbo) (i := 2) (off := 2) rfl (by simp [hdP, cellsB_length, hzpa.len, hzst.len, hzbo.len]))) _ Tryd.und25 rfl (by rw [cellsB_length, hzpa.len]; exact Tryd.size25)) rfl
    | 8, _ =>
      cases ho
      have e1 : aq.tmps.getD 1 undef = .pointer (some ⟨w.heap.size, 0, none⟩) := hk 1 (by decide)
      exact flow_value _ (run_fieldAt 71 (.tmp 1) 3 rfl _ _ e1 (by kernel_rfl)) rfl
    | 9, _ =>
      cases ho
      have e0 : aq.tmps.getD 11 undef = .pointer (some ⟨w.heap.size, 34, none⟩) := hdep 8 11 rfl (by kernel_rfl)
      exact flow_value _ (run_mid 25 (.tmp 11) rfl w.heap.size 34 e0 (cellsB zst) ((HX.out.keep (hcB hc)).range 34 (cellsB zst) (seg (ps := hdP zs zp zpa zst zbo) (i := 3) (off := 34) rfl (by simp [hdP, cellsB_length, hzpa.len, hzst.len, hzbo.len]))) _ Tryd.und25 rfl (by rw [cellsB_length, hzst.len]; exact Tryd.size25)) rfl
    | 10, _ =>
      cases ho
      have e1 : aq.tmps.getD 1 undef = .pointer (some ⟨w.heap.size, 0, none⟩) := hk 1 (by decide)
      exact flow_value _ (run_fieldAt 71 (.tmp 1) 4 rfl _ _ e1 (by kernel_rfl)) rfl
    | 11, _ =>
      cases ho
      have e0 : aq.tmps.getD 13 undef = .pointer (some ⟨w.heap.size, 66, none⟩) := hdep 10 13 rfl (by kernel_rfl)
      exact flow_value _ (run_mid 25 (.tmp 13) rfl w.heap.size 66 e0 (cellsB zbo) ((HX.out.keep (hcB hc)).range 66 (cellsB zbo) (seg (ps := hdP zs zp zpa zst zbo) (i := 4) (off := 66) rfl (by simp [hdP, cellsB_length, hzpa.len, hzst.len, hzbo.len]))) _ Tryd.und25 rfl (by rw [cellsB_length, hzbo.len]; exact Tryd.size25)) rfl
    | 12, _ =>
      cases ho
      have e0 : aq.tmps.getD 5 undef = .agg (nums .u8 (wUp zs 8)) := hdep 2 5 rfl (by kernel_rfl)
      have e1 : aq.tmps.getD 8 undef = .agg (nums .u8 (wUp zp 8)) := hdep 5 8 rfl (by kernel_rfl)
      have e2 : aq.tmps.getD 10 undef = .agg (nums .u8 zpa) := hdep 7 10 rfl (by kernel_rfl)
      have e3 : aq.tmps.getD 12 undef = .agg (nums .u8 zst) := hdep 9 12 rfl (by kernel_rfl)
      have e4 : aq.tmps.getD 14 undef = .agg (nums .u8 zbo) := hdep 11 14 rfl (by kernel_rfl)
      exact flow_rows 96 25 5 32 _ rfl Tryd.underlying96 rootInfo6 [cellsB (wUp zs 8), cellsB (wUp zp 8), cellsB (zpa), cellsB (zst), cellsB (zbo)] [.tmp 5, .tmp 8, .tmp 10, .tmp 12, .tmp 14] rfl (by rw [show [Operand.tmp 5, Operand.tmp 8, Operand.tmp 10, Operand.tmp 12, Operand.tmp 14].map aq.eval = [aq.tmps.getD 5 undef, aq.tmps.getD 8 undef, aq.tmps.getD 10 undef, aq.tmps.getD 12 undef, aq.tmps.getD 14 undef] from rfl, e0, e1, e2, e3, e4]; rfl) (by simp [cellsB_length, ((wUp_rt zs 8)).len, ((wUp_rt zp 8)).len, (hzpa).len, (hzst).len, (hzbo).len]) rfl (by decide) (by decide) (by decide) (fun w' h => ⟨_, rfl, hasC_roots (rs := [wUp zs 8, wUp zp 8, zpa, zst, zbo]) h (Rts.more (wUp_rt zs 8) (Rts.more (wUp_rt zp 8) (Rts.more hzpa (Rts.more hzst (Rts.more hzbo Rts.nil)))))⟩)
    | 13, _ =>
      cases ho
      obtain ⟨b, e6, h6⟩ := hdep 12 15 rfl (by kernel_rfl)
      refine flow_fun 36 _ _ rfl (fun _ _ => by simp [go_sem]) #[.slice (some ⟨b, 0, none⟩) 5 5] (by rw [show (#[Operand.tmp 15] : Array Operand).map aq.eval = #[aq.tmps.getD 15 undef] from by simp [Act.eval], e6]) ?_
      refine (cont_any (some ⟨b, 0, none⟩) 5 [wUp zs 8, wUp zp 8, zpa, zst, zbo] wq (HT.out.keep (hcB hc)) (Nat.le_refl _) (by decide) (by show 5 ≤ 1048576; decide) h6).mono ?_
      rintro x w' ⟨rfl, q⟩
      exact ⟨_, rfl, (by rw [← HW.out]; rfl), q⟩
    | (k + 14), hk => exact absurd hk (by omega)
  · intro o h14 ho
    omega
  intro vf w8 hc hv
  have e7 : vf 13 = _ := hv 13 16 (by decide) rfl
  have B8 := HB.out.trans ((hcB hc).mono (by omega))
  have H8v := HY.out.keep (hcB hc)
  have s8 := (hcB hc).size
  clear hv hc
  simp only [List.take_succ_cons, List.take_zero, List.drop_succ_cons, List.drop_zero, putAll, Act.put, List.setIfInBounds_toArray, List.set_cons_succ, List.set_cons_zero]
  rw [e7]
  have HB8 := hid B8
  clear B8 e7 HB
  go_wp2_with ((with_reducible refine at_list' ?_); first
    | (refine wpList_store_has rfl 25 (.tmp 2) (.tmp 16) rfl (w.heap.size + 1) .u8 W (zeros 32) rfl rfl 25 H8v (hfr.size _ Tryd.size25) (by rw [hfr.len, zeros_length]) ?_; intro w9 H9 O9))
  refine bodyPost_ret (results_has rfl _ _ (w.heap.size + 1) 25 .u8 W _ _ rfl H9 Tryd.und25 (hfr.size _ Tryd.size25)) rfl ?_
  exact ⟨rfl, below_only HB8.out O9 (by omega)⟩
end Go.Proofs.YtfmecdmkepnlmaaDoor

/- The root of a struct (Checkpoint), by the program. -/
namespace Go.Proofs.YtfmecdmkepnlmaaDoor
open Go.RowKit Go.Shelf
set_option linter.unusedVariables false
set_option linter.unusedSimpArgs false
set_option maxRecDepth 100000

def cpP (ze : Nat) (zr : List Nat) : List (List Value) := [[.int .u64 (ze : Nat)], cellsB zr]
def cpC (ze : Nat) (zr : List Nat) : List Value := (cpP ze zr).flatten
theorem cpC_length (ze : Nat) (zr : List Nat) (hzr : zr.length = 32) : (cpC ze zr).length = 33 := by simp [cpC, cpP, cellsB_length, hzr]
def cpR (ze : Nat) (zr : List Nat) : List Nat := fullR (depth (([wUp ze 8, zr] : List (List Nat)).length : Nat)) [wUp ze 8, zr]
theorem cpR_rt (ze : Nat) (zr : List Nat) (hzr : Rt zr) : Rt (cpR ze zr) := full_rt _ _ (Rts.more (wUp_rt ze 8) (Rts.more hzr Rts.nil))
set_option maxHeartbeats 2000000 in
theorem cpR_any (ze : Nat) (zr : List Nat) (hze : ze < 18446744073709551616) (hzr : Rt zr) (w : World) (hT : Tabs w) :
    Calls Tryd.prog 33 #[.agg (cpC ze zr).toArray] w fun x w' => x = .returned (.agg (nums .u8 (cpR ze zr))) ∧ Below w.heap.size w w' := by
  have hfr := cpR_rt ze zr hzr
  obtain ⟨W, HW⟩ : ∃ W, Hid (cpR ze zr = W) := ⟨_, hid rfl⟩
  rw [HW.out] at hfr ⊢
  go_enter Tryd.func33, Tryd.ntmps33
  go_wp2_with ((with_reducible refine at_list' ?_); first
    | (refine wpList_box_c rfl 1 rfl (.tmp 0) rfl (cpC ze zr) rfl ?_; intro w1 H1 B1 S1)
    | (refine wpList_alloc_has rfl 2 rfl 25 rfl .u8 32 Tryd.zero25 ?_; intro w2 H2 B2 S2; rw [S1] at H2 S2; rw [S1]))
  have HX := hid (H1.keep B2)
  have HY := hid H2
  have HB := hid (B1.trans (B2.mono (by omega)))
  have HT := hid (hT.keep HB.out)
  have s2 : w2.heap.size = w.heap.size + 2 := by omega
  clear H1 B1 S1 H2 B2 S2
  try simp only [Act.put, List.setIfInBounds_toArray, List.set_cons_succ, List.set_cons_zero]
  refine wp_region_flow 7 7 (fun i v wq => match i with
    | 0 => v = .pointer (some ⟨w.heap.size, 0, none⟩)
    | 1 => v = .int .u64 (ze : Nat)
    | 2 => v = .agg (nums .u8 (wUp ze 8))
    | 3 => v = .pointer (some ⟨w.heap.size, 1, none⟩)
    | 4 => v = .agg (nums .u8 zr)
    | 5 => ∃ b, v = .slice (some ⟨b, 0, none⟩) 2 2 ∧ RootsAt wq (some ⟨b, 0, none⟩) [wUp ze 8, zr]
    | _ => v = .agg (nums .u8 W)) (by kernel_rfl) (by kernel_rfl) (fun _ d _ _ _ h => by cases d <;> exact h) ?_ ?_ ?_ ?_
  · intro i v wq wq' hi hv hb
    match i, hi with
    | 0, _ => exact hv
    | 1, _ => exact hv
    | 2, _ => exact hv
    | 3, _ => exact hv
    | 4, _ => exact hv
    | 5, _ => obtain ⟨b, h1, h2⟩ := hv; exact ⟨b, h1, h2.keep hb⟩
    | 6, _ => exact hv
    | (k + 7), hk => exact absurd hk (by omega)
  · intro i o hi ho aq wq hc hk hdep
    match i, hi with
    | 0, _ =>
      cases ho
      have e1 : aq.tmps.getD 1 undef = .pointer (some ⟨w.heap.size, 0, none⟩) := hk 1 (by decide)
      exact flow_value _ (run_fieldAt 27 (.tmp 1) 0 rfl _ _ e1 (by kernel_rfl)) rfl
    | 1, _ =>
      cases ho
      have e0 : aq.tmps.getD 3 undef = .pointer (some ⟨w.heap.size, 0, none⟩) := hdep 0 3 rfl (by kernel_rfl)
      exact flow_value _ (run_cell 23 (.tmp 3) rfl _ e0 _ ((HX.out.keep (hcB hc)).cell (seg (ps := cpP ze zr) (i := 0) (off := 0) rfl (by simp [cpP, cellsB_length, hzr.len]) 0 _ rfl)) _ Tryd.underlying23 rfl) rfl
    | 2, _ =>
      cases ho
      have e0 : aq.tmps.getD 4 undef = .int .u64 (ze : Nat) := hdep 1 4 rfl (by kernel_rfl)
      refine flow_fun 58 _ _ rfl (fun _ _ => by simp [go_sem]) #[.int .u64 (ze : Nat)] (by rw [show (#[Operand.tmp 4] : Array Operand).map aq.eval = #[aq.tmps.getD 4 undef] from by simp [Act.eval], e0]) ?_
      refine (number_any ze hze wq).mono ?_
      rintro x w' ⟨rfl, q⟩
      exact ⟨_, rfl, rfl, q⟩
    | 3, _ =>
      cases ho
      have e1 : aq.tmps.getD 1 undef = .pointer (some ⟨w.heap.size, 0, none⟩) := hk 1 (by decide)
      exact flow_value _ (run_fieldAt 27 (.tmp 1) 1 rfl _ _ e1 (by kernel_rfl)) rfl
    | 4, _ =>
      cases ho
      have e0 : aq.tmps.getD 6 undef = .pointer (some ⟨w.heap.size, 1, none⟩) := hdep 3 6 rfl (by kernel_rfl)
      exact flow_value _ (run_mid 25 (.tmp 6) rfl w.heap.size 1 e0 (cellsB zr) ((HX.out.keep (hcB hc)).range 1 (cellsB zr) (seg (ps := cpP ze zr) (i := 1) (off := 1) rfl (by simp [cpP, cellsB_length, hzr.len]))) _ Tryd.und25 rfl (by rw [cellsB_length, hzr.len]; exact Tryd.size25)) rfl
    | 5, _ =>
      cases ho
      have e0 : aq.tmps.getD 5 undef = .agg (nums .u8 (wUp ze 8)) := hdep 2 5 rfl (by kernel_rfl)
      have e1 : aq.tmps.getD 7 undef = .agg (nums .u8 zr) := hdep 4 7 rfl (by kernel_rfl)
      exact flow_rows 96 25 2 32 _ rfl Tryd.underlying96 rootInfo6 [cellsB (wUp ze 8), cellsB (zr)] [.tmp 5, .tmp 7] rfl (by rw [show [Operand.tmp 5, Operand.tmp 7].map aq.eval = [aq.tmps.getD 5 undef, aq.tmps.getD 7 undef] from rfl, e0, e1]; rfl) (by simp [cellsB_length, ((wUp_rt ze 8)).len, (hzr).len]) rfl (by decide) (by decide) (by decide) (fun w' h => ⟨_, rfl, hasC_roots (rs := [wUp ze 8, zr]) h (Rts.more (wUp_rt ze 8) (Rts.more hzr Rts.nil))⟩)
    | 6, _ =>
      cases ho
      obtain ⟨b, e6, h6⟩ := hdep 5 8 rfl (by kernel_rfl)
      refine flow_fun 36 _ _ rfl (fun _ _ => by simp [go_sem]) #[.slice (some ⟨b, 0, none⟩) 2 2] (by rw [show (#[Operand.tmp 8] : Array Operand).map aq.eval = #[aq.tmps.getD 8 undef] from by simp [Act.eval], e6]) ?_
      refine (cont_any (some ⟨b, 0, none⟩) 2 [wUp ze 8, zr] wq (HT.out.keep (hcB hc)) (Nat.le_refl _) (by decide) (by show 2 ≤ 1048576; decide) h6).mono ?_
      rintro x w' ⟨rfl, q⟩
      exact ⟨_, rfl, (by rw [← HW.out]; rfl), q⟩
    | (k + 7), hk => exact absurd hk (by omega)
  · intro o h7 ho
    omega
  intro vf w8 hc hv
  have e7 : vf 6 = _ := hv 6 9 (by decide) rfl
  have B8 := HB.out.trans ((hcB hc).mono (by omega))
  have H8v := HY.out.keep (hcB hc)
  have s8 := (hcB hc).size
  clear hv hc
  simp only [List.take_succ_cons, List.take_zero, List.drop_succ_cons, List.drop_zero, putAll, Act.put, List.setIfInBounds_toArray, List.set_cons_succ, List.set_cons_zero]
  rw [e7]
  have HB8 := hid B8
  clear B8 e7 HB
  go_wp2_with ((with_reducible refine at_list' ?_); first
    | (refine wpList_store_has rfl 25 (.tmp 2) (.tmp 9) rfl (w.heap.size + 1) .u8 W (zeros 32) rfl rfl 25 H8v (hfr.size _ Tryd.size25) (by rw [hfr.len, zeros_length]) ?_; intro w9 H9 O9))
  refine bodyPost_ret (results_has rfl _ _ (w.heap.size + 1) 25 .u8 W _ _ rfl H9 Tryd.und25 (hfr.size _ Tryd.size25)) rfl ?_
  exact ⟨rfl, below_only HB8.out O9 (by omega)⟩
end Go.Proofs.YtfmecdmkepnlmaaDoor

/- slices.Collect of the chunks of no bytes. -/
namespace Go.Proofs.YtfmecdmkepnlmaaDoor
open Go.RowKit Go.Shelf
set_option linter.unusedVariables false
set_option maxRecDepth 100000
attribute [local go_sem] Oper.semAt_some

theorem heap_kept {W W' : World} {row : Option Nat} {b : Nat} {c : Array Value} {t : TypeId} {z : Nat × Nat} (h : W.heap[b]? = some (.cells c t z)) (hg : W.grownBy W' row) (hr : ∀ r, row = some r → ∃ o : Obj, W.heap[r]? = some o ∧ o.isCells = false) : W'.heap[b]? = some (.cells c t z) := by
  refine (hg.block b (Array.getElem?_eq_some_iff.1 h).1 (fun e => ?_)).trans h
  obtain ⟨o, ho, hc⟩ := hr b e.symm
  rw [h] at ho
  cases ho
  cases hc
theorem wpListIn_runS {F : Fence} {n : Nat} {P : Program} {w : World} {ops : Array Oper} {rest : List Oper} {o : Oper} {a : Act} {Q : Exit → Act → World → Prop} (hgd : o.guard = none) (hab : o.about P w a.eval = none) (hdf : ∀ c, o.op ≠ .defer c)
    (w' : World) (hrun : (execOp a.eval o).run P w = .ok .skip w') (h : wpListIn F n P ops Q rest (a.put o.dst undef) w') : wpListIn F n P ops Q (o :: rest) a w := by
  refine wpListIn_plain hgd fun K hK => ?_
  unfold Oper.wpIn
  refine ⟨fun f hf => ?_, ?_⟩
  · rw [hab] at hf; cases hf
  · rw [Oper.semAt_plain F _ _ hdf, hrun, Oper.uponIn_skip]; exact hK _ _ h
theorem run_store_has {P : Program} {w : World} {o : Oper} {a : Act} (ty : TypeId) (x y : Operand) (ho : o.op = .store ty x y) (g : Nat) (k : IntKind) (l old : List Nat) (hx : a.eval x = .pointer (some ⟨g, 0, none⟩)) (hy : a.eval y = .agg (nums k l)) (t : TypeId) (hg : Has w g t k old)
    (hi : (P.info? ty).map (·.size) = some l.length) (hl : old.length = l.length) : (execOp a.eval o).run P w = .ok .skip (w.setRow g (nums k l)) := by
  unfold execOp
  simp only [ho, hx, hy, Instr.storeAt, Instr.sureAddr, Sem.run_bind, Sem.run_pure, Result.andThen_ok, run_storeVar_row w g t ty (nums k old) (nums k l) hg (by rw [hi, nums_size]) (by rw [nums_size, nums_size, hl]) (nums_one k l)]
theorem at_listI {F : Fence} {n : Nat} {P : Program} {w : World} {ops : Array Oper} {rest : List Oper} {o : Oper} {a : Act} {Q : Exit → Act → World → Prop} (h : wpListIn F n P ops Q (o :: rest) a w) : wpListIn F n P ops Q (o :: rest) a w := h

set_option maxHeartbeats 2000000 in
theorem appSeq_nil (c cap : Nat) (ao : Option Addr) (w : World) (hm : cap ≤ maxLen) (hc : w.cell? ⟨c, 0, none⟩ = some (.slice ao 0 cap)) :
    CallsIn Fence.wide 5 Tryd.prog 81 #[.slice none 0 0, .func (.func 83) #[] #[.pointer (some ⟨c, 0, none⟩)]] w fun e w' => e = .returned (.slice none 0 0) ∧ Below w.heap.size w w' := by
  refine callsIn_of_wp_marks Tryd.func81 rfl trivial ?_ rfl
  simp only [Tryd.ntmps81, List.size_toArray, List.length_cons, List.length_nil, Nat.reduceAdd, Nat.reduceSub, Array.replicate_succ, Array.replicate_zero, List.push_toArray, List.append_toArray, List.nil_append, List.cons_append]
  gi_wp2_with fail
  have BA : Below w.heap.size w (w.alloc (.cells #[.slice none 0 0] 96)) := (Below.refl _ w).alloc (Nat.le_refl _) _
  have X0 : Go.Boxed (w.alloc (.cells #[.slice none 0 0] 96)) w.heap.size 96 (.slice none 0 0) := Go.Boxed.new w _ _
  have S0 : (w.alloc (.cells #[.slice none 0 0] 96)).heap.size = w.heap.size + 1 := by simp
  have C0 := (BA.cell (p := ⟨c, 0, none⟩) (block_lt_of_cell hc)).trans hc
  have hcl : c < w.heap.size := block_lt_of_cell hc
  generalize w.alloc (.cells #[.slice none 0 0] 96) = w0 at *
  refine wpIn_rangeFunc_ownH rfl (by decide) (gf := 83) (lb := #[.pointer (some ⟨c, 0, none⟩)]) rfl trivial (enters_of Tryd.func83 (by kernel_rfl) rfl)
    (encs := fun x : RtV => #[.agg (nums .u8 x.1)]) (Kp := KeepsOwn c ao []) (S := fun ys => ys.map Subtype.val = chunks []) (Sp := fun pre => pre.map Subtype.val = (chunks []).take pre.length) (N := (chunks []).length) (w0 := w0)
    (fun l J Jx W hW hJ _ hY h0 => chunkI_in Fence.wide _ trivial rfl (by decide) l c cap ao [] (fun _ h => absurd h List.not_mem_nil) (by decide) (Nat.zero_le _) hm W J Jx hJ hY ((hW.cell (p := ⟨c, 0, none⟩) (block_lt_of_cell C0)).trans C0) (.inl rfl) h0)
    KeepsOwn.trans (fun W l o o' hl h hk _ => ⟨World.cell?_of_block (World.putObj_heap_other (fun e => by simp at e; omega)), fun _ => .inl rfl⟩) (Below.refl _ _) (fun _ => rfl)
    (fun pre W => Go.Boxed W w.heap.size 96 (.slice none 0 0) ∧ Below w.heap.size w W)
    (fun _ _ _ => False)
    (OwnFrom.and (Own.from (fun s A B row hs hg hr => heap_kept hs hg hr) _) (ownFrom_below (Nat.le_refl _) (by omega)))
    (fun _ _ _ _ _ hs _ _ => hs) ⟨X0, BA⟩ (fun _ _ _ => True) (fun _ _ _ _ _ _ _ _ _ => trivial) ?assign ?body ?done ?stop
  case assign =>
    rintro l pre x W K ⟨hX, hB⟩ hK
    have hrt := x.2
    have B1 : Below W.heap.size W (W.alloc (.cells (nums .u8 (zeros 32)) 25)) := (Below.refl _ _).alloc (Nat.le_refl _) _
    have H1 : Has (W.alloc (.cells (nums .u8 (zeros 32)) 25)) W.heap.size 25 .u8 (zeros 32) := heap_alloc_new W _
    have hs32 : (nums .u8 x.1).size = 32 := by rw [nums_size, hrt.len]
    have ksc := run_storeCells_from (P := Tryd.prog) W.heap.size 25 (nums .u8 x.1).toList 0 (nums .u8 (zeros 32)) (W.alloc (.cells (nums .u8 (zeros 32)) 25)) H1 (by rw [Array.length_toList, hs32, nums_size, zeros_length]) (fun v hv => (Array.all_eq_true_iff_forall_mem.1 (nums_one .u8 x.1)) v (by simpa using hv))
    rw [List.take_zero, List.nil_append, Array.toArray_toList] at ksc
    have B2 : Below W.heap.size W ((W.alloc (.cells (nums .u8 (zeros 32)) 25)).setRow W.heap.size (nums .u8 x.1)) := below_only B1 (Only.setRow _ _ _) (Nat.le_refl _)
    gi_wp2
    rename_i K2 hK2
    erw [ksc]
    simp only [Result.andThen_ok, Oper.uponIn_skip]
    refine hK2 _ _ ?_
    gi_wp2
    have hBB := hB.trans (B2.mono hB.size)
    refine hK _ _ ⟨B2.size, fun k o _ hk ho => (B2.block k (Array.getElem?_eq_some_iff.1 hk).1).trans hk⟩ ⟨B2.cell (p := ⟨c, 0, none⟩) (by show c < W.heap.size; have := hB.size; omega), fun _ => .inl rfl⟩ ⟨(B2.block _ hX.lt).trans hX, hBB⟩ trivial
  case body =>
    rintro l pre x a' W hl ⟨r, hr⟩ ⟨hX, hB⟩ _ hlt
    exact absurd hlt (Nat.not_lt_zero _)
  case done =>
    rintro D ys W hD hdn ⟨hX, hB⟩ hK
    have hvc := hX.cell
    gi_wp2
    refine ⟨by simp, .inl ⟨_, _, rfl, run_takeDeferred hK, ?_⟩⟩
    refine ⟨_, results_tmp rfl _ _ _, rfl, hB.trans (belowK_b (w := w) (Nat.le_refl _) W D _ _ (by omega) hK rfl rfl)⟩
  case stop =>
    rintro D c pre W _ _ h _
    exact h.elim
end Go.Proofs.YtfmecdmkepnlmaaDoor

/- The root of an empty list of numbers. -/
namespace Go.Proofs.YtfmecdmkepnlmaaDoor
open Go.RowKit
set_option linter.unusedVariables false
set_option maxRecDepth 100000

set_option maxHeartbeats 1000000 in
theorem collect_nil (c cap : Nat) (ao : Option Addr) (w : World) (hm : cap ≤ maxLen) (hc : w.cell? ⟨c, 0, none⟩ = some (.slice ao 0 cap)) :
    Calls Tryd.prog 73 #[.func (.func 83) #[] #[.pointer (some ⟨c, 0, none⟩)]] w fun e w' => e = .returned (.slice none 0 0) ∧ Below w.heap.size w w' := by
  have HC := hid (callsIn_wide.1 (appSeq_nil c cap ao w hm hc))
  clear hm hc
  go_enter Tryd.func73, Tryd.ntmps73
  go_wp2_with fail
  refine HC.out.mono ?_
  rintro e w1 ⟨rfl, B1⟩
  go_wp2
  go_ret
  exact ⟨rfl, B1⟩
set_option maxHeartbeats 1000000 in
theorem chunksR_nil (w : World) : Calls Tryd.prog 66 #[.slice none 0 0] w fun e w' => e = .returned (.slice none 0 0) ∧ Below w.heap.size w w' := by
  have HC := hid (chunks_any none 0 [] w (fun _ => rfl) (Nat.le_refl _) (by decide) (.inl rfl))
  go_enter Tryd.func66, Tryd.ntmps66
  go_wp2_with fail
  refine HC.out.mono ?_
  rintro e w1 ⟨c, v, hc, rfl, hv, ⟨ao, cap, rfl, h1, h2, _⟩, B1⟩
  have HD := hid (collect_nil c cap ao w1 h2 hv)
  clear HC hv h1 h2
  go_wp2_with fail
  refine HD.out.mono ?_
  rintro e w2 ⟨rfl, B2⟩
  go_wp2
  go_ret
  exact ⟨rfl, B1.trans (B2.mono B1.size)⟩
set_option maxHeartbeats 1000000 in
theorem packed_nil (w : World) : Calls Tryd.prog 56 #[.slice none 0 0] w fun e w' => e = .returned (.slice none 0 0) ∧ Below w.heap.size w w' := by
  have HC := hid (chunksR_nil w)
  go_enter Tryd.func56, Tryd.ntmps56
  go_wp2_with fail
  go_loopw [3, 5, 8] (fun b _ i wr => b = .slice none 0 0 ∧ i = .int .i64 0 ∧ wr = w) (fun _ _ _ _ => 0)
  case atStart => exact ⟨rfl, rfl, rfl⟩
  case round =>
    obtain ⟨rfl, rfl, rfl⟩ := hrel
    go_wp2_with fail
    refine HC.out.mono ?_
    rintro e w2 ⟨rfl, B2⟩
    go_wp2
    go_ret
    exact ⟨rfl, B2⟩
set_option maxHeartbeats 1000000 in
theorem numbers_nil (w : World) (hT : Tabs w) : Calls Tryd.prog 18 #[.slice none 0 0] w fun e w' => e = .returned (.agg (nums .u8 (pr (fullR (depth 8) []) (wUp 0 8)))) ∧ Below w.heap.size w w' := by
  have hfr : Rt (fullR (depth 8) []) := full_rt _ _ Rts.nil
  have hpr := pr_rt (fullR (depth 8) []) (wUp 0 8)
  have HP := hid packed_nil
  have HTr := hid (fun w (hT : Tabs w) => tre_any none 0 [] 8 w hT (Nat.le_refl _) (by decide) (by decide) (RootsAt.nil w none) (by decide) (by decide))
  have HM := hid (fun w (hT : Tabs w) => mix_any' (fullR (depth 8) []) 0 hfr (by decide) w hT)
  generalize pr (fullR (depth 8) []) (wUp 0 8) = Z at *
  generalize fullR (depth 8) [] = W at *
  go_enter Tryd.func18, Tryd.ntmps18
  go_wp2_with ((with_reducible refine at_list' ?_); first
    | (refine wpList_alloc_has rfl 2 rfl 25 rfl .u8 32 Tryd.zero25 ?_; intro w1 H1 B1 S1))
  refine (HP.out w1).mono ?_
  rintro e w2 ⟨rfl, B2⟩
  have L2 := hid (below_more B1 B2 (Nat.le_refl _))
  have H2 := H1.keep B2
  clear H1 B1 S1 B2
  go_wp2_with fail
  refine (HTr.out w2 (hT.keep L2.out)).mono ?_
  rintro e w3 ⟨rfl, B3⟩
  have L3 := hid (below_more L2.out B3 (Nat.le_refl _))
  have H3 := H2.keep B3
  clear H2 L2 B3
  go_wp2_with fail
  refine (HM.out w3 (hT.keep L3.out)).mono ?_
  rintro e w4 ⟨rfl, B4⟩
  have L4 := hid (below_more L3.out B4 (Nat.le_refl _))
  have H4 := H3.keep B4
  clear H3 L3 B4
  go_wp2_with ((with_reducible refine at_list' ?_); first
    | (refine wpList_store_has rfl 25 (.tmp 2) (.tmp 9) rfl w.heap.size .u8 Z (zeros 32) rfl rfl 25 H4 (hpr.size _ Tryd.size25) (by rw [hpr.len, zeros_length]) ?_; intro w5 H5 O5))
  refine bodyPost_ret (results_has rfl _ _ w.heap.size 25 .u8 Z _ _ rfl H5 Tryd.und25 (hpr.size _ Tryd.size25)) rfl ?_
  exact ⟨rfl, below_only L4.out O5 (Nat.le_refl _)⟩
end Go.Proofs.YtfmecdmkepnlmaaDoor

