/- Own texts of the proof, joined: VaCheckpoint VaVote VaAttestation RunEq LwAttestation Laid CoPending Open6 VaPending LwPending. -/
import Derived.Test.YthodofnebonpfaaDoorH4
import Derived.LaidMore
import Derived.MakeChecks
import Derived.Lib.LaidTab
import Derived.Lib.LaidU8
import Derived.FnData
import Derived.ProofKit
import Derived.OpenShut
import Derived.ShutString
import Derived.ChangeOld
import Derived.Deep.Slices
import Derived.SevenTiedAt
import Derived.Stop.Joined
import Derived.Deep.Grids
/- The document's value of a struct (Checkpoint). -/
namespace Go.Proofs.YthodofnebonpfaaDoor
open Go.RowKit Go.Shelf
set_option linter.unusedVariables false
set_option linter.unusedSimpArgs false
set_option maxRecDepth 100000

def cpV (ze : Nat) (zr : List Nat) : Vt := .mk 0 (zeros 32) [] [.mk ze (zeros 32) [] [], .mk 0 zr [] []]
theorem cpV_wide (ze : Nat) (zr : List Nat) : wide (cpV ze zr) := by simp [cpV, wide, wideK]
set_option maxHeartbeats 2000000 in
theorem cpV_any (ze : Nat) (zr : List Nat) (hze : ze < 18446744073709551616) (hzr : Rt zr) (w : World) : Calls Tryd.prog 57 #[.agg (cpC ze zr).toArray] w fun x w' => ∃ v, x = .returned v ∧ IsV w' v (cpV ze zr) ∧ Below w.heap.size w w' := by
  go_enter Tryd.func57, Tryd.ntmps57
  go_wp2_with ((with_reducible refine at_list' ?_); first
    | (refine wpList_box_c rfl 1 rfl (.tmp 0) rfl (cpC ze zr) rfl ?_; intro w1 H1 B1 S1)
    | (refine wpList_alloc_c Tryd.ty39 rfl 2 rfl rfl ?_; intro w2 H2 B2 S2; rw [S1] at H2 S2; rw [S1]))
  have HX := hid (H1.keep B2)
  have HY := hid H2
  have HB := hid (B1.trans (B2.mono (by omega)))
  have s2 : w2.heap.size = w.heap.size + 2 := by omega
  clear H1 B1 S1 H2 B2 S2
  try simp only [Act.put, List.setIfInBounds_toArray, List.set_cons_succ, List.set_cons_zero]
  refine wp_region_flow 8 8 (fun i v wq => match i with
    | 0 => v = .pointer (some ⟨w.heap.size, 0, none⟩)
    | 1 => v = .int .u64 (ze : Nat)
    | 2 => IsV wq v (.mk ze (zeros 32) [] [])
    | 3 => v = .pointer (some ⟨w.heap.size, 1, none⟩)
    | 4 => v = .agg (nums .u8 zr)
    | 5 => IsV wq v (.mk 0 zr [] [])
    | 6 => ∃ b, v = .slice (some ⟨b, 0, none⟩) 2 2 ∧ KsAt wq [.mk ze (zeros 32) [] [], .mk 0 zr [] []] b 0
    | _ => ∃ b, v = .agg (valL 0 (zeros 32) nilS (.slice (some ⟨b, 0, none⟩) 2 2)).toArray ∧ KsAt wq [.mk ze (zeros 32) [] [], .mk 0 zr [] []] b 0) (by kernel_rfl) (by kernel_rfl) (fun _ d _ _ _ h => by cases d <;> exact h) ?_ ?_ ?_ ?_
  · intro i v wq wq' hi hv hb
    match i, hi with
    | 0, _ => exact hv
    | 1, _ => exact hv
    | 2, _ => exact hv.keep hb
    | 3, _ => exact hv
    | 4, _ => exact hv
    | 5, _ => exact hv.keep hb
    | 6, _ => obtain ⟨b, h1, h2⟩ := hv; exact ⟨b, h1, KsAt.keep hb _ h2⟩
    | 7, _ => obtain ⟨b, h1, h2⟩ := hv; exact ⟨b, h1, KsAt.keep hb _ h2⟩
    | (k + 8), hk => exact absurd hk (by omega)
  · intro i o hi ho aq wq hc hk hdep
    match i, hi with
    | 0, _ =>
      cases ho
      have e1 : aq.tmps.getD 1 undef = .pointer (some ⟨w.heap.size, 0, none⟩) := hk 1 (by decide)
      exact flow_value _ (run_fieldAt 27 (.tmp 1) 0 rfl _ _ e1 (by kernel_rfl)) rfl
    | 1, _ =>
      cases ho
      have e0 : aq.tmps.getD 3 undef = .pointer (some ⟨w.heap.size, 0, none⟩) := hdep 0 3 rfl (by kernel_rfl)
      exact flow_value _ (run_cell 23 (.tmp 3) rfl _ e0 _ ((HX.out.keep (hcB hc)).cell (seg (ps := cpP ze zr) (i := 0) (off := 0) rfl (by simp [cpP, cellsB_length, hzr.len]) 0 _ rfl)) _ Tryd.underlying23 rfl) rfl
    | 2, _ =>
      cases ho
      have e0 : aq.tmps.getD 4 undef = .int .u64 (ze : Nat) := hdep 1 4 rfl (by kernel_rfl)
      refine flow_fun 45 _ _ rfl (fun _ _ => by simp [go_sem]) #[.int .u64 (ze : Nat)] (by rw [show (#[Operand.tmp 4] : Array Operand).map aq.eval = #[aq.tmps.getD 4 undef] from by simp [Act.eval], e0]) ?_
      refine (n_any ze wq).mono ?_
      rintro x w' ⟨rfl, q⟩
      exact ⟨_, rfl, IsV.leaf w' hze zeros32 (zeros_byte 32), q⟩
    | 3, _ =>
      cases ho
      have e1 : aq.tmps.getD 1 undef = .pointer (some ⟨w.heap.size, 0, none⟩) := hk 1 (by decide)
      exact flow_value _ (run_fieldAt 27 (.tmp 1) 1 rfl _ _ e1 (by kernel_rfl)) rfl
    | 4, _ =>
      cases ho
      have e0 : aq.tmps.getD 6 undef = .pointer (some ⟨w.heap.size, 1, none⟩) := hdep 3 6 rfl (by kernel_rfl)
      exact flow_value _ (run_mid 25 (.tmp 6) rfl w.heap.size 1 e0 (cellsB zr) ((HX.out.keep (hcB hc)).range 1 (cellsB zr) (seg (ps := cpP ze zr) (i := 1) (off := 1) rfl (by simp [cpP, cellsB_length, hzr.len]))) _ Tryd.und25 rfl (by rw [cellsB_length, hzr.len]; exact Tryd.size25)) rfl
    | 5, _ =>
      cases ho
      have e0 : aq.tmps.getD 7 undef = .agg (nums .u8 zr) := hdep 4 7 rfl (by kernel_rfl)
      refine flow_fun 42 _ _ rfl (fun _ _ => by simp [go_sem]) #[.agg (nums .u8 zr)] (by rw [show (#[Operand.tmp 7] : Array Operand).map aq.eval = #[aq.tmps.getD 7 undef] from by simp [Act.eval], e0]) ?_
      refine (r_any zr hzr.len wq).mono ?_
      rintro x w' ⟨rfl, q⟩
      exact ⟨_, rfl, IsV.leaf w' (by decide) hzr.len hzr.byte, q⟩
    | 6, _ =>
      cases ho
      obtain ⟨sb0, sk0, e0, h0_⟩ := hdep 2 5 rfl (by kernel_rfl)
      obtain ⟨sb1, sk1, e1, h1_⟩ := hdep 5 8 rfl (by kernel_rfl)
      refine flow_rowsB 37 39 2 35 _ rfl Tryd.underlying37 valInfo [valL ze (zeros 32) sb0 sk0, valL 0 zr sb1 sk1] [.tmp 5, .tmp 8] rfl (by rw [show [Operand.tmp 5, Operand.tmp 8].map aq.eval = [aq.tmps.getD 5 undef, aq.tmps.getD 8 undef] from rfl, e0, e1]; rfl) (by simp [valL_length, zeros32, hzr.len]) rfl (by decide) (by decide) (by decide) (fun w' h hb => ⟨_, rfl, ksAt_of h [(.mk ze (zeros 32) [] [], sb0, sk0), (.mk 0 zr [] [], sb1, sk1)] 0 (fun j v hj => by rw [Nat.zero_add]; exact hj) (fun x hx => ?_)⟩)
      simp only [List.mem_cons, List.not_mem_nil, or_false] at hx
      rcases hx with rfl | rfl
      · exact VAt.keep hb _ h0_
      · exact VAt.keep hb _ h1_
    | 7, _ =>
      cases ho
      obtain ⟨b, e6, h6⟩ := hdep 6 9 rfl (by kernel_rfl)
      refine flow_fun 40 _ _ rfl (fun _ _ => by simp [go_sem]) #[.slice (some ⟨b, 0, none⟩) 2 2] (by rw [show (#[Operand.tmp 9] : Array Operand).map aq.eval = #[aq.tmps.getD 9 undef] from by simp [Act.eval], e6]) ?_
      refine (all_any (some ⟨b, 0, none⟩) 2 2 wq).mono ?_
      rintro x w' ⟨rfl, q⟩
      exact ⟨_, rfl, ⟨b, rfl, KsAt.keep q _ h6⟩, q⟩
    | (k + 8), hk => exact absurd hk (by omega)
  · intro o h8 ho
    omega
  intro vf w8 hc hv
  have e7 : ∃ b, vf 7 = _ ∧ KsAt w8 _ b 0 := hv 7 10 (by decide) rfl
  obtain ⟨b, e7, h7⟩ := e7
  have B8 := HB.out.trans ((hcB hc).mono (by omega))
  have H8v := HY.out.keep (hcB hc)
  have s8 := (hcB hc).size
  clear hv hc
  simp only [List.take_succ_cons, List.take_zero, List.drop_succ_cons, List.drop_zero, putAll, Act.put, List.setIfInBounds_toArray, List.set_cons_succ, List.set_cons_zero]
  rw [e7]
  have HB8 := hid B8
  have HK := hid h7
  clear B8 h7 e7 HB
  go_wp2_with ((with_reducible refine at_list' ?_); first
    | (refine wpList_store_c Tryd.ty39 rfl (.tmp 2) (.tmp 10) rfl (w.heap.size + 1) (valL 0 (zeros 32) nilS (.slice (some ⟨b, 0, none⟩) 2 2)) rfl rfl rfl (valL_oneC _ _ _ _ trivial trivial) _ H8v rfl ?_; intro w9 H9 O9))
  refine bodyPost_ret (results_c1 Tryd.ty39 rfl _ w9 (w.heap.size + 1) _ rfl H9 rfl) rfl ⟨_, rfl, ⟨nilS, _, rfl, ?_⟩, below_only HB8.out O9 (by omega)⟩
  exact VAt.aside H8v rfl O9 (cpV ze zr) (cpV_wide ze zr) (isV_all (ks := [.mk ze (zeros 32) [] [], .mk 0 zr [] []]) rfl (by decide) HK.out)
end Go.Proofs.YthodofnebonpfaaDoor

/- The document's value of a struct (Vote). -/
namespace Go.Proofs.YthodofnebonpfaaDoor
open Go.RowKit Go.Shelf
set_option linter.unusedVariables false
set_option linter.unusedSimpArgs false
set_option maxRecDepth 100000

def vtV (zs : Nat) (zi : Nat) (zb : List Nat) (zcze : Nat) (zczr : List Nat) (ztze : Nat) (ztzr : List Nat) : Vt := .mk 0 (zeros 32) [] [.mk zs (zeros 32) [] [], .mk zi (zeros 32) [] [], .mk 0 zb [] [], cpV zcze zczr, cpV ztze ztzr]
theorem vtV_wide (zs : Nat) (zi : Nat) (zb : List Nat) (zcze : Nat) (zczr : List Nat) (ztze : Nat) (ztzr : List Nat) : wide (vtV zs zi zb zcze zczr ztze ztzr) := by simp [vtV, wide, wideK, cpV_wide, cpV_wide]
set_option maxHeartbeats 2000000 in
theorem vtV_any (zs : Nat) (zi : Nat) (zb : List Nat) (zcze : Nat) (zczr : List Nat) (ztze : Nat) (ztzr : List Nat) (hzs : zs < 18446744073709551616) (hzi : zi < 18446744073709551616) (hzb : Rt zb) (hzcze : zcze < 18446744073709551616) (hzczr : Rt zczr) (hztze : ztze < 18446744073709551616) (hztzr : Rt ztzr) (w : World) : Calls Tryd.prog 41 #[.agg (vtC zs zi zb zcze zczr ztze ztzr).toArray] w fun x w' => ∃ v, x = .returned v ∧ IsV w' v (vtV zs zi zb zcze zczr ztze ztzr) ∧ Below w.heap.size w w' := by
  go_enter Tryd.func41, Tryd.ntmps41
  go_wp2_with ((with_reducible refine at_list' ?_); first
    | (refine wpList_box_c rfl 1 rfl (.tmp 0) rfl (vtC zs zi zb zcze zczr ztze ztzr) rfl ?_; intro w1 H1 B1 S1)
    | (refine wpList_alloc_c Tryd.ty39 rfl 2 rfl rfl ?_; intro w2 H2 B2 S2; rw [S1] at H2 S2; rw [S1]))
  have HX := hid (H1.keep B2)
  have HY := hid H2
  have HB := hid (B1.trans (B2.mono (by omega)))
  have s2 : w2.heap.size = w.heap.size + 2 := by omega
  clear H1 B1 S1 H2 B2 S2
  try simp only [Act.put, List.setIfInBounds_toArray, List.set_cons_succ, List.set_cons_zero]
  refine wp_region_flow 17 17 (fun i v wq => match i with
    | 0 => v = .pointer (some ⟨w.heap.size, 0, none⟩)
    | 1 => v = .int .u64 (zs : Nat)
    | 2 => IsV wq v (.mk zs (zeros 32) [] [])
    | 3 => v = .pointer (some ⟨w.heap.size, 1, none⟩)
    | 4 => v = .int .u64 (zi : Nat)
    | 5 => IsV wq v (.mk zi (zeros 32) [] [])
    | 6 => v = .pointer (some ⟨w.heap.size, 2, none⟩)
    | 7 => v = .agg (nums .u8 zb)
    | 8 => IsV wq v (.mk 0 zb [] [])
    | 9 => v = .pointer (some ⟨w.heap.size, 34, none⟩)
    | 10 => v = .agg (cpC zcze zczr).toArray
    | 11 => IsV wq v (cpV zcze zczr)
    | 12 => v = .pointer (some ⟨w.heap.size, 67, none⟩)
    | 13 => v = .agg (cpC ztze ztzr).toArray
    | 14 => IsV wq v (cpV ztze ztzr)
    | 15 => ∃ b, v = .slice (some ⟨b, 0, none⟩) 5 5 ∧ KsAt wq [.mk zs (zeros 32) [] [], .mk zi (zeros 32) [] [], .mk 0 zb [] [], cpV zcze zczr, cpV ztze ztzr] b 0
    | _ => ∃ b, v = .agg (valL 0 (zeros 32) nilS (.slice (some ⟨b, 0, none⟩) 5 5)).toArray ∧ KsAt wq [.mk zs (zeros 32) [] [], .mk zi (zeros 32) [] [], .mk 0 zb [] [], cpV zcze zczr, cpV ztze ztzr] b 0) (by kernel_rfl) (by kernel_rfl) (fun _ d _ _ _ h => by cases d <;> exact h) ?_ ?_ ?_ ?_
  · intro i v wq wq' hi hv hb
    match i, hi with
    | 0, _ => exact hv
    | 1, _ => exact hv
    | 2, _ => exact hv.keep hb
    | 3, _ => exact hv
    | 4, _ => exact hv
    | 5, _ => exact hv.keep hb
    | 6, _ => exact hv
    | 7, _ => exact hv
    | 8, _ => exact hv.keep hb
    | 9, _ => exact hv
    | 10, _ => exact hv
    | 11, _ => exact hv.keep hb
    | 12, _ => exact hv
    | 13, _ => exact hv
    | 14, _ => exact hv.keep hb
    | 15, _ => obtain ⟨b, h1, h2⟩ := hv; exact ⟨b, h1, KsAt.keep hb _ h2⟩
    | 16, _ => obtain ⟨b, h1, h2⟩ := hv; exact ⟨b, h1, KsAt.keep hb _ h2⟩
    | (k + 17), hk => exact absurd hk (by omega)
  · intro i o hi ho aq wq hc hk hdep
    match i, hi with
    | 0, _ =>
      cases ho
      have e1 : aq.tmps.getD 1 undef = .pointer (some ⟨w.heap.size, 0, none⟩) := hk 1 (by decide)
      exact flow_value _ (run_fieldAt 29 (.tmp 1) 0 rfl _ _ e1 (by kernel_rfl)) rfl
    | 1, _ =>
      cases ho
      have e0 : aq.tmps.getD 3 undef = .pointer (some ⟨w.heap.size, 0, none⟩) := hdep 0 3 rfl (by kernel_rfl)
      exact flow_value _ (run_cell 23 (.tmp 3) rfl _ e0 _ ((HX.out.keep (hcB hc)).cell (seg (ps := vtP zs zi zb zcze zczr ztze ztzr) (i := 0) (off := 0) rfl (by simp [vtP, cellsB_length, hzb.len, hzczr.len, hztzr.len, cpC_length zcze zczr hzczr.len, cpC_length ztze ztzr hztzr.len]) 0 _ rfl)) _ Tryd.underlying23 rfl) rfl
    | 2, _ =>
      cases ho
      have e0 : aq.tmps.getD 4 undef = .int .u64 (zs : Nat) := hdep 1 4 rfl (by kernel_rfl)
      refine flow_fun 45 _ _ rfl (fun _ _ => by simp [go_sem]) #[.int .u64 (zs : Nat)] (by rw [show (#[Operand.tmp 4] : Array Operand).map aq.eval = #[aq.tmps.getD 4 undef] from by simp [Act.eval], e0]) ?_
      refine (n_any zs wq).mono ?_
      rintro x w' ⟨rfl, q⟩
      exact ⟨_, rfl, IsV.leaf w' hzs zeros32 (zeros_byte 32), q⟩
    | 3, _ =>
      cases ho
      have e1 : aq.tmps.getD 1 undef = .pointer (some ⟨w.heap.size, 0, none⟩) := hk 1 (by decide)
      exact flow_value _ (run_fieldAt 29 (.tmp 1) 1 rfl _ _ e1 (by kernel_rfl)) rfl
    | 4, _ =>
      cases ho
      have e0 : aq.tmps.getD 6 undef = .pointer (some ⟨w.heap.size, 1, none⟩) := hdep 3 6 rfl (by kernel_rfl)
      exact flow_value _ (run_cell 23 (.tmp 6) rfl _ e0 _ ((HX.out.keep (hcB hc)).cell (seg (ps := vtP zs zi zb zcze zczr ztze ztzr) (i := 1) (off := 1) rfl (by simp [vtP, cellsB_length, hzb.len, hzczr.len, hztzr.len, cpC_length zcze zczr hzczr.len, cpC_length ztze ztzr hztzr.len]) 0 _ rfl)) _ Tryd.underlying23 rfl) rfl
    | 5, _ =>
      cases ho
      have e0 : aq.tmps.getD 7 undef = .int .u64 (zi : Nat) := hdep 4 7 rfl (by kernel_rfl)
      refine flow_fun 45 _ _ rfl (fun _ _ => by simp [go_sem]) #[.int .u64 (zi : Nat)] (by rw [show (#[Operand.tmp 7] : Array Operand).map aq.eval = #[aq.tmps.getD 7 undef] from by simp [Act.eval], e0]) ?_
      refine (n_any zi wq).mono ?_
      rintro x w' ⟨rfl, q⟩
      exact ⟨_, rfl, IsV.leaf w' hzi zeros32 (zeros_byte 32), q⟩
    | 6, _ =>
      cases ho
      have e1 : aq.tmps.getD 1 undef = .pointer (some ⟨w.heap.size, 0, none⟩) := hk 1 (by decide)
      exact flow_value _ (run_fieldAt 29 (.tmp 1) 2 rfl _ _ e1 (by kernel_rfl)) rfl
    | 7, _ =>
      cases ho
      have e0 : aq.tmps.getD 9 undef = .pointer (some ⟨w.heap.size, 2, none⟩) := hdep 6 9 rfl (by kernel_rfl)
      exact flow_value _ (run_mid 25 (.tmp 9) rfl w.heap.size 2 e0 (cellsB zb) ((HX.out.keep (hcB hc)).range 2 (cellsB zb) (seg (ps := vtP zs zi zb zcze zczr ztze ztzr) (i := 2) (off := 2) rfl (by simp [vtP, cellsB_length, hzb.len, hzczr.len, hztzr.len, cpC_length zcze zczr hzczr.len, cpC_length ztze ztzr hztzr.len]))) _ Tryd.und25 rfl (by rw [cellsB_length, hzb.len]; exact Tryd.size25)) rfl
    | 8, _ =>
      cases ho
      have e0 : aq.tmps.getD 10 undef = .agg (nums .u8 zb) := hdep 7 10 rfl (by kernel_rfl)
      refine flow_fun 42 _ _ rfl (fun _ _ => by simp [go_sem]) #[.agg (nums .u8 zb)] (by rw [show (#[Operand.tmp 10] : Array Operand).map aq.eval = #[aq.tmps.getD 10 undef] from by simp [Act.eval], e0]) ?_
      refine (r_any zb hzb.len wq).mono ?_
      rintro x w' ⟨rfl, q⟩
      exact ⟨_, rfl, IsV.leaf w' (by decide) hzb.len hzb.byte, q⟩
    | 9, _ =>
      cases ho
      have e1 : aq.tmps.getD 1 undef = .pointer (some ⟨w.heap.size, 0, none⟩) := hk 1 (by decide)
      exact flow_value _ (run_fieldAt 29 (.tmp 1) 3 rfl _ _ e1 (by kernel_rfl)) rfl
    | 10, _ =>
      cases ho
      have e0 : aq.tmps.getD 12 undef = .pointer (some ⟨w.heap.size, 34, none⟩) := hdep 9 12 rfl (by kernel_rfl)
      exact flow_value _ (run_mid 27 (.tmp 12) rfl w.heap.size 34 e0 (cpC zcze zczr) ((HX.out.keep (hcB hc)).range 34 (cpC zcze zczr) (seg (ps := vtP zs zi zb zcze zczr ztze ztzr) (i := 3) (off := 34) rfl (by simp [vtP, cellsB_length, hzb.len, hzczr.len, hztzr.len, cpC_length zcze zczr hzczr.len, cpC_length ztze ztzr hztzr.len]))) _ Tryd.underlying27 rfl (by rw [cpC_length zcze zczr hzczr.len]; kernel_rfl)) rfl
    | 11, _ =>
      cases ho
      have e0 : aq.tmps.getD 13 undef = .agg (cpC zcze zczr).toArray := hdep 10 13 rfl (by kernel_rfl)
      refine flow_fun 57 _ _ rfl (fun _ _ => by simp [go_sem]) #[.agg (cpC zcze zczr).toArray] (by rw [show (#[Operand.tmp 13] : Array Operand).map aq.eval = #[aq.tmps.getD 13 undef] from by simp [Act.eval], e0]) ?_
      refine (cpV_any zcze zczr hzcze hzczr wq).mono ?_
      rintro x w' ⟨v, rfl, hv, q⟩
      exact ⟨v, rfl, hv, q⟩
    | 12, _ =>
      cases ho
      have e1 : aq.tmps.getD 1 undef = .pointer (some ⟨w.heap.size, 0, none⟩) := hk 1 (by decide)
      exact flow_value _ (run_fieldAt 29 (.tmp 1) 4 rfl _ _ e1 (by kernel_rfl)) rfl
    | 13, _ =>
      cases ho
      have e0 : aq.tmps.getD 15 undef = .pointer (some ⟨w.heap.size, 67, none⟩) := hdep 12 15 rfl (by kernel_rfl)
      exact flow_value _ (run_mid 27 (.tmp 15) rfl w.heap.size 67 e0 (cpC ztze ztzr) ((HX.out.keep (hcB hc)).range 67 (cpC ztze ztzr) (seg (ps := vtP zs zi zb zcze zczr ztze ztzr) (i := 4) (off := 67) rfl (by simp [vtP, cellsB_length, hzb.len, hzczr.len, hztzr.len, cpC_length zcze zczr hzczr.len, cpC_length ztze ztzr hztzr.len]))) _ Tryd.underlying27 rfl (by rw [cpC_length ztze ztzr hztzr.len]; kernel_rfl)) rfl
    | 14, _ =>
      cases ho
      have e0 : aq.tmps.getD 16 undef = .agg (cpC ztze ztzr).toArray := hdep 13 16 rfl (by kernel_rfl)
      refine flow_fun 57 _ _ rfl (fun _ _ => by simp [go_sem]) #[.agg (cpC ztze ztzr).toArray] (by rw [show (#[Operand.tmp 16] : Array Operand).map aq.eval = #[aq.tmps.getD 16 undef] from by simp [Act.eval], e0]) ?_
      refine (cpV_any ztze ztzr hztze hztzr wq).mono ?_
      rintro x w' ⟨v, rfl, hv, q⟩
      exact ⟨v, rfl, hv, q⟩
    | 15, _ =>
      cases ho
      obtain ⟨sb0, sk0, e0, h0_⟩ := hdep 2 5 rfl (by kernel_rfl)
      obtain ⟨sb1, sk1, e1, h1_⟩ := hdep 5 8 rfl (by kernel_rfl)
      obtain ⟨sb2, sk2, e2, h2_⟩ := hdep 8 11 rfl (by kernel_rfl)
      obtain ⟨sb3, sk3, e3, h3_⟩ := hdep 11 14 rfl (by kernel_rfl)
      obtain ⟨sb4, sk4, e4, h4_⟩ := hdep 14 17 rfl (by kernel_rfl)
      refine flow_rowsB 37 39 5 35 _ rfl Tryd.underlying37 valInfo [valL zs (zeros 32) sb0 sk0, valL zi (zeros 32) sb1 sk1, valL 0 zb sb2 sk2, valL 0 (zeros 32) sb3 sk3, valL 0 (zeros 32) sb4 sk4] [.tmp 5, .tmp 8, .tmp 11, .tmp 14, .tmp 17] rfl (by rw [show [Operand.tmp 5, Operand.tmp 8, Operand.tmp 11, Operand.tmp 14, Operand.tmp 17].map aq.eval = [aq.tmps.getD 5 undef, aq.tmps.getD 8 undef, aq.tmps.getD 11 undef, aq.tmps.getD 14 undef, aq.tmps.getD 17 undef] from rfl, e0, e1, e2, e3, e4]; rfl) (by simp [valL_length, zeros32, hzb.len]) rfl (by decide) (by decide) (by decide) (fun w' h hb => ⟨_, rfl, ksAt_of h [(.mk zs (zeros 32) [] [], sb0, sk0), (.mk zi (zeros 32) [] [], sb1, sk1), (.mk 0 zb [] [], sb2, sk2), (cpV zcze zczr, sb3, sk3), (cpV ztze ztzr, sb4, sk4)] 0 (fun j v hj => by rw [Nat.zero_add]; exact hj) (fun x hx => ?_)⟩)
      simp only [List.mem_cons, List.not_mem_nil, or_false] at hx
      rcases hx with rfl | rfl | rfl | rfl | rfl
      · exact VAt.keep hb _ h0_
      · exact VAt.keep hb _ h1_
      · exact VAt.keep hb _ h2_
      · exact VAt.keep hb _ h3_
      · exact VAt.keep hb _ h4_
    | 16, _ =>
      cases ho
      obtain ⟨b, e6, h6⟩ := hdep 15 18 rfl (by kernel_rfl)
      refine flow_fun 40 _ _ rfl (fun _ _ => by simp [go_sem]) #[.slice (some ⟨b, 0, none⟩) 5 5] (by rw [show (#[Operand.tmp 18] : Array Operand).map aq.eval = #[aq.tmps.getD 18 undef] from by simp [Act.eval], e6]) ?_
      refine (all_any (some ⟨b, 0, none⟩) 5 5 wq).mono ?_
      rintro x w' ⟨rfl, q⟩
      exact ⟨_, rfl, ⟨b, rfl, KsAt.keep q _ h6⟩, q⟩
    | (k + 17), hk => exact absurd hk (by omega)
  · intro o h17 ho
    omega
  intro vf w8 hc hv
  have e7 : ∃ b, vf 16 = _ ∧ KsAt w8 _ b 0 := hv 16 19 (by decide) rfl
  obtain ⟨b, e7, h7⟩ := e7
  have B8 := HB.out.trans ((hcB hc).mono (by omega))
  have H8v := HY.out.keep (hcB hc)
  have s8 := (hcB hc).size
  clear hv hc
  simp only [List.take_succ_cons, List.take_zero, List.drop_succ_cons, List.drop_zero, putAll, Act.put, List.setIfInBounds_toArray, List.set_cons_succ, List.set_cons_zero]
  rw [e7]
  have HB8 := hid B8
  have HK := hid h7
  clear B8 h7 e7 HB
  go_wp2_with ((with_reducible refine at_list' ?_); first
    | (refine wpList_store_c Tryd.ty39 rfl (.tmp 2) (.tmp 19) rfl (w.heap.size + 1) (valL 0 (zeros 32) nilS (.slice (some ⟨b, 0, none⟩) 5 5)) rfl rfl rfl (valL_oneC _ _ _ _ trivial trivial) _ H8v rfl ?_; intro w9 H9 O9))
  refine bodyPost_ret (results_c1 Tryd.ty39 rfl _ w9 (w.heap.size + 1) _ rfl H9 rfl) rfl ⟨_, rfl, ⟨nilS, _, rfl, ?_⟩, below_only HB8.out O9 (by omega)⟩
  exact VAt.aside H8v rfl O9 (vtV zs zi zb zcze zczr ztze ztzr) (vtV_wide zs zi zb zcze zczr ztze ztzr) (isV_all (ks := [.mk zs (zeros 32) [] [], .mk zi (zeros 32) [] [], .mk 0 zb [] [], cpV zcze zczr, cpV ztze ztzr]) rfl (by decide) HK.out)
end Go.Proofs.YthodofnebonpfaaDoor

/- The document's value of a struct (Attestation). -/
namespace Go.Proofs.YthodofnebonpfaaDoor
open Go.RowKit Go.Shelf
set_option linter.unusedVariables false
set_option linter.unusedSimpArgs false
set_option maxRecDepth 100000

def atV (zbo : Option Addr) (zbc : Nat) (zbl : List Bool) (zdzs : Nat) (zdzi : Nat) (zdzb : List Nat) (zdzcze : Nat) (zdzczr : List Nat) (zdztze : Nat) (zdztzr : List Nat) (zsg : List Nat) : Vt := .mk 0 (zeros 32) [] [.mk 0 (zeros 32) zbl [], vtV zdzs zdzi zdzb zdzcze zdzczr zdztze zdztzr, .mk 0 zsg [] []]
theorem atV_wide (zbo : Option Addr) (zbc : Nat) (zbl : List Bool) (zdzs : Nat) (zdzi : Nat) (zdzb : List Nat) (zdzcze : Nat) (zdzczr : List Nat) (zdztze : Nat) (zdztzr : List Nat) (zsg : List Nat) : wide (atV zbo zbc zbl zdzs zdzi zdzb zdzcze zdzczr zdztze zdztzr zsg) := by simp [atV, wide, wideK, vtV_wide]
set_option maxHeartbeats 2000000 in
theorem atV_any (zbo : Option Addr) (zbc : Nat) (zbl : List Bool) (zdzs : Nat) (zdzi : Nat) (zdzb : List Nat) (zdzcze : Nat) (zdzczr : List Nat) (zdztze : Nat) (zdztzr : List Nat) (zsg : List Nat) (hzdzs : zdzs < 18446744073709551616) (hzdzi : zdzi < 18446744073709551616) (hzdzb : Rt zdzb) (hzdzcze : zdzcze < 18446744073709551616) (hzdzczr : Rt zdzczr) (hzdztze : zdztze < 18446744073709551616) (hzdztzr : Rt zdztzr) (hzsg : Rt zsg) (w : World) (hzb : IsT w (.slice zbo zbl.length zbc) zbl) (hzbn : zbl.length ≤ 500) : Calls Tryd.prog 11 #[.agg (atC zbo zbc zbl zdzs zdzi zdzb zdzcze zdzczr zdztze zdztzr zsg).toArray] w fun x w' => ∃ v, x = .returned v ∧ IsV w' v (atV zbo zbc zbl zdzs zdzi zdzb zdzcze zdzczr zdztze zdztzr zsg) ∧ Below w.heap.size w w' := by
  go_enter Tryd.func11, Tryd.ntmps11
  go_wp2_with ((with_reducible refine at_list' ?_); first
    | (refine wpList_box_c rfl 1 rfl (.tmp 0) rfl (atC zbo zbc zbl zdzs zdzi zdzb zdzcze zdzczr zdztze zdztzr zsg) rfl ?_; intro w1 H1 B1 S1)
    | (refine wpList_alloc_c Tryd.ty39 rfl 2 rfl rfl ?_; intro w2 H2 B2 S2; rw [S1] at H2 S2; rw [S1]))
  have HX := hid (H1.keep B2)
  have HY := hid H2
  have HB := hid (B1.trans (B2.mono (by omega)))
  have s2 : w2.heap.size = w.heap.size + 2 := by omega
  clear H1 B1 S1 H2 B2 S2
  try simp only [Act.put, List.setIfInBounds_toArray, List.set_cons_succ, List.set_cons_zero]
  refine wp_region_flow 11 11 (fun i v wq => match i with
    | 0 => v = .pointer (some ⟨w.heap.size, 0, none⟩)
    | 1 => v = .slice zbo zbl.length zbc
    | 2 => IsV wq v (.mk 0 (zeros 32) zbl [])
    | 3 => v = .pointer (some ⟨w.heap.size, 1, none⟩)
    | 4 => v = .agg (vtC zdzs zdzi zdzb zdzcze zdzczr zdztze zdztzr).toArray
    | 5 => IsV wq v (vtV zdzs zdzi zdzb zdzcze zdzczr zdztze zdztzr)
    | 6 => v = .pointer (some ⟨w.heap.size, 101, none⟩)
    | 7 => v = .agg (nums .u8 zsg)
    | 8 => IsV wq v (.mk 0 zsg [] [])
    | 9 => ∃ b, v = .slice (some ⟨b, 0, none⟩) 3 3 ∧ KsAt wq [.mk 0 (zeros 32) zbl [], vtV zdzs zdzi zdzb zdzcze zdzczr zdztze zdztzr, .mk 0 zsg [] []] b 0
    | _ => ∃ b, v = .agg (valL 0 (zeros 32) nilS (.slice (some ⟨b, 0, none⟩) 3 3)).toArray ∧ KsAt wq [.mk 0 (zeros 32) zbl [], vtV zdzs zdzi zdzb zdzcze zdzczr zdztze zdztzr, .mk 0 zsg [] []] b 0) (by kernel_rfl) (by kernel_rfl) (fun _ d _ _ _ h => by cases d <;> exact h) ?_ ?_ ?_ ?_
  · intro i v wq wq' hi hv hb
    match i, hi with
    | 0, _ => exact hv
    | 1, _ => exact hv
    | 2, _ => exact hv.keep hb
    | 3, _ => exact hv
    | 4, _ => exact hv
    | 5, _ => exact hv.keep hb
    | 6, _ => exact hv
    | 7, _ => exact hv
    | 8, _ => exact hv.keep hb
    | 9, _ => obtain ⟨b, h1, h2⟩ := hv; exact ⟨b, h1, KsAt.keep hb _ h2⟩
    | 10, _ => obtain ⟨b, h1, h2⟩ := hv; exact ⟨b, h1, KsAt.keep hb _ h2⟩
    | (k + 11), hk => exact absurd hk (by omega)
  · intro i o hi ho aq wq hc hk hdep
    match i, hi with
    | 0, _ =>
      cases ho
      have e1 : aq.tmps.getD 1 undef = .pointer (some ⟨w.heap.size, 0, none⟩) := hk 1 (by decide)
      exact flow_value _ (run_fieldAt 31 (.tmp 1) 0 rfl _ _ e1 (by kernel_rfl)) rfl
    | 1, _ =>
      cases ho
      have e0 : aq.tmps.getD 3 undef = .pointer (some ⟨w.heap.size, 0, none⟩) := hdep 0 3 rfl (by kernel_rfl)
      exact flow_value _ (run_cell 22 (.tmp 3) rfl _ e0 _ ((HX.out.keep (hcB hc)).cell (seg (ps := atP zbo zbc zbl zdzs zdzi zdzb zdzcze zdzczr zdztze zdztzr zsg) (i := 0) (off := 0) rfl (by simp [atP, cellsB_length, hzdzb.len, hzdzczr.len, hzdztzr.len, hzsg.len, vtC_length zdzs zdzi zdzb zdzcze zdzczr zdztze zdztzr hzdzb.len hzdzczr.len hzdztzr.len]) 0 _ rfl)) _ Tryd.underlying22 rfl) rfl
    | 2, _ =>
      cases ho
      have e0 : aq.tmps.getD 4 undef = .slice zbo zbl.length zbc := hdep 1 4 rfl (by kernel_rfl)
      exact flow_value _ (run_buildOp 39 _ rfl #[(2, .slice zbo zbl.length zbc)] (by rw [show (#[(2, Operand.tmp 4)] : Array (Nat × Operand)).map (fun p => (p.1, aq.eval p.2)) = #[(2, aq.tmps.getD 4 undef)] from by simp [Act.eval], e0]) _ (build_bits zbo zbl.length zbc _)) (IsV.bits (hzb.keep (HB.out.trans ((hcB hc).mono HB.out.size))))
    | 3, _ =>
      cases ho
      have e1 : aq.tmps.getD 1 undef = .pointer (some ⟨w.heap.size, 0, none⟩) := hk 1 (by decide)
      exact flow_value _ (run_fieldAt 31 (.tmp 1) 1 rfl _ _ e1 (by kernel_rfl)) rfl
    | 4, _ =>
      cases ho
      have e0 : aq.tmps.getD 6 undef = .pointer (some ⟨w.heap.size, 1, none⟩) := hdep 3 6 rfl (by kernel_rfl)
      exact flow_value _ (run_mid 29 (.tmp 6) rfl w.heap.size 1 e0 (vtC zdzs zdzi zdzb zdzcze zdzczr zdztze zdztzr) ((HX.out.keep (hcB hc)).range 1 (vtC zdzs zdzi zdzb zdzcze zdzczr zdztze zdztzr) (seg (ps := atP zbo zbc zbl zdzs zdzi zdzb zdzcze zdzczr zdztze zdztzr zsg) (i := 1) (off := 1) rfl (by simp [atP, cellsB_length, hzdzb.len, hzdzczr.len, hzdztzr.len, hzsg.len, vtC_length zdzs zdzi zdzb zdzcze zdzczr zdztze zdztzr hzdzb.len hzdzczr.len hzdztzr.len]))) _ Tryd.underlying29 rfl (by rw [vtC_length zdzs zdzi zdzb zdzcze zdzczr zdztze zdztzr hzdzb.len hzdzczr.len hzdztzr.len]; kernel_rfl)) rfl
    | 5, _ =>
      cases ho
      have e0 : aq.tmps.getD 7 undef = .agg (vtC zdzs zdzi zdzb zdzcze zdzczr zdztze zdztzr).toArray := hdep 4 7 rfl (by kernel_rfl)
      refine flow_fun 41 _ _ rfl (fun _ _ => by simp [go_sem]) #[.agg (vtC zdzs zdzi zdzb zdzcze zdzczr zdztze zdztzr).toArray] (by rw [show (#[Operand.tmp 7] : Array Operand).map aq.eval = #[aq.tmps.getD 7 undef] from by simp [Act.eval], e0]) ?_
      refine (vtV_any zdzs zdzi zdzb zdzcze zdzczr zdztze zdztzr hzdzs hzdzi hzdzb hzdzcze hzdzczr hzdztze hzdztzr wq).mono ?_
      rintro x w' ⟨v, rfl, hv, q⟩
      exact ⟨v, rfl, hv, q⟩
    | 6, _ =>
      cases ho
      have e1 : aq.tmps.getD 1 undef = .pointer (some ⟨w.heap.size, 0, none⟩) := hk 1 (by decide)
      exact flow_value _ (run_fieldAt 31 (.tmp 1) 2 rfl _ _ e1 (by kernel_rfl)) rfl
    | 7, _ =>
      cases ho
      have e0 : aq.tmps.getD 9 undef = .pointer (some ⟨w.heap.size, 101, none⟩) := hdep 6 9 rfl (by kernel_rfl)
      exact flow_value _ (run_mid 25 (.tmp 9) rfl w.heap.size 101 e0 (cellsB zsg) ((HX.out.keep (hcB hc)).range 101 (cellsB zsg) (seg (ps := atP zbo zbc zbl zdzs zdzi zdzb zdzcze zdzczr zdztze zdztzr zsg) (i := 2) (off := 101) rfl (by simp [atP, cellsB_length, hzdzb.len, hzdzczr.len, hzdztzr.len, hzsg.len, vtC_length zdzs zdzi zdzb zdzcze zdzczr zdztze zdztzr hzdzb.len hzdzczr.len hzdztzr.len]))) _ Tryd.und25 rfl (by rw [cellsB_length, hzsg.len]; exact Tryd.size25)) rfl
    | 8, _ =>
      cases ho
      have e0 : aq.tmps.getD 10 undef = .agg (nums .u8 zsg) := hdep 7 10 rfl (by kernel_rfl)
      refine flow_fun 42 _ _ rfl (fun _ _ => by simp [go_sem]) #[.agg (nums .u8 zsg)] (by rw [show (#[Operand.tmp 10] : Array Operand).map aq.eval = #[aq.tmps.getD 10 undef] from by simp [Act.eval], e0]) ?_
      refine (r_any zsg hzsg.len wq).mono ?_
      rintro x w' ⟨rfl, q⟩
      exact ⟨_, rfl, IsV.leaf w' (by decide) hzsg.len hzsg.byte, q⟩
    | 9, _ =>
      cases ho
      obtain ⟨sb0, sk0, e0, h0_⟩ := hdep 2 5 rfl (by kernel_rfl)
      obtain ⟨sb1, sk1, e1, h1_⟩ := hdep 5 8 rfl (by kernel_rfl)
      obtain ⟨sb2, sk2, e2, h2_⟩ := hdep 8 11 rfl (by kernel_rfl)
      refine flow_rowsB 37 39 3 35 _ rfl Tryd.underlying37 valInfo [valL 0 (zeros 32) sb0 sk0, valL 0 (zeros 32) sb1 sk1, valL 0 zsg sb2 sk2] [.tmp 5, .tmp 8, .tmp 11] rfl (by rw [show [Operand.tmp 5, Operand.tmp 8, Operand.tmp 11].map aq.eval = [aq.tmps.getD 5 undef, aq.tmps.getD 8 undef, aq.tmps.getD 11 undef] from rfl, e0, e1, e2]; rfl) (by simp [valL_length, zeros32, hzsg.len]) rfl (by decide) (by decide) (by decide) (fun w' h hb => ⟨_, rfl, ksAt_of h [(.mk 0 (zeros 32) zbl [], sb0, sk0), (vtV zdzs zdzi zdzb zdzcze zdzczr zdztze zdztzr, sb1, sk1), (.mk 0 zsg [] [], sb2, sk2)] 0 (fun j v hj => by rw [Nat.zero_add]; exact hj) (fun x hx => ?_)⟩)
      simp only [List.mem_cons, List.not_mem_nil, or_false] at hx
      rcases hx with rfl | rfl | rfl
      · exact VAt.keep hb _ h0_
      · exact VAt.keep hb _ h1_
      · exact VAt.keep hb _ h2_
    | 10, _ =>
      cases ho
      obtain ⟨b, e6, h6⟩ := hdep 9 12 rfl (by kernel_rfl)
      refine flow_fun 40 _ _ rfl (fun _ _ => by simp [go_sem]) #[.slice (some ⟨b, 0, none⟩) 3 3] (by rw [show (#[Operand.tmp 12] : Array Operand).map aq.eval = #[aq.tmps.getD 12 undef] from by simp [Act.eval], e6]) ?_
      refine (all_any (some ⟨b, 0, none⟩) 3 3 wq).mono ?_
      rintro x w' ⟨rfl, q⟩
      exact ⟨_, rfl, ⟨b, rfl, KsAt.keep q _ h6⟩, q⟩
    | (k + 11), hk => exact absurd hk (by omega)
  · intro o h11 ho
    omega
  intro vf w8 hc hv
  have e7 : ∃ b, vf 10 = _ ∧ KsAt w8 _ b 0 := hv 10 13 (by decide) rfl
  obtain ⟨b, e7, h7⟩ := e7
  have B8 := HB.out.trans ((hcB hc).mono (by omega))
  have H8v := HY.out.keep (hcB hc)
  have s8 := (hcB hc).size
  clear hv hc
  simp only [List.take_succ_cons, List.take_zero, List.drop_succ_cons, List.drop_zero, putAll, Act.put, List.setIfInBounds_toArray, List.set_cons_succ, List.set_cons_zero]
  rw [e7]
  have HB8 := hid B8
  have HK := hid h7
  clear B8 h7 e7 HB
  go_wp2_with ((with_reducible refine at_list' ?_); first
    | (refine wpList_store_c Tryd.ty39 rfl (.tmp 2) (.tmp 13) rfl (w.heap.size + 1) (valL 0 (zeros 32) nilS (.slice (some ⟨b, 0, none⟩) 3 3)) rfl rfl rfl (valL_oneC _ _ _ _ trivial trivial) _ H8v rfl ?_; intro w9 H9 O9))
  refine bodyPost_ret (results_c1 Tryd.ty39 rfl _ w9 (w.heap.size + 1) _ rfl H9 rfl) rfl ⟨_, rfl, ⟨nilS, _, rfl, ?_⟩, below_only HB8.out O9 (by omega)⟩
  exact VAt.aside H8v rfl O9 (atV zbo zbc zbl zdzs zdzi zdzb zdzcze zdzczr zdztze zdztzr zsg) (atV_wide zbo zbc zbl zdzs zdzi zdzb zdzcze zdzczr zdztze zdztzr zsg) (isV_all (ks := [.mk 0 (zeros 32) zbl [], vtV zdzs zdzi zdzb zdzcze zdzczr zdztze zdztzr, .mk 0 zsg [] []]) rfl (by decide) HK.out)
end Go.Proofs.YthodofnebonpfaaDoor

/- Two roots compared. -/
namespace Go.Proofs.YthodofnebonpfaaDoor
open Go.RowKit
set_option linter.unusedVariables false
set_option linter.unusedSimpArgs false
set_option maxRecDepth 100000

theorem run_same_root {o : Oper} {a : Act} {w : World} (x y : Operand) (ho : o.op = .binOp .eql 25 x y 25) (r : List Nat) (hr : Rt r) (hx : a.eval x = .agg (nums .u8 r)) (hy : a.eval y = .agg (nums .u8 r)) : (execOp a.eval o).run Tryd.prog w = .ok (.value (.bool true)) w := by
  have h := eql_api r r hr.len hr.len hr.byte hr.byte w
  simp only [decide_true] at h
  unfold execOp
  simp only [ho, hx, hy]
  simp [go_sem, h]
end Go.Proofs.YthodofnebonpfaaDoor

/- RootAttestations answers true for every value. -/
namespace Go.Proofs.YthodofnebonpfaaDoor
open Go.RowKit Go.Shelf
set_option linter.unusedVariables false
set_option linter.unusedSimpArgs false
set_option maxRecDepth 100000

theorem atD_root (zbo : Option Addr) (zbc : Nat) (zbl : List Bool) (zdzs : Nat) (zdzi : Nat) (zdzb : List Nat) (zdzcze : Nat) (zdzczr : List Nat) (zdztze : Nat) (zdztzr : List Nat) (zsg : List Nat) : rootV atD (atV zbo zbc zbl zdzs zdzi zdzb zdzcze zdzczr zdztze zdztzr zsg) = atR zbo zbc zbl zdzs zdzi zdzb zdzcze zdzczr zdztze zdztzr zsg := by
  simp only [cpD, vtD, atD, cpV, vtV, atV, dBox, dNum, dRoot, dTruth, dBits, cpR, vtR, atR, rootV, rootsV]
  simp
theorem atD_ok (zbo : Option Addr) (zbc : Nat) (zbl : List Bool) (zdzs : Nat) (zdzi : Nat) (zdzb : List Nat) (zdzcze : Nat) (zdzczr : List Nat) (zdztze : Nat) (zdztzr : List Nat) (zsg : List Nat) (hzbn : zbl.length ≤ 500) : okR atD (atV zbo zbc zbl zdzs zdzi zdzb zdzcze zdzczr zdztze zdztzr zsg) := by
  simp [cpD, vtD, atD, cpV, vtV, atV, dBox, dNum, dRoot, dTruth, dBits, okR, okRs]
  omega
set_option maxHeartbeats 400000 in
theorem at_walk (zbo : Option Addr) (zbc : Nat) (zbl : List Bool) (zdzs : Nat) (zdzi : Nat) (zdzb : List Nat) (zdzcze : Nat) (zdzczr : List Nat) (zdztze : Nat) (zdztzr : List Nat) (zsg : List Nat) (hzdzs : zdzs < 18446744073709551616) (hzdzi : zdzi < 18446744073709551616) (hzdzb : Rt zdzb) (hzdzcze : zdzcze < 18446744073709551616) (hzdzczr : Rt zdzczr) (hzdztze : zdztze < 18446744073709551616) (hzdztzr : Rt zdztzr) (hzsg : Rt zsg) (w : World) (hT : Tabs w) (hzb : IsT w (.slice zbo zbl.length zbc) zbl) : Calls Tryd.prog 3 #[.agg (atC zbo zbc zbl zdzs zdzi zdzb zdzcze zdzczr zdztze zdztzr zsg).toArray] w fun e w' => e = .returned (.bool true) ∧ Below w.heap.size w w' := by
  have hR1 := atR_rt zbo zbc zbl zdzs zdzi zdzb zdzcze zdzczr zdztze zdztzr zsg hzdzb hzdzczr hzdztzr hzsg
  have HE := hid (atD_root zbo zbc zbl zdzs zdzi zdzb zdzcze zdzczr zdztze zdztzr zsg)
  obtain ⟨R1, HR⟩ : ∃ R, Same (atR zbo zbc zbl zdzs zdzi zdzb zdzcze zdzczr zdztze zdztzr zsg) R := ⟨_, ⟨rfl⟩⟩
  rw [HR.out] at hR1 HE
  have HE2 : Same (rootV atD (atV zbo zbc zbl zdzs zdzi zdzb zdzcze zdzczr zdztze zdztzr zsg)) R1 := ⟨HE.out⟩
  clear HE
  have HE := HE2
  clear HE2
  go_enter Tryd.func3, Tryd.ntmps3
  go_wp2_with ((with_reducible refine at_list' ?_); first
    | (refine wpList_box_c rfl 1 rfl (.tmp 0) rfl (atC zbo zbc zbl zdzs zdzi zdzb zdzcze zdzczr zdztze zdztzr zsg) rfl ?_; intro w1 H1 B1 S1))
  refine (awake_any w1 (hT.keep B1)).mono ?_
  rintro e w2 ⟨rfl, B2⟩
  have HX := hid (H1.keep B2)
  have HB := hid (B1.trans (B2.mono B1.size))
  have HT := hid (hT.keep HB.out)
  clear H1 B1 S1 B2
  have HC0 := hid (HX.out.cell (j := 0) (v := .slice zbo zbl.length zbc) (seg (ps := atP zbo zbc zbl zdzs zdzi zdzb zdzcze zdzczr zdztze zdztzr zsg) (i := 0) (off := 0) rfl rfl 0 _ rfl))
  by_cases h500 : (500 : Int) < ((zbl.length : Nat) : Int)
  · go_wp2_with ((with_reducible refine at_list' ?_); first | (refine wpList_run rfl _ (run_cell 22 (.tmp 5) rfl ⟨w.heap.size, 0, none⟩ rfl _ HC0.out _ Tryd.underlying22 rfl) ?_))
    go_ret
    exact ⟨rfl, HB.out⟩
  have hzbn : zbl.length ≤ 500 := by omega
  have HO := hid (atD_ok zbo zbc zbl zdzs zdzi zdzb zdzcze zdzczr zdztze zdztzr zsg hzbn)
  go_wp2_with ((with_reducible refine at_list' ?_); first | (refine wpList_run rfl _ (run_cell 22 (.tmp 5) rfl ⟨w.heap.size, 0, none⟩ rfl _ HC0.out _ Tryd.underlying22 rfl) ?_))
  try simp only [Act.put, List.setIfInBounds_toArray, List.set_cons_succ, List.set_cons_zero]
  refine wp_region_flow 7 7 (fun i v wq => match i with
    | 0 => v = .agg (atC zbo zbc zbl zdzs zdzi zdzb zdzcze zdzczr zdztze zdztzr zsg).toArray
    | 1 => v = .agg (nums .u8 R1)
    | 2 => ∃ p, v = .pointer (some ⟨p, 0, none⟩) ∧ DAt wq atD p
    | 3 => v = .agg (atC zbo zbc zbl zdzs zdzi zdzb zdzcze zdzczr zdztze zdztzr zsg).toArray
    | 4 => IsV wq v (atV zbo zbc zbl zdzs zdzi zdzb zdzcze zdzczr zdztze zdztzr zsg)
    | 5 => v = .agg (nums .u8 R1)
    | _ => v = .bool true) (by kernel_rfl) (by kernel_rfl) (fun _ d _ _ _ h => by cases d <;> exact h) ?_ ?_ ?_ ?_
  · intro i v wq wq' hi hv hb
    match i, hi with
    | 0, _ => exact hv
    | 1, _ => exact hv
    | 2, _ => obtain ⟨p, h1, h2⟩ := hv; exact ⟨p, h1, DAt.keep hb _ h2⟩
    | 3, _ => exact hv
    | 4, _ => exact hv.keep hb
    | 5, _ => exact hv
    | 6, _ => exact hv
    | (k + 7), hk => exact absurd hk (by omega)
  · intro i o hi ho aq wq hc hk hdep
    match i, hi with
    | 0, _ =>
      cases ho
      have e1 : aq.tmps.getD 1 undef = .pointer (some ⟨w.heap.size, 0, none⟩) := hk 1 (by decide)
      exact flow_value _ (run_mid 31 (.tmp 1) rfl w.heap.size 0 e1 (atC zbo zbc zbl zdzs zdzi zdzb zdzcze zdzczr zdztze zdztzr zsg) ((HX.out.keep (hcB hc)).range 0 (atC zbo zbc zbl zdzs zdzi zdzb zdzcze zdzczr zdztze zdztzr zsg) (fun j v hv => by rw [Nat.zero_add]; exact hv)) _ Tryd.underlying31 rfl (by rw [atC_length zbo zbc zbl zdzs zdzi zdzb zdzcze zdzczr zdztze zdztzr zsg hzdzb.len hzdzczr.len hzdztzr.len hzsg.len]; kernel_rfl)) rfl
    | 1, _ =>
      cases ho
      have e0 : aq.tmps.getD 9 undef = .agg (atC zbo zbc zbl zdzs zdzi zdzb zdzcze zdzczr zdztze zdztzr zsg).toArray := hdep 0 9 rfl (by kernel_rfl)
      refine flow_fun 8 _ _ rfl (fun _ _ => by simp [go_sem]) #[.agg (atC zbo zbc zbl zdzs zdzi zdzb zdzcze zdzczr zdztze zdztzr zsg).toArray] (by rw [show (#[Operand.tmp 9] : Array Operand).map aq.eval = #[aq.tmps.getD 9 undef] from by simp [Act.eval], e0]) ?_
      refine (atR_any zbo zbc zbl zdzs zdzi zdzb zdzcze zdzczr zdztze zdztzr zsg hzdzs hzdzi hzdzb hzdzcze hzdzczr hzdztze hzdztzr hzsg wq (HT.out.keep (hcB hc)) (hzb.keep (HB.out.trans ((hcB hc).mono HB.out.size))) hzbn).mono ?_
      rintro x w' ⟨rfl, q⟩
      exact ⟨_, rfl, (by rw [← HR.out]; rfl), q⟩
    | 2, _ =>
      cases ho
      refine flow_fun 10 _ _ rfl (fun _ _ => by simp [go_sem]) #[] (by simp) ?_
      refine (atD_any wq).mono ?_
      rintro x w' ⟨p, rfl, h1, q⟩
      exact ⟨_, rfl, ⟨p, rfl, h1⟩, q⟩
    | 3, _ =>
      cases ho
      have e1 : aq.tmps.getD 1 undef = .pointer (some ⟨w.heap.size, 0, none⟩) := hk 1 (by decide)
      exact flow_value _ (run_mid 31 (.tmp 1) rfl w.heap.size 0 e1 (atC zbo zbc zbl zdzs zdzi zdzb zdzcze zdzczr zdztze zdztzr zsg) ((HX.out.keep (hcB hc)).range 0 (atC zbo zbc zbl zdzs zdzi zdzb zdzcze zdzczr zdztze zdztzr zsg) (fun j v hv => by rw [Nat.zero_add]; exact hv)) _ Tryd.underlying31 rfl (by rw [atC_length zbo zbc zbl zdzs zdzi zdzb zdzcze zdzczr zdztze zdztzr zsg hzdzb.len hzdzczr.len hzdztzr.len hzsg.len]; kernel_rfl)) rfl
    | 4, _ =>
      cases ho
      have e0 : aq.tmps.getD 12 undef = .agg (atC zbo zbc zbl zdzs zdzi zdzb zdzcze zdzczr zdztze zdztzr zsg).toArray := hdep 3 12 rfl (by kernel_rfl)
      refine flow_fun 11 _ _ rfl (fun _ _ => by simp [go_sem]) #[.agg (atC zbo zbc zbl zdzs zdzi zdzb zdzcze zdzczr zdztze zdztzr zsg).toArray] (by rw [show (#[Operand.tmp 12] : Array Operand).map aq.eval = #[aq.tmps.getD 12 undef] from by simp [Act.eval], e0]) ?_
      refine (atV_any zbo zbc zbl zdzs zdzi zdzb zdzcze zdzczr zdztze zdztzr zsg hzdzs hzdzi hzdzb hzdzcze hzdzczr hzdztze hzdztzr hzsg wq (hzb.keep (HB.out.trans ((hcB hc).mono HB.out.size))) hzbn).mono ?_
      rintro x w' ⟨v, rfl, h1, q⟩
      exact ⟨v, rfl, h1, q⟩
    | 5, _ =>
      cases ho
      obtain ⟨p, e0, h0⟩ := hdep 2 11 rfl (by kernel_rfl)
      have h1 : IsV wq (aq.tmps.getD 13 undef) (atV zbo zbc zbl zdzs zdzi zdzb zdzcze zdzczr zdztze zdztzr zsg) := hdep 4 13 rfl (by kernel_rfl)
      refine flow_fun 9 _ _ rfl (fun _ _ => by simp [go_sem]) #[.pointer (some ⟨p, 0, none⟩), aq.tmps.getD 13 undef] (by rw [show (#[Operand.tmp 11, Operand.tmp 13] : Array Operand).map aq.eval = #[aq.tmps.getD 11 undef, aq.tmps.getD 13 undef] from by simp [Act.eval], e0]) ?_
      refine (rroot_any atD (atV zbo zbc zbl zdzs zdzi zdzb zdzcze zdzczr zdztze zdztzr zsg) p _ wq HO.out h0 h1).mono ?_
      rintro x w' ⟨rfl, q⟩
      exact ⟨_, rfl, (by rw [HE.out]; rfl), q⟩
    | 6, _ =>
      cases ho
      have e0 : aq.tmps.getD 10 undef = .agg (nums .u8 R1) := hdep 1 10 rfl (by kernel_rfl)
      have e1 : aq.tmps.getD 14 undef = .agg (nums .u8 R1) := hdep 5 14 rfl (by kernel_rfl)
      exact flow_value _ (run_same_root (.tmp 10) (.tmp 14) rfl R1 hR1 e0 e1) rfl
    | (k + 7), hk => exact absurd hk (by omega)
  · intro o h7 ho
    omega
  intro vf w8 hc hv
  have e7 : vf 6 = _ := hv 6 15 (by decide) rfl
  have B8 := HB.out.trans ((hcB hc).mono HB.out.size)
  clear hv hc
  simp only [List.take_succ_cons, List.take_zero, List.drop_succ_cons, List.drop_zero, putAll, Act.put, List.setIfInBounds_toArray, List.set_cons_succ, List.set_cons_zero]
  rw [e7]
  have HB8 := hid B8
  clear B8 e7 HB HX HT
  go_wp2
  go_ret
  exact ⟨rfl, HB8.out⟩
end Go.Proofs.YthodofnebonpfaaDoor

/- From the rows' condition on the two tables to what the contracts ask of them. -/
namespace Go.Proofs.YthodofnebonpfaaDoor
open Go.RowKit
set_option linter.unusedVariables false
set_option maxRecDepth 100000

def laidTwo : List (String × DataW Unit) := [("keystone/digest.starts", Rows.laid_keystone_digest_starts), ("keystone/digest.rounds", Rows.laid_keystone_digest_rounds)]
theorem gStarts : Tryd.prog.globalNamed "keystone/digest.starts" = some 0 := by kernel_rfl
theorem gRounds : Tryd.prog.globalNamed "keystone/digest.rounds" = some 1 := by kernel_rfl
theorem tStarts : (Tryd.prog.globals[0]?).map (·.type) = some 110 := by kernel_rfl
theorem tRounds : (Tryd.prog.globals[1]?).map (·.type) = some 120 := by kernel_rfl
theorem dStarts {H : Type} : (Rows.laid_keystone_digest_starts : DataW H) = Lib.tabData .u32 (startNums.map fun n : Nat => (n : Int)) := rfl
theorem dRounds {H : Type} : (Rows.laid_keystone_digest_rounds : DataW H) = Lib.tabData .u32 (kNums.map fun n : Nat => (n : Int)) := rfl

theorem tabs_of_laid {W : World} (h : laidMetH Tryd.prog laidTwo W) : Tabs W := by
  rw [MakeChecks.laidMetH_plain _ _ _ (by kernel_rfl)] at h
  have h1 := Lib.laidMet.reads h (n := "keystone/digest.starts") (d := Rows.laid_keystone_digest_starts) (.head _)
  have h2 := Lib.laidMet.reads h (n := "keystone/digest.rounds") (d := Rows.laid_keystone_digest_rounds) (.tail _ (.head _))
  refine ⟨fun i hi => ?_, fun i hi => ?_⟩
  · obtain ⟨g, t, cs, fuel, p, hg, hty, hvar, hd⟩ := h1
    obtain rfl := Option.some.inj (gStarts.symm.trans hg)
    obtain rfl := Option.some.inj (tStarts.symm.trans hty)
    rw [dStarts] at hd
    have hcs := Lib.cells_of_tab Tryd.underlying110 Tryd.underlying109 (by kernel_rfl) (by kernel_rfl) hd
    rw [World.var?_cell hg hvar i, ← Array.getElem?_toList, hcs, List.map_map, List.getElem?_map]
    have hl : i < startNums.length := hi
    rw [List.getElem?_eq_getElem hl]
    simp [hl]
  · obtain ⟨g, t, cs, fuel, p, hg, hty, hvar, hd⟩ := h2
    obtain rfl := Option.some.inj (gRounds.symm.trans hg)
    obtain rfl := Option.some.inj (tRounds.symm.trans hty)
    rw [dRounds] at hd
    have hcs := Lib.cells_of_tab Tryd.underlying120 Tryd.underlying109 (by kernel_rfl) (by kernel_rfl) hd
    rw [World.var?_cell hg hvar i, ← Array.getElem?_toList, hcs, List.map_map, List.getElem?_map]
    have hl : i < kNums.length := hi
    rw [List.getElem?_eq_getElem hl]
    simp [hl]
end Go.Proofs.YthodofnebonpfaaDoor

/- The root of a struct (Pending), by the program. -/
namespace Go.Proofs.YthodofnebonpfaaDoor
open Go.RowKit Go.Shelf
set_option linter.unusedVariables false
set_option linter.unusedSimpArgs false
set_option maxRecDepth 100000

def pdP (zbo : Option Addr) (zbc : Nat) (zbl : List Bool) (zdzs : Nat) (zdzi : Nat) (zdzb : List Nat) (zdzcze : Nat) (zdzczr : List Nat) (zdztze : Nat) (zdztzr : List Nat) (zde : Nat) (zpr : Nat) : List (List Value) := [[.slice zbo zbl.length zbc], vtC zdzs zdzi zdzb zdzcze zdzczr zdztze zdztzr, [.int .u64 (zde : Nat)], [.int .u64 (zpr : Nat)]]
def pdC (zbo : Option Addr) (zbc : Nat) (zbl : List Bool) (zdzs : Nat) (zdzi : Nat) (zdzb : List Nat) (zdzcze : Nat) (zdzczr : List Nat) (zdztze : Nat) (zdztzr : List Nat) (zde : Nat) (zpr : Nat) : List Value := (pdP zbo zbc zbl zdzs zdzi zdzb zdzcze zdzczr zdztze zdztzr zde zpr).flatten
theorem pdC_length (zbo : Option Addr) (zbc : Nat) (zbl : List Bool) (zdzs : Nat) (zdzi : Nat) (zdzb : List Nat) (zdzcze : Nat) (zdzczr : List Nat) (zdztze : Nat) (zdztzr : List Nat) (zde : Nat) (zpr : Nat) (hzdzb : zdzb.length = 32) (hzdzczr : zdzczr.length = 32) (hzdztzr : zdztzr.length = 32) : (pdC zbo zbc zbl zdzs zdzi zdzb zdzcze zdzczr zdztze zdztzr zde zpr).length = 103 := by simp [pdC, pdP, cellsB_length, hzdzb, hzdzczr, hzdztzr, vtC_length zdzs zdzi zdzb zdzcze zdzczr zdztze zdztzr hzdzb hzdzczr hzdztzr]
def pdR (zbo : Option Addr) (zbc : Nat) (zbl : List Bool) (zdzs : Nat) (zdzi : Nat) (zdzb : List Nat) (zdzcze : Nat) (zdzczr : List Nat) (zdztze : Nat) (zdztzr : List Nat) (zde : Nat) (zpr : Nat) : List Nat := fullR (depth (([bitsR 32 zbl, vtR zdzs zdzi zdzb zdzcze zdzczr zdztze zdztzr, wUp zde 8, wUp zpr 8] : List (List Nat)).length : Nat)) [bitsR 32 zbl, vtR zdzs zdzi zdzb zdzcze zdzczr zdztze zdztzr, wUp zde 8, wUp zpr 8]
theorem pdR_rt (zbo : Option Addr) (zbc : Nat) (zbl : List Bool) (zdzs : Nat) (zdzi : Nat) (zdzb : List Nat) (zdzcze : Nat) (zdzczr : List Nat) (zdztze : Nat) (zdztzr : List Nat) (zde : Nat) (zpr : Nat) (hzdzb : Rt zdzb) (hzdzczr : Rt zdzczr) (hzdztzr : Rt zdztzr) : Rt (pdR zbo zbc zbl zdzs zdzi zdzb zdzcze zdzczr zdztze zdztzr zde zpr) := full_rt _ _ (Rts.more (bitsR_rt 32 zbl) (Rts.more (vtR_rt zdzs zdzi zdzb zdzcze zdzczr zdztze zdztzr hzdzb hzdzczr hzdztzr) (Rts.more (wUp_rt zde 8) (Rts.more (wUp_rt zpr 8) Rts.nil))))
set_option maxHeartbeats 2000000 in
theorem pdR_any (zbo : Option Addr) (zbc : Nat) (zbl : List Bool) (zdzs : Nat) (zdzi : Nat) (zdzb : List Nat) (zdzcze : Nat) (zdzczr : List Nat) (zdztze : Nat) (zdztzr : List Nat) (zde : Nat) (zpr : Nat) (hzdzs : zdzs < 18446744073709551616) (hzdzi : zdzi < 18446744073709551616) (hzdzb : Rt zdzb) (hzdzcze : zdzcze < 18446744073709551616) (hzdzczr : Rt zdzczr) (hzdztze : zdztze < 18446744073709551616) (hzdztzr : Rt zdztzr) (hzde : zde < 18446744073709551616) (hzpr : zpr < 18446744073709551616) (w : World) (hT : Tabs w) (hzb : IsT w (.slice zbo zbl.length zbc) zbl) (hzbn : zbl.length ≤ 500) :
    Calls Tryd.prog 12 #[.agg (pdC zbo zbc zbl zdzs zdzi zdzb zdzcze zdzczr zdztze zdztzr zde zpr).toArray] w fun x w' => x = .returned (.agg (nums .u8 (pdR zbo zbc zbl zdzs zdzi zdzb zdzcze zdzczr zdztze zdztzr zde zpr))) ∧ Below w.heap.size w w' := by
  have hfr := pdR_rt zbo zbc zbl zdzs zdzi zdzb zdzcze zdzczr zdztze zdztzr zde zpr hzdzb hzdzczr hzdztzr
  obtain ⟨W, HW⟩ : ∃ W, Hid (pdR zbo zbc zbl zdzs zdzi zdzb zdzcze zdzczr zdztze zdztzr zde zpr = W) := ⟨_, hid rfl⟩
  rw [HW.out] at hfr ⊢
  go_enter Tryd.func12, Tryd.ntmps12
  go_wp2_with ((with_reducible refine at_list' ?_); first
    | (refine wpList_box_c rfl 1 rfl (.tmp 0) rfl (pdC zbo zbc zbl zdzs zdzi zdzb zdzcze zdzczr zdztze zdztzr zde zpr) rfl ?_; intro w1 H1 B1 S1)
    | (refine wpList_alloc_has rfl 2 rfl 25 rfl .u8 32 Tryd.zero25 ?_; intro w2 H2 B2 S2; rw [S1] at H2 S2; rw [S1]))
  have HX := hid (H1.keep B2)
  have HY := hid H2
  have HB := hid (B1.trans (B2.mono (by omega)))
  have HT := hid (hT.keep HB.out)
  have s2 : w2.heap.size = w.heap.size + 2 := by omega
  clear H1 B1 S1 H2 B2 S2
  try simp only [Act.put, List.setIfInBounds_toArray, List.set_cons_succ, List.set_cons_zero]
  refine wp_region_flow 14 14 (fun i v wq => match i with
    | 0 => v = .pointer (some ⟨w.heap.size, 0, none⟩)
    | 1 => v = .slice zbo zbl.length zbc
    | 2 => v = .agg (nums .u8 (bitsR 32 zbl))
    | 3 => v = .pointer (some ⟨w.heap.size, 1, none⟩)
    | 4 => v = .agg (vtC zdzs zdzi zdzb zdzcze zdzczr zdztze zdztzr).toArray
    | 5 => v = .agg (nums .u8 (vtR zdzs zdzi zdzb zdzcze zdzczr zdztze zdztzr))
    | 6 => v = .pointer (some ⟨w.heap.size, 101, none⟩)
    | 7 => v = .int .u64 (zde : Nat)
    | 8 => v = .agg (nums .u8 (wUp zde 8))
    | 9 => v = .pointer (some ⟨w.heap.size, 102, none⟩)
    | 10 => v = .int .u64 (zpr : Nat)
    | 11 => v = .agg (nums .u8 (wUp zpr 8))
    | 12 => ∃ b, v = .slice (some ⟨b, 0, none⟩) 4 4 ∧ RootsAt wq (some ⟨b, 0, none⟩) [bitsR 32 zbl, vtR zdzs zdzi zdzb zdzcze zdzczr zdztze zdztzr, wUp zde 8, wUp zpr 8]
    | _ => v = .agg (nums .u8 W)) (by kernel_rfl) (by kernel_rfl) (fun _ d _ _ _ h => by cases d <;> exact h) ?_ ?_ ?_ ?_
  · intro i v wq wq' hi hv hb
    match i, hi with
    | 0, _ => exact hv
    | 1, _ => exact hv
    | 2, _ => exact hv
    | 3, _ => exact hv
    | 4, _ => exact hv
    | 5, _ => exact hv
    | 6, _ => exact hv
    | 7, _ => exact hv
    | 8, _ => exact hv
    | 9, _ => exact hv
    | 10, _ => exact hv
    | 11, _ => exact hv
    | 12, _ => obtain ⟨b, h1, h2⟩ := hv; exact ⟨b, h1, h2.keep hb⟩
    | 13, _ => exact hv
    | (k + 14), hk => exact absurd hk (by omega)
  · intro i o hi ho aq wq hc hk hdep
    match i, hi with
    | 0, _ =>
      cases ho
      have e1 : aq.tmps.getD 1 undef = .pointer (some ⟨w.heap.size, 0, none⟩) := hk 1 (by decide)
      exact flow_value _ (run_fieldAt 43 (.tmp 1) 0 rfl _ _ e1 (by kernel_rfl)) rfl
    | 1, _ =>
      cases ho
      have e0 : aq.tmps.getD 3 undef = .pointer (some ⟨w.heap.size, 0, none⟩) := hdep 0 3 rfl (by kernel_rfl)
      exact flow_value _ (run_cell 22 (.tmp 3) rfl _ e0 _ ((HX.out.keep (hcB hc)).cell (seg (ps := pdP zbo zbc zbl zdzs zdzi zdzb zdzcze zdzczr zdztze zdztzr zde zpr) (i := 0) (off := 0) rfl (by simp [pdP, cellsB_length, hzdzb.len, hzdzczr.len, hzdztzr.len, vtC_length zdzs zdzi zdzb zdzcze zdzczr zdztze zdztzr hzdzb.len hzdzczr.len hzdztzr.len]) 0 _ rfl)) _ Tryd.underlying22 rfl) rfl
    | 2, _ =>
      cases ho
      have e0 : aq.tmps.getD 4 undef = .slice zbo zbl.length zbc := hdep 1 4 rfl (by kernel_rfl)
      refine flow_fun 27 _ _ rfl (fun _ _ => by simp [go_sem]) #[.slice zbo zbl.length zbc] (by rw [show (#[Operand.tmp 4] : Array Operand).map aq.eval = #[aq.tmps.getD 4 undef] from by simp [Act.eval], e0]) ?_
      refine (bits_any (.slice zbo zbl.length zbc) zbl wq (HT.out.keep (hcB hc)) (hzb.keep (HB.out.trans ((hcB hc).mono HB.out.size))) hzbn).mono ?_
      rintro x w' ⟨rfl, q⟩
      exact ⟨_, rfl, rfl, q⟩
    | 3, _ =>
      cases ho
      have e1 : aq.tmps.getD 1 undef = .pointer (some ⟨w.heap.size, 0, none⟩) := hk 1 (by decide)
      exact flow_value _ (run_fieldAt 43 (.tmp 1) 1 rfl _ _ e1 (by kernel_rfl)) rfl
    | 4, _ =>
      cases ho
      have e0 : aq.tmps.getD 6 undef = .pointer (some ⟨w.heap.size, 1, none⟩) := hdep 3 6 rfl (by kernel_rfl)
      exact flow_value _ (run_mid 29 (.tmp 6) rfl w.heap.size 1 e0 (vtC zdzs zdzi zdzb zdzcze zdzczr zdztze zdztzr) ((HX.out.keep (hcB hc)).range 1 (vtC zdzs zdzi zdzb zdzcze zdzczr zdztze zdztzr) (seg (ps := pdP zbo zbc zbl zdzs zdzi zdzb zdzcze zdzczr zdztze zdztzr zde zpr) (i := 1) (off := 1) rfl (by simp [pdP, cellsB_length, hzdzb.len, hzdzczr.len, hzdztzr.len, vtC_length zdzs zdzi zdzb zdzcze zdzczr zdztze zdztzr hzdzb.len hzdzczr.len hzdztzr.len]))) _ Tryd.underlying29 rfl (by rw [vtC_length zdzs zdzi zdzb zdzcze zdzczr zdztze zdztzr hzdzb.len hzdzczr.len hzdztzr.len]; kernel_rfl)) rfl
    | 5, _ =>
      cases ho
      have e0 : aq.tmps.getD 7 undef = .agg (vtC zdzs zdzi zdzb zdzcze zdzczr zdztze zdztzr).toArray := hdep 4 7 rfl (by kernel_rfl)
      refine flow_fun 28 _ _ rfl (fun _ _ => by simp [go_sem]) #[.agg (vtC zdzs zdzi zdzb zdzcze zdzczr zdztze zdztzr).toArray] (by rw [show (#[Operand.tmp 7] : Array Operand).map aq.eval = #[aq.tmps.getD 7 undef] from by simp [Act.eval], e0]) ?_
      refine (vtR_any zdzs zdzi zdzb zdzcze zdzczr zdztze zdztzr hzdzs hzdzi hzdzb hzdzcze hzdzczr hzdztze hzdztzr wq (HT.out.keep (hcB hc))).mono ?_
      rintro x w' ⟨rfl, q⟩
      exact ⟨_, rfl, rfl, q⟩
    | 6, _ =>
      cases ho
      have e1 : aq.tmps.getD 1 undef = .pointer (some ⟨w.heap.size, 0, none⟩) := hk 1 (by decide)
      exact flow_value _ (run_fieldAt 43 (.tmp 1) 2 rfl _ _ e1 (by kernel_rfl)) rfl
    | 7, _ =>
      cases ho
      have e0 : aq.tmps.getD 9 undef = .pointer (some ⟨w.heap.size, 101, none⟩) := hdep 6 9 rfl (by kernel_rfl)
      exact flow_value _ (run_cell 23 (.tmp 9) rfl _ e0 _ ((HX.out.keep (hcB hc)).cell (seg (ps := pdP zbo zbc zbl zdzs zdzi zdzb zdzcze zdzczr zdztze zdztzr zde zpr) (i := 2) (off := 101) rfl (by simp [pdP, cellsB_length, hzdzb.len, hzdzczr.len, hzdztzr.len, vtC_length zdzs zdzi zdzb zdzcze zdzczr zdztze zdztzr hzdzb.len hzdzczr.len hzdztzr.len]) 0 _ rfl)) _ Tryd.underlying23 rfl) rfl
    | 8, _ =>
      cases ho
      have e0 : aq.tmps.getD 10 undef = .int .u64 (zde : Nat) := hdep 7 10 rfl (by kernel_rfl)
      refine flow_fun 43 _ _ rfl (fun _ _ => by simp [go_sem]) #[.int .u64 (zde : Nat)] (by rw [show (#[Operand.tmp 10] : Array Operand).map aq.eval = #[aq.tmps.getD 10 undef] from by simp [Act.eval], e0]) ?_
      refine (number_any zde hzde wq).mono ?_
      rintro x w' ⟨rfl, q⟩
      exact ⟨_, rfl, rfl, q⟩
    | 9, _ =>
      cases ho
      have e1 : aq.tmps.getD 1 undef = .pointer (some ⟨w.heap.size, 0, none⟩) := hk 1 (by decide)
      exact flow_value _ (run_fieldAt 43 (.tmp 1) 3 rfl _ _ e1 (by kernel_rfl)) rfl
    | 10, _ =>
      cases ho
      have e0 : aq.tmps.getD 12 undef = .pointer (some ⟨w.heap.size, 102, none⟩) := hdep 9 12 rfl (by kernel_rfl)
      exact flow_value _ (run_cell 23 (.tmp 12) rfl _ e0 _ ((HX.out.keep (hcB hc)).cell (seg (ps := pdP zbo zbc zbl zdzs zdzi zdzb zdzcze zdzczr zdztze zdztzr zde zpr) (i := 3) (off := 102) rfl (by simp [pdP, cellsB_length, hzdzb.len, hzdzczr.len, hzdztzr.len, vtC_length zdzs zdzi zdzb zdzcze zdzczr zdztze zdztzr hzdzb.len hzdzczr.len hzdztzr.len]) 0 _ rfl)) _ Tryd.underlying23 rfl) rfl
    | 11, _ =>
      cases ho
      have e0 : aq.tmps.getD 13 undef = .int .u64 (zpr : Nat) := hdep 10 13 rfl (by kernel_rfl)
      refine flow_fun 43 _ _ rfl (fun _ _ => by simp [go_sem]) #[.int .u64 (zpr : Nat)] (by rw [show (#[Operand.tmp 13] : Array Operand).map aq.eval = #[aq.tmps.getD 13 undef] from by simp [Act.eval], e0]) ?_
      refine (number_any zpr hzpr wq).mono ?_
      rintro x w' ⟨rfl, q⟩
      exact ⟨_, rfl, rfl, q⟩
    | 12, _ =>
      cases ho
      have e0 : aq.tmps.getD 5 undef = .agg (nums .u8 (bitsR 32 zbl)) := hdep 2 5 rfl (by kernel_rfl)
      have e1 : aq.tmps.getD 8 undef = .agg (nums .u8 (vtR zdzs zdzi zdzb zdzcze zdzczr zdztze zdztzr)) := hdep 5 8 rfl (by kernel_rfl)
      have e2 : aq.tmps.getD 11 undef = .agg (nums .u8 (wUp zde 8)) := hdep 8 11 rfl (by kernel_rfl)
      have e3 : aq.tmps.getD 14 undef = .agg (nums .u8 (wUp zpr 8)) := hdep 11 14 rfl (by kernel_rfl)
      exact flow_rows 92 25 4 32 _ rfl Tryd.underlying92 rootInfo6 [cellsB (bitsR 32 zbl), cellsB (vtR zdzs zdzi zdzb zdzcze zdzczr zdztze zdztzr), cellsB (wUp zde 8), cellsB (wUp zpr 8)] [.tmp 5, .tmp 8, .tmp 11, .tmp 14] rfl (by rw [show [Operand.tmp 5, Operand.tmp 8, Operand.tmp 11, Operand.tmp 14].map aq.eval = [aq.tmps.getD 5 undef, aq.tmps.getD 8 undef, aq.tmps.getD 11 undef, aq.tmps.getD 14 undef] from rfl, e0, e1, e2, e3]; rfl) (by simp [cellsB_length, ((bitsR_rt 32 zbl)).len, ((vtR_rt zdzs zdzi zdzb zdzcze zdzczr zdztze zdztzr hzdzb hzdzczr hzdztzr)).len, ((wUp_rt zde 8)).len, ((wUp_rt zpr 8)).len]) rfl (by decide) (by decide) (by decide) (fun w' h => ⟨_, rfl, hasC_roots (rs := [bitsR 32 zbl, vtR zdzs zdzi zdzb zdzcze zdzczr zdztze zdztzr, wUp zde 8, wUp zpr 8]) h (Rts.more (bitsR_rt 32 zbl) (Rts.more (vtR_rt zdzs zdzi zdzb zdzcze zdzczr zdztze zdztzr hzdzb hzdzczr hzdztzr) (Rts.more (wUp_rt zde 8) (Rts.more (wUp_rt zpr 8) Rts.nil))))⟩)
    | 13, _ =>
      cases ho
      obtain ⟨b, e6, h6⟩ := hdep 12 15 rfl (by kernel_rfl)
      refine flow_fun 26 _ _ rfl (fun _ _ => by simp [go_sem]) #[.slice (some ⟨b, 0, none⟩) 4 4] (by rw [show (#[Operand.tmp 15] : Array Operand).map aq.eval = #[aq.tmps.getD 15 undef] from by simp [Act.eval], e6]) ?_
      refine (cont_any (some ⟨b, 0, none⟩) 4 [bitsR 32 zbl, vtR zdzs zdzi zdzb zdzcze zdzczr zdztze zdztzr, wUp zde 8, wUp zpr 8] wq (HT.out.keep (hcB hc)) (Nat.le_refl _) (by decide) (by show 4 ≤ 1048576; decide) h6).mono ?_
      rintro x w' ⟨rfl, q⟩
      exact ⟨_, rfl, (by rw [← HW.out]; rfl), q⟩
    | (k + 14), hk => exact absurd hk (by omega)
  · intro o h14 ho
    omega
  intro vf w8 hc hv
  have e7 : vf 13 = _ := hv 13 16 (by decide) rfl
  have B8 := HB.out.trans ((hcB hc).mono (by omega))
  have H8v := HY.out.keep (hcB hc)
  have s8 := (hcB hc).size
  clear hv hc
  simp only [List.take_succ_cons, List.take_zero, List.drop_succ_cons, List.drop_zero, putAll, Act.put, List.setIfInBounds_toArray, List.set_cons_succ, List.set_cons_zero]
  rw [e7]
  have HB8 := hid B8
  clear B8 e7 HB
  go_wp2_with ((with_reducible refine at_list' ?_); first
    | (refine wpList_store_has rfl 25 (.tmp 2) (.tmp 16) rfl (w.heap.size + 1) .u8 W (zeros 32) rfl rfl 25 H8v (hfr.size _ Tryd.size25) (by rw [hfr.len, zeros_length]) ?_; intro w9 H9 O9))
  refine bodyPost_ret (results_has rfl _ _ (w.heap.size + 1) 25 .u8 W _ _ rfl H9 Tryd.und25 (hfr.size _ Tryd.size25)) rfl ?_
  exact ⟨rfl, below_only HB8.out O9 (by omega)⟩
end Go.Proofs.YthodofnebonpfaaDoor

/- Structs that came in by value. -/
namespace Go.Proofs.YthodofnebonpfaaDoor
open Go.RowKit Go.Deep Go.WideShapes
set_option linter.unusedVariables false
set_option linter.unusedSimpArgs false
set_option maxRecDepth 100000

theorem cellsRt : Tryd.prog.cellsOf 25 = 32 := by kernel_rfl
theorem cellsU8 : Tryd.prog.cellsOf 5 = 1 := by kernel_rfl
theorem cellsU64 : Tryd.prog.cellsOf 23 = 1 := by kernel_rfl
theorem cellsBo : Tryd.prog.cellsOf 4 = 1 := by kernel_rfl
/-- Parts of a list, one behind the other. -/
def cutAt {α : Type} (cs : List α) : Nat → List Nat → List (List α)
  | _, [] => []
  | o, k :: ks => (cs.drop o).take k :: cutAt cs (o + k) ks
theorem cut_flat {α : Type} (cs : List α) : ∀ (ks : List Nat) (o : Nat), o + ks.sum = cs.length → cs.drop o = (cutAt cs o ks).flatten := by
  intro ks
  induction ks with
  | nil => intro o h; simp at h; rw [h, List.drop_length]; rfl
  | cons k ks ih =>
    intro o h
    rw [cutAt, List.flatten_cons, ← ih (o + k) (by simp at h; omega), ← List.drop_drop, List.take_append_drop]
section
variable {H : Type} {enc : TypeId × Value → H} {W : World} {b0 : Nat} {sp : Nat → Bool} {held : Bool}
theorem root_of_trod {fuel : Nat} {cs : List Value} {x : DataW H × List MemPlace} (h : DataW.trod enc Tryd.prog W b0 sp held fuel 25 cs = some x) : ∃ r : List Nat, cs = (nums .u8 r).toList ∧ Rt r := by
  obtain ⟨xs, m, _, _, hl, hxs, hel⟩ := DataW.trod_array Tryd.und25 h
  rw [cellsRt] at hl
  have key : ∀ i (hi : i < cs.length), ∃ n : Nat, cs[i] = .int .u8 (n : Int) ∧ n < 256 := by
    intro i hi
    have h1 := hel i (by omega)
    rw [cellsU8, Nat.mul_one, List.getElem?_eq_getElem (by omega)] at h1
    obtain ⟨n, e1, _, hw⟩ := DataW.trod_int Tryd.underlying5 h1
    have hb := bounds_u8 hw
    have e2 : (cs.drop i).take 1 = [cs[i]] := by
      rw [List.drop_eq_getElem_cons hi, List.take_succ_cons, List.take_zero]
    have e3 : [cs[i]] = [Value.int .u8 n] := e2.symm.trans e1
    refine ⟨n.toNat, ?_, by omega⟩
    have e4 : cs[i] = Value.int .u8 n := by simpa using e3
    rw [e4]
    congr 1
    omega
  refine ⟨cs.map fun v => (intOf v).toNat, ?_, by simp [hl], ?_⟩
  · unfold nums
    apply List.ext_getElem
    · simp
    · intro i h1 h2
      obtain ⟨n, e, hn⟩ := key i h1
      simp [e, intOf]
  · intro z hz
    obtain ⟨v, hv, rfl⟩ := List.mem_map.1 hz
    obtain ⟨i, hi, rfl⟩ := List.mem_iff_getElem.1 hv
    obtain ⟨n, e, hn⟩ := key i hi
    simp [e, intOf, hn]
theorem num_of_trod {fuel : Nat} {cs : List Value} {x : DataW H × List MemPlace} (h : DataW.trod enc Tryd.prog W b0 sp held fuel 23 cs = some x) : ∃ n : Nat, cs = [.int .u64 (n : Nat)] ∧ n < 18446744073709551616 := by
  obtain ⟨i, e, _, hw⟩ := DataW.trod_int Tryd.underlying23 h
  have hb := bounds_u64 hw
  refine ⟨i.toNat, ?_, by omega⟩
  rw [e, Int.toNat_of_nonneg hb.1]
theorem bool_of_trod {fuel : Nat} {cs : List Value} {x : DataW H × List MemPlace} (h : DataW.trod enc Tryd.prog W b0 sp held fuel 4 cs = some x) : ∃ b : Bool, cs = [.bool b] := by
  obtain ⟨b, e, _⟩ := DataW.trod_bool Tryd.underlying4 h
  exact ⟨b, e⟩
theorem bits_of_trod {fuel : Nat} {cs : List Value} {x : DataW H × List MemPlace} (h : DataW.trod enc Tryd.prog W b0 (fun _ => true) held fuel 22 cs = some x) : ∃ (ao : Option Addr) (c : Nat) (l : List Bool), cs = [.slice ao l.length c] ∧ IsT W (.slice ao l.length c) l := by
  rcases open_bools Tryd.underlying22 Tryd.underlying4 cellsBo h with ⟨hcs, _⟩ | ⟨a, len, cap, B, hcs, _, hl, hm, _, hcell⟩
  · exact ⟨none, 0, [], hcs, none, 0, rfl, Nat.le_refl _, by decide, .inl rfl⟩
  · refine ⟨some a, cap, (List.range len).map B, by simpa using hcs, some a, cap, rfl, by simpa using hl, hm, ?_⟩
    by_cases h0 : len = 0
    · exact .inl (by simpa using h0)
    · obtain ⟨b, off, spot⟩ := a
      obtain rfl : spot = none := by
        have := hcell 0 (by omega)
        simpa [Addr.add] using World.cell?_spot this
      refine .inr ⟨b, off, rfl, fun i hi => ?_⟩
      have hi' : i < len := by simpa using hi
      have := hcell i (by omega)
      rw [Addr.add_lit] at this
      rw [this]
      simp [hi']
theorem cellsBs : Tryd.prog.cellsOf 22 = 1 := by kernel_rfl
theorem cells_cp : Tryd.prog.cellsOf 27 = 33 := by kernel_rfl
theorem cp_of_trod {fuel : Nat} {cs : List Value} {x : DataW H × List MemPlace} (h : DataW.trod enc Tryd.prog W b0 sp held fuel 27 cs = some x) : ∃ (ze : Nat) (zr : List Nat), cs = cpC ze zr ∧ ze < 18446744073709551616 ∧ Rt zr := by
  obtain ⟨xs, n, _, _, hl, hlen, hf⟩ := DataW.trod_struct Tryd.underlying27 h
  rw [cells_cp] at hl
  have hx : xs.length = 2 := hlen
  have f0 : ∃ y, DataW.trod enc Tryd.prog W b0 sp held n 23 ((cs.drop 0).take 1) = some y := by
    have := hf 0 _ rfl
    change DataW.trod enc Tryd.prog W b0 sp held n 23 (List.take (Tryd.prog.cellsOf 23) (List.drop 0 cs)) = xs[0]? at this
    rw [cellsU64, List.getElem?_eq_getElem (by omega)] at this
    exact ⟨_, this⟩
  obtain ⟨y0, f0⟩ := f0
  obtain ⟨ze, e0, hze⟩ := num_of_trod f0
  have f1 : ∃ y, DataW.trod enc Tryd.prog W b0 sp held n 25 ((cs.drop 1).take 32) = some y := by
    have := hf 1 _ rfl
    change DataW.trod enc Tryd.prog W b0 sp held n 25 (List.take (Tryd.prog.cellsOf 25) (List.drop 1 cs)) = xs[1]? at this
    rw [cellsRt, List.getElem?_eq_getElem (by omega)] at this
    exact ⟨_, this⟩
  obtain ⟨y1, f1⟩ := f1
  obtain ⟨zr, e1, hzr⟩ := root_of_trod f1
  have hc := cut_flat cs [1, 32] 0 (by rw [hl]; rfl)
  rw [List.drop_zero] at e0
  simp only [cutAt, List.drop_zero, Nat.zero_add, Nat.reduceAdd, e0, e1] at hc
  refine ⟨ze, zr, hc, hze, hzr⟩
theorem open_cp {base : Nat} {v : Value} {d : DataW H} {p : List MemPlace} (hv : Value.okWide Tryd.prog W .any base 27 v) (h : DataW.Trod enc Tryd.prog W b0 sp held 27 v d p) : ∃ (ze : Nat) (zr : List Nat), v = .agg (cpC ze zr).toArray ∧ ze < 18446744073709551616 ∧ Rt zr := by
  obtain ⟨cs, rfl, _⟩ := okWide_struct Tryd.underlying27 hv
  obtain ⟨fuel, hf⟩ := h
  obtain ⟨ze, zr, e, hze, hzr⟩ := cp_of_trod hf
  exact ⟨ze, zr, by rw [← Array.toList_inj.1 (show cs.toList = (cpC ze zr).toArray.toList from e)], hze, hzr⟩
theorem cells_vt : Tryd.prog.cellsOf 29 = 100 := by kernel_rfl
theorem vt_of_trod {fuel : Nat} {cs : List Value} {x : DataW H × List MemPlace} (h : DataW.trod enc Tryd.prog W b0 sp held fuel 29 cs = some x) : ∃ (zs : Nat) (zi : Nat) (zb : List Nat) (zcze : Nat) (zczr : List Nat) (ztze : Nat) (ztzr : List Nat), cs = vtC zs zi zb zcze zczr ztze ztzr ∧ zs < 18446744073709551616 ∧ zi < 18446744073709551616 ∧ Rt zb ∧ zcze < 18446744073709551616 ∧ Rt zczr ∧ ztze < 18446744073709551616 ∧ Rt ztzr := by
  obtain ⟨xs, n, _, _, hl, hlen, hf⟩ := DataW.trod_struct Tryd.underlying29 h
  rw [cells_vt] at hl
  have hx : xs.length = 5 := hlen
  have f0 : ∃ y, DataW.trod enc Tryd.prog W b0 sp held n 23 ((cs.drop 0).take 1) = some y := by
    have := hf 0 _ rfl
    change DataW.trod enc Tryd.prog W b0 sp held n 23 (List.take (Tryd.prog.cellsOf 23) (List.drop 0 cs)) = xs[0]? at this
    rw [cellsU64, List.getElem?_eq_getElem (by omega)] at this
    exact ⟨_, this⟩
  obtain ⟨y0, f0⟩ := f0
  obtain ⟨zs, e0, hzs⟩ := num_of_trod f0
  have f1 : ∃ y, DataW.trod enc Tryd.prog W b0 sp held n 23 ((cs.drop 1).take 1) = some y := by
    have := hf 1 _ rfl
    change DataW.trod enc Tryd.prog W b0 sp held n 23 (List.take (Tryd.prog.cellsOf 23) (List.drop 1 cs)) = xs[1]? at this
    rw [cellsU64, List.getElem?_eq_getElem (by omega)] at this
    exact ⟨_, this⟩
  obtain ⟨y1, f1⟩ := f1
  obtain ⟨zi, e1, hzi⟩ := num_of_trod f1
  have f2 : ∃ y, DataW.trod enc Tryd.prog W b0 sp held n 25 ((cs.drop 2).take 32) = some y := by
    have := hf 2 _ rfl
    change DataW.trod enc Tryd.prog W b0 sp held n 25 (List.take (Tryd.prog.cellsOf 25) (List.drop 2 cs)) = xs[2]? at this
    rw [cellsRt, List.getElem?_eq_getElem (by omega)] at this
    exact ⟨_, this⟩
  obtain ⟨y2, f2⟩ := f2
  obtain ⟨zb, e2, hzb⟩ := root_of_trod f2
  have f3 : ∃ y, DataW.trod enc Tryd.prog W b0 sp held n 27 ((cs.drop 34).take 33) = some y := by
    have := hf 3 _ rfl
    change DataW.trod enc Tryd.prog W b0 sp held n 27 (List.take (Tryd.prog.cellsOf 27) (List.drop 34 cs)) = xs[3]? at this
    rw [cells_cp, List.getElem?_eq_getElem (by omega)] at this
    exact ⟨_, this⟩
  obtain ⟨y3, f3⟩ := f3
  obtain ⟨zcze, zczr, e3, hzcze, hzczr⟩ := cp_of_trod f3
  have f4 : ∃ y, DataW.trod enc Tryd.prog W b0 sp held n 27 ((cs.drop 67).take 33) = some y := by
    have := hf 4 _ rfl
    change DataW.trod enc Tryd.prog W b0 sp held n 27 (List.take (Tryd.prog.cellsOf 27) (List.drop 67 cs)) = xs[4]? at this
    rw [cells_cp, List.getElem?_eq_getElem (by omega)] at this
    exact ⟨_, this⟩
  obtain ⟨y4, f4⟩ := f4
  obtain ⟨ztze, ztzr, e4, hztze, hztzr⟩ := cp_of_trod f4
  have hc := cut_flat cs [1, 1, 32, 33, 33] 0 (by rw [hl]; rfl)
  rw [List.drop_zero] at e0
  simp only [cutAt, List.drop_zero, Nat.zero_add, Nat.reduceAdd, e0, e1, e2, e3, e4] at hc
  refine ⟨zs, zi, zb, zcze, zczr, ztze, ztzr, hc, hzs, hzi, hzb, hzcze, hzczr, hztze, hztzr⟩
theorem open_vt {base : Nat} {v : Value} {d : DataW H} {p : List MemPlace} (hv : Value.okWide Tryd.prog W .any base 29 v) (h : DataW.Trod enc Tryd.prog W b0 sp held 29 v d p) : ∃ (zs : Nat) (zi : Nat) (zb : List Nat) (zcze : Nat) (zczr : List Nat) (ztze : Nat) (ztzr : List Nat), v = .agg (vtC zs zi zb zcze zczr ztze ztzr).toArray ∧ zs < 18446744073709551616 ∧ zi < 18446744073709551616 ∧ Rt zb ∧ zcze < 18446744073709551616 ∧ Rt zczr ∧ ztze < 18446744073709551616 ∧ Rt ztzr := by
  obtain ⟨cs, rfl, _⟩ := okWide_struct Tryd.underlying29 hv
  obtain ⟨fuel, hf⟩ := h
  obtain ⟨zs, zi, zb, zcze, zczr, ztze, ztzr, e, hzs, hzi, hzb, hzcze, hzczr, hztze, hztzr⟩ := vt_of_trod hf
  exact ⟨zs, zi, zb, zcze, zczr, ztze, ztzr, by rw [← Array.toList_inj.1 (show cs.toList = (vtC zs zi zb zcze zczr ztze ztzr).toArray.toList from e)], hzs, hzi, hzb, hzcze, hzczr, hztze, hztzr⟩
theorem cells_at : Tryd.prog.cellsOf 31 = 133 := by kernel_rfl
theorem at_of_trod {fuel : Nat} {cs : List Value} {x : DataW H × List MemPlace} (h : DataW.trod enc Tryd.prog W b0 (fun _ => true) held fuel 31 cs = some x) : ∃ (zbo : Option Addr) (zbc : Nat) (zbl : List Bool) (zdzs : Nat) (zdzi : Nat) (zdzb : List Nat) (zdzcze : Nat) (zdzczr : List Nat) (zdztze : Nat) (zdztzr : List Nat) (zsg : List Nat), cs = atC zbo zbc zbl zdzs zdzi zdzb zdzcze zdzczr zdztze zdztzr zsg ∧ zdzs < 18446744073709551616 ∧ zdzi < 18446744073709551616 ∧ Rt zdzb ∧ zdzcze < 18446744073709551616 ∧ Rt zdzczr ∧ zdztze < 18446744073709551616 ∧ Rt zdztzr ∧ Rt zsg ∧ IsT W (.slice zbo zbl.length zbc) zbl := by
  obtain ⟨xs, n, _, _, hl, hlen, hf⟩ := DataW.trod_struct Tryd.underlying31 h
  rw [cells_at] at hl
  have hx : xs.length = 3 := hlen
  have f0 : ∃ y, DataW.trod enc Tryd.prog W b0 (fun _ => true) held n 22 ((cs.drop 0).take 1) = some y := by
    have := hf 0 _ rfl
    change DataW.trod enc Tryd.prog W b0 (fun _ => true) held n 22 (List.take (Tryd.prog.cellsOf 22) (List.drop 0 cs)) = xs[0]? at this
    rw [cellsBs, List.getElem?_eq_getElem (by omega)] at this
    exact ⟨_, this⟩
  obtain ⟨y0, f0⟩ := f0
  obtain ⟨zbo, zbc, zbl, e0, hzb⟩ := bits_of_trod f0
  have f1 : ∃ y, DataW.trod enc Tryd.prog W b0 (fun _ => true) held n 29 ((cs.drop 1).take 100) = some y := by
    have := hf 1 _ rfl
    change DataW.trod enc Tryd.prog W b0 (fun _ => true) held n 29 (List.take (Tryd.prog.cellsOf 29) (List.drop 1 cs)) = xs[1]? at this
    rw [cells_vt, List.getElem?_eq_getElem (by omega)] at this
    exact ⟨_, this⟩
  obtain ⟨y1, f1⟩ := f1
  obtain ⟨zdzs, zdzi, zdzb, zdzcze, zdzczr, zdztze, zdztzr, e1, hzdzs, hzdzi, hzdzb, hzdzcze, hzdzczr, hzdztze, hzdztzr⟩ := vt_of_trod f1
  have f2 : ∃ y, DataW.trod enc Tryd.prog W b0 (fun _ => true) held n 25 ((cs.drop 101).take 32) = some y := by
    have := hf 2 _ rfl
    change DataW.trod enc Tryd.prog W b0 (fun _ => true) held n 25 (List.take (Tryd.prog.cellsOf 25) (List.drop 101 cs)) = xs[2]? at this
    rw [cellsRt, List.getElem?_eq_getElem (by omega)] at this
    exact ⟨_, this⟩
  obtain ⟨y2, f2⟩ := f2
  obtain ⟨zsg, e2, hzsg⟩ := root_of_trod f2
  have hc := cut_flat cs [1, 100, 32] 0 (by rw [hl]; rfl)
  rw [List.drop_zero] at e0
  simp only [cutAt, List.drop_zero, Nat.zero_add, Nat.reduceAdd, e0, e1, e2] at hc
  refine ⟨zbo, zbc, zbl, zdzs, zdzi, zdzb, zdzcze, zdzczr, zdztze, zdztzr, zsg, hc, hzdzs, hzdzi, hzdzb, hzdzcze, hzdzczr, hzdztze, hzdztzr, hzsg, hzb⟩
theorem open_at {base : Nat} {v : Value} {d : DataW H} {p : List MemPlace} (hv : Value.okWide Tryd.prog W .any base 31 v) (h : DataW.Trod enc Tryd.prog W b0 (fun _ => true) held 31 v d p) : ∃ (zbo : Option Addr) (zbc : Nat) (zbl : List Bool) (zdzs : Nat) (zdzi : Nat) (zdzb : List Nat) (zdzcze : Nat) (zdzczr : List Nat) (zdztze : Nat) (zdztzr : List Nat) (zsg : List Nat), v = .agg (atC zbo zbc zbl zdzs zdzi zdzb zdzcze zdzczr zdztze zdztzr zsg).toArray ∧ zdzs < 18446744073709551616 ∧ zdzi < 18446744073709551616 ∧ Rt zdzb ∧ zdzcze < 18446744073709551616 ∧ Rt zdzczr ∧ zdztze < 18446744073709551616 ∧ Rt zdztzr ∧ Rt zsg ∧ IsT W (.slice zbo zbl.length zbc) zbl := by
  obtain ⟨cs, rfl, _⟩ := okWide_struct Tryd.underlying31 hv
  obtain ⟨fuel, hf⟩ := h
  obtain ⟨zbo, zbc, zbl, zdzs, zdzi, zdzb, zdzcze, zdzczr, zdztze, zdztzr, zsg, e, hzdzs, hzdzi, hzdzb, hzdzcze, hzdzczr, hzdztze, hzdztzr, hzsg, hzb⟩ := at_of_trod hf
  exact ⟨zbo, zbc, zbl, zdzs, zdzi, zdzb, zdzcze, zdzczr, zdztze, zdztzr, zsg, by rw [← Array.toList_inj.1 (show cs.toList = (atC zbo zbc zbl zdzs zdzi zdzb zdzcze zdzczr zdztze zdztzr zsg).toArray.toList from e)], hzdzs, hzdzi, hzdzb, hzdzcze, hzdzczr, hzdztze, hzdztzr, hzsg, hzb⟩
theorem cells_pd : Tryd.prog.cellsOf 43 = 103 := by kernel_rfl
theorem pd_of_trod {fuel : Nat} {cs : List Value} {x : DataW H × List MemPlace} (h : DataW.trod enc Tryd.prog W b0 (fun _ => true) held fuel 43 cs = some x) : ∃ (zbo : Option Addr) (zbc : Nat) (zbl : List Bool) (zdzs : Nat) (zdzi : Nat) (zdzb : List Nat) (zdzcze : Nat) (zdzczr : List Nat) (zdztze : Nat) (zdztzr : List Nat) (zde : Nat) (zpr : Nat), cs = pdC zbo zbc zbl zdzs zdzi zdzb zdzcze zdzczr zdztze zdztzr zde zpr ∧ zdzs < 18446744073709551616 ∧ zdzi < 18446744073709551616 ∧ Rt zdzb ∧ zdzcze < 18446744073709551616 ∧ Rt zdzczr ∧ zdztze < 18446744073709551616 ∧ Rt zdztzr ∧ zde < 18446744073709551616 ∧ zpr < 18446744073709551616 ∧ IsT W (.slice zbo zbl.length zbc) zbl := by
  obtain ⟨xs, n, _, _, hl, hlen, hf⟩ := DataW.trod_struct Tryd.underlying43 h
  rw [cells_pd] at hl
  have hx : xs.length = 4 := hlen
  have f0 : ∃ y, DataW.trod enc Tryd.prog W b0 (fun _ => true) held n 22 ((cs.drop 0).take 1) = some y := by
    have := hf 0 _ rfl
    change DataW.trod enc Tryd.prog W b0 (fun _ => true) held n 22 (List.take (Tryd.prog.cellsOf 22) (List.drop 0 cs)) = xs[0]? at this
    rw [cellsBs, List.getElem?_eq_getElem (by omega)] at this
    exact ⟨_, this⟩
  obtain ⟨y0, f0⟩ := f0
  obtain ⟨zbo, zbc, zbl, e0, hzb⟩ := bits_of_trod f0
  have f1 : ∃ y, DataW.trod enc Tryd.prog W b0 (fun _ => true) held n 29 ((cs.drop 1).take 100) = some y := by
    have := hf 1 _ rfl
    change DataW.trod enc Tryd.prog W b0 (fun _ => true) held n 29 (List.take (Tryd.prog.cellsOf 29) (List.drop 1 cs)) = xs[1]? at this
    rw [cells_vt, List.getElem?_eq_getElem (by omega)] at this
    exact ⟨_, this⟩
  obtain ⟨y1, f1⟩ := f1
  obtain ⟨zdzs, zdzi, zdzb, zdzcze, zdzczr, zdztze, zdztzr, e1, hzdzs, hzdzi, hzdzb, hzdzcze, hzdzczr, hzdztze, hzdztzr⟩ := vt_of_trod f1
  have f2 : ∃ y, DataW.trod enc Tryd.prog W b0 (fun _ => true) held n 23 ((cs.drop 101).take 1) = some y := by
    have := hf 2 _ rfl
    change DataW.trod enc Tryd.prog W b0 (fun _ => true) held n 23 (List.take (Tryd.prog.cellsOf 23) (List.drop 101 cs)) = xs[2]? at this
    rw [cellsU64, List.getElem?_eq_getElem (by omega)] at this
    exact ⟨_, this⟩
  obtain ⟨y2, f2⟩ := f2
  obtain ⟨zde, e2, hzde⟩ := num_of_trod f2
  have f3 : ∃ y, DataW.trod enc Tryd.prog W b0 (fun _ => true) held n 23 ((cs.drop 102).take 1) = some y := by
    have := hf 3 _ rfl
    change DataW.trod enc Tryd.prog W b0 (fun _ => true) held n 23 (List.take (Tryd.prog.cellsOf 23) (List.drop 102 cs)) = xs[3]? at this
    rw [cellsU64, List.getElem?_eq_getElem (by omega)] at this
    exact ⟨_, this⟩
  obtain ⟨y3, f3⟩ := f3
  obtain ⟨zpr, e3, hzpr⟩ := num_of_trod f3
  have hc := cut_flat cs [1, 100, 1, 1] 0 (by rw [hl]; rfl)
  rw [List.drop_zero] at e0
  simp only [cutAt, List.drop_zero, Nat.zero_add, Nat.reduceAdd, e0, e1, e2, e3] at hc
  refine ⟨zbo, zbc, zbl, zdzs, zdzi, zdzb, zdzcze, zdzczr, zdztze, zdztzr, zde, zpr, hc, hzdzs, hzdzi, hzdzb, hzdzcze, hzdzczr, hzdztze, hzdztzr, hzde, hzpr, hzb⟩
theorem open_pd {base : Nat} {v : Value} {d : DataW H} {p : List MemPlace} (hv : Value.okWide Tryd.prog W .any base 43 v) (h : DataW.Trod enc Tryd.prog W b0 (fun _ => true) held 43 v d p) : ∃ (zbo : Option Addr) (zbc : Nat) (zbl : List Bool) (zdzs : Nat) (zdzi : Nat) (zdzb : List Nat) (zdzcze : Nat) (zdzczr : List Nat) (zdztze : Nat) (zdztzr : List Nat) (zde : Nat) (zpr : Nat), v = .agg (pdC zbo zbc zbl zdzs zdzi zdzb zdzcze zdzczr zdztze zdztzr zde zpr).toArray ∧ zdzs < 18446744073709551616 ∧ zdzi < 18446744073709551616 ∧ Rt zdzb ∧ zdzcze < 18446744073709551616 ∧ Rt zdzczr ∧ zdztze < 18446744073709551616 ∧ Rt zdztzr ∧ zde < 18446744073709551616 ∧ zpr < 18446744073709551616 ∧ IsT W (.slice zbo zbl.length zbc) zbl := by
  obtain ⟨cs, rfl, _⟩ := okWide_struct Tryd.underlying43 hv
  obtain ⟨fuel, hf⟩ := h
  obtain ⟨zbo, zbc, zbl, zdzs, zdzi, zdzb, zdzcze, zdzczr, zdztze, zdztzr, zde, zpr, e, hzdzs, hzdzi, hzdzb, hzdzcze, hzdzczr, hzdztze, hzdztzr, hzde, hzpr, hzb⟩ := pd_of_trod hf
  exact ⟨zbo, zbc, zbl, zdzs, zdzi, zdzb, zdzcze, zdzczr, zdztze, zdztzr, zde, zpr, by rw [← Array.toList_inj.1 (show cs.toList = (pdC zbo zbc zbl zdzs zdzi zdzb zdzcze zdzczr zdztze zdztzr zde zpr).toArray.toList from e)], hzdzs, hzdzi, hzdzb, hzdzcze, hzdzczr, hzdztze, hzdztzr, hzde, hzpr, hzb⟩
end
end Go.Proofs.YthodofnebonpfaaDoor

/- The document's value of a struct (Pending). -/
namespace Go.Proofs.YthodofnebonpfaaDoor
open Go.RowKit Go.Shelf
set_option linter.unusedVariables false
set_option linter.unusedSimpArgs false
set_option maxRecDepth 100000

def pdV (zbo : Option Addr) (zbc : Nat) (zbl : List Bool) (zdzs : Nat) (zdzi : Nat) (zdzb : List Nat) (zdzcze : Nat) (zdzczr : List Nat) (zdztze : Nat) (zdztzr : List Nat) (zde : Nat) (zpr : Nat) : Vt := .mk 0 (zeros 32) [] [.mk 0 (zeros 32) zbl [], vtV zdzs zdzi zdzb zdzcze zdzczr zdztze zdztzr, .mk zde (zeros 32) [] [], .mk zpr (zeros 32) [] []]
theorem pdV_wide (zbo : Option Addr) (zbc : Nat) (zbl : List Bool) (zdzs : Nat) (zdzi : Nat) (zdzb : List Nat) (zdzcze : Nat) (zdzczr : List Nat) (zdztze : Nat) (zdztzr : List Nat) (zde : Nat) (zpr : Nat) : wide (pdV zbo zbc zbl zdzs zdzi zdzb zdzcze zdzczr zdztze zdztzr zde zpr) := by simp [pdV, wide, wideK, vtV_wide]
set_option maxHeartbeats 2000000 in
theorem pdV_any (zbo : Option Addr) (zbc : Nat) (zbl : List Bool) (zdzs : Nat) (zdzi : Nat) (zdzb : List Nat) (zdzcze : Nat) (zdzczr : List Nat) (zdztze : Nat) (zdztzr : List Nat) (zde : Nat) (zpr : Nat) (hzdzs : zdzs < 18446744073709551616) (hzdzi : zdzi < 18446744073709551616) (hzdzb : Rt zdzb) (hzdzcze : zdzcze < 18446744073709551616) (hzdzczr : Rt zdzczr) (hzdztze : zdztze < 18446744073709551616) (hzdztzr : Rt zdztzr) (hzde : zde < 18446744073709551616) (hzpr : zpr < 18446744073709551616) (w : World) (hzb : IsT w (.slice zbo zbl.length zbc) zbl) (hzbn : zbl.length ≤ 500) : Calls Tryd.prog 14 #[.agg (pdC zbo zbc zbl zdzs zdzi zdzb zdzcze zdzczr zdztze zdztzr zde zpr).toArray] w fun x w' => ∃ v, x = .returned v ∧ IsV w' v (pdV zbo zbc zbl zdzs zdzi zdzb zdzcze zdzczr zdztze zdztzr zde zpr) ∧ Below w.heap.size w w' := by
  go_enter Tryd.func14, Tryd.ntmps14
  go_wp2_with ((with_reducible refine at_list' ?_); first
    | (refine wpList_box_c rfl 1 rfl (.tmp 0) rfl (pdC zbo zbc zbl zdzs zdzi zdzb zdzcze zdzczr zdztze zdztzr zde zpr) rfl ?_; intro w1 H1 B1 S1)
    | (refine wpList_alloc_c Tryd.ty39 rfl 2 rfl rfl ?_; intro w2 H2 B2 S2; rw [S1] at H2 S2; rw [S1]))
  have HX := hid (H1.keep B2)
  have HY := hid H2
  have HB := hid (B1.trans (B2.mono (by omega)))
  have s2 : w2.heap.size = w.heap.size + 2 := by omega
  clear H1 B1 S1 H2 B2 S2
  try simp only [Act.put, List.setIfInBounds_toArray, List.set_cons_succ, List.set_cons_zero]
  refine wp_region_flow 14 14 (fun i v wq => match i with
    | 0 => v = .pointer (some ⟨w.heap.size, 0, none⟩)
    | 1 => v = .slice zbo zbl.length zbc
    | 2 => IsV wq v (.mk 0 (zeros 32) zbl [])
    | 3 => v = .pointer (some ⟨w.heap.size, 1, none⟩)
    | 4 => v = .agg (vtC zdzs zdzi zdzb zdzcze zdzczr zdztze zdztzr).toArray
    | 5 => IsV wq v (vtV zdzs zdzi zdzb zdzcze zdzczr zdztze zdztzr)
    | 6 => v = .pointer (some ⟨w.heap.size, 101, none⟩)
    | 7 => v = .int .u64 (zde : Nat)
    | 8 => IsV wq v (.mk zde (zeros 32) [] [])
    | 9 => v = .pointer (some ⟨w.heap.size, 102, none⟩)
    | 10 => v = .int .u64 (zpr : Nat)
    | 11 => IsV wq v (.mk zpr (zeros 32) [] [])
    | 12 => ∃ b, v = .slice (some ⟨b, 0, none⟩) 4 4 ∧ KsAt wq [.mk 0 (zeros 32) zbl [], vtV zdzs zdzi zdzb zdzcze zdzczr zdztze zdztzr, .mk zde (zeros 32) [] [], .mk zpr (zeros 32) [] []] b 0
    | _ => ∃ b, v = .agg (valL 0 (zeros 32) nilS (.slice (some ⟨b, 0, none⟩) 4 4)).toArray ∧ KsAt wq [.mk 0 (zeros 32) zbl [], vtV zdzs zdzi zdzb zdzcze zdzczr zdztze zdztzr, .mk zde (zeros 32) [] [], .mk zpr (zeros 32) [] []] b 0) (by kernel_rfl) (by kernel_rfl) (fun _ d _ _ _ h => by cases d <;> exact h) ?_ ?_ ?_ ?_
  · intro i v wq wq' hi hv hb
    match i, hi with
    | 0, _ => exact hv
    | 1, _ => exact hv
    | 2, _ => exact hv.keep hb
    | 3, _ => exact hv
    | 4, _ => exact hv
    | 5, _ => exact hv.keep hb
    | 6, _ => exact hv
    | 7, _ => exact hv
    | 8, _ => exact hv.keep hb
    | 9, _ => exact hv
    | 10, _ => exact hv
    | 11, _ => exact hv.keep hb
    | 12, _ => obtain ⟨b, h1, h2⟩ := hv; exact ⟨b, h1, KsAt.keep hb _ h2⟩
    | 13, _ => obtain ⟨b, h1, h2⟩ := hv; exact ⟨b, h1, KsAt.keep hb _ h2⟩
    | (k + 14), hk => exact absurd hk (by omega)
  · intro i o hi ho aq wq hc hk hdep
    match i, hi with
    | 0, _ =>
      cases ho
      have e1 : aq.tmps.getD 1 undef = .pointer (some ⟨w.heap.size, 0, none⟩) := hk 1 (by decide)
      exact flow_value _ (run_fieldAt 43 (.tmp 1) 0 rfl _ _ e1 (by kernel_rfl)) rfl
    | 1, _ =>
      cases ho
      have e0 : aq.tmps.getD 3 undef = .pointer (some ⟨w.heap.size, 0, none⟩) := hdep 0 3 rfl (by kernel_rfl)
      exact flow_value _ (run_cell 22 (.tmp 3) rfl _ e0 _ ((HX.out.keep (hcB hc)).cell (seg (ps := pdP zbo zbc zbl zdzs zdzi zdzb zdzcze zdzczr zdztze zdztzr zde zpr) (i := 0) (off := 0) rfl (by simp [pdP, cellsB_length, hzdzb.len, hzdzczr.len, hzdztzr.len, vtC_length zdzs zdzi zdzb zdzcze zdzczr zdztze zdztzr hzdzb.len hzdzczr.len hzdztzr.len]) 0 _ rfl)) _ Tryd.underlying22 rfl) rfl
    | 2, _ =>
      cases ho
      have e0 : aq.tmps.getD 4 undef = .slice zbo zbl.length zbc := hdep 1 4 rfl (by kernel_rfl)
      exact flow_value _ (run_buildOp 39 _ rfl #[(2, .slice zbo zbl.length zbc)] (by rw [show (#[(2, Operand.tmp 4)] : Array (Nat × Operand)).map (fun p => (p.1, aq.eval p.2)) = #[(2, aq.tmps.getD 4 undef)] from by simp [Act.eval], e0]) _ (build_bits zbo zbl.length zbc _)) (IsV.bits (hzb.keep (HB.out.trans ((hcB hc).mono HB.out.size))))
    | 3, _ =>
      cases ho
      have e1 : aq.tmps.getD 1 undef = .pointer (some ⟨w.heap.size, 0, none⟩) := hk 1 (by decide)
      exact flow_value _ (run_fieldAt 43 (.tmp 1) 1 rfl _ _ e1 (by kernel_rfl)) rfl
    | 4, _ =>
      cases ho
      have e0 : aq.tmps.getD 6 undef = .pointer (some ⟨w.heap.size, 1, none⟩) := hdep 3 6 rfl (by kernel_rfl)
      exact flow_value _ (run_mid 29 (.tmp 6) rfl w.heap.size 1 e0 (vtC zdzs zdzi zdzb zdzcze zdzczr zdztze zdztzr) ((HX.out.keep (hcB hc)).range 1 (vtC zdzs zdzi zdzb zdzcze zdzczr zdztze zdztzr) (seg (ps := pdP zbo zbc zbl zdzs zdzi zdzb zdzcze zdzczr zdztze zdztzr zde zpr) (i := 1) (off := 1) rfl (by simp [pdP, cellsB_length, hzdzb.len, hzdzczr.len, hzdztzr.len, vtC_length zdzs zdzi zdzb zdzcze zdzczr zdztze zdztzr hzdzb.len hzdzczr.len hzdztzr.len]))) _ Tryd.underlying29 rfl (by rw [vtC_length zdzs zdzi zdzb zdzcze zdzczr zdztze zdztzr hzdzb.len hzdzczr.len hzdztzr.len]; kernel_rfl)) rfl
    | 5, _ =>
      cases ho
      have e0 : aq.tmps.getD 7 undef = .agg (vtC zdzs zdzi zdzb zdzcze zdzczr zdztze zdztzr).toArray := hdep 4 7 rfl (by kernel_rfl)
      refine flow_fun 41 _ _ rfl (fun _ _ => by simp [go_sem]) #[.agg (vtC zdzs zdzi zdzb zdzcze zdzczr zdztze zdztzr).toArray] (by rw [show (#[Operand.tmp 7] : Array Operand).map aq.eval = #[aq.tmps.getD 7 undef] from by simp [Act.eval], e0]) ?_
      refine (vtV_any zdzs zdzi zdzb zdzcze zdzczr zdztze zdztzr hzdzs hzdzi hzdzb hzdzcze hzdzczr hzdztze hzdztzr wq).mono ?_
      rintro x w' ⟨v, rfl, hv, q⟩
      exact ⟨v, rfl, hv, q⟩
    | 6, _ =>
      cases ho
      have e1 : aq.tmps.getD 1 undef = .pointer (some ⟨w.heap.size, 0, none⟩) := hk 1 (by decide)
      exact flow_value _ (run_fieldAt 43 (.tmp 1) 2 rfl _ _ e1 (by kernel_rfl)) rfl
    | 7, _ =>
      cases ho
      have e0 : aq.tmps.getD 9 undef = .pointer (some ⟨w.heap.size, 101, none⟩) := hdep 6 9 rfl (by kernel_rfl)
      exact flow_value _ (run_cell 23 (.tmp 9) rfl _ e0 _ ((HX.out.keep (hcB hc)).cell (seg (ps := pdP zbo zbc zbl zdzs zdzi zdzb zdzcze zdzczr zdztze zdztzr zde zpr) (i := 2) (off := 101) rfl (by simp [pdP, cellsB_length, hzdzb.len, hzdzczr.len, hzdztzr.len, vtC_length zdzs zdzi zdzb zdzcze zdzczr zdztze zdztzr hzdzb.len hzdzczr.len hzdztzr.len]) 0 _ rfl)) _ Tryd.underlying23 rfl) rfl
    | 8, _ =>
      cases ho
      have e0 : aq.tmps.getD 10 undef = .int .u64 (zde : Nat) := hdep 7 10 rfl (by kernel_rfl)
      refine flow_fun 45 _ _ rfl (fun _ _ => by simp [go_sem]) #[.int .u64 (zde : Nat)] (by rw [show (#[Operand.tmp 10] : Array Operand).map aq.eval = #[aq.tmps.getD 10 undef] from by simp [Act.eval], e0]) ?_
      refine (n_any zde wq).mono ?_
      rintro x w' ⟨rfl, q⟩
      exact ⟨_, rfl, IsV.leaf w' hzde zeros32 (zeros_byte 32), q⟩
    | 9, _ =>
      cases ho
      have e1 : aq.tmps.getD 1 undef = .pointer (some ⟨w.heap.size, 0, none⟩) := hk 1 (by decide)
      exact flow_value _ (run_fieldAt 43 (.tmp 1) 3 rfl _ _ e1 (by kernel_rfl)) rfl
    | 10, _ =>
      cases ho
      have e0 : aq.tmps.getD 12 undef = .pointer (some ⟨w.heap.size, 102, none⟩) := hdep 9 12 rfl (by kernel_rfl)
      exact flow_value _ (run_cell 23 (.tmp 12) rfl _ e0 _ ((HX.out.keep (hcB hc)).cell (seg (ps := pdP zbo zbc zbl zdzs zdzi zdzb zdzcze zdzczr zdztze zdztzr zde zpr) (i := 3) (off := 102) rfl (by simp [pdP, cellsB_length, hzdzb.len, hzdzczr.len, hzdztzr.len, vtC_length zdzs zdzi zdzb zdzcze zdzczr zdztze zdztzr hzdzb.len hzdzczr.len hzdztzr.len]) 0 _ rfl)) _ Tryd.underlying23 rfl) rfl
    | 11, _ =>
      cases ho
      have e0 : aq.tmps.getD 13 undef = .int .u64 (zpr : Nat) := hdep 10 13 rfl (by kernel_rfl)
      refine flow_fun 45 _ _ rfl (fun _ _ => by simp [go_sem]) #[.int .u64 (zpr : Nat)] (by rw [show (#[Operand.tmp 13] : Array Operand).map aq.eval = #[aq.tmps.getD 13 undef] from by simp [Act.eval], e0]) ?_
      refine (n_any zpr wq).mono ?_
      rintro x w' ⟨rfl, q⟩
      exact ⟨_, rfl, IsV.leaf w' hzpr zeros32 (zeros_byte 32), q⟩
    | 12, _ =>
      cases ho
      obtain ⟨sb0, sk0, e0, h0_⟩ := hdep 2 5 rfl (by kernel_rfl)
      obtain ⟨sb1, sk1, e1, h1_⟩ := hdep 5 8 rfl (by kernel_rfl)
      obtain ⟨sb2, sk2, e2, h2_⟩ := hdep 8 11 rfl (by kernel_rfl)
      obtain ⟨sb3, sk3, e3, h3_⟩ := hdep 11 14 rfl (by kernel_rfl)
      refine flow_rowsB 37 39 4 35 _ rfl Tryd.underlying37 valInfo [valL 0 (zeros 32) sb0 sk0, valL 0 (zeros 32) sb1 sk1, valL zde (zeros 32) sb2 sk2, valL zpr (zeros 32) sb3 sk3] [.tmp 5, .tmp 8, .tmp 11, .tmp 14] rfl (by rw [show [Operand.tmp 5, Operand.tmp 8, Operand.tmp 11, Operand.tmp 14].map aq.eval = [aq.tmps.getD 5 undef, aq.tmps.getD 8 undef, aq.tmps.getD 11 undef, aq.tmps.getD 14 undef] from rfl, e0, e1, e2, e3]; rfl) (by simp [valL_length, zeros32]) rfl (by decide) (by decide) (by decide) (fun w' h hb => ⟨_, rfl, ksAt_of h [(.mk 0 (zeros 32) zbl [], sb0, sk0), (vtV zdzs zdzi zdzb zdzcze zdzczr zdztze zdztzr, sb1, sk1), (.mk zde (zeros 32) [] [], sb2, sk2), (.mk zpr (zeros 32) [] [], sb3, sk3)] 0 (fun j v hj => by rw [Nat.zero_add]; exact hj) (fun x hx => ?_)⟩)
      simp only [List.mem_cons, List.not_mem_nil, or_false] at hx
      rcases hx with rfl | rfl | rfl | rfl
      · exact VAt.keep hb _ h0_
      · exact VAt.keep hb _ h1_
      · exact VAt.keep hb _ h2_
      · exact VAt.keep hb _ h3_
    | 13, _ =>
      cases ho
      obtain ⟨b, e6, h6⟩ := hdep 12 15 rfl (by kernel_rfl)
      refine flow_fun 40 _ _ rfl (fun _ _ => by simp [go_sem]) #[.slice (some ⟨b, 0, none⟩) 4 4] (by rw [show (#[Operand.tmp 15] : Array Operand).map aq.eval = #[aq.tmps.getD 15 undef] from by simp [Act.eval], e6]) ?_
      refine (all_any (some ⟨b, 0, none⟩) 4 4 wq).mono ?_
      rintro x w' ⟨rfl, q⟩
      exact ⟨_, rfl, ⟨b, rfl, KsAt.keep q _ h6⟩, q⟩
    | (k + 14), hk => exact absurd hk (by omega)
  · intro o h14 ho
    omega
  intro vf w8 hc hv
  have e7 : ∃ b, vf 13 = _ ∧ KsAt w8 _ b 0 := hv 13 16 (by decide) rfl
  obtain ⟨b, e7, h7⟩ := e7
  have B8 := HB.out.trans ((hcB hc).mono (by omega))
  have H8v := HY.out.keep (hcB hc)
  have s8 := (hcB hc).size
  clear hv hc
  simp only [List.take_succ_cons, List.take_zero, List.drop_succ_cons, List.drop_zero, putAll, Act.put, List.setIfInBounds_toArray, List.set_cons_succ, List.set_cons_zero]
  rw [e7]
  have HB8 := hid B8
  have HK := hid h7
  clear B8 h7 e7 HB
  go_wp2_with ((with_reducible refine at_list' ?_); first
    | (refine wpList_store_c Tryd.ty39 rfl (.tmp 2) (.tmp 16) rfl (w.heap.size + 1) (valL 0 (zeros 32) nilS (.slice (some ⟨b, 0, none⟩) 4 4)) rfl rfl rfl (valL_oneC _ _ _ _ trivial trivial) _ H8v rfl ?_; intro w9 H9 O9))
  refine bodyPost_ret (results_c1 Tryd.ty39 rfl _ w9 (w.heap.size + 1) _ rfl H9 rfl) rfl ⟨_, rfl, ⟨nilS, _, rfl, ?_⟩, below_only HB8.out O9 (by omega)⟩
  exact VAt.aside H8v rfl O9 (pdV zbo zbc zbl zdzs zdzi zdzb zdzcze zdzczr zdztze zdztzr zde zpr) (pdV_wide zbo zbc zbl zdzs zdzi zdzb zdzcze zdzczr zdztze zdztzr zde zpr) (isV_all (ks := [.mk 0 (zeros 32) zbl [], vtV zdzs zdzi zdzb zdzcze zdzczr zdztze zdztzr, .mk zde (zeros 32) [] [], .mk zpr (zeros 32) [] []]) rfl (by decide) HK.out)
end Go.Proofs.YthodofnebonpfaaDoor

/- RootPendings answers true for every value. -/
namespace Go.Proofs.YthodofnebonpfaaDoor
open Go.RowKit Go.Shelf
set_option linter.unusedVariables false
set_option linter.unusedSimpArgs false
set_option maxRecDepth 100000

theorem pdD_root (zbo : Option Addr) (zbc : Nat) (zbl : List Bool) (zdzs : Nat) (zdzi : Nat) (zdzb : List Nat) (zdzcze : Nat) (zdzczr : List Nat) (zdztze : Nat) (zdztzr : List Nat) (zde : Nat) (zpr : Nat) : rootV pdD (pdV zbo zbc zbl zdzs zdzi zdzb zdzcze zdzczr zdztze zdztzr zde zpr) = pdR zbo zbc zbl zdzs zdzi zdzb zdzcze zdzczr zdztze zdztzr zde zpr := by
  simp only [cpD, vtD, pdD, cpV, vtV, pdV, dBox, dNum, dRoot, dTruth, dBits, cpR, vtR, pdR, rootV, rootsV]
  simp
theorem pdD_ok (zbo : Option Addr) (zbc : Nat) (zbl : List Bool) (zdzs : Nat) (zdzi : Nat) (zdzb : List Nat) (zdzcze : Nat) (zdzczr : List Nat) (zdztze : Nat) (zdztzr : List Nat) (zde : Nat) (zpr : Nat) (hzbn : zbl.length ≤ 500) : okR pdD (pdV zbo zbc zbl zdzs zdzi zdzb zdzcze zdzczr zdztze zdztzr zde zpr) := by
  simp [cpD, vtD, pdD, cpV, vtV, pdV, dBox, dNum, dRoot, dTruth, dBits, okR, okRs]
  omega
set_option maxHeartbeats 400000 in
theorem pd_walk (zbo : Option Addr) (zbc : Nat) (zbl : List Bool) (zdzs : Nat) (zdzi : Nat) (zdzb : List Nat) (zdzcze : Nat) (zdzczr : List Nat) (zdztze : Nat) (zdztzr : List Nat) (zde : Nat) (zpr : Nat) (hzdzs : zdzs < 18446744073709551616) (hzdzi : zdzi < 18446744073709551616) (hzdzb : Rt zdzb) (hzdzcze : zdzcze < 18446744073709551616) (hzdzczr : Rt zdzczr) (hzdztze : zdztze < 18446744073709551616) (hzdztzr : Rt zdztzr) (hzde : zde < 18446744073709551616) (hzpr : zpr < 18446744073709551616) (w : World) (hT : Tabs w) (hzb : IsT w (.slice zbo zbl.length zbc) zbl) : Calls Tryd.prog 4 #[.agg (pdC zbo zbc zbl zdzs zdzi zdzb zdzcze zdzczr zdztze zdztzr zde zpr).toArray] w fun e w' => e = .returned (.bool true) ∧ Below w.heap.size w w' := by
  have hR1 := pdR_rt zbo zbc zbl zdzs zdzi zdzb zdzcze zdzczr zdztze zdztzr zde zpr hzdzb hzdzczr hzdztzr
  have HE := hid (pdD_root zbo zbc zbl zdzs zdzi zdzb zdzcze zdzczr zdztze zdztzr zde zpr)
  obtain ⟨R1, HR⟩ : ∃ R, Same (pdR zbo zbc zbl zdzs zdzi zdzb zdzcze zdzczr zdztze zdztzr zde zpr) R := ⟨_, ⟨rfl⟩⟩
  rw [HR.out] at hR1 HE
  have HE2 : Same (rootV pdD (pdV zbo zbc zbl zdzs zdzi zdzb zdzcze zdzczr zdztze zdztzr zde zpr)) R1 := ⟨HE.out⟩
  clear HE
  have HE := HE2
  clear HE2
  go_enter Tryd.func4, Tryd.ntmps4
  go_wp2_with ((with_reducible refine at_list' ?_); first
    | (refine wpList_box_c rfl 1 rfl (.tmp 0) rfl (pdC zbo zbc zbl zdzs zdzi zdzb zdzcze zdzczr zdztze zdztzr zde zpr) rfl ?_; intro w1 H1 B1 S1))
  refine (awake_any w1 (hT.keep B1)).mono ?_
  rintro e w2 ⟨rfl, B2⟩
  have HX := hid (H1.keep B2)
  have HB := hid (B1.trans (B2.mono B1.size))
  have HT := hid (hT.keep HB.out)
  clear H1 B1 S1 B2
  have HC0 := hid (HX.out.cell (j := 0) (v := .slice zbo zbl.length zbc) (seg (ps := pdP zbo zbc zbl zdzs zdzi zdzb zdzcze zdzczr zdztze zdztzr zde zpr) (i := 0) (off := 0) rfl rfl 0 _ rfl))
  by_cases h500 : (500 : Int) < ((zbl.length : Nat) : Int)
  · go_wp2_with ((with_reducible refine at_list' ?_); first | (refine wpList_run rfl _ (run_cell 22 (.tmp 5) rfl ⟨w.heap.size, 0, none⟩ rfl _ HC0.out _ Tryd.underlying22 rfl) ?_))
    go_ret
    exact ⟨rfl, HB.out⟩
  have hzbn : zbl.length ≤ 500 := by omega
  have HO := hid (pdD_ok zbo zbc zbl zdzs zdzi zdzb zdzcze zdzczr zdztze zdztzr zde zpr hzbn)
  go_wp2_with ((with_reducible refine at_list' ?_); first | (refine wpList_run rfl _ (run_cell 22 (.tmp 5) rfl ⟨w.heap.size, 0, none⟩ rfl _ HC0.out _ Tryd.underlying22 rfl) ?_))
  try simp only [Act.put, List.setIfInBounds_toArray, List.set_cons_succ, List.set_cons_zero]
  refine wp_region_flow 7 7 (fun i v wq => match i with
    | 0 => v = .agg (pdC zbo zbc zbl zdzs zdzi zdzb zdzcze zdzczr zdztze zdztzr zde zpr).toArray
    | 1 => v = .agg (nums .u8 R1)
    | 2 => ∃ p, v = .pointer (some ⟨p, 0, none⟩) ∧ DAt wq pdD p
    | 3 => v = .agg (pdC zbo zbc zbl zdzs zdzi zdzb zdzcze zdzczr zdztze zdztzr zde zpr).toArray
    | 4 => IsV wq v (pdV zbo zbc zbl zdzs zdzi zdzb zdzcze zdzczr zdztze zdztzr zde zpr)
    | 5 => v = .agg (nums .u8 R1)
    | _ => v = .bool true) (by kernel_rfl) (by kernel_rfl) (fun _ d _ _ _ h => by cases d <;> exact h) ?_ ?_ ?_ ?_
  · intro i v wq wq' hi hv hb
    match i, hi with
    | 0, _ => exact hv
    | 1, _ => exact hv
    | 2, _ => obtain ⟨p, h1, h2⟩ := hv; exact ⟨p, h1, DAt.keep hb _ h2⟩
    | 3, _ => exact hv
    | 4, _ => exact hv.keep hb
    | 5, _ => exact hv
    | 6, _ => exact hv
    | (k + 7), hk => exact absurd hk (by omega)
  · intro i o hi ho aq wq hc hk hdep
    match i, hi with
    | 0, _ =>
      cases ho
      have e1 : aq.tmps.getD 1 undef = .pointer (some ⟨w.heap.size, 0, none⟩) := hk 1 (by decide)
      exact flow_value _ (run_mid 43 (.tmp 1) rfl w.heap.size 0 e1 (pdC zbo zbc zbl zdzs zdzi zdzb zdzcze zdzczr zdztze zdztzr zde zpr) ((HX.out.keep (hcB hc)).range 0 (pdC zbo zbc zbl zdzs zdzi zdzb zdzcze zdzczr zdztze zdztzr zde zpr) (fun j v hv => by rw [Nat.zero_add]; exact hv)) _ Tryd.underlying43 rfl (by rw [pdC_length zbo zbc zbl zdzs zdzi zdzb zdzcze zdzczr zdztze zdztzr zde zpr hzdzb.len hzdzczr.len hzdztzr.len]; kernel_rfl)) rfl
    | 1, _ =>
      cases ho
      have e0 : aq.tmps.getD 9 undef = .agg (pdC zbo zbc zbl zdzs zdzi zdzb zdzcze zdzczr zdztze zdztzr zde zpr).toArray := hdep 0 9 rfl (by kernel_rfl)
      refine flow_fun 12 _ _ rfl (fun _ _ => by simp [go_sem]) #[.agg (pdC zbo zbc zbl zdzs zdzi zdzb zdzcze zdzczr zdztze zdztzr zde zpr).toArray] (by rw [show (#[Operand.tmp 9] : Array Operand).map aq.eval = #[aq.tmps.getD 9 undef] from by simp [Act.eval], e0]) ?_
      refine (pdR_any zbo zbc zbl zdzs zdzi zdzb zdzcze zdzczr zdztze zdztzr zde zpr hzdzs hzdzi hzdzb hzdzcze hzdzczr hzdztze hzdztzr hzde hzpr wq (HT.out.keep (hcB hc)) (hzb.keep (HB.out.trans ((hcB hc).mono HB.out.size))) hzbn).mono ?_
      rintro x w' ⟨rfl, q⟩
      exact ⟨_, rfl, (by rw [← HR.out]; rfl), q⟩
    | 2, _ =>
      cases ho
      refine flow_fun 13 _ _ rfl (fun _ _ => by simp [go_sem]) #[] (by simp) ?_
      refine (pdD_any wq).mono ?_
      rintro x w' ⟨p, rfl, h1, q⟩
      exact ⟨_, rfl, ⟨p, rfl, h1⟩, q⟩
    | 3, _ =>
      cases ho
      have e1 : aq.tmps.getD 1 undef = .pointer (some ⟨w.heap.size, 0, none⟩) := hk 1 (by decide)
      exact flow_value _ (run_mid 43 (.tmp 1) rfl w.heap.size 0 e1 (pdC zbo zbc zbl zdzs zdzi zdzb zdzcze zdzczr zdztze zdztzr zde zpr) ((HX.out.keep (hcB hc)).range 0 (pdC zbo zbc zbl zdzs zdzi zdzb zdzcze zdzczr zdztze zdztzr zde zpr) (fun j v hv => by rw [Nat.zero_add]; exact hv)) _ Tryd.underlying43 rfl (by rw [pdC_length zbo zbc zbl zdzs zdzi zdzb zdzcze zdzczr zdztze zdztzr zde zpr hzdzb.len hzdzczr.len hzdztzr.len]; kernel_rfl)) rfl
    | 4, _ =>
      cases ho
      have e0 : aq.tmps.getD 12 undef = .agg (pdC zbo zbc zbl zdzs zdzi zdzb zdzcze zdzczr zdztze zdztzr zde zpr).toArray := hdep 3 12 rfl (by kernel_rfl)
      refine flow_fun 14 _ _ rfl (fun _ _ => by simp [go_sem]) #[.agg (pdC zbo zbc zbl zdzs zdzi zdzb zdzcze zdzczr zdztze zdztzr zde zpr).toArray] (by rw [show (#[Operand.tmp 12] : Array Operand).map aq.eval = #[aq.tmps.getD 12 undef] from by simp [Act.eval], e0]) ?_
      refine (pdV_any zbo zbc zbl zdzs zdzi zdzb zdzcze zdzczr zdztze zdztzr zde zpr hzdzs hzdzi hzdzb hzdzcze hzdzczr hzdztze hzdztzr hzde hzpr wq (hzb.keep (HB.out.trans ((hcB hc).mono HB.out.size))) hzbn).mono ?_
      rintro x w' ⟨v, rfl, h1, q⟩
      exact ⟨v, rfl, h1, q⟩
    | 5, _ =>
      cases ho
      obtain ⟨p, e0, h0⟩ := hdep 2 11 rfl (by kernel_rfl)
      have h1 : IsV wq (aq.tmps.getD 13 undef) (pdV zbo zbc zbl zdzs zdzi zdzb zdzcze zdzczr zdztze zdztzr zde zpr) := hdep 4 13 rfl (by kernel_rfl)
      refine flow_fun 9 _ _ rfl (fun _ _ => by simp [go_sem]) #[.pointer (some ⟨p, 0, none⟩), aq.tmps.getD 13 undef] (by rw [show (#[Operand.tmp 11, Operand.tmp 13] : Array Operand).map aq.eval = #[aq.tmps.getD 11 undef, aq.tmps.getD 13 undef] from by simp [Act.eval], e0]) ?_
      refine (rroot_any pdD (pdV zbo zbc zbl zdzs zdzi zdzb zdzcze zdzczr zdztze zdztzr zde zpr) p _ wq HO.out h0 h1).mono ?_
      rintro x w' ⟨rfl, q⟩
      exact ⟨_, rfl, (by rw [HE.out]; rfl), q⟩
    | 6, _ =>
      cases ho
      have e0 : aq.tmps.getD 10 undef = .agg (nums .u8 R1) := hdep 1 10 rfl (by kernel_rfl)
      have e1 : aq.tmps.getD 14 undef = .agg (nums .u8 R1) := hdep 5 14 rfl (by kernel_rfl)
      exact flow_value _ (run_same_root (.tmp 10) (.tmp 14) rfl R1 hR1 e0 e1) rfl
    | (k + 7), hk => exact absurd hk (by omega)
  · intro o h7 ho
    omega
  intro vf w8 hc hv
  have e7 : vf 6 = _ := hv 6 15 (by decide) rfl
  have B8 := HB.out.trans ((hcB hc).mono HB.out.size)
  clear hv hc
  simp only [List.take_succ_cons, List.take_zero, List.drop_succ_cons, List.drop_zero, putAll, Act.put, List.setIfInBounds_toArray, List.set_cons_succ, List.set_cons_zero]
  rw [e7]
  have HB8 := hid B8
  clear B8 e7 HB HX HT
  go_wp2
  go_ret
  exact ⟨rfl, HB8.out⟩
end Go.Proofs.YthodofnebonpfaaDoor

