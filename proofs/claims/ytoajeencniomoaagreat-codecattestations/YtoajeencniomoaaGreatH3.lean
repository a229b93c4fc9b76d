/- Own texts of the proof, joined: Va6Checkpoint Va6Vote Va6Attestation Bits5 KdVt KdAt LenB TkLe AtF At5 Open5a. -/
import Derived.Test.YtoajeencniomoaaGreatH2
import Derived.ProofKit
import Derived.OpenShut
import Derived.ShutString
import Derived.ChangeOld
import Derived.Deep.Slices
import Derived.SevenTiedAt
import Derived.Stop.Joined
import Derived.Deep.Grids
/- The document's value of a struct (Checkpoint). -/
namespace Go.Proofs.YtoajeencniomoaaGreat
open Go.RowKit Go.Shelf
set_option linter.unusedVariables false
set_option linter.unusedSimpArgs false
set_option maxRecDepth 100000

def cpP6 (ze : Nat) (zr : List Nat) : List (List Value) := [[.int .u64 (ze : Nat)], cellsB zr]
def cpC6 (ze : Nat) (zr : List Nat) : List Value := (cpP6 ze zr).flatten
theorem cpC6_length (ze : Nat) (zr : List Nat) (hzr : zr.length = 32) : (cpC6 ze zr).length = 33 := by simp [cpC6, cpP6, cellsB_length, hzr]
def cpV6 (ze : Nat) (zr : List Nat) : Vt := .mk 0 (zeros 32) [] [.mk ze (zeros 32) [] [], .mk 0 zr [] []]
theorem cpV6_wide (ze : Nat) (zr : List Nat) : wide (cpV6 ze zr) := by simp [cpV6, wide, wideK]
set_option maxHeartbeats 2000000 in
theorem cpV6_any (ze : Nat) (zr : List Nat) (hze : ze < 18446744073709551616) (hzr : Rt6 zr) (w : World) : Calls Tryz.prog 45 #[.agg (cpC6 ze zr).toArray] w fun x w' => ∃ v, x = .returned v ∧ IsV w' v (cpV6 ze zr) ∧ Below w.heap.size w w' := by
  go_enter Tryz.func45, Tryz.ntmps45
  go_wp2_with ((with_reducible refine at_list' ?_); first
    | (refine wpList_box_c rfl 1 rfl (.tmp 0) rfl (cpC6 ze zr) rfl ?_; intro w1 H1 B1 S1)
    | (refine wpList_alloc_c Tryz.ty33 rfl 2 rfl rfl ?_; intro w2 H2 B2 S2; rw [S1] at H2 S2; rw [S1]))
  have HX := hid (H1.keep B2)
  have HY := hid H2
  have HB := hid (B1.trans (B2.mono (by omega)))
  have s2 : w2.heap.size = w.heap.size + 2 := by omega
  clear H1 B1 S1 H2 B2 S2
  try simp only [Act.put, List.setIfInBounds_toArray, List.set_cons_succ, List.set_cons_zero]
  refine wp_region_flow 8 8 (fun i v wq => match i with
    | 0 => v = .pointer (some ⟨w.heap.size, 0, none⟩)
    | 1 => v = .int .u64 (ze : Nat)
    | 2 => IsV wq v (.mk ze (zeros 32) [] [])
    | 3 => v = .pointer (some ⟨w.heap.size, 1, none⟩)
    | 4 => v = .agg (nums .u8 zr)
    | 5 => IsV wq v (.mk 0 zr [] [])
    | 6 => ∃ b, v = .slice (some ⟨b, 0, none⟩) 2 2 ∧ KsAt wq [.mk ze (zeros 32) [] [], .mk 0 zr [] []] b 0
    | _ => ∃ b, v = .agg (valL 0 (zeros 32) nilS (.slice (some ⟨b, 0, none⟩) 2 2)).toArray ∧ KsAt wq [.mk ze (zeros 32) [] [], .mk 0 zr [] []] b 0) (by kernel_rfl) (by kernel_rfl) (fun _ d _ _ _ h => by cases d <;> exact h) ?_ ?_ ?_ ?_
  · intro i v wq wq' hi hv hb
    match i, hi with
    | 0, _ => exact hv
    | 1, _ => exact hv
    | 2, _ => exact hv.keep hb
    | 3, _ => exact hv
    | 4, _ => exact hv
    | 5, _ => exact hv.keep hb
    | 6, _ => obtain ⟨b, h1, h2⟩ := hv; exact ⟨b, h1, KsAt.keep hb _ h2⟩
    | 7, _ => obtain ⟨b, h1, h2⟩ := hv; exact ⟨b, h1, KsAt.keep hb _ h2⟩
    | (k + 8), hk => exact absurd hk (by omega)
  · intro i o hi ho aq wq hc hk hdep
    match i, hi with
    | 0, _ =>
      cases ho
      have e1 : aq.tmps.getD 1 undef = .pointer (some ⟨w.heap.size, 0, none⟩) := hk 1 (by decide)
      exact flow_value _ (run_fieldAt 26 (.tmp 1) 0 rfl _ _ e1 (by kernel_rfl)) rfl
    | 1, _ =>
      cases ho
      have e0 : aq.tmps.getD 3 undef = .pointer (some ⟨w.heap.size, 0, none⟩) := hdep 0 3 rfl (by kernel_rfl)
      exact flow_value _ (run_cell 22 (.tmp 3) rfl _ e0 _ ((HX.out.keep (hcB hc)).cell (seg (ps := cpP6 ze zr) (i := 0) (off := 0) rfl (by simp [cpP6, cellsB_length, hzr.len]) 0 _ rfl)) _ Tryz.underlying22 rfl) rfl
    | 2, _ =>
      cases ho
      have e0 : aq.tmps.getD 4 undef = .int .u64 (ze : Nat) := hdep 1 4 rfl (by kernel_rfl)
      refine flow_fun 43 _ _ rfl (fun _ _ => by simp [go_sem]) #[.int .u64 (ze : Nat)] (by rw [show (#[Operand.tmp 4] : Array Operand).map aq.eval = #[aq.tmps.getD 4 undef] from by simp [Act.eval], e0]) ?_
      refine (n_any ze wq).mono ?_
      rintro x w' ⟨rfl, q⟩
      exact ⟨_, rfl, IsV.leaf w' hze zeros32 (zeros_byte 32), q⟩
    | 3, _ =>
      cases ho
      have e1 : aq.tmps.getD 1 undef = .pointer (some ⟨w.heap.size, 0, none⟩) := hk 1 (by decide)
      exact flow_value _ (run_fieldAt 26 (.tmp 1) 1 rfl _ _ e1 (by kernel_rfl)) rfl
    | 4, _ =>
      cases ho
      have e0 : aq.tmps.getD 6 undef = .pointer (some ⟨w.heap.size, 1, none⟩) := hdep 3 6 rfl (by kernel_rfl)
      exact flow_value _ (run_mid 24 (.tmp 6) rfl w.heap.size 1 e0 (cellsB zr) ((HX.out.keep (hcB hc)).range 1 (cellsB zr) (seg (ps := cpP6 ze zr) (i := 1) (off := 1) rfl (by simp [cpP6, cellsB_length, hzr.len]))) _ Tryz.und24 rfl (by rw [cellsB_length, hzr.len]; exact Tryz.size24)) rfl
    | 5, _ =>
      cases ho
      have e0 : aq.tmps.getD 7 undef = .agg (nums .u8 zr) := hdep 4 7 rfl (by kernel_rfl)
      refine flow_fun 44 _ _ rfl (fun _ _ => by simp [go_sem]) #[.agg (nums .u8 zr)] (by rw [show (#[Operand.tmp 7] : Array Operand).map aq.eval = #[aq.tmps.getD 7 undef] from by simp [Act.eval], e0]) ?_
      refine (r_any zr hzr.len wq).mono ?_
      rintro x w' ⟨rfl, q⟩
      exact ⟨_, rfl, IsV.leaf w' (by decide) hzr.len hzr.byte, q⟩
    | 6, _ =>
      cases ho
      obtain ⟨sb0, sk0, e0, h0_⟩ := hdep 2 5 rfl (by kernel_rfl)
      obtain ⟨sb1, sk1, e1, h1_⟩ := hdep 5 8 rfl (by kernel_rfl)
      refine flow_rowsB 31 33 2 35 _ rfl Tryz.underlying31 valInfo [valL ze (zeros 32) sb0 sk0, valL 0 zr sb1 sk1] [.tmp 5, .tmp 8] rfl (by rw [show [Operand.tmp 5, Operand.tmp 8].map aq.eval = [aq.tmps.getD 5 undef, aq.tmps.getD 8 undef] from rfl, e0, e1]; rfl) (by simp [valL_length, zeros32, hzr.len]) rfl (by decide) (by decide) (by decide) (fun w' h hb => ⟨_, rfl, ksAt_of h [(.mk ze (zeros 32) [] [], sb0, sk0), (.mk 0 zr [] [], sb1, sk1)] 0 (fun j v hj => by rw [Nat.zero_add]; exact hj) (fun x hx => ?_)⟩)
      simp only [List.mem_cons, List.not_mem_nil, or_false] at hx
      rcases hx with rfl | rfl
      · exact VAt.keep hb _ h0_
      · exact VAt.keep hb _ h1_
    | 7, _ =>
      cases ho
      obtain ⟨b, e6, h6⟩ := hdep 6 9 rfl (by kernel_rfl)
      refine flow_fun 42 _ _ rfl (fun _ _ => by simp [go_sem]) #[.slice (some ⟨b, 0, none⟩) 2 2] (by rw [show (#[Operand.tmp 9] : Array Operand).map aq.eval = #[aq.tmps.getD 9 undef] from by simp [Act.eval], e6]) ?_
      refine (all_any (some ⟨b, 0, none⟩) 2 2 wq).mono ?_
      rintro x w' ⟨rfl, q⟩
      exact ⟨_, rfl, ⟨b, rfl, KsAt.keep q _ h6⟩, q⟩
    | (k + 8), hk => exact absurd hk (by omega)
  · intro o h8 ho
    omega
  intro vf w8 hc hv
  have e7 : ∃ b, vf 7 = _ ∧ KsAt w8 _ b 0 := hv 7 10 (by decide) rfl
  obtain ⟨b, e7, h7⟩ := e7
  have B8 := HB.out.trans ((hcB hc).mono (by omega))
  have H8v := HY.out.keep (hcB hc)
  have s8 := (hcB hc).size
  clear hv hc
  simp only [List.take_succ_cons, List.take_zero, List.drop_succ_cons, List.drop_zero, putAll, Act.put, List.setIfInBounds_toArray, List.set_cons_succ, List.set_cons_zero]
  rw [e7]
  have HB8 := hid B8
  have HK := hid h7
  clear B8 h7 e7 HB
  go_wp2_with ((with_reducible refine at_list' ?_); first
    | (refine wpList_store_c Tryz.ty33 rfl (.tmp 2) (.tmp 10) rfl (w.heap.size + 1) (valL 0 (zeros 32) nilS (.slice (some ⟨b, 0, none⟩) 2 2)) rfl rfl rfl (valL_oneC _ _ _ _ trivial trivial) _ H8v rfl ?_; intro w9 H9 O9))
  refine bodyPost_ret (results_c1 Tryz.ty33 rfl _ w9 (w.heap.size + 1) _ rfl H9 rfl) rfl ⟨_, rfl, ⟨nilS, _, rfl, ?_⟩, below_only HB8.out O9 (by omega)⟩
  exact VAt.aside H8v rfl O9 (cpV6 ze zr) (cpV6_wide ze zr) (isV_all (ks := [.mk ze (zeros 32) [] [], .mk 0 zr [] []]) rfl (by decide) HK.out)
end Go.Proofs.YtoajeencniomoaaGreat

/- The document's value of a struct (Vote). -/
namespace Go.Proofs.YtoajeencniomoaaGreat
open Go.RowKit Go.Shelf
set_option linter.unusedVariables false
set_option linter.unusedSimpArgs false
set_option maxRecDepth 100000

def vtP6 (zs : Nat) (zi : Nat) (zb : List Nat) (zcze : Nat) (zczr : List Nat) (ztze : Nat) (ztzr : List Nat) : List (List Value) := [[.int .u64 (zs : Nat)], [.int .u64 (zi : Nat)], cellsB zb, cpC6 zcze zczr, cpC6 ztze ztzr]
def vtC6 (zs : Nat) (zi : Nat) (zb : List Nat) (zcze : Nat) (zczr : List Nat) (ztze : Nat) (ztzr : List Nat) : List Value := (vtP6 zs zi zb zcze zczr ztze ztzr).flatten
theorem vtC6_length (zs : Nat) (zi : Nat) (zb : List Nat) (zcze : Nat) (zczr : List Nat) (ztze : Nat) (ztzr : List Nat) (hzb : zb.length = 32) (hzczr : zczr.length = 32) (hztzr : ztzr.length = 32) : (vtC6 zs zi zb zcze zczr ztze ztzr).length = 100 := by simp [vtC6, vtP6, cellsB_length, hzb, hzczr, hztzr, cpC6_length zcze zczr hzczr, cpC6_length ztze ztzr hztzr]
def vtV6 (zs : Nat) (zi : Nat) (zb : List Nat) (zcze : Nat) (zczr : List Nat) (ztze : Nat) (ztzr : List Nat) : Vt := .mk 0 (zeros 32) [] [.mk zs (zeros 32) [] [], .mk zi (zeros 32) [] [], .mk 0 zb [] [], cpV6 zcze zczr, cpV6 ztze ztzr]
theorem vtV6_wide (zs : Nat) (zi : Nat) (zb : List Nat) (zcze : Nat) (zczr : List Nat) (ztze : Nat) (ztzr : List Nat) : wide (vtV6 zs zi zb zcze zczr ztze ztzr) := by simp [vtV6, wide, wideK, cpV6_wide, cpV6_wide]
set_option maxHeartbeats 2000000 in
theorem vtV6_any (zs : Nat) (zi : Nat) (zb : List Nat) (zcze : Nat) (zczr : List Nat) (ztze : Nat) (ztzr : List Nat) (hzs : zs < 18446744073709551616) (hzi : zi < 18446744073709551616) (hzb : Rt6 zb) (hzcze : zcze < 18446744073709551616) (hzczr : Rt6 zczr) (hztze : ztze < 18446744073709551616) (hztzr : Rt6 ztzr) (w : World) : Calls Tryz.prog 10 #[.agg (vtC6 zs zi zb zcze zczr ztze ztzr).toArray] w fun x w' => ∃ v, x = .returned v ∧ IsV w' v (vtV6 zs zi zb zcze zczr ztze ztzr) ∧ Below w.heap.size w w' := by
  go_enter Tryz.func10, Tryz.ntmps10
  go_wp2_with ((with_reducible refine at_list' ?_); first
    | (refine wpList_box_c rfl 1 rfl (.tmp 0) rfl (vtC6 zs zi zb zcze zczr ztze ztzr) rfl ?_; intro w1 H1 B1 S1)
    | (refine wpList_alloc_c Tryz.ty33 rfl 2 rfl rfl ?_; intro w2 H2 B2 S2; rw [S1] at H2 S2; rw [S1]))
  have HX := hid (H1.keep B2)
  have HY := hid H2
  have HB := hid (B1.trans (B2.mono (by omega)))
  have s2 : w2.heap.size = w.heap.size + 2 := by omega
  clear H1 B1 S1 H2 B2 S2
  try simp only [Act.put, List.setIfInBounds_toArray, List.set_cons_succ, List.set_cons_zero]
  refine wp_region_flow 17 17 (fun i v wq => match i with
    | 0 => v = .pointer (some ⟨w.heap.size, 0, none⟩)
    | 1 => v = .int .u64 (zs : Nat)
    | 2 => IsV wq v (.mk zs (zeros 32) [] [])
    | 3 => v = .pointer (some ⟨w.heap.size, 1, none⟩)
    | 4 => v = .int .u64 (zi : Nat)
    | 5 => IsV wq v (.mk zi (zeros 32) [] [])
    | 6 => v = .pointer (some ⟨w.heap.size, 2, none⟩)
    | 7 => v = .agg (nums .u8 zb)
    | 8 => IsV wq v (.mk 0 zb [] [])
    | 9 => v = .pointer (some ⟨w.heap.size, 34, none⟩)
    | 10 => v = .agg (cpC6 zcze zczr).toArray
    | 11 => IsV wq v (cpV6 zcze zczr)
    | 12 => v = .pointer (some ⟨w.heap.size, 67, none⟩)
    | 13 => v = .agg (cpC6 ztze ztzr).toArray
    | 14 => IsV wq v (cpV6 ztze ztzr)
    | 15 => ∃ b, v = .slice (some ⟨b, 0, none⟩) 5 5 ∧ KsAt wq [.mk zs (zeros 32) [] [], .mk zi (zeros 32) [] [], .mk 0 zb [] [], cpV6 zcze zczr, cpV6 ztze ztzr] b 0
    | _ => ∃ b, v = .agg (valL 0 (zeros 32) nilS (.slice (some ⟨b, 0, none⟩) 5 5)).toArray ∧ KsAt wq [.mk zs (zeros 32) [] [], .mk zi (zeros 32) [] [], .mk 0 zb [] [], cpV6 zcze zczr, cpV6 ztze ztzr] b 0) (by kernel_rfl) (by kernel_rfl) (fun _ d _ _ _ h => by cases d <;> exact h) ?_ ?_ ?_ ?_
  · intro i v wq wq' hi hv hb
    match i, hi with
    | 0, _ => exact hv
    | 1, _ => exact hv
    | 2, _ => exact hv.keep hb
    | 3, _ => exact hv
    | 4, _ => exact hv
    | 5, _ => exact hv.keep hb
    | 6, _ => exact hv
    | 7, _ => exact hv
    | 8, _ => exact hv.keep hb
    | 9, _ => exact hv
    | 10, _ => exact hv
    | 11, _ => exact hv.keep hb
    | 12, _ => exact hv
    | 13, _ => exact hv
    | 14, _ => exact hv.keep hb
    | 15, _ => obtain ⟨b, h1, h2⟩ := hv; exact ⟨b, h1, KsAt.keep hb _ h2⟩
    | 16, _ => obtain ⟨b, h1, h2⟩ := hv; exact ⟨b, h1, KsAt.keep hb _ h2⟩
    | (k + 17), hk => exact absurd hk (by omega)
  · intro i o hi ho aq wq hc hk hdep
    match i, hi with
    | 0, _ =>
      cases ho
      have e1 : aq.tmps.getD 1 undef = .pointer (some ⟨w.heap.size, 0, none⟩) := hk 1 (by decide)
      exact flow_value _ (run_fieldAt 28 (.tmp 1) 0 rfl _ _ e1 (by kernel_rfl)) rfl
    | 1, _ =>
      cases ho
      have e0 : aq.tmps.getD 3 undef = .pointer (some ⟨w.heap.size, 0, none⟩) := hdep 0 3 rfl (by kernel_rfl)
      exact flow_value _ (run_cell 22 (.tmp 3) rfl _ e0 _ ((HX.out.keep (hcB hc)).cell (seg (ps := vtP6 zs zi zb zcze zczr ztze ztzr) (i := 0) (off := 0) rfl (by simp [vtP6, cellsB_length, hzb.len, hzczr.len, hztzr.len, cpC6_length zcze zczr hzczr.len, cpC6_length ztze ztzr hztzr.len]) 0 _ rfl)) _ Tryz.underlying22 rfl) rfl
    | 2, _ =>
      cases ho
      have e0 : aq.tmps.getD 4 undef = .int .u64 (zs : Nat) := hdep 1 4 rfl (by kernel_rfl)
      refine flow_fun 43 _ _ rfl (fun _ _ => by simp [go_sem]) #[.int .u64 (zs : Nat)] (by rw [show (#[Operand.tmp 4] : Array Operand).map aq.eval = #[aq.tmps.getD 4 undef] from by simp [Act.eval], e0]) ?_
      refine (n_any zs wq).mono ?_
      rintro x w' ⟨rfl, q⟩
      exact ⟨_, rfl, IsV.leaf w' hzs zeros32 (zeros_byte 32), q⟩
    | 3, _ =>
      cases ho
      have e1 : aq.tmps.getD 1 undef = .pointer (some ⟨w.heap.size, 0, none⟩) := hk 1 (by decide)
      exact flow_value _ (run_fieldAt 28 (.tmp 1) 1 rfl _ _ e1 (by kernel_rfl)) rfl
    | 4, _ =>
      cases ho
      have e0 : aq.tmps.getD 6 undef = .pointer (some ⟨w.heap.size, 1, none⟩) := hdep 3 6 rfl (by kernel_rfl)
      exact flow_value _ (run_cell 22 (.tmp 6) rfl _ e0 _ ((HX.out.keep (hcB hc)).cell (seg (ps := vtP6 zs zi zb zcze zczr ztze ztzr) (i := 1) (off := 1) rfl (by simp [vtP6, cellsB_length, hzb.len, hzczr.len, hztzr.len, cpC6_length zcze zczr hzczr.len, cpC6_length ztze ztzr hztzr.len]) 0 _ rfl)) _ Tryz.underlying22 rfl) rfl
    | 5, _ =>
      cases ho
      have e0 : aq.tmps.getD 7 undef = .int .u64 (zi : Nat) := hdep 4 7 rfl (by kernel_rfl)
      refine flow_fun 43 _ _ rfl (fun _ _ => by simp [go_sem]) #[.int .u64 (zi : Nat)] (by rw [show (#[Operand.tmp 7] : Array Operand).map aq.eval = #[aq.tmps.getD 7 undef] from by simp [Act.eval], e0]) ?_
      refine (n_any zi wq).mono ?_
      rintro x w' ⟨rfl, q⟩
      exact ⟨_, rfl, IsV.leaf w' hzi zeros32 (zeros_byte 32), q⟩
    | 6, _ =>
      cases ho
      have e1 : aq.tmps.getD 1 undef = .pointer (some ⟨w.heap.size, 0, none⟩) := hk 1 (by decide)
      exact flow_value _ (run_fieldAt 28 (.tmp 1) 2 rfl _ _ e1 (by kernel_rfl)) rfl
    | 7, _ =>
      cases ho
      have e0 : aq.tmps.getD 9 undef = .pointer (some ⟨w.heap.size, 2, none⟩) := hdep 6 9 rfl (by kernel_rfl)
      exact flow_value _ (run_mid 24 (.tmp 9) rfl w.heap.size 2 e0 (cellsB zb) ((HX.out.keep (hcB hc)).range 2 (cellsB zb) (seg (ps := vtP6 zs zi zb zcze zczr ztze ztzr) (i := 2) (off := 2) rfl (by simp [vtP6, cellsB_length, hzb.len, hzczr.len, hztzr.len, cpC6_length zcze zczr hzczr.len, cpC6_length ztze ztzr hztzr.len]))) _ Tryz.und24 rfl (by rw [cellsB_length, hzb.len]; exact Tryz.size24)) rfl
    | 8, _ =>
      cases ho
      have e0 : aq.tmps.getD 10 undef = .agg (nums .u8 zb) := hdep 7 10 rfl (by kernel_rfl)
      refine flow_fun 44 _ _ rfl (fun _ _ => by simp [go_sem]) #[.agg (nums .u8 zb)] (by rw [show (#[Operand.tmp 10] : Array Operand).map aq.eval = #[aq.tmps.getD 10 undef] from by simp [Act.eval], e0]) ?_
      refine (r_any zb hzb.len wq).mono ?_
      rintro x w' ⟨rfl, q⟩
      exact ⟨_, rfl, IsV.leaf w' (by decide) hzb.len hzb.byte, q⟩
    | 9, _ =>
      cases ho
      have e1 : aq.tmps.getD 1 undef = .pointer (some ⟨w.heap.size, 0, none⟩) := hk 1 (by decide)
      exact flow_value _ (run_fieldAt 28 (.tmp 1) 3 rfl _ _ e1 (by kernel_rfl)) rfl
    | 10, _ =>
      cases ho
      have e0 : aq.tmps.getD 12 undef = .pointer (some ⟨w.heap.size, 34, none⟩) := hdep 9 12 rfl (by kernel_rfl)
      exact flow_value _ (run_mid 26 (.tmp 12) rfl w.heap.size 34 e0 (cpC6 zcze zczr) ((HX.out.keep (hcB hc)).range 34 (cpC6 zcze zczr) (seg (ps := vtP6 zs zi zb zcze zczr ztze ztzr) (i := 3) (off := 34) rfl (by simp [vtP6, cellsB_length, hzb.len, hzczr.len, hztzr.len, cpC6_length zcze zczr hzczr.len, cpC6_length ztze ztzr hztzr.len]))) _ Tryz.underlying26 rfl (by rw [cpC6_length zcze zczr hzczr.len]; kernel_rfl)) rfl
    | 11, _ =>
      cases ho
      have e0 : aq.tmps.getD 13 undef = .agg (cpC6 zcze zczr).toArray := hdep 10 13 rfl (by kernel_rfl)
      refine flow_fun 45 _ _ rfl (fun _ _ => by simp [go_sem]) #[.agg (cpC6 zcze zczr).toArray] (by rw [show (#[Operand.tmp 13] : Array Operand).map aq.eval = #[aq.tmps.getD 13 undef] from by simp [Act.eval], e0]) ?_
      refine (cpV6_any zcze zczr hzcze hzczr wq).mono ?_
      rintro x w' ⟨v, rfl, hv, q⟩
      exact ⟨v, rfl, hv, q⟩
    | 12, _ =>
      cases ho
      have e1 : aq.tmps.getD 1 undef = .pointer (some ⟨w.heap.size, 0, none⟩) := hk 1 (by decide)
      exact flow_value _ (run_fieldAt 28 (.tmp 1) 4 rfl _ _ e1 (by kernel_rfl)) rfl
    | 13, _ =>
      cases ho
      have e0 : aq.tmps.getD 15 undef = .pointer (some ⟨w.heap.size, 67, none⟩) := hdep 12 15 rfl (by kernel_rfl)
      exact flow_value _ (run_mid 26 (.tmp 15) rfl w.heap.size 67 e0 (cpC6 ztze ztzr) ((HX.out.keep (hcB hc)).range 67 (cpC6 ztze ztzr) (seg (ps := vtP6 zs zi zb zcze zczr ztze ztzr) (i := 4) (off := 67) rfl (by simp [vtP6, cellsB_length, hzb.len, hzczr.len, hztzr.len, cpC6_length zcze zczr hzczr.len, cpC6_length ztze ztzr hztzr.len]))) _ Tryz.underlying26 rfl (by rw [cpC6_length ztze ztzr hztzr.len]; kernel_rfl)) rfl
    | 14, _ =>
      cases ho
      have e0 : aq.tmps.getD 16 undef = .agg (cpC6 ztze ztzr).toArray := hdep 13 16 rfl (by kernel_rfl)
      refine flow_fun 45 _ _ rfl (fun _ _ => by simp [go_sem]) #[.agg (cpC6 ztze ztzr).toArray] (by rw [show (#[Operand.tmp 16] : Array Operand).map aq.eval = #[aq.tmps.getD 16 undef] from by simp [Act.eval], e0]) ?_
      refine (cpV6_any ztze ztzr hztze hztzr wq).mono ?_
      rintro x w' ⟨v, rfl, hv, q⟩
      exact ⟨v, rfl, hv, q⟩
    | 15, _ =>
      cases ho
      obtain ⟨sb0, sk0, e0, h0_⟩ := hdep 2 5 rfl (by kernel_rfl)
      obtain ⟨sb1, sk1, e1, h1_⟩ := hdep 5 8 rfl (by kernel_rfl)
      obtain ⟨sb2, sk2, e2, h2_⟩ := hdep 8 11 rfl (by kernel_rfl)
      obtain ⟨sb3, sk3, e3, h3_⟩ := hdep 11 14 rfl (by kernel_rfl)
      obtain ⟨sb4, sk4, e4, h4_⟩ := hdep 14 17 rfl (by kernel_rfl)
      refine flow_rowsB 31 33 5 35 _ rfl Tryz.underlying31 valInfo [valL zs (zeros 32) sb0 sk0, valL zi (zeros 32) sb1 sk1, valL 0 zb sb2 sk2, valL 0 (zeros 32) sb3 sk3, valL 0 (zeros 32) sb4 sk4] [.tmp 5, .tmp 8, .tmp 11, .tmp 14, .tmp 17] rfl (by rw [show [Operand.tmp 5, Operand.tmp 8, Operand.tmp 11, Operand.tmp 14, Operand.tmp 17].map aq.eval = [aq.tmps.getD 5 undef, aq.tmps.getD 8 undef, aq.tmps.getD 11 undef, aq.tmps.getD 14 undef, aq.tmps.getD 17 undef] from rfl, e0, e1, e2, e3, e4]; rfl) (by simp [valL_length, zeros32, hzb.len]) rfl (by decide) (by decide) (by decide) (fun w' h hb => ⟨_, rfl, ksAt_of h [(.mk zs (zeros 32) [] [], sb0, sk0), (.mk zi (zeros 32) [] [], sb1, sk1), (.mk 0 zb [] [], sb2, sk2), (cpV6 zcze zczr, sb3, sk3), (cpV6 ztze ztzr, sb4, sk4)] 0 (fun j v hj => by rw [Nat.zero_add]; exact hj) (fun x hx => ?_)⟩)
      simp only [List.mem_cons, List.not_mem_nil, or_false] at hx
      rcases hx with rfl | rfl | rfl | rfl | rfl
      · exact VAt.keep hb _ h0_
      · exact VAt.keep hb _ h1_
      · exact VAt.keep hb _ h2_
      · exact VAt.keep hb _ h3_
      · exact VAt.keep hb _ h4_
    | 16, _ =>
      cases ho
      obtain ⟨b, e6, h6⟩ := hdep 15 18 rfl (by kernel_rfl)
      refine flow_fun 42 _ _ rfl (fun _ _ => by simp [go_sem]) #[.slice (some ⟨b, 0, none⟩) 5 5] (by rw [show (#[Operand.tmp 18] : Array Operand).map aq.eval = #[aq.tmps.getD 18 undef] from by simp [Act.eval], e6]) ?_
      refine (all_any (some ⟨b, 0, none⟩) 5 5 wq).mono ?_
      rintro x w' ⟨rfl, q⟩
      exact ⟨_, rfl, ⟨b, rfl, KsAt.keep q _ h6⟩, q⟩
    | (k + 17), hk => exact absurd hk (by omega)
  · intro o h17 ho
    omega
  intro vf w8 hc hv
  have e7 : ∃ b, vf 16 = _ ∧ KsAt w8 _ b 0 := hv 16 19 (by decide) rfl
  obtain ⟨b, e7, h7⟩ := e7
  have B8 := HB.out.trans ((hcB hc).mono (by omega))
  have H8v := HY.out.keep (hcB hc)
  have s8 := (hcB hc).size
  clear hv hc
  simp only [List.take_succ_cons, List.take_zero, List.drop_succ_cons, List.drop_zero, putAll, Act.put, List.setIfInBounds_toArray, List.set_cons_succ, List.set_cons_zero]
  rw [e7]
  have HB8 := hid B8
  have HK := hid h7
  clear B8 h7 e7 HB
  go_wp2_with ((with_reducible refine at_list' ?_); first
    | (refine wpList_store_c Tryz.ty33 rfl (.tmp 2) (.tmp 19) rfl (w.heap.size + 1) (valL 0 (zeros 32) nilS (.slice (some ⟨b, 0, none⟩) 5 5)) rfl rfl rfl (valL_oneC _ _ _ _ trivial trivial) _ H8v rfl ?_; intro w9 H9 O9))
  refine bodyPost_ret (results_c1 Tryz.ty33 rfl _ w9 (w.heap.size + 1) _ rfl H9 rfl) rfl ⟨_, rfl, ⟨nilS, _, rfl, ?_⟩, below_only HB8.out O9 (by omega)⟩
  exact VAt.aside H8v rfl O9 (vtV6 zs zi zb zcze zczr ztze ztzr) (vtV6_wide zs zi zb zcze zczr ztze ztzr) (isV_all (ks := [.mk zs (zeros 32) [] [], .mk zi (zeros 32) [] [], .mk 0 zb [] [], cpV6 zcze zczr, cpV6 ztze ztzr]) rfl (by decide) HK.out)
end Go.Proofs.YtoajeencniomoaaGreat

/- The document's value of a struct (Attestation). -/
namespace Go.Proofs.YtoajeencniomoaaGreat
open Go.RowKit Go.Shelf
set_option linter.unusedVariables false
set_option linter.unusedSimpArgs false
set_option maxRecDepth 100000

def atP6 (zbo : Option Addr) (zbc : Nat) (zbl : List Bool) (zdzs : Nat) (zdzi : Nat) (zdzb : List Nat) (zdzcze : Nat) (zdzczr : List Nat) (zdztze : Nat) (zdztzr : List Nat) (zsg : List Nat) : List (List Value) := [[.slice zbo zbl.length zbc], vtC6 zdzs zdzi zdzb zdzcze zdzczr zdztze zdztzr, cellsB zsg]
def atC6 (zbo : Option Addr) (zbc : Nat) (zbl : List Bool) (zdzs : Nat) (zdzi : Nat) (zdzb : List Nat) (zdzcze : Nat) (zdzczr : List Nat) (zdztze : Nat) (zdztzr : List Nat) (zsg : List Nat) : List Value := (atP6 zbo zbc zbl zdzs zdzi zdzb zdzcze zdzczr zdztze zdztzr zsg).flatten
theorem atC6_length (zbo : Option Addr) (zbc : Nat) (zbl : List Bool) (zdzs : Nat) (zdzi : Nat) (zdzb : List Nat) (zdzcze : Nat) (zdzczr : List Nat) (zdztze : Nat) (zdztzr : List Nat) (zsg : List Nat) (hzdzb : zdzb.length = 32) (hzdzczr : zdzczr.length = 32) (hzdztzr : zdztzr.length = 32) (hzsg : zsg.length = 32) : (atC6 zbo zbc zbl zdzs zdzi zdzb zdzcze zdzczr zdztze zdztzr zsg).length = 133 := by simp [atC6, atP6, cellsB_length, hzdzb, hzdzczr, hzdztzr, hzsg, vtC6_length zdzs zdzi zdzb zdzcze zdzczr zdztze zdztzr hzdzb hzdzczr hzdztzr]
def atV6 (zbo : Option Addr) (zbc : Nat) (zbl : List Bool) (zdzs : Nat) (zdzi : Nat) (zdzb : List Nat) (zdzcze : Nat) (zdzczr : List Nat) (zdztze : Nat) (zdztzr : List Nat) (zsg : List Nat) : Vt := .mk 0 (zeros 32) [] [.mk 0 (zeros 32) zbl [], vtV6 zdzs zdzi zdzb zdzcze zdzczr zdztze zdztzr, .mk 0 zsg [] []]
theorem atV6_wide (zbo : Option Addr) (zbc : Nat) (zbl : List Bool) (zdzs : Nat) (zdzi : Nat) (zdzb : List Nat) (zdzcze : Nat) (zdzczr : List Nat) (zdztze : Nat) (zdztzr : List Nat) (zsg : List Nat) : wide (atV6 zbo zbc zbl zdzs zdzi zdzb zdzcze zdzczr zdztze zdztzr zsg) := by simp [atV6, wide, wideK, vtV6_wide]
set_option maxHeartbeats 2000000 in
theorem atV6_any (zbo : Option Addr) (zbc : Nat) (zbl : List Bool) (zdzs : Nat) (zdzi : Nat) (zdzb : List Nat) (zdzcze : Nat) (zdzczr : List Nat) (zdztze : Nat) (zdztzr : List Nat) (zsg : List Nat) (hzdzs : zdzs < 18446744073709551616) (hzdzi : zdzi < 18446744073709551616) (hzdzb : Rt6 zdzb) (hzdzcze : zdzcze < 18446744073709551616) (hzdzczr : Rt6 zdzczr) (hzdztze : zdztze < 18446744073709551616) (hzdztzr : Rt6 zdztzr) (hzsg : Rt6 zsg) (w : World) (hzb : IsT w (.slice zbo zbl.length zbc) zbl) (hzbn : zbl.length ≤ 500) : Calls Tryz.prog 17 #[.agg (atC6 zbo zbc zbl zdzs zdzi zdzb zdzcze zdzczr zdztze zdztzr zsg).toArray] w fun x w' => ∃ v, x = .returned v ∧ IsV w' v (atV6 zbo zbc zbl zdzs zdzi zdzb zdzcze zdzczr zdztze zdztzr zsg) ∧ Below w.heap.size w w' := by
  go_enter Tryz.func17, Tryz.ntmps17
  go_wp2_with ((with_reducible refine at_list' ?_); first
    | (refine wpList_box_c rfl 1 rfl (.tmp 0) rfl (atC6 zbo zbc zbl zdzs zdzi zdzb zdzcze zdzczr zdztze zdztzr zsg) rfl ?_; intro w1 H1 B1 S1)
    | (refine wpList_alloc_c Tryz.ty33 rfl 2 rfl rfl ?_; intro w2 H2 B2 S2; rw [S1] at H2 S2; rw [S1]))
  have HX := hid (H1.keep B2)
  have HY := hid H2
  have HB := hid (B1.trans (B2.mono (by omega)))
  have s2 : w2.heap.size = w.heap.size + 2 := by omega
  clear H1 B1 S1 H2 B2 S2
  try simp only [Act.put, List.setIfInBounds_toArray, List.set_cons_succ, List.set_cons_zero]
  refine wp_region_flow 11 11 (fun i v wq => match i with
    | 0 => v = .pointer (some ⟨w.heap.size, 0, none⟩)
    | 1 => v = .slice zbo zbl.length zbc
    | 2 => IsV wq v (.mk 0 (zeros 32) zbl [])
    | 3 => v = .pointer (some ⟨w.heap.size, 1, none⟩)
    | 4 => v = .agg (vtC6 zdzs zdzi zdzb zdzcze zdzczr zdztze zdztzr).toArray
    | 5 => IsV wq v (vtV6 zdzs zdzi zdzb zdzcze zdzczr zdztze zdztzr)
    | 6 => v = .pointer (some ⟨w.heap.size, 101, none⟩)
    | 7 => v = .agg (nums .u8 zsg)
    | 8 => IsV wq v (.mk 0 zsg [] [])
    | 9 => ∃ b, v = .slice (some ⟨b, 0, none⟩) 3 3 ∧ KsAt wq [.mk 0 (zeros 32) zbl [], vtV6 zdzs zdzi zdzb zdzcze zdzczr zdztze zdztzr, .mk 0 zsg [] []] b 0
    | _ => ∃ b, v = .agg (valL 0 (zeros 32) nilS (.slice (some ⟨b, 0, none⟩) 3 3)).toArray ∧ KsAt wq [.mk 0 (zeros 32) zbl [], vtV6 zdzs zdzi zdzb zdzcze zdzczr zdztze zdztzr, .mk 0 zsg [] []] b 0) (by kernel_rfl) (by kernel_rfl) (fun _ d _ _ _ h => by cases d <;> exact h) ?_ ?_ ?_ ?_
  · intro i v wq wq' hi hv hb
    match i, hi with
    | 0, _ => exact hv
    | 1, _ => exact hv
    | 2, _ => exact hv.keep hb
    | 3, _ => exact hv
    | 4, _ => exact hv
    | 5, _ => exact hv.keep hb
    | 6, _ => exact hv
    | 7, _ => exact hv
    | 8, _ => exact hv.keep hb
    | 9, _ => obtain ⟨b, h1, h2⟩ := hv; exact ⟨b, h1, KsAt.keep hb _ h2⟩
    | 10, _ => obtain ⟨b, h1, h2⟩ := hv; exact ⟨b, h1, KsAt.keep hb _ h2⟩
    | (k + 11), hk => exact absurd hk (by omega)
  · intro i o hi ho aq wq hc hk hdep
    match i, hi with
    | 0, _ =>
      cases ho
      have e1 : aq.tmps.getD 1 undef = .pointer (some ⟨w.heap.size, 0, none⟩) := hk 1 (by decide)
      exact flow_value _ (run_fieldAt 46 (.tmp 1) 0 rfl _ _ e1 (by kernel_rfl)) rfl
    | 1, _ =>
      cases ho
      have e0 : aq.tmps.getD 3 undef = .pointer (some ⟨w.heap.size, 0, none⟩) := hdep 0 3 rfl (by kernel_rfl)
      exact flow_value _ (run_cell 30 (.tmp 3) rfl _ e0 _ ((HX.out.keep (hcB hc)).cell (seg (ps := atP6 zbo zbc zbl zdzs zdzi zdzb zdzcze zdzczr zdztze zdztzr zsg) (i := 0) (off := 0) rfl (by simp [atP6, cellsB_length, hzdzb.len, hzdzczr.len, hzdztzr.len, hzsg.len, vtC6_length zdzs zdzi zdzb zdzcze zdzczr zdztze zdztzr hzdzb.len hzdzczr.len hzdztzr.len]) 0 _ rfl)) _ Tryz.underlying30 rfl) rfl
    | 2, _ =>
      cases ho
      have e0 : aq.tmps.getD 4 undef = .slice zbo zbl.length zbc := hdep 1 4 rfl (by kernel_rfl)
      exact flow_value _ (run_buildOp 33 _ rfl #[(2, .slice zbo zbl.length zbc)] (by rw [show (#[(2, Operand.tmp 4)] : Array (Nat × Operand)).map (fun p => (p.1, aq.eval p.2)) = #[(2, aq.tmps.getD 4 undef)] from by simp [Act.eval], e0]) _ (build_bits zbo zbl.length zbc _)) (IsV.bits (hzb.keep (HB.out.trans ((hcB hc).mono HB.out.size))))
    | 3, _ =>
      cases ho
      have e1 : aq.tmps.getD 1 undef = .pointer (some ⟨w.heap.size, 0, none⟩) := hk 1 (by decide)
      exact flow_value _ (run_fieldAt 46 (.tmp 1) 1 rfl _ _ e1 (by kernel_rfl)) rfl
    | 4, _ =>
      cases ho
      have e0 : aq.tmps.getD 6 undef = .pointer (some ⟨w.heap.size, 1, none⟩) := hdep 3 6 rfl (by kernel_rfl)
      exact flow_value _ (run_mid 28 (.tmp 6) rfl w.heap.size 1 e0 (vtC6 zdzs zdzi zdzb zdzcze zdzczr zdztze zdztzr) ((HX.out.keep (hcB hc)).range 1 (vtC6 zdzs zdzi zdzb zdzcze zdzczr zdztze zdztzr) (seg (ps := atP6 zbo zbc zbl zdzs zdzi zdzb zdzcze zdzczr zdztze zdztzr zsg) (i := 1) (off := 1) rfl (by simp [atP6, cellsB_length, hzdzb.len, hzdzczr.len, hzdztzr.len, hzsg.len, vtC6_length zdzs zdzi zdzb zdzcze zdzczr zdztze zdztzr hzdzb.len hzdzczr.len hzdztzr.len]))) _ Tryz.underlying28 rfl (by rw [vtC6_length zdzs zdzi zdzb zdzcze zdzczr zdztze zdztzr hzdzb.len hzdzczr.len hzdztzr.len]; kernel_rfl)) rfl
    | 5, _ =>
      cases ho
      have e0 : aq.tmps.getD 7 undef = .agg (vtC6 zdzs zdzi zdzb zdzcze zdzczr zdztze zdztzr).toArray := hdep 4 7 rfl (by kernel_rfl)
      refine flow_fun 10 _ _ rfl (fun _ _ => by simp [go_sem]) #[.agg (vtC6 zdzs zdzi zdzb zdzcze zdzczr zdztze zdztzr).toArray] (by rw [show (#[Operand.tmp 7] : Array Operand).map aq.eval = #[aq.tmps.getD 7 undef] from by simp [Act.eval], e0]) ?_
      refine (vtV6_any zdzs zdzi zdzb zdzcze zdzczr zdztze zdztzr hzdzs hzdzi hzdzb hzdzcze hzdzczr hzdztze hzdztzr wq).mono ?_
      rintro x w' ⟨v, rfl, hv, q⟩
      exact ⟨v, rfl, hv, q⟩
    | 6, _ =>
      cases ho
      have e1 : aq.tmps.getD 1 undef = .pointer (some ⟨w.heap.size, 0, none⟩) := hk 1 (by decide)
      exact flow_value _ (run_fieldAt 46 (.tmp 1) 2 rfl _ _ e1 (by kernel_rfl)) rfl
    | 7, _ =>
      cases ho
      have e0 : aq.tmps.getD 9 undef = .pointer (some ⟨w.heap.size, 101, none⟩) := hdep 6 9 rfl (by kernel_rfl)
      exact flow_value _ (run_mid 24 (.tmp 9) rfl w.heap.size 101 e0 (cellsB zsg) ((HX.out.keep (hcB hc)).range 101 (cellsB zsg) (seg (ps := atP6 zbo zbc zbl zdzs zdzi zdzb zdzcze zdzczr zdztze zdztzr zsg) (i := 2) (off := 101) rfl (by simp [atP6, cellsB_length, hzdzb.len, hzdzczr.len, hzdztzr.len, hzsg.len, vtC6_length zdzs zdzi zdzb zdzcze zdzczr zdztze zdztzr hzdzb.len hzdzczr.len hzdztzr.len]))) _ Tryz.und24 rfl (by rw [cellsB_length, hzsg.len]; exact Tryz.size24)) rfl
    | 8, _ =>
      cases ho
      have e0 : aq.tmps.getD 10 undef = .agg (nums .u8 zsg) := hdep 7 10 rfl (by kernel_rfl)
      refine flow_fun 44 _ _ rfl (fun _ _ => by simp [go_sem]) #[.agg (nums .u8 zsg)] (by rw [show (#[Operand.tmp 10] : Array Operand).map aq.eval = #[aq.tmps.getD 10 undef] from by simp [Act.eval], e0]) ?_
      refine (r_any zsg hzsg.len wq).mono ?_
      rintro x w' ⟨rfl, q⟩
      exact ⟨_, rfl, IsV.leaf w' (by decide) hzsg.len hzsg.byte, q⟩
    | 9, _ =>
      cases ho
      obtain ⟨sb0, sk0, e0, h0_⟩ := hdep 2 5 rfl (by kernel_rfl)
      obtain ⟨sb1, sk1, e1, h1_⟩ := hdep 5 8 rfl (by kernel_rfl)
      obtain ⟨sb2, sk2, e2, h2_⟩ := hdep 8 11 rfl (by kernel_rfl)
      refine flow_rowsB 31 33 3 35 _ rfl Tryz.underlying31 valInfo [valL 0 (zeros 32) sb0 sk0, valL 0 (zeros 32) sb1 sk1, valL 0 zsg sb2 sk2] [.tmp 5, .tmp 8, .tmp 11] rfl (by rw [show [Operand.tmp 5, Operand.tmp 8, Operand.tmp 11].map aq.eval = [aq.tmps.getD 5 undef, aq.tmps.getD 8 undef, aq.tmps.getD 11 undef] from rfl, e0, e1, e2]; rfl) (by simp [valL_length, zeros32, hzsg.len]) rfl (by decide) (by decide) (by decide) (fun w' h hb => ⟨_, rfl, ksAt_of h [(.mk 0 (zeros 32) zbl [], sb0, sk0), (vtV6 zdzs zdzi zdzb zdzcze zdzczr zdztze zdztzr, sb1, sk1), (.mk 0 zsg [] [], sb2, sk2)] 0 (fun j v hj => by rw [Nat.zero_add]; exact hj) (fun x hx => ?_)⟩)
      simp only [List.mem_cons, List.not_mem_nil, or_false] at hx
      rcases hx with rfl | rfl | rfl
      · exact VAt.keep hb _ h0_
      · exact VAt.keep hb _ h1_
      · exact VAt.keep hb _ h2_
    | 10, _ =>
      cases ho
      obtain ⟨b, e6, h6⟩ := hdep 9 12 rfl (by kernel_rfl)
      refine flow_fun 42 _ _ rfl (fun _ _ => by simp [go_sem]) #[.slice (some ⟨b, 0, none⟩) 3 3] (by rw [show (#[Operand.tmp 12] : Array Operand).map aq.eval = #[aq.tmps.getD 12 undef] from by simp [Act.eval], e6]) ?_
      refine (all_any (some ⟨b, 0, none⟩) 3 3 wq).mono ?_
      rintro x w' ⟨rfl, q⟩
      exact ⟨_, rfl, ⟨b, rfl, KsAt.keep q _ h6⟩, q⟩
    | (k + 11), hk => exact absurd hk (by omega)
  · intro o h11 ho
    omega
  intro vf w8 hc hv
  have e7 : ∃ b, vf 10 = _ ∧ KsAt w8 _ b 0 := hv 10 13 (by decide) rfl
  obtain ⟨b, e7, h7⟩ := e7
  have B8 := HB.out.trans ((hcB hc).mono (by omega))
  have H8v := HY.out.keep (hcB hc)
  have s8 := (hcB hc).size
  clear hv hc
  simp only [List.take_succ_cons, List.take_zero, List.drop_succ_cons, List.drop_zero, putAll, Act.put, List.setIfInBounds_toArray, List.set_cons_succ, List.set_cons_zero]
  rw [e7]
  have HB8 := hid B8
  have HK := hid h7
  clear B8 h7 e7 HB
  go_wp2_with ((with_reducible refine at_list' ?_); first
    | (refine wpList_store_c Tryz.ty33 rfl (.tmp 2) (.tmp 13) rfl (w.heap.size + 1) (valL 0 (zeros 32) nilS (.slice (some ⟨b, 0, none⟩) 3 3)) rfl rfl rfl (valL_oneC _ _ _ _ trivial trivial) _ H8v rfl ?_; intro w9 H9 O9))
  refine bodyPost_ret (results_c1 Tryz.ty33 rfl _ w9 (w.heap.size + 1) _ rfl H9 rfl) rfl ⟨_, rfl, ⟨nilS, _, rfl, ?_⟩, below_only HB8.out O9 (by omega)⟩
  exact VAt.aside H8v rfl O9 (atV6 zbo zbc zbl zdzs zdzi zdzb zdzcze zdzczr zdztze zdztzr zsg) (atV6_wide zbo zbc zbl zdzs zdzi zdzb zdzcze zdzczr zdztze zdztzr zsg) (isV_all (ks := [.mk 0 (zeros 32) zbl [], vtV6 zdzs zdzi zdzb zdzcze zdzczr zdztze zdztzr, .mk 0 zsg [] []]) rfl (by decide) HK.out)
end Go.Proofs.YtoajeencniomoaaGreat

/- The document's kind of bits, few of them. -/
namespace Go.Proofs.YtoajeencniomoaaGreat
open Go.RowKit
set_option linter.unusedVariables false
set_option maxRecDepth 100000

def dBits : Dt := .mk 7 32 []
theorem dAt_leaf2 {w : World} {p f n : Nat} (h : w.heap[p]? = some (.cells #[.int .i64 (f : Nat), .int .i64 (n : Nat), .slice none 0 0] 116 (0, 0))) : DAt w (.mk f n []) p := by
  rw [DAt]
  exact ⟨cell_of_row w p 0 _ _ (0, 0) h, cell_of_row w p 1 _ _ (0, 0) h, none, 0, cell_of_row w p 2 _ _ (0, 0) h, by simp, by simp, .inl rfl⟩
end Go.Proofs.YtoajeencniomoaaGreat

/- The document's kind of a Vote. -/
namespace Go.Proofs.YtoajeencniomoaaGreat
open Go.RowKit
set_option linter.unusedVariables false
set_option maxRecDepth 100000

set_option maxHeartbeats 2000000 in
theorem dvt_any (w : World) : Calls Tryz.prog 14 #[] w fun x w' => ∃ p, x = .returned (.pointer (some ⟨p, 0, none⟩)) ∧ DAt w' (dBox [dNum, dNum, dRoot, dBox [dNum, dRoot], dBox [dNum, dRoot]]) p ∧ Below w.heap.size w w' := by
  have HB0 := hid (Below.refl w.heap.size w)
  go_enter Tryz.func14, Tryz.ntmps14
  go_wp2_with fail
  refine (num_any' w).mono ?_
  rintro e w1 ⟨rfl, q1, q2⟩
  have HD0_0 := hid q1
  have HB1 := hid (HB0.out.trans (q2.mono HB0.out.size))
  clear q1 q2 HB0
  go_wp2_with fail
  refine (num_any' w1).mono ?_
  rintro e w2 ⟨rfl, q1, q2⟩
  have HD0_1 := hid (DAt.keep q2 _ HD0_0.out)
  have HD1_1 := hid q1
  have HB2 := hid (HB1.out.trans (q2.mono HB1.out.size))
  clear q1 q2 HB1 HD0_0
  go_wp2_with fail
  refine (root_any' w2).mono ?_
  rintro e w3 ⟨rfl, q1, q2⟩
  have HD0_2 := hid (DAt.keep q2 _ HD0_1.out)
  have HD1_2 := hid (DAt.keep q2 _ HD1_1.out)
  have HD2_2 := hid q1
  have HB3 := hid (HB2.out.trans (q2.mono HB2.out.size))
  clear q1 q2 HB2 HD0_1 HD1_1
  go_wp2_with fail
  refine (dcp_any w3).mono ?_
  rintro e w4 ⟨p3, rfl, q1, q2⟩
  have HD0_3 := hid (DAt.keep q2 _ HD0_2.out)
  have HD1_3 := hid (DAt.keep q2 _ HD1_2.out)
  have HD2_3 := hid (DAt.keep q2 _ HD2_2.out)
  have HD3_3 := hid q1
  have HB4 := hid (HB3.out.trans (q2.mono HB3.out.size))
  clear q1 q2 HB3 HD0_2 HD1_2 HD2_2
  go_wp2_with fail
  refine (dcp_any w4).mono ?_
  rintro e w5 ⟨p4, rfl, q1, q2⟩
  have HD0_4 := hid (DAt.keep q2 _ HD0_3.out)
  have HD1_4 := hid (DAt.keep q2 _ HD1_3.out)
  have HD2_4 := hid (DAt.keep q2 _ HD2_3.out)
  have HD3_4 := hid (DAt.keep q2 _ HD3_3.out)
  have HD4_4 := hid q1
  have HB5 := hid (HB4.out.trans (q2.mono HB4.out.size))
  clear q1 q2 HB4 HD0_3 HD1_3 HD2_3 HD3_3
  go_wp2_with fail
  have hB : Below w5.heap.size w5 (w5.alloc (.cells #[.pointer (some ⟨w.heap.size, 0, none⟩), .pointer (some ⟨w1.heap.size, 0, none⟩), .pointer (some ⟨w2.heap.size, 0, none⟩), .pointer (some ⟨p3, 0, none⟩), .pointer (some ⟨p4, 0, none⟩)] 41)) := (Below.refl _ w5).alloc (Nat.le_refl _) _
  have h := heap_alloc_new w5 (.cells #[.pointer (some ⟨w.heap.size, 0, none⟩), .pointer (some ⟨w1.heap.size, 0, none⟩), .pointer (some ⟨w2.heap.size, 0, none⟩), .pointer (some ⟨p3, 0, none⟩), .pointer (some ⟨p4, 0, none⟩)] 41)
  generalize w5.alloc (.cells #[.pointer (some ⟨w.heap.size, 0, none⟩), .pointer (some ⟨w1.heap.size, 0, none⟩), .pointer (some ⟨w2.heap.size, 0, none⟩), .pointer (some ⟨p3, 0, none⟩), .pointer (some ⟨p4, 0, none⟩)] 41) = w6 at hB h ⊢
  have hD : DsAt w6 [dNum, dNum, dRoot, dBox [dNum, dRoot], dBox [dNum, dRoot]] w5.heap.size 0 := by
    simp only [DsAt]
    exact ⟨⟨_, cell_of_row _ _ 0 _ _ (0, 0) h, DAt.keep hB _ HD0_4.out⟩, ⟨_, cell_of_row _ _ 1 _ _ (0, 0) h, DAt.keep hB _ HD1_4.out⟩, ⟨_, cell_of_row _ _ 2 _ _ (0, 0) h, DAt.keep hB _ HD2_4.out⟩, ⟨_, cell_of_row _ _ 3 _ _ (0, 0) h, DAt.keep hB _ HD3_4.out⟩, ⟨_, cell_of_row _ _ 4 _ _ (0, 0) h, DAt.keep hB _ HD4_4.out⟩, trivial⟩
  have HC := hid (box_any w5.heap.size 5 [dNum, dNum, dRoot, dBox [dNum, dRoot], dBox [dNum, dRoot]] w6 rfl (by decide) hD)
  have HBm := hid (HB5.out.trans (hB.mono HB5.out.size))
  clear hB h hD
  refine HC.out.mono ?_
  rintro e wz ⟨rfl, q1, q2⟩
  have X := hid (And.intro q1 q2)
  clear q1 q2 HC
  go_wp2
  go_ret
  exact ⟨_, rfl, X.out.1, HBm.out.trans (X.out.2.mono HBm.out.size)⟩
end Go.Proofs.YtoajeencniomoaaGreat

/- The document's kind of a Attestation. -/
namespace Go.Proofs.YtoajeencniomoaaGreat
open Go.RowKit
set_option linter.unusedVariables false
set_option maxRecDepth 100000

set_option maxHeartbeats 2000000 in
theorem dat_any (w : World) : Calls Tryz.prog 20 #[] w fun x w' => ∃ p, x = .returned (.pointer (some ⟨p, 0, none⟩)) ∧ DAt w' (dBox [dBits, dBox [dNum, dNum, dRoot, dBox [dNum, dRoot], dBox [dNum, dRoot]], dRoot]) p ∧ Below w.heap.size w w' := by
  have HB0 := hid (Below.refl w.heap.size w)
  go_enter Tryz.func20, Tryz.ntmps20
  go_wp2_with fail
  have q1 : DAt (w.alloc (.cells #[.int .i64 7, .int .i64 32, .slice none 0 0] 116)) dBits w.heap.size := dAt_leaf2 (f := 7) (n := 32) (heap_alloc_new w _)
  have q2 : Below w.heap.size w (w.alloc (.cells #[.int .i64 7, .int .i64 32, .slice none 0 0] 116)) := (Below.refl _ w).alloc (Nat.le_refl _) _
  generalize w.alloc (.cells #[.int .i64 7, .int .i64 32, .slice none 0 0] 116) = w1 at q1 q2 ⊢
  have HD0_0 := hid q1
  have HB1 := hid (HB0.out.trans (q2.mono HB0.out.size))
  clear q1 q2 HB0
  go_wp2_with fail
  refine (dvt_any w1).mono ?_
  rintro e w2 ⟨p1, rfl, q1, q2⟩
  have HD0_1 := hid (DAt.keep q2 _ HD0_0.out)
  have HD1_1 := hid q1
  have HB2 := hid (HB1.out.trans (q2.mono HB1.out.size))
  clear q1 q2 HB1 HD0_0
  go_wp2_with fail
  refine (root_any' w2).mono ?_
  rintro e w3 ⟨rfl, q1, q2⟩
  have HD0_2 := hid (DAt.keep q2 _ HD0_1.out)
  have HD1_2 := hid (DAt.keep q2 _ HD1_1.out)
  have HD2_2 := hid q1
  have HB3 := hid (HB2.out.trans (q2.mono HB2.out.size))
  clear q1 q2 HB2 HD0_1 HD1_1
  go_wp2_with fail
  have hB : Below w3.heap.size w3 (w3.alloc (.cells #[.pointer (some ⟨w.heap.size, 0, none⟩), .pointer (some ⟨p1, 0, none⟩), .pointer (some ⟨w2.heap.size, 0, none⟩)] 41)) := (Below.refl _ w3).alloc (Nat.le_refl _) _
  have h := heap_alloc_new w3 (.cells #[.pointer (some ⟨w.heap.size, 0, none⟩), .pointer (some ⟨p1, 0, none⟩), .pointer (some ⟨w2.heap.size, 0, none⟩)] 41)
  generalize w3.alloc (.cells #[.pointer (some ⟨w.heap.size, 0, none⟩), .pointer (some ⟨p1, 0, none⟩), .pointer (some ⟨w2.heap.size, 0, none⟩)] 41) = w4 at hB h ⊢
  have hD : DsAt w4 [dBits, dBox [dNum, dNum, dRoot, dBox [dNum, dRoot], dBox [dNum, dRoot]], dRoot] w3.heap.size 0 := by
    simp only [DsAt]
    exact ⟨⟨_, cell_of_row _ _ 0 _ _ (0, 0) h, DAt.keep hB _ HD0_2.out⟩, ⟨_, cell_of_row _ _ 1 _ _ (0, 0) h, DAt.keep hB _ HD1_2.out⟩, ⟨_, cell_of_row _ _ 2 _ _ (0, 0) h, DAt.keep hB _ HD2_2.out⟩, trivial⟩
  have HC := hid (box_any w3.heap.size 3 [dBits, dBox [dNum, dNum, dRoot, dBox [dNum, dRoot], dBox [dNum, dRoot]], dRoot] w4 rfl (by decide) hD)
  have HBm := hid (HB3.out.trans (hB.mono HB3.out.size))
  clear hB h hD
  refine HC.out.mono ?_
  rintro e wz ⟨rfl, q1, q2⟩
  have X := hid (And.intro q1 q2)
  clear q1 q2 HC
  go_wp2
  go_ret
  exact ⟨_, rfl, X.out.1, HBm.out.trans (X.out.2.mono HBm.out.size)⟩
end Go.Proofs.YtoajeencniomoaaGreat

/- Lengths of parts, and numbers as bytes: there and back. -/
namespace Go.Proofs.YtoajeencniomoaaGreat
open Go.RowKit
set_option linter.unusedVariables false
/-- What parts are joined to. -/
def joinB (bss : List (List Nat)) : List Nat := cont (bss.map fun b => (b, true))
def lenB (bss : List (List Nat)) : Nat := (bss.map List.length).sum
theorem lenB_F (bss : List (List Nat)) : lenF (bss.map fun b => (b, true)) = lenB bss := by
  unfold lenF lenB
  rw [List.map_map]; rfl
theorem lenB_take (bss : List (List Nat)) (k : Nat) : lenB (bss.take k) ≤ lenB bss := by
  have := lenF_take (bss.map fun b => (b, true)) k
  rw [← List.map_take, lenB_F, lenB_F] at this
  exact this
theorem lenB_mem {bss : List (List Nat)} {i : Nat} {x : List Nat} (h : bss[i]? = some x) : x.length ≤ lenB bss := by
  have h1 := lenB_take bss (i + 1)
  have hi := (List.getElem?_eq_some_iff.1 h).1
  rw [List.take_succ_eq_append_getElem hi] at h1
  rw [List.getElem?_eq_getElem hi] at h
  cases h
  have e : ∀ (a : List (List Nat)) (b : List Nat), lenB (a ++ [b]) = lenB a + b.length := fun a b => by simp [lenB]
  rw [e] at h1
  omega

theorem le_putL (x k : Nat) : ((le x k).map fun n : Nat => (n : Int)) = putL x k := by
  simp [le, putL, byteAt]
theorem tk_le (x k : Nat) (hk : k ≤ 8) : tk (le x k) = x % 256 ^ k := by
  unfold tk takeV
  rw [le_putL, List.take_of_length_le (by rw [putL_length]; omega), takeL_put]
theorem tk_le4 (x : Nat) (h : x < 4294967296) : tk (le x 4) = x := by
  rw [tk_le x 4 (by decide)]
  exact Nat.mod_eq_of_lt h
theorem lenB_cons (b : List Nat) (r : List (List Nat)) : lenB (b :: r) = b.length + lenB r := by simp [lenB]
theorem lenB_flat (bss : List (List Nat)) : bss.flatten.length = lenB bss := by
  induction bss with
  | nil => rfl
  | cons b r ih => rw [List.flatten_cons, List.length_append, ih, lenB_cons]
theorem back_flat (bss : List (List Nat)) : backB (bss.map fun b => (b, true)) = bss.flatten := by
  induction bss with
  | nil => rfl
  | cons b r ih =>
    rw [List.map_cons, List.flatten_cons, ← ih]
    simp [backB]
theorem front_at (rest : List Nat) : ∀ (bss : List (List Nat)) (p j : Nat), j < bss.length → ((frontB p (bss.map fun b => (b, true)) ++ rest).drop (4 * j)).take 4 = le (p + lenB (bss.take j)) 4
  | [], p, j, h => by simp at h
  | b :: r, p, 0, h => by
    rw [List.map_cons, frontB]
    simp only [if_true, List.append_assoc, Nat.mul_zero, List.drop_zero, List.take_zero]
    rw [List.take_append_of_le_length (by rw [le_length]; exact Nat.le_refl _), List.take_of_length_le (by rw [le_length]; exact Nat.le_refl _)]
    rfl
  | b :: r, p, j + 1, h => by
    rw [List.map_cons, frontB]
    simp only [if_true, List.append_assoc]
    have h4 : (le p 4).length = 4 := le_length _ _
    rw [show 4 * (j + 1) = (le p 4).length + 4 * j by rw [h4]; omega, List.drop_append, List.take_succ_cons, lenB_cons]
    have e : List.drop ((le p 4).length + 4 * j) (le p 4) = [] := List.drop_eq_nil_of_le (by omega)
    rw [e, List.nil_append, show (le p 4).length + 4 * j - (le p 4).length = 4 * j by omega, front_at rest r (p + b.length) j (by simpa using h), Nat.add_assoc]
theorem flat_part : ∀ (bss : List (List Nat)) (i : Nat) (x : List Nat), bss[i]? = some x → (bss.flatten.drop (lenB (bss.take i))).take x.length = x
  | [], i, x, h => by simp at h
  | b :: r, 0, x, h => by
    simp at h
    subst h
    simp [lenB]
  | b :: r, i + 1, x, h => by
    rw [List.take_succ_cons, lenB_cons, List.flatten_cons, List.drop_append, List.drop_eq_nil_of_le (by omega), List.nil_append, show b.length + lenB (r.take i) - b.length = lenB (r.take i) by omega]
    exact flat_part r i x (by simpa using h)
theorem lenB_succ (bss : List (List Nat)) (i : Nat) (x : List Nat) (h : bss[i]? = some x) : lenB (bss.take (i + 1)) = lenB (bss.take i) + x.length := by
  have hi := (List.getElem?_eq_some_iff.1 h).1
  rw [List.getElem?_eq_getElem hi] at h
  cases h
  rw [List.take_succ_eq_append_getElem hi]
  have e : ∀ (a : List (List Nat)) (b : List Nat), lenB (a ++ [b]) = lenB a + b.length := fun a b => by simp [lenB]
  exact e _ _
end Go.Proofs.YtoajeencniomoaaGreat

/- Numbers as eight bytes, there and back. -/
namespace Go.Proofs.YtoajeencniomoaaGreat
open Go.RowKit
set_option maxRecDepth 100000

theorem tk_le8 (n : Nat) (h : n < 18446744073709551616) : tk (le n 8) = n := by
  unfold tk
  rw [le_putL]
  exact takeV_put8 n h
end Go.Proofs.YtoajeencniomoaaGreat

/- An Attestation's bytes, and what is read of them. -/
namespace Go.Proofs.YtoajeencniomoaaGreat
open Go.RowKit
set_option linter.unusedVariables false
set_option linter.unusedSimpArgs false
set_option maxRecDepth 100000

theorem take_lim (l : List Bool) (lim : Nat) (h : l.length ≤ lim) : takeB (putB l true) (lim : Nat) = some l := by
  have h1 := take_put l
  unfold takeB at h1 ⊢
  split at h1
  · cases h1
  · rename_i hn
    simp only [not_or] at hn
    rw [if_neg (by simp only [not_or]; exact ⟨hn.1, hn.2.1, by have := hn.2.2; omega⟩)]
    exact h1
theorem take_more (l : List Bool) (lim : Nat) (h : lim < l.length) : takeB (putB l true) (lim : Nat) = none := by
  have h1 := take_put l
  unfold takeB at h1 ⊢
  split at h1
  · cases h1
  · have h2 := congrArg List.length (Option.some.inj h1)
    have h3 : (bitsL (putB l true) (endB (putB l true))).length = endB (putB l true) := by simp [bitsL]
    rw [if_pos (.inr (.inr (by omega)))]
/-- An Attestation's bytes. -/
def atBS (l : List Bool) (sl : Nat) (ix : Nat) (b : List Nat) (es : Nat) (rs : List Nat) (et : Nat) (rt : List Nat) (sg : List Nat) : List Nat := le 164 4 ++ (le sl 8 ++ (le ix 8 ++ (b ++ (le es 8 ++ (rs ++ (le et 8 ++ (rt ++ (sg ++ (putB l true)))))))))
theorem atB (l : List Bool) (sl : Nat) (ix : Nat) (b : List Nat) (es : Nat) (rs : List Nat) (et : Nat) (rt : List Nat) (sg : List Nat) (hb : b.length = 32) (hrs : rs.length = 32) (hrt : rt.length = 32) (hsg : sg.length = 32) : cont ([(putB l true, true)] ++ (vtF sl ix b es rs et rt ++ rootF [sg])) = atBS l sl ix b es rs et rt sg := by
  have h : szF ([(putB l true, true)] ++ (vtF sl ix b es rs et rt ++ rootF [sg])) = 164 := by simp [szF, sz1, vtF, cpF, numF, rootF, le_length, hb, hrs, hrt, hsg]
  unfold cont
  rw [h]
  simp [atBS, vtF, cpF, numF, rootF, frontB, backB]
theorem atK_ok : okD (dBox [dBits, dBox [dNum, dNum, dRoot, dBox [dNum, dRoot], dBox [dNum, dRoot]], dRoot]) := by simp [okD, okDs, dBox, dNum, dRoot, dBits, small, sizeD, sizeS, sizeH]
theorem atV_enc (ao : Option Addr) (c : Nat) (l : List Bool) (sl : Nat) (ix : Nat) (b : List Nat) (es : Nat) (rs : List Nat) (et : Nat) (rt : List Nat) (sg : List Nat) (hb : b.length = 32) (hrs : rs.length = 32) (hrt : rt.length = 32) (hsg : sg.length = 32) : encV (dBox [dBits, dBox [dNum, dNum, dRoot, dBox [dNum, dRoot], dBox [dNum, dRoot]], dRoot]) (atV6 ao c l sl ix b es rs et rt sg) = atBS l sl ix b es rs et rt sg := by
  simp [dBox, dNum, dRoot, dBits, atV6, vtV6, cpV6, encV, encK, kdsV, sizeD, sizeS, sizeH, cont, szF, sz1, frontB, backB, atBS, le_length, hb, hrs, hrt, hsg]
theorem atV_ok (ao : Option Addr) (c : Nat) (l : List Bool) (sl : Nat) (ix : Nat) (b : List Nat) (es : Nat) (rs : List Nat) (et : Nat) (rt : List Nat) (sg : List Nat) (hl : l.length ≤ 500) (hb : b.length = 32) (hrs : rs.length = 32) (hrt : rt.length = 32) (hsg : sg.length = 32) : okV (dBox [dBits, dBox [dNum, dNum, dRoot, dBox [dNum, dRoot], dBox [dNum, dRoot]], dRoot]) (atV6 ao c l sl ix b es rs et rt sg) := by
  have hp : (putB l true).length ≤ 1000 := by rw [putB_length]; simp; omega
  simp [dBox, dNum, dRoot, dBits, atV6, vtV6, cpV6, okV, okK, encV, encK, kdsV, sizeD, sizeS, sizeH, lenF, cont, szF, sz1, frontB, backB, le_length, hb, hrs, hrt, hsg]
  omega
theorem at_read (l : List Bool) (sl : Nat) (ix : Nat) (b : List Nat) (es : Nat) (rs : List Nat) (et : Nat) (rt : List Nat) (sg : List Nat) (hsl : sl < 18446744073709551616) (hix : ix < 18446744073709551616) (hes : es < 18446744073709551616) (het : et < 18446744073709551616) (hb : b.length = 32) (hrs : rs.length = 32) (hrt : rt.length = 32) (hsg : sg.length = 32) : atG (atBS l sl ix b es rs et rt sg) = true ∧ (atBS l sl ix b es rs et rt sg).drop 164 = putB l true ∧ atV (atBS l sl ix b es rs et rt sg) = vtC sl ix b es rs et rt ∧ atR (atBS l sl ix b es rs et rt sg) = sg := by
  obtain ⟨y, hy, hyl⟩ : ∃ y, le 164 4 = y ∧ y.length = 4 := ⟨_, rfl, le_length _ _⟩
  have ey : tk y = 164 := by rw [← hy]; exact tk_le4 164 (by decide)
  obtain ⟨y0, hy0, hyn0⟩ : ∃ y, le sl 8 = y ∧ y.length = 8 := ⟨_, rfl, le_length _ _⟩
  have e0 : tk y0 = sl := by rw [← hy0]; exact tk_le8 sl hsl
  obtain ⟨y1, hy1, hyn1⟩ : ∃ y, le ix 8 = y ∧ y.length = 8 := ⟨_, rfl, le_length _ _⟩
  have e1 : tk y1 = ix := by rw [← hy1]; exact tk_le8 ix hix
  obtain ⟨y3, hy3, hyn3⟩ : ∃ y, le es 8 = y ∧ y.length = 8 := ⟨_, rfl, le_length _ _⟩
  have e3 : tk y3 = es := by rw [← hy3]; exact tk_le8 es hes
  obtain ⟨y5, hy5, hyn5⟩ : ∃ y, le et 8 = y ∧ y.length = 8 := ⟨_, rfl, le_length _ _⟩
  have e5 : tk y5 = et := by rw [← hy5]; exact tk_le8 et het
  obtain ⟨P, hP⟩ : ∃ P, putB l true = P := ⟨_, rfl⟩
  obtain ⟨BS, hBS⟩ : ∃ B, atBS l sl ix b es rs et rt sg = B := ⟨_, rfl⟩
  have hBe : BS = y ++ (y0 ++ (y1 ++ (b ++ (y3 ++ (rs ++ (y5 ++ (rt ++ (sg ++ (P))))))))) := by rw [← hBS]; unfold atBS; rw [hy, hy0, hy1, hy3, hy5, hP]
  rw [hBS, hP]
  have hl : 164 ≤ BS.length := by rw [hBe]; simp [hyl, hyn0, hyn1, hb, hyn3, hrs, hyn5, hrt, hsg]; omega
  have d0 : BS.drop 0 = y ++ (y0 ++ (y1 ++ (b ++ (y3 ++ (rs ++ (y5 ++ (rt ++ (sg ++ (P))))))))) := by rw [List.drop_zero]; exact hBe
  have d1 : BS.drop 4 = y0 ++ (y1 ++ (b ++ (y3 ++ (rs ++ (y5 ++ (rt ++ (sg ++ (P)))))))) := by rw [show (4 : Nat) = 0 + 4 from rfl, ← List.drop_drop, d0]; exact List.drop_left' hyl
  have d2 : BS.drop 12 = y1 ++ (b ++ (y3 ++ (rs ++ (y5 ++ (rt ++ (sg ++ (P))))))) := by rw [show (12 : Nat) = 4 + 8 from rfl, ← List.drop_drop, d1]; exact List.drop_left' hyn0
  have d3 : BS.drop 20 = b ++ (y3 ++ (rs ++ (y5 ++ (rt ++ (sg ++ (P)))))) := by rw [show (20 : Nat) = 12 + 8 from rfl, ← List.drop_drop, d2]; exact List.drop_left' hyn1
  have d4 : BS.drop 52 = y3 ++ (rs ++ (y5 ++ (rt ++ (sg ++ (P))))) := by rw [show (52 : Nat) = 20 + 32 from rfl, ← List.drop_drop, d3]; exact List.drop_left' hb
  have d5 : BS.drop 60 = rs ++ (y5 ++ (rt ++ (sg ++ (P)))) := by rw [show (60 : Nat) = 52 + 8 from rfl, ← List.drop_drop, d4]; exact List.drop_left' hyn3
  have d6 : BS.drop 92 = y5 ++ (rt ++ (sg ++ (P))) := by rw [show (92 : Nat) = 60 + 32 from rfl, ← List.drop_drop, d5]; exact List.drop_left' hrs
  have d7 : BS.drop 100 = rt ++ (sg ++ (P)) := by rw [show (100 : Nat) = 92 + 8 from rfl, ← List.drop_drop, d6]; exact List.drop_left' hyn5
  have d8 : BS.drop 132 = sg ++ (P) := by rw [show (132 : Nat) = 100 + 32 from rfl, ← List.drop_drop, d7]; exact List.drop_left' hrt
  have d9 : BS.drop 164 = P := by rw [show (164 : Nat) = 132 + 32 from rfl, ← List.drop_drop, d8]; exact List.drop_left' hsg
  have t0 : (BS.drop 0).take 4 = y := by rw [d0]; exact List.take_left' hyl
  have t1 : (BS.drop 4).take 8 = y0 := by rw [d1]; exact List.take_left' hyn0
  have t2 : (BS.drop 12).take 8 = y1 := by rw [d2]; exact List.take_left' hyn1
  have t3 : (BS.drop 20).take 32 = b := by rw [d3]; exact List.take_left' hb
  have t4 : (BS.drop 52).take 8 = y3 := by rw [d4]; exact List.take_left' hyn3
  have t5 : (BS.drop 60).take 32 = rs := by rw [d5]; exact List.take_left' hrs
  have t6 : (BS.drop 92).take 8 = y5 := by rw [d6]; exact List.take_left' hyn5
  have t7 : (BS.drop 100).take 32 = rt := by rw [d7]; exact List.take_left' hrt
  have t8 : (BS.drop 132).take 32 = sg := by rw [d8]; exact List.take_left' hsg
  have hlt : decide (BS.length < 164) = false := by simp; omega
  have hW : partW BS 164 0 [] false = false := by
    unfold partW partP folB
    have h4 : fixB BS 164 0 4 false = y := by unfold fixB fixW; simp; exact t0
    rw [h4, ey]
    rfl
  refine ⟨?_, d9, ?_, ?_⟩
  · unfold atG
    rw [hlt, hW]
    rfl
  · unfold atV
    rw [hlt, hW, show fixT 164 0 4 false = 4 from rfl]
    have t : vtTake BS 164 (4, false) = vtC (tk ((BS.drop 4).take 8)) (tk ((BS.drop 12).take 8)) ((BS.drop 20).take 32) (tk ((BS.drop 52).take 8)) ((BS.drop 60).take 32) (tk ((BS.drop 92).take 8)) ((BS.drop 100).take 32) := rfl
    rw [t, t1, t2, t3, t4, t5, t6, t7, e0, e1, e3, e5]
  · unfold atR
    rw [hlt, hW, show fixT 164 0 4 false = 4 from rfl]
    have t : rootAt BS 164 (vtS 164 (4, false)) = (BS.drop 132).take 32 := rfl
    rw [t, t8]
end Go.Proofs.YtoajeencniomoaaGreat

/- CodecAttestations: its contracts, made one. -/
namespace Go.Proofs.YtoajeencniomoaaGreat
open Go.RowKit
set_option linter.unusedVariables false
set_option linter.unusedSimpArgs false
set_option maxRecDepth 100000

theorem atC_six (ao : Option Addr) (c : Nat) (l : List Bool) (sl ix : Nat) (b : List Nat) (es : Nat) (rs : List Nat) (et : Nat) (rt sg : List Nat) : atC6 ao c l sl ix b es rs et rt sg = atC (.slice ao l.length c) (vtC sl ix b es rs et rt) sg := by
  simp [atC6, atP6, vtC6, vtP6, cpC6, cpP6, atC, vtC, cpC]
theorem atBS_len (l : List Bool) (sl ix : Nat) (b : List Nat) (es : Nat) (rs : List Nat) (et : Nat) (rt sg : List Nat) (hl : l.length ≤ 500) (hb : b.length = 32) (hrs : rs.length = 32) (hrt : rt.length = 32) (hsg : sg.length = 32) : (atBS l sl ix b es rs et rt sg).length ≤ 100000000000 := by
  have hp : (putB l true).length ≤ 1000 := by rw [putB_length]; simp; omega
  simp [atBS, le_length, hb, hrs, hrt, hsg]
  omega
theorem atBS_byte (l : List Bool) (sl ix : Nat) (b : List Nat) (es : Nat) (rs : List Nat) (et : Nat) (rt sg : List Nat) (hb8 : ∀ z ∈ b, z < 256) (hrs8 : ∀ z ∈ rs, z < 256) (hrt8 : ∀ z ∈ rt, z < 256) (hsg8 : ∀ z ∈ sg, z < 256) : ∀ z ∈ atBS l sl ix b es rs et rt sg, z < 256 := by
  intro z hz
  unfold atBS at hz
  simp only [List.mem_append] at hz
  rcases hz with hz | hz | hz | hz | hz | hz | hz | hz | hz | hz
  · exact le_byte _ _ z hz
  · exact le_byte _ _ z hz
  · exact le_byte _ _ z hz
  · exact hb8 z hz
  · exact le_byte _ _ z hz
  · exact hrs8 z hz
  · exact le_byte _ _ z hz
  · exact hrt8 z hz
  · exact hsg8 z hz
  · exact putB_byte l true z hz
theorem at_walk (ao : Option Addr) (c : Nat) (l : List Bool) (sl ix : Nat) (b : List Nat) (es : Nat) (rs : List Nat) (et : Nat) (rt sg : List Nat) (hsl : sl < 18446744073709551616) (hix : ix < 18446744073709551616) (hb : b.length = 32) (hb8 : ∀ z ∈ b, z < 256) (hes : es < 18446744073709551616) (hrs : rs.length = 32) (hrs8 : ∀ z ∈ rs, z < 256) (het : et < 18446744073709551616) (hrt : rt.length = 32) (hrt8 : ∀ z ∈ rt, z < 256) (hsg : sg.length = 32) (hsg8 : ∀ z ∈ sg, z < 256) (w : World) (hIT : IsT w (.slice ao l.length c) l) :
    Calls Tryz.prog 4 #[.agg (atC (.slice ao l.length c) (vtC sl ix b es rs et rt) sg).toArray] w fun e w' => e = .returned (.bool true) ∧ Below w.heap.size w w' := by
  have hVl : (vtC sl ix b es rs et rt).length = 100 := vtC_length hb hrs hrt
  have hV1 := vtC_one sl ix b es rs et rt
  have hCl : (atC (.slice ao l.length c) (vtC sl ix b es rs et rt) sg).length = at0.length := (atC_length hVl hsg).trans (show (133 : Nat) = at0.length by kernel_rfl)
  have hC1 : (atC (.slice ao l.length c) (vtC sl ix b es rs et rt) sg).toArray.all (·.oneCell') = true := atC_one rfl hV1
  by_cases hw : 500 < l.length
  · exact CodecAttestations_wide _ at0 ao c l w Tryz.ty46 hCl rfl hw
  have hn : l.length ≤ 500 := by omega
  have href : ∀ (ao' : Option Addr) (c' : Nat) wq, IsT wq (.slice ao' l.length c') l → Calls Tryz.prog 17 #[.agg (atC (.slice ao' l.length c') (vtC sl ix b es rs et rt) sg).toArray] wq fun x w' => ∃ v, x = .returned v ∧ IsV w' v (atV6 ao c l sl ix b es rs et rt sg) ∧ Below wq.heap.size wq w' := fun ao' c' wq hq => by
    have h := atV6_any ao' c' l sl ix b es rs et rt sg hsl hix ⟨hb, hb8⟩ hes ⟨hrs, hrs8⟩ het ⟨hrt, hrt8⟩ ⟨hsg, hsg8⟩ wq hq hn
    rw [atC_six] at h
    exact h
  have henc : ∀ wq, IsT wq (.slice ao l.length c) l → Calls Tryz.prog 18 #[.agg (atC (.slice ao l.length c) (vtC sl ix b es rs et rt) sg).toArray] wq fun x w' => ∃ v, x = .returned v ∧ Row w' wq.heap.size v (atBS l sl ix b es rs et rt sg) ∧ Below wq.heap.size wq w' := fun wq hq => by
    have h := attestation_any ao l.length c l sl ix b es rs et rt sg wq hq (by omega) hsl hix hb hb8 hes hrs hrs8 het hrt hrt8 hsg hsg8
    rw [atB l sl ix b es rs et rt sg hb hrs hrt hsg] at h
    exact h
  have henv : ∀ p u wq, DAt wq (dBox [dBits, dBox [dNum, dNum, dRoot, dBox [dNum, dRoot], dBox [dNum, dRoot]], dRoot]) p → IsV wq u (atV6 ao c l sl ix b es rs et rt sg) → Calls Tryz.prog 13 #[.pointer (some ⟨p, 0, none⟩), u] wq fun x w' => ∃ v, x = .returned v ∧ Row w' wq.heap.size v (atBS l sl ix b es rs et rt sg) ∧ Below wq.heap.size wq w' := fun p u wq hD hV => by
    have h := enc_any _ _ u p wq atK_ok (atV_ok ao c l sl ix b es rs et rt sg hn hb hrs hrt hsg) hD hV
    rw [atV_enc ao c l sl ix b es rs et rt sg hb hrs hrt hsg] at h
    exact h
  have hsm : ∀ Y u v wq, IsV wq u Y → IsV wq v Y → Calls Tryz.prog 15 #[u, v] wq fun x w' => x = .returned (.bool true) ∧ Below wq.heap.size wq w' := fun Y u v wq hu hv => by
    have h := same_any _ _ u v wq hu hv
    rw [sameV_refl] at h
    exact h
  have hBl := atBS_len l sl ix b es rs et rt sg hn hb hrs hrt hsg
  have hB8 := atBS_byte l sl ix b es rs et rt sg hb8 hrs8 hrt8 hsg8
  obtain ⟨r1, r2, r3, r4⟩ := at_read l sl ix b es rs et rt sg hsl hix hes het hb hrs hrt hsg
  by_cases hle : l.length ≤ 32
  · refine codecAttestation_good _ at0 ao c l (fun u => atC u (vtC sl ix b es rs et rt) sg) (atV6 ao c l sl ix b es rs et rt sg) (atBS l sl ix b es rs et rt sg) _ w Tryz.ty46 hCl hC1 rfl hn hIT hB8 (fun wq hq => href ao c wq hq) henc (fun v wq hI => ?_) (fun u wq hu => ?_) (fun u wq hu => ?_) hle (fun wq => dat_any wq) henv hsm
    · have h := toAt_good v _ l wq hI hBl r1 (by rw [r2]; exact take_lim l 32 hle)
      rw [r3, r4] at h
      exact h
    · exact ⟨(atC_length hVl hsg).trans (show (133 : Nat) = at0.length by kernel_rfl), atC_one (isT_oneCell hu) hV1⟩
    · obtain ⟨ao', c', rfl, _⟩ := id hu
      exact href ao' c' wq hu
  · refine codecAttestation_bad _ at0 ao c l (atV6 ao c l sl ix b es rs et rt sg) (atBS l sl ix b es rs et rt sg) _ w Tryz.ty46 hCl hC1 rfl hn hIT hB8 (fun wq hq => href ao c wq hq) henc (atV6 none 0 [] 0 0 (zeros 32) 0 (zeros 32) 0 (zeros 32) (zeros 32)) (fun v wq hI => ?_) at0_one at0_built (fun wq => ?_) (by omega) (fun wq => dat_any wq) henv hsm
    · have h := toAt_bad v _ wq hI hBl (.inr (by rw [r2]; exact take_more l 32 (by omega)))
      exact h
    · have hz : (zeros 32).length = 32 := rfl
      have h := atV6_any none 0 [] 0 0 (zeros 32) 0 (zeros 32) 0 (zeros 32) (zeros 32) (by decide) (by decide) ⟨hz, zeros_byte 32⟩ (by decide) ⟨hz, zeros_byte 32⟩ (by decide) ⟨hz, zeros_byte 32⟩ ⟨hz, zeros_byte 32⟩ wq (isT_nil wq) (by decide)
      rw [atC_six] at h
      exact h
end Go.Proofs.YtoajeencniomoaaGreat

/- Structs that came in by value. -/
namespace Go.Proofs.YtoajeencniomoaaGreat
open Go.RowKit Go.Deep Go.WideShapes
set_option linter.unusedVariables false
set_option linter.unusedSimpArgs false
set_option maxRecDepth 100000

abbrev Rt (r : List Nat) : Prop := r.length = 32 ∧ ∀ z ∈ r, z < 256
theorem cellsRt : Tryz.prog.cellsOf 24 = 32 := by kernel_rfl
theorem cellsU8 : Tryz.prog.cellsOf 5 = 1 := by kernel_rfl
theorem cellsU64 : Tryz.prog.cellsOf 22 = 1 := by kernel_rfl
/-- Parts of a list, one behind the other. -/
def cutAt {α : Type} (cs : List α) : Nat → List Nat → List (List α)
  | _, [] => []
  | o, k :: ks => (cs.drop o).take k :: cutAt cs (o + k) ks
theorem cut_flat {α : Type} (cs : List α) : ∀ (ks : List Nat) (o : Nat), o + ks.sum = cs.length → cs.drop o = (cutAt cs o ks).flatten := by
  intro ks
  induction ks with
  | nil => intro o h; simp at h; rw [h, List.drop_length]; rfl
  | cons k ks ih =>
    intro o h
    rw [cutAt, List.flatten_cons, ← ih (o + k) (by simp at h; omega), ← List.drop_drop, List.take_append_drop]
section
variable {H : Type} {enc : TypeId × Value → H} {W : World} {b0 : Nat} {sp : Nat → Bool} {held : Bool}
theorem root_of_trod {fuel : Nat} {cs : List Value} {x : DataW H × List MemPlace} (h : DataW.trod enc Tryz.prog W b0 sp held fuel 24 cs = some x) : ∃ r : List Nat, cs = cellsB r ∧ r.length = 32 ∧ ∀ z ∈ r, z < 256 := by
  obtain ⟨xs, m, _, _, hl, hxs, hel⟩ := DataW.trod_array Tryz.und24 h
  rw [cellsRt] at hl
  have key : ∀ i (hi : i < cs.length), ∃ n : Nat, cs[i] = .int .u8 (n : Int) ∧ n < 256 := by
    intro i hi
    have h1 := hel i (by omega)
    rw [cellsU8, Nat.mul_one, List.getElem?_eq_getElem (by omega)] at h1
    obtain ⟨n, e1, _, hw⟩ := DataW.trod_int Tryz.underlying5 h1
    have hb := bounds_u8 hw
    have e2 : (cs.drop i).take 1 = [cs[i]] := by
      rw [List.drop_eq_getElem_cons hi, List.take_succ_cons, List.take_zero]
    have e3 : [cs[i]] = [Value.int .u8 n] := e2.symm.trans e1
    refine ⟨n.toNat, ?_, by omega⟩
    have e4 : cs[i] = Value.int .u8 n := by simpa using e3
    rw [e4]
    congr 1
    omega
  refine ⟨cs.map fun v => (intOf v).toNat, ?_, by simp [hl], ?_⟩
  · unfold cellsB
    apply List.ext_getElem
    · simp
    · intro i h1 h2
      obtain ⟨n, e, hn⟩ := key i h1
      simp [e, intOf]
  · intro z hz
    obtain ⟨v, hv, rfl⟩ := List.mem_map.1 hz
    obtain ⟨i, hi, rfl⟩ := List.mem_iff_getElem.1 hv
    obtain ⟨n, e, hn⟩ := key i hi
    simp [e, intOf, hn]
theorem num_of_trod {fuel : Nat} {cs : List Value} {x : DataW H × List MemPlace} (h : DataW.trod enc Tryz.prog W b0 sp held fuel 22 cs = some x) : ∃ n : Nat, cs = [.int .u64 (n : Nat)] ∧ n < 18446744073709551616 := by
  obtain ⟨i, e, _, hw⟩ := DataW.trod_int Tryz.underlying22 h
  have hb := bounds_u64 hw
  refine ⟨i.toNat, ?_, by omega⟩
  rw [e, Int.toNat_of_nonneg hb.1]
theorem cellsBo : Tryz.prog.cellsOf 4 = 1 := by kernel_rfl
theorem cellsBs : Tryz.prog.cellsOf 30 = 1 := by kernel_rfl
theorem bits_of_trod {fuel : Nat} {cs : List Value} {x : DataW H × List MemPlace} (h : DataW.trod enc Tryz.prog W b0 (fun _ => true) held fuel 30 cs = some x) : ∃ (ao : Option Addr) (c : Nat) (l : List Bool), cs = [.slice ao l.length c] ∧ IsT W (.slice ao l.length c) l := by
  rcases open_bools Tryz.underlying30 Tryz.underlying4 cellsBo h with ⟨hcs, _⟩ | ⟨a, len, cap, B, hcs, _, hl, hm, _, hcell⟩
  · exact ⟨none, 0, [], hcs, none, 0, rfl, Nat.le_refl _, by decide, .inl rfl⟩
  · refine ⟨some a, cap, (List.range len).map B, by simpa using hcs, some a, cap, rfl, by simpa using hl, hm, ?_⟩
    by_cases h0 : len = 0
    · exact .inl (by simpa using h0)
    · obtain ⟨b, off, spot⟩ := a
      obtain rfl : spot = none := by
        have := hcell 0 (by omega)
        simpa [Addr.add] using World.cell?_spot this
      refine .inr ⟨b, off, rfl, fun i hi => ?_⟩
      have hi' : i < len := by simpa using hi
      have := hcell i (by omega)
      rw [Addr.add_lit] at this
      rw [this]
      simp [hi']
theorem cells_cp : Tryz.prog.cellsOf 26 = 33 := by kernel_rfl
theorem cp_of_trod {fuel : Nat} {cs : List Value} {x : DataW H × List MemPlace} (h : DataW.trod enc Tryz.prog W b0 sp held fuel 26 cs = some x) : ∃ (ze : Nat) (zr : List Nat), cs = cpC ze zr ∧ ze < 18446744073709551616 ∧ Rt zr := by
  obtain ⟨xs, n, _, _, hl, hlen, hf⟩ := DataW.trod_struct Tryz.underlying26 h
  rw [cells_cp] at hl
  have hx : xs.length = 2 := hlen
  have f0 : ∃ y, DataW.trod enc Tryz.prog W b0 sp held n 22 ((cs.drop 0).take 1) = some y := by
    have := hf 0 _ rfl
    change DataW.trod enc Tryz.prog W b0 sp held n 22 (List.take (Tryz.prog.cellsOf 22) (List.drop 0 cs)) = xs[0]? at this
    rw [cellsU64, List.getElem?_eq_getElem (by omega)] at this
    exact ⟨_, this⟩
  obtain ⟨y0, f0⟩ := f0
  obtain ⟨ze, e0, hze⟩ := num_of_trod f0
  have f1 : ∃ y, DataW.trod enc Tryz.prog W b0 sp held n 24 ((cs.drop 1).take 32) = some y := by
    have := hf 1 _ rfl
    change DataW.trod enc Tryz.prog W b0 sp held n 24 (List.take (Tryz.prog.cellsOf 24) (List.drop 1 cs)) = xs[1]? at this
    rw [cellsRt, List.getElem?_eq_getElem (by omega)] at this
    exact ⟨_, this⟩
  obtain ⟨y1, f1⟩ := f1
  obtain ⟨zr, e1, hzr⟩ := root_of_trod f1
  have hc := cut_flat cs [1, 32] 0 (by rw [hl]; rfl)
  rw [List.drop_zero] at e0
  simp only [cutAt, List.drop_zero, Nat.zero_add, Nat.reduceAdd, e0, e1] at hc
  refine ⟨ze, zr, by rw [hc]; simp [cpC], hze, hzr⟩
theorem open_cp {base : Nat} {v : Value} {d : DataW H} {p : List MemPlace} (hv : Value.okWide Tryz.prog W .any base 26 v) (h : DataW.Trod enc Tryz.prog W b0 sp held 26 v d p) : ∃ (ze : Nat) (zr : List Nat), v = .agg (cpC ze zr).toArray ∧ ze < 18446744073709551616 ∧ Rt zr := by
  obtain ⟨cs, rfl, _⟩ := okWide_struct Tryz.underlying26 hv
  obtain ⟨fuel, hf⟩ := h
  obtain ⟨ze, zr, e, hze, hzr⟩ := cp_of_trod hf
  exact ⟨ze, zr, by rw [← Array.toList_inj.1 (show cs.toList = (cpC ze zr).toArray.toList from e)], hze, hzr⟩
theorem cells_vt : Tryz.prog.cellsOf 28 = 100 := by kernel_rfl
theorem vt_of_trod {fuel : Nat} {cs : List Value} {x : DataW H × List MemPlace} (h : DataW.trod enc Tryz.prog W b0 sp held fuel 28 cs = some x) : ∃ (zs : Nat) (zi : Nat) (zb : List Nat) (zcze : Nat) (zczr : List Nat) (ztze : Nat) (ztzr : List Nat), cs = vtC zs zi zb zcze zczr ztze ztzr ∧ zs < 18446744073709551616 ∧ zi < 18446744073709551616 ∧ Rt zb ∧ zcze < 18446744073709551616 ∧ Rt zczr ∧ ztze < 18446744073709551616 ∧ Rt ztzr := by
  obtain ⟨xs, n, _, _, hl, hlen, hf⟩ := DataW.trod_struct Tryz.underlying28 h
  rw [cells_vt] at hl
  have hx : xs.length = 5 := hlen
  have f0 : ∃ y, DataW.trod enc Tryz.prog W b0 sp held n 22 ((cs.drop 0).take 1) = some y := by
    have := hf 0 _ rfl
    change DataW.trod enc Tryz.prog W b0 sp held n 22 (List.take (Tryz.prog.cellsOf 22) (List.drop 0 cs)) = xs[0]? at this
    rw [cellsU64, List.getElem?_eq_getElem (by omega)] at this
    exact ⟨_, this⟩
  obtain ⟨y0, f0⟩ := f0
  obtain ⟨zs, e0, hzs⟩ := num_of_trod f0
  have f1 : ∃ y, DataW.trod enc Tryz.prog W b0 sp held n 22 ((cs.drop 1).take 1) = some y := by
    have := hf 1 _ rfl
    change DataW.trod enc Tryz.prog W b0 sp held n 22 (List.take (Tryz.prog.cellsOf 22) (List.drop 1 cs)) = xs[1]? at this
    rw [cellsU64, List.getElem?_eq_getElem (by omega)] at this
    exact ⟨_, this⟩
  obtain ⟨y1, f1⟩ := f1
  obtain ⟨zi, e1, hzi⟩ := num_of_trod f1
  have f2 : ∃ y, DataW.trod enc Tryz.prog W b0 sp held n 24 ((cs.drop 2).take 32) = some y := by
    have := hf 2 _ rfl
    change DataW.trod enc Tryz.prog W b0 sp held n 24 (List.take (Tryz.prog.cellsOf 24) (List.drop 2 cs)) = xs[2]? at this
    rw [cellsRt, List.getElem?_eq_getElem (by omega)] at this
    exact ⟨_, this⟩
  obtain ⟨y2, f2⟩ := f2
  obtain ⟨zb, e2, hzb⟩ := root_of_trod f2
  have f3 : ∃ y, DataW.trod enc Tryz.prog W b0 sp held n 26 ((cs.drop 34).take 33) = some y := by
    have := hf 3 _ rfl
    change DataW.trod enc Tryz.prog W b0 sp held n 26 (List.take (Tryz.prog.cellsOf 26) (List.drop 34 cs)) = xs[3]? at this
    rw [cells_cp, List.getElem?_eq_getElem (by omega)] at this
    exact ⟨_, this⟩
  obtain ⟨y3, f3⟩ := f3
  obtain ⟨zcze, zczr, e3, hzcze, hzczr⟩ := cp_of_trod f3
  have f4 : ∃ y, DataW.trod enc Tryz.prog W b0 sp held n 26 ((cs.drop 67).take 33) = some y := by
    have := hf 4 _ rfl
    change DataW.trod enc Tryz.prog W b0 sp held n 26 (List.take (Tryz.prog.cellsOf 26) (List.drop 67 cs)) = xs[4]? at this
    rw [cells_cp, List.getElem?_eq_getElem (by omega)] at this
    exact ⟨_, this⟩
  obtain ⟨y4, f4⟩ := f4
  obtain ⟨ztze, ztzr, e4, hztze, hztzr⟩ := cp_of_trod f4
  have hc := cut_flat cs [1, 1, 32, 33, 33] 0 (by rw [hl]; rfl)
  rw [List.drop_zero] at e0
  simp only [cutAt, List.drop_zero, Nat.zero_add, Nat.reduceAdd, e0, e1, e2, e3, e4] at hc
  refine ⟨zs, zi, zb, zcze, zczr, ztze, ztzr, by rw [hc]; simp [vtC], hzs, hzi, hzb, hzcze, hzczr, hztze, hztzr⟩
theorem open_vt {base : Nat} {v : Value} {d : DataW H} {p : List MemPlace} (hv : Value.okWide Tryz.prog W .any base 28 v) (h : DataW.Trod enc Tryz.prog W b0 sp held 28 v d p) : ∃ (zs : Nat) (zi : Nat) (zb : List Nat) (zcze : Nat) (zczr : List Nat) (ztze : Nat) (ztzr : List Nat), v = .agg (vtC zs zi zb zcze zczr ztze ztzr).toArray ∧ zs < 18446744073709551616 ∧ zi < 18446744073709551616 ∧ Rt zb ∧ zcze < 18446744073709551616 ∧ Rt zczr ∧ ztze < 18446744073709551616 ∧ Rt ztzr := by
  obtain ⟨cs, rfl, _⟩ := okWide_struct Tryz.underlying28 hv
  obtain ⟨fuel, hf⟩ := h
  obtain ⟨zs, zi, zb, zcze, zczr, ztze, ztzr, e, hzs, hzi, hzb, hzcze, hzczr, hztze, hztzr⟩ := vt_of_trod hf
  exact ⟨zs, zi, zb, zcze, zczr, ztze, ztzr, by rw [← Array.toList_inj.1 (show cs.toList = (vtC zs zi zb zcze zczr ztze ztzr).toArray.toList from e)], hzs, hzi, hzb, hzcze, hzczr, hztze, hztzr⟩
theorem cells_at : Tryz.prog.cellsOf 46 = 133 := by kernel_rfl
theorem at_of_trod {fuel : Nat} {cs : List Value} {x : DataW H × List MemPlace} (h : DataW.trod enc Tryz.prog W b0 (fun _ => true) held fuel 46 cs = some x) : ∃ (zbo : Option Addr) (zbc : Nat) (zbl : List Bool) (zdzs : Nat) (zdzi : Nat) (zdzb : List Nat) (zdzcze : Nat) (zdzczr : List Nat) (zdztze : Nat) (zdztzr : List Nat) (zsg : List Nat), cs = atC (.slice zbo zbl.length zbc) (vtC zdzs zdzi zdzb zdzcze zdzczr zdztze zdztzr) zsg ∧ zdzs < 18446744073709551616 ∧ zdzi < 18446744073709551616 ∧ Rt zdzb ∧ zdzcze < 18446744073709551616 ∧ Rt zdzczr ∧ zdztze < 18446744073709551616 ∧ Rt zdztzr ∧ Rt zsg ∧ IsT W (.slice zbo zbl.length zbc) zbl := by
  obtain ⟨xs, n, _, _, hl, hlen, hf⟩ := DataW.trod_struct Tryz.underlying46 h
  rw [cells_at] at hl
  have hx : xs.length = 3 := hlen
  have f0 : ∃ y, DataW.trod enc Tryz.prog W b0 (fun _ => true) held n 30 ((cs.drop 0).take 1) = some y := by
    have := hf 0 _ rfl
    change DataW.trod enc Tryz.prog W b0 (fun _ => true) held n 30 (List.take (Tryz.prog.cellsOf 30) (List.drop 0 cs)) = xs[0]? at this
    rw [cellsBs, List.getElem?_eq_getElem (by omega)] at this
    exact ⟨_, this⟩
  obtain ⟨y0, f0⟩ := f0
  obtain ⟨zbo, zbc, zbl, e0, hzb⟩ := bits_of_trod f0
  have f1 : ∃ y, DataW.trod enc Tryz.prog W b0 (fun _ => true) held n 28 ((cs.drop 1).take 100) = some y := by
    have := hf 1 _ rfl
    change DataW.trod enc Tryz.prog W b0 (fun _ => true) held n 28 (List.take (Tryz.prog.cellsOf 28) (List.drop 1 cs)) = xs[1]? at this
    rw [cells_vt, List.getElem?_eq_getElem (by omega)] at this
    exact ⟨_, this⟩
  obtain ⟨y1, f1⟩ := f1
  obtain ⟨zdzs, zdzi, zdzb, zdzcze, zdzczr, zdztze, zdztzr, e1, hzdzs, hzdzi, hzdzb, hzdzcze, hzdzczr, hzdztze, hzdztzr⟩ := vt_of_trod f1
  have f2 : ∃ y, DataW.trod enc Tryz.prog W b0 (fun _ => true) held n 24 ((cs.drop 101).take 32) = some y := by
    have := hf 2 _ rfl
    change DataW.trod enc Tryz.prog W b0 (fun _ => true) held n 24 (List.take (Tryz.prog.cellsOf 24) (List.drop 101 cs)) = xs[2]? at this
    rw [cellsRt, List.getElem?_eq_getElem (by omega)] at this
    exact ⟨_, this⟩
  obtain ⟨y2, f2⟩ := f2
  obtain ⟨zsg, e2, hzsg⟩ := root_of_trod f2
  have hc := cut_flat cs [1, 100, 32] 0 (by rw [hl]; rfl)
  rw [List.drop_zero] at e0
  simp only [cutAt, List.drop_zero, Nat.zero_add, Nat.reduceAdd, e0, e1, e2] at hc
  refine ⟨zbo, zbc, zbl, zdzs, zdzi, zdzb, zdzcze, zdzczr, zdztze, zdztzr, zsg, by rw [hc]; simp [atC], hzdzs, hzdzi, hzdzb, hzdzcze, hzdzczr, hzdztze, hzdztzr, hzsg, hzb⟩
theorem open_at {base : Nat} {v : Value} {d : DataW H} {p : List MemPlace} (hv : Value.okWide Tryz.prog W .any base 46 v) (h : DataW.Trod enc Tryz.prog W b0 (fun _ => true) held 46 v d p) : ∃ (zbo : Option Addr) (zbc : Nat) (zbl : List Bool) (zdzs : Nat) (zdzi : Nat) (zdzb : List Nat) (zdzcze : Nat) (zdzczr : List Nat) (zdztze : Nat) (zdztzr : List Nat) (zsg : List Nat), v = .agg (atC (.slice zbo zbl.length zbc) (vtC zdzs zdzi zdzb zdzcze zdzczr zdztze zdztzr) zsg).toArray ∧ zdzs < 18446744073709551616 ∧ zdzi < 18446744073709551616 ∧ Rt zdzb ∧ zdzcze < 18446744073709551616 ∧ Rt zdzczr ∧ zdztze < 18446744073709551616 ∧ Rt zdztzr ∧ Rt zsg ∧ IsT W (.slice zbo zbl.length zbc) zbl := by
  obtain ⟨cs, rfl, _⟩ := okWide_struct Tryz.underlying46 hv
  obtain ⟨fuel, hf⟩ := h
  obtain ⟨zbo, zbc, zbl, zdzs, zdzi, zdzb, zdzcze, zdzczr, zdztze, zdztzr, zsg, e, hzdzs, hzdzi, hzdzb, hzdzcze, hzdzczr, hzdztze, hzdztzr, hzsg, hzb⟩ := at_of_trod hf
  exact ⟨zbo, zbc, zbl, zdzs, zdzi, zdzb, zdzcze, zdzczr, zdztze, zdztzr, zsg, by rw [← Array.toList_inj.1 (show cs.toList = (atC (.slice zbo zbl.length zbc) (vtC zdzs zdzi zdzb zdzcze zdzczr zdztze zdztzr) zsg).toArray.toList from e)], hzdzs, hzdzi, hzdzb, hzdzcze, hzdzczr, hzdztze, hzdztzr, hzsg, hzb⟩
end
end Go.Proofs.YtoajeencniomoaaGreat

