/- Own texts of the proof, joined: VIVote VIIndexed VIAttesterSlashing RunEq LwAttesterSlashing Laid Open8. -/
import Derived.Test.YtfmecdmkepnlmaaDoorH5
import Derived.BigFrame
import Derived.LaidMore
import Derived.MakeChecks
import Derived.Lib.LaidTab
import Derived.Lib.LaidU8
import Derived.FnData
import Derived.ProofKit
import Derived.OpenShut
import Derived.ShutString
import Derived.ChangeOld
import Derived.Deep.Slices
import Derived.SevenTiedAt
import Derived.Stop.Joined
import Derived.Deep.Grids
import Derived.ChangeSlices
/- The document's value of a struct (Vote), and where it lies. -/
namespace Go.Proofs.YtfmecdmkepnlmaaDoor
open Go.RowKit Go.Shelf
set_option linter.unusedVariables false
set_option linter.unusedSimpArgs false
set_option maxRecDepth 100000

def vtU (zs : Nat) (zi : Nat) (zb : List Nat) (zcze : Nat) (zczr : List Nat) (ztze : Nat) (ztzr : List Nat) : Vt := .mk 0 (zeros 32) [] [.mk zs (zeros 32) [] [], .mk zi (zeros 32) [] [], .mk 0 zb [] [], cpU zcze zczr, cpU ztze ztzr]
set_option maxHeartbeats 2000000 in
theorem vtW_any (P : Nat → Prop) (zs : Nat) (zi : Nat) (zb : List Nat) (zcze : Nat) (zczr : List Nat) (ztze : Nat) (ztzr : List Nat) (hzs : zs < 18446744073709551616) (hzi : zi < 18446744073709551616) (hzb : Rt zb) (hzcze : zcze < 18446744073709551616) (hzczr : Rt zczr) (hztze : ztze < 18446744073709551616) (hztzr : Rt ztzr) (w : World) (hP : ∀ b, w.heap.size ≤ b → P b) : Calls Tryd.prog 52 #[.agg (vtC zs zi zb zcze zczr ztze ztzr).toArray] w fun x w' => ∃ v, x = .returned v ∧ IsVI P w' v (vtU zs zi zb zcze zczr ztze ztzr) ∧ Below w.heap.size w w' := by
  go_enter Tryd.func52, Tryd.ntmps52
  go_wp2_with ((with_reducible refine at_list' ?_); first
    | (refine wpList_box_c rfl 1 rfl (.tmp 0) rfl (vtC zs zi zb zcze zczr ztze ztzr) rfl ?_; intro w1 H1 B1 S1)
    | (refine wpList_alloc_c Tryd.ty40 rfl 2 rfl rfl ?_; intro w2 H2 B2 S2; rw [S1] at H2 S2; rw [S1]))
  have HX := hid (H1.keep B2)
  have HY := hid H2
  have HB := hid (B1.trans (B2.mono (by omega)))
  have s2 : w2.heap.size = w.heap.size + 2 := by omega
  obtain ⟨P1, hP1⟩ : ∃ P1 : Nat → Prop, Same (fun b => P b ∧ b ≠ w.heap.size + 1) P1 := ⟨_, ⟨rfl⟩⟩
  have HP1 := hid (fun (wq : World) (h : w2.heap.size ≤ wq.heap.size) b (hb : wq.heap.size ≤ b) => show P1 b by rw [← hP1.out]; exact ⟨hP b (by omega), by omega⟩)
  clear H1 B1 S1 H2 B2 S2
  try simp only [Act.put, List.setIfInBounds_toArray, List.set_cons_succ, List.set_cons_zero]
  refine wp_region_flow 17 17 (fun i v wq => match i with
    | 0 => v = .pointer (some ⟨w.heap.size, 0, none⟩)
    | 1 => v = .int .u64 (zs : Nat)
    | 2 => IsVI P1 wq v (.mk zs (zeros 32) [] [])
    | 3 => v = .pointer (some ⟨w.heap.size, 1, none⟩)
    | 4 => v = .int .u64 (zi : Nat)
    | 5 => IsVI P1 wq v (.mk zi (zeros 32) [] [])
    | 6 => v = .pointer (some ⟨w.heap.size, 2, none⟩)
    | 7 => v = .agg (nums .u8 zb)
    | 8 => IsVI P1 wq v (.mk 0 zb [] [])
    | 9 => v = .pointer (some ⟨w.heap.size, 34, none⟩)
    | 10 => v = .agg (cpC zcze zczr).toArray
    | 11 => IsVI P1 wq v (cpU zcze zczr)
    | 12 => v = .pointer (some ⟨w.heap.size, 67, none⟩)
    | 13 => v = .agg (cpC ztze ztzr).toArray
    | 14 => IsVI P1 wq v (cpU ztze ztzr)
    | 15 => ∃ b, v = .slice (some ⟨b, 0, none⟩) 5 5 ∧ KIn P1 wq [.mk zs (zeros 32) [] [], .mk zi (zeros 32) [] [], .mk 0 zb [] [], cpU zcze zczr, cpU ztze ztzr] b 0
    | _ => ∃ b, v = .agg (valL 0 (zeros 32) nilS (.slice (some ⟨b, 0, none⟩) 5 5)).toArray ∧ KIn P1 wq [.mk zs (zeros 32) [] [], .mk zi (zeros 32) [] [], .mk 0 zb [] [], cpU zcze zczr, cpU ztze ztzr] b 0) (by kernel_rfl) (by kernel_rfl) (fun _ d _ _ _ h => by cases d <;> exact h) ?_ ?_ ?_ ?_
  · intro i v wq wq' hi hv hb
    match i, hi with
    | 0, _ => exact hv
    | 1, _ => exact hv
    | 2, _ => exact hv.keep hb
    | 3, _ => exact hv
    | 4, _ => exact hv
    | 5, _ => exact hv.keep hb
    | 6, _ => exact hv
    | 7, _ => exact hv
    | 8, _ => exact hv.keep hb
    | 9, _ => exact hv
    | 10, _ => exact hv
    | 11, _ => exact hv.keep hb
    | 12, _ => exact hv
    | 13, _ => exact hv
    | 14, _ => exact hv.keep hb
    | 15, _ => obtain ⟨b, h1, h2⟩ := hv; exact ⟨b, h1, h2.keep hb⟩
    | 16, _ => obtain ⟨b, h1, h2⟩ := hv; exact ⟨b, h1, h2.keep hb⟩
    | (k + 17), hk => exact absurd hk (by omega)
  · intro i o hi ho aq wq hc hk hdep
    match i, hi with
    | 0, _ =>
      cases ho
      have e1 : aq.tmps.getD 1 undef = .pointer (some ⟨w.heap.size, 0, none⟩) := hk 1 (by decide)
      exact flow_value _ (run_fieldAt 29 (.tmp 1) 0 rfl _ _ e1 (by kernel_rfl)) rfl
    | 1, _ =>
      cases ho
      have e0 : aq.tmps.getD 3 undef = .pointer (some ⟨w.heap.size, 0, none⟩) := hdep 0 3 rfl (by kernel_rfl)
      exact flow_value _ (run_cell 23 (.tmp 3) rfl _ e0 _ ((HX.out.keep (hcB hc)).cell (seg (ps := vtP zs zi zb zcze zczr ztze ztzr) (i := 0) (off := 0) rfl (by simp [vtP, cellsB_length, hzb.len, hzczr.len, hztzr.len, cpC_length zcze zczr hzczr.len, cpC_length ztze ztzr hztzr.len]) 0 _ rfl)) _ Tryd.underlying23 rfl) rfl
    | 2, _ =>
      cases ho
      have e0 : aq.tmps.getD 4 undef = .int .u64 (zs : Nat) := hdep 1 4 rfl (by kernel_rfl)
      refine flow_fun 57 _ _ rfl (fun _ _ => by simp [go_sem]) #[.int .u64 (zs : Nat)] (by rw [show (#[Operand.tmp 4] : Array Operand).map aq.eval = #[aq.tmps.getD 4 undef] from by simp [Act.eval], e0]) ?_
      refine (n_any zs wq).mono ?_
      rintro x w' ⟨rfl, q⟩
      exact ⟨_, rfl, IsVI.leaf P1 w' hzs zeros32 (zeros_byte 32), q⟩
    | 3, _ =>
      cases ho
      have e1 : aq.tmps.getD 1 undef = .pointer (some ⟨w.heap.size, 0, none⟩) := hk 1 (by decide)
      exact flow_value _ (run_fieldAt 29 (.tmp 1) 1 rfl _ _ e1 (by kernel_rfl)) rfl
    | 4, _ =>
      cases ho
      have e0 : aq.tmps.getD 6 undef = .pointer (some ⟨w.heap.size, 1, none⟩) := hdep 3 6 rfl (by kernel_rfl)
      exact flow_value _ (run_cell 23 (.tmp 6) rfl _ e0 _ ((HX.out.keep (hcB hc)).cell (seg (ps := vtP zs zi zb zcze zczr ztze ztzr) (i := 1) (off := 1) rfl (by simp [vtP, cellsB_length, hzb.len, hzczr.len, hztzr.len, cpC_length zcze zczr hzczr.len, cpC_length ztze ztzr hztzr.len]) 0 _ rfl)) _ Tryd.underlying23 rfl) rfl
    | 5, _ =>
      cases ho
      have e0 : aq.tmps.getD 7 undef = .int .u64 (zi : Nat) := hdep 4 7 rfl (by kernel_rfl)
      refine flow_fun 57 _ _ rfl (fun _ _ => by simp [go_sem]) #[.int .u64 (zi : Nat)] (by rw [show (#[Operand.tmp 7] : Array Operand).map aq.eval = #[aq.tmps.getD 7 undef] from by simp [Act.eval], e0]) ?_
      refine (n_any zi wq).mono ?_
      rintro x w' ⟨rfl, q⟩
      exact ⟨_, rfl, IsVI.leaf P1 w' hzi zeros32 (zeros_byte 32), q⟩
    | 6, _ =>
      cases ho
      have e1 : aq.tmps.getD 1 undef = .pointer (some ⟨w.heap.size, 0, none⟩) := hk 1 (by decide)
      exact flow_value _ (run_fieldAt 29 (.tmp 1) 2 rfl _ _ e1 (by kernel_rfl)) rfl
    | 7, _ =>
      cases ho
      have e0 : aq.tmps.getD 9 undef = .pointer (some ⟨w.heap.size, 2, none⟩) := hdep 6 9 rfl (by kernel_rfl)
      exact flow_value _ (run_mid 25 (.tmp 9) rfl w.heap.size 2 e0 (cellsB zb) ((HX.out.keep (hcB hc)).range 2 (cellsB zb) (seg (ps := vtP zs zi zb zcze zczr ztze ztzr) (i := 2) (off := 2) rfl (by simp [vtP, cellsB_length, hzb.len, hzczr.len, hztzr.len, cpC_length zcze zczr hzczr.len, cpC_length ztze ztzr hztzr.len]))) _ Tryd.und25 rfl (by rw [cellsB_length, hzb.len]; exact Tryd.size25)) rfl
    | 8, _ =>
      cases ho
      have e0 : aq.tmps.getD 10 undef = .agg (nums .u8 zb) := hdep 7 10 rfl (by kernel_rfl)
      refine flow_fun 53 _ _ rfl (fun _ _ => by simp [go_sem]) #[.agg (nums .u8 zb)] (by rw [show (#[Operand.tmp 10] : Array Operand).map aq.eval = #[aq.tmps.getD 10 undef] from by simp [Act.eval], e0]) ?_
      refine (r_any zb hzb.len wq).mono ?_
      rintro x w' ⟨rfl, q⟩
      exact ⟨_, rfl, IsVI.leaf P1 w' (by decide) hzb.len hzb.byte, q⟩
    | 9, _ =>
      cases ho
      have e1 : aq.tmps.getD 1 undef = .pointer (some ⟨w.heap.size, 0, none⟩) := hk 1 (by decide)
      exact flow_value _ (run_fieldAt 29 (.tmp 1) 3 rfl _ _ e1 (by kernel_rfl)) rfl
    | 10, _ =>
      cases ho
      have e0 : aq.tmps.getD 12 undef = .pointer (some ⟨w.heap.size, 34, none⟩) := hdep 9 12 rfl (by kernel_rfl)
      exact flow_value _ (run_mid 27 (.tmp 12) rfl w.heap.size 34 e0 (cpC zcze zczr) ((HX.out.keep (hcB hc)).range 34 (cpC zcze zczr) (seg (ps := vtP zs zi zb zcze zczr ztze ztzr) (i := 3) (off := 34) rfl (by simp [vtP, cellsB_length, hzb.len, hzczr.len, hztzr.len, cpC_length zcze zczr hzczr.len, cpC_length ztze ztzr hztzr.len]))) _ Tryd.underlying27 rfl (by rw [cpC_length zcze zczr hzczr.len]; kernel_rfl)) rfl
    | 11, _ =>
      cases ho
      have e0 : aq.tmps.getD 13 undef = .agg (cpC zcze zczr).toArray := hdep 10 13 rfl (by kernel_rfl)
      refine flow_fun 64 _ _ rfl (fun _ _ => by simp [go_sem]) #[.agg (cpC zcze zczr).toArray] (by rw [show (#[Operand.tmp 13] : Array Operand).map aq.eval = #[aq.tmps.getD 13 undef] from by simp [Act.eval], e0]) ?_
      refine (cpW_any P1 zcze zczr hzcze hzczr wq (HP1.out wq (hcB hc).size)).mono ?_
      rintro x w' ⟨v, rfl, hv, q⟩
      exact ⟨v, rfl, hv, q⟩
    | 12, _ =>
      cases ho
      have e1 : aq.tmps.getD 1 undef = .pointer (some ⟨w.heap.size, 0, none⟩) := hk 1 (by decide)
      exact flow_value _ (run_fieldAt 29 (.tmp 1) 4 rfl _ _ e1 (by kernel_rfl)) rfl
    | 13, _ =>
      cases ho
      have e0 : aq.tmps.getD 15 undef = .pointer (some ⟨w.heap.size, 67, none⟩) := hdep 12 15 rfl (by kernel_rfl)
      exact flow_value _ (run_mid 27 (.tmp 15) rfl w.heap.size 67 e0 (cpC ztze ztzr) ((HX.out.keep (hcB hc)).range 67 (cpC ztze ztzr) (seg (ps := vtP zs zi zb zcze zczr ztze ztzr) (i := 4) (off := 67) rfl (by simp [vtP, cellsB_length, hzb.len, hzczr.len, hztzr.len, cpC_length zcze zczr hzczr.len, cpC_length ztze ztzr hztzr.len]))) _ Tryd.underlying27 rfl (by rw [cpC_length ztze ztzr hztzr.len]; kernel_rfl)) rfl
    | 14, _ =>
      cases ho
      have e0 : aq.tmps.getD 16 undef = .agg (cpC ztze ztzr).toArray := hdep 13 16 rfl (by kernel_rfl)
      refine flow_fun 64 _ _ rfl (fun _ _ => by simp [go_sem]) #[.agg (cpC ztze ztzr).toArray] (by rw [show (#[Operand.tmp 16] : Array Operand).map aq.eval = #[aq.tmps.getD 16 undef] from by simp [Act.eval], e0]) ?_
      refine (cpW_any P1 ztze ztzr hztze hztzr wq (HP1.out wq (hcB hc).size)).mono ?_
      rintro x w' ⟨v, rfl, hv, q⟩
      exact ⟨v, rfl, hv, q⟩
    | 15, _ =>
      cases ho
      obtain ⟨sb0, sk0, e0, h0_⟩ := hdep 2 5 rfl (by kernel_rfl)
      obtain ⟨sb1, sk1, e1, h1_⟩ := hdep 5 8 rfl (by kernel_rfl)
      obtain ⟨sb2, sk2, e2, h2_⟩ := hdep 8 11 rfl (by kernel_rfl)
      obtain ⟨sb3, sk3, e3, h3_⟩ := hdep 11 14 rfl (by kernel_rfl)
      obtain ⟨sb4, sk4, e4, h4_⟩ := hdep 14 17 rfl (by kernel_rfl)
      refine flow_rowsB 38 40 5 35 _ rfl Tryd.underlying38 valInfo [valL zs (zeros 32) sb0 sk0, valL zi (zeros 32) sb1 sk1, valL 0 zb sb2 sk2, valL 0 (zeros 32) sb3 sk3, valL 0 (zeros 32) sb4 sk4] [.tmp 5, .tmp 8, .tmp 11, .tmp 14, .tmp 17] rfl (by rw [show [Operand.tmp 5, Operand.tmp 8, Operand.tmp 11, Operand.tmp 14, Operand.tmp 17].map aq.eval = [aq.tmps.getD 5 undef, aq.tmps.getD 8 undef, aq.tmps.getD 11 undef, aq.tmps.getD 14 undef, aq.tmps.getD 17 undef] from rfl, e0, e1, e2, e3, e4]; rfl) (by simp [valL_length, zeros32, hzb.len]) rfl (by decide) (by decide) (by decide) (fun w' h hb => ⟨_, rfl, kIn_of h hb (HP1.out wq (hcB hc).size _ (Nat.le_refl _)) [(.mk zs (zeros 32) [] [], sb0, sk0), (.mk zi (zeros 32) [] [], sb1, sk1), (.mk 0 zb [] [], sb2, sk2), (cpU zcze zczr, sb3, sk3), (cpU ztze ztzr, sb4, sk4)] (fun j v hj => by rw [Nat.zero_add]; exact hj) (fun x hx => ?_)⟩)
      simp only [List.mem_cons, List.not_mem_nil, or_false] at hx
      rcases hx with rfl | rfl | rfl | rfl | rfl
      · exact h0_
      · exact h1_
      · exact h2_
      · exact h3_
      · exact h4_
    | 16, _ =>
      cases ho
      obtain ⟨b, e6, h6⟩ := hdep 15 18 rfl (by kernel_rfl)
      refine flow_fun 51 _ _ rfl (fun _ _ => by simp [go_sem]) #[.slice (some ⟨b, 0, none⟩) 5 5] (by rw [show (#[Operand.tmp 18] : Array Operand).map aq.eval = #[aq.tmps.getD 18 undef] from by simp [Act.eval], e6]) ?_
      refine (all_any (some ⟨b, 0, none⟩) 5 5 wq).mono ?_
      rintro x w' ⟨rfl, q⟩
      exact ⟨_, rfl, ⟨b, rfl, h6.keep q⟩, q⟩
    | (k + 17), hk => exact absurd hk (by omega)
  · intro o h17 ho
    omega
  intro vf w8 hc hv
  have e7 : ∃ b, vf 16 = _ ∧ KIn P1 w8 _ b 0 := hv 16 19 (by decide) rfl
  obtain ⟨b, e7, h7⟩ := e7
  have B8 := HB.out.trans ((hcB hc).mono (by omega))
  have H8v := HY.out.keep (hcB hc)
  have s8 := (hcB hc).size
  clear hv hc
  simp only [List.take_succ_cons, List.take_zero, List.drop_succ_cons, List.drop_zero, putAll, Act.put, List.setIfInBounds_toArray, List.set_cons_succ, List.set_cons_zero]
  rw [e7]
  have HB8 := hid B8
  have HK := hid h7
  clear B8 h7 e7 HB
  go_wp2_with ((with_reducible refine at_list' ?_); first
    | (refine wpList_store_c Tryd.ty40 rfl (.tmp 2) (.tmp 19) rfl (w.heap.size + 1) (valL 0 (zeros 32) nilS (.slice (some ⟨b, 0, none⟩) 5 5)) rfl rfl rfl (valL_oneC _ _ _ _ trivial trivial) _ H8v rfl ?_; intro w9 H9 O9))
  refine bodyPost_ret (results_c1 Tryd.ty40 rfl _ w9 (w.heap.size + 1) _ rfl H9 rfl) rfl ⟨_, rfl, ⟨nilS, _, rfl, ?_⟩, below_only HB8.out O9 (by omega)⟩
  have hk := HK.out
  rw [← hP1.out] at hk
  exact vIn_all (ks := [.mk zs (zeros 32) [] [], .mk zi (zeros 32) [] [], .mk 0 zb [] [], cpU zcze zczr, cpU ztze ztzr]) rfl (by decide) (hk.only O9)
end Go.Proofs.YtfmecdmkepnlmaaDoor

/- The document's value of a struct (Indexed), and where it lies. -/
namespace Go.Proofs.YtfmecdmkepnlmaaDoor
open Go.RowKit Go.Shelf
set_option linter.unusedVariables false
set_option linter.unusedSimpArgs false
set_option maxRecDepth 100000

def ixU (zno : Option Addr) (znc : Nat) (znl : List Nat) (zdzs : Nat) (zdzi : Nat) (zdzb : List Nat) (zdzcze : Nat) (zdzczr : List Nat) (zdztze : Nat) (zdztzr : List Nat) (zsg : List Nat) : Vt := .mk 0 (zeros 32) [] [numsV znl, vtU zdzs zdzi zdzb zdzcze zdzczr zdztze zdztzr, .mk 0 zsg [] []]
set_option maxHeartbeats 2000000 in
theorem ixW_any (P : Nat → Prop) (zno : Option Addr) (znc : Nat) (znl : List Nat) (zdzs : Nat) (zdzi : Nat) (zdzb : List Nat) (zdzcze : Nat) (zdzczr : List Nat) (zdztze : Nat) (zdztzr : List Nat) (zsg : List Nat) (hzdzs : zdzs < 18446744073709551616) (hzdzi : zdzi < 18446744073709551616) (hzdzb : Rt zdzb) (hzdzcze : zdzcze < 18446744073709551616) (hzdzczr : Rt zdzczr) (hzdztze : zdztze < 18446744073709551616) (hzdztzr : Rt zdztzr) (hzsg : Rt zsg) (w : World) (hP : ∀ b, w.heap.size ≤ b → P b) (hzn : IsN w (.slice zno znl.length znc) znl) (hznn : znl.length ≤ 500) : Calls Tryd.prog 11 #[.agg (ixC zno znc znl zdzs zdzi zdzb zdzcze zdzczr zdztze zdztzr zsg).toArray] w fun x w' => ∃ v, x = .returned v ∧ IsVI P w' v (ixU zno znc znl zdzs zdzi zdzb zdzcze zdzczr zdztze zdztzr zsg) ∧ Below w.heap.size w w' := by
  go_enter Tryd.func11, Tryd.ntmps11
  go_wp2_with ((with_reducible refine at_list' ?_); first
    | (refine wpList_box_c rfl 1 rfl (.tmp 0) rfl (ixC zno znc znl zdzs zdzi zdzb zdzcze zdzczr zdztze zdztzr zsg) rfl ?_; intro w1 H1 B1 S1)
    | (refine wpList_alloc_c Tryd.ty40 rfl 2 rfl rfl ?_; intro w2 H2 B2 S2; rw [S1] at H2 S2; rw [S1]))
  have HX := hid (H1.keep B2)
  have HY := hid H2
  have HB := hid (B1.trans (B2.mono (by omega)))
  have s2 : w2.heap.size = w.heap.size + 2 := by omega
  obtain ⟨P1, hP1⟩ : ∃ P1 : Nat → Prop, Same (fun b => P b ∧ b ≠ w.heap.size + 1) P1 := ⟨_, ⟨rfl⟩⟩
  have HP1 := hid (fun (wq : World) (h : w2.heap.size ≤ wq.heap.size) b (hb : wq.heap.size ≤ b) => show P1 b by rw [← hP1.out]; exact ⟨hP b (by omega), by omega⟩)
  clear H1 B1 S1 H2 B2 S2
  try simp only [Act.put, List.setIfInBounds_toArray, List.set_cons_succ, List.set_cons_zero]
  refine wp_region_flow 11 11 (fun i v wq => match i with
    | 0 => v = .pointer (some ⟨w.heap.size, 0, none⟩)
    | 1 => v = .slice zno znl.length znc
    | 2 => IsVI P1 wq v (numsV znl)
    | 3 => v = .pointer (some ⟨w.heap.size, 1, none⟩)
    | 4 => v = .agg (vtC zdzs zdzi zdzb zdzcze zdzczr zdztze zdztzr).toArray
    | 5 => IsVI P1 wq v (vtU zdzs zdzi zdzb zdzcze zdzczr zdztze zdztzr)
    | 6 => v = .pointer (some ⟨w.heap.size, 101, none⟩)
    | 7 => v = .agg (nums .u8 zsg)
    | 8 => IsVI P1 wq v (.mk 0 zsg [] [])
    | 9 => ∃ b, v = .slice (some ⟨b, 0, none⟩) 3 3 ∧ KIn P1 wq [numsV znl, vtU zdzs zdzi zdzb zdzcze zdzczr zdztze zdztzr, .mk 0 zsg [] []] b 0
    | _ => ∃ b, v = .agg (valL 0 (zeros 32) nilS (.slice (some ⟨b, 0, none⟩) 3 3)).toArray ∧ KIn P1 wq [numsV znl, vtU zdzs zdzi zdzb zdzcze zdzczr zdztze zdztzr, .mk 0 zsg [] []] b 0) (by kernel_rfl) (by kernel_rfl) (fun _ d _ _ _ h => by cases d <;> exact h) ?_ ?_ ?_ ?_
  · intro i v wq wq' hi hv hb
    match i, hi with
    | 0, _ => exact hv
    | 1, _ => exact hv
    | 2, _ => exact hv.keep hb
    | 3, _ => exact hv
    | 4, _ => exact hv
    | 5, _ => exact hv.keep hb
    | 6, _ => exact hv
    | 7, _ => exact hv
    | 8, _ => exact hv.keep hb
    | 9, _ => obtain ⟨b, h1, h2⟩ := hv; exact ⟨b, h1, h2.keep hb⟩
    | 10, _ => obtain ⟨b, h1, h2⟩ := hv; exact ⟨b, h1, h2.keep hb⟩
    | (k + 11), hk => exact absurd hk (by omega)
  · intro i o hi ho aq wq hc hk hdep
    match i, hi with
    | 0, _ =>
      cases ho
      have e1 : aq.tmps.getD 1 undef = .pointer (some ⟨w.heap.size, 0, none⟩) := hk 1 (by decide)
      exact flow_value _ (run_fieldAt 31 (.tmp 1) 0 rfl _ _ e1 (by kernel_rfl)) rfl
    | 1, _ =>
      cases ho
      have e0 : aq.tmps.getD 3 undef = .pointer (some ⟨w.heap.size, 0, none⟩) := hdep 0 3 rfl (by kernel_rfl)
      exact flow_value _ (run_cell 22 (.tmp 3) rfl _ e0 _ ((HX.out.keep (hcB hc)).cell (seg (ps := ixP zno znc znl zdzs zdzi zdzb zdzcze zdzczr zdztze zdztzr zsg) (i := 0) (off := 0) rfl (by simp [ixP, cellsB_length, hzdzb.len, hzdzczr.len, hzdztzr.len, hzsg.len, vtC_length zdzs zdzi zdzb zdzcze zdzczr zdztze zdztzr hzdzb.len hzdzczr.len hzdztzr.len]) 0 _ rfl)) _ Tryd.underlying22 rfl) rfl
    | 2, _ =>
      cases ho
      have e0 : aq.tmps.getD 4 undef = .slice zno znl.length znc := hdep 1 4 rfl (by kernel_rfl)
      refine flow_fun 20 _ _ rfl (fun _ _ => by simp [go_sem]) #[.slice zno znl.length znc] (by rw [show (#[Operand.tmp 4] : Array Operand).map aq.eval = #[aq.tmps.getD 4 undef] from by simp [Act.eval], e0]) ?_
      refine (refNumbers_any (.slice zno znl.length znc) znl wq (hzn.keep (HB.out.trans ((hcB hc).mono HB.out.size))) hznn).mono ?_
      rintro x w' ⟨u, rfl, h1, q⟩
      exact ⟨_, rfl, ⟨nilS, u, rfl, vIn_nums h1 hzn.by64 (fun b hb => HP1.out wq (hcB hc).size b (by omega))⟩, q⟩
    | 3, _ =>
      cases ho
      have e1 : aq.tmps.getD 1 undef = .pointer (some ⟨w.heap.size, 0, none⟩) := hk 1 (by decide)
      exact flow_value _ (run_fieldAt 31 (.tmp 1) 1 rfl _ _ e1 (by kernel_rfl)) rfl
    | 4, _ =>
      cases ho
      have e0 : aq.tmps.getD 6 undef = .pointer (some ⟨w.heap.size, 1, none⟩) := hdep 3 6 rfl (by kernel_rfl)
      exact flow_value _ (run_mid 29 (.tmp 6) rfl w.heap.size 1 e0 (vtC zdzs zdzi zdzb zdzcze zdzczr zdztze zdztzr) ((HX.out.keep (hcB hc)).range 1 (vtC zdzs zdzi zdzb zdzcze zdzczr zdztze zdztzr) (seg (ps := ixP zno znc znl zdzs zdzi zdzb zdzcze zdzczr zdztze zdztzr zsg) (i := 1) (off := 1) rfl (by simp [ixP, cellsB_length, hzdzb.len, hzdzczr.len, hzdztzr.len, hzsg.len, vtC_length zdzs zdzi zdzb zdzcze zdzczr zdztze zdztzr hzdzb.len hzdzczr.len hzdztzr.len]))) _ Tryd.underlying29 rfl (by rw [vtC_length zdzs zdzi zdzb zdzcze zdzczr zdztze zdztzr hzdzb.len hzdzczr.len hzdztzr.len]; kernel_rfl)) rfl
    | 5, _ =>
      cases ho
      have e0 : aq.tmps.getD 7 undef = .agg (vtC zdzs zdzi zdzb zdzcze zdzczr zdztze zdztzr).toArray := hdep 4 7 rfl (by kernel_rfl)
      refine flow_fun 52 _ _ rfl (fun _ _ => by simp [go_sem]) #[.agg (vtC zdzs zdzi zdzb zdzcze zdzczr zdztze zdztzr).toArray] (by rw [show (#[Operand.tmp 7] : Array Operand).map aq.eval = #[aq.tmps.getD 7 undef] from by simp [Act.eval], e0]) ?_
      refine (vtW_any P1 zdzs zdzi zdzb zdzcze zdzczr zdztze zdztzr hzdzs hzdzi hzdzb hzdzcze hzdzczr hzdztze hzdztzr wq (HP1.out wq (hcB hc).size)).mono ?_
      rintro x w' ⟨v, rfl, hv, q⟩
      exact ⟨v, rfl, hv, q⟩
    | 6, _ =>
      cases ho
      have e1 : aq.tmps.getD 1 undef = .pointer (some ⟨w.heap.size, 0, none⟩) := hk 1 (by decide)
      exact flow_value _ (run_fieldAt 31 (.tmp 1) 2 rfl _ _ e1 (by kernel_rfl)) rfl
    | 7, _ =>
      cases ho
      have e0 : aq.tmps.getD 9 undef = .pointer (some ⟨w.heap.size, 101, none⟩) := hdep 6 9 rfl (by kernel_rfl)
      exact flow_value _ (run_mid 25 (.tmp 9) rfl w.heap.size 101 e0 (cellsB zsg) ((HX.out.keep (hcB hc)).range 101 (cellsB zsg) (seg (ps := ixP zno znc znl zdzs zdzi zdzb zdzcze zdzczr zdztze zdztzr zsg) (i := 2) (off := 101) rfl (by simp [ixP, cellsB_length, hzdzb.len, hzdzczr.len, hzdztzr.len, hzsg.len, vtC_length zdzs zdzi zdzb zdzcze zdzczr zdztze zdztzr hzdzb.len hzdzczr.len hzdztzr.len]))) _ Tryd.und25 rfl (by rw [cellsB_length, hzsg.len]; exact Tryd.size25)) rfl
    | 8, _ =>
      cases ho
      have e0 : aq.tmps.getD 10 undef = .agg (nums .u8 zsg) := hdep 7 10 rfl (by kernel_rfl)
      refine flow_fun 53 _ _ rfl (fun _ _ => by simp [go_sem]) #[.agg (nums .u8 zsg)] (by rw [show (#[Operand.tmp 10] : Array Operand).map aq.eval = #[aq.tmps.getD 10 undef] from by simp [Act.eval], e0]) ?_
      refine (r_any zsg hzsg.len wq).mono ?_
      rintro x w' ⟨rfl, q⟩
      exact ⟨_, rfl, IsVI.leaf P1 w' (by decide) hzsg.len hzsg.byte, q⟩
    | 9, _ =>
      cases ho
      obtain ⟨sb0, sk0, e0, h0_⟩ := hdep 2 5 rfl (by kernel_rfl)
      obtain ⟨sb1, sk1, e1, h1_⟩ := hdep 5 8 rfl (by kernel_rfl)
      obtain ⟨sb2, sk2, e2, h2_⟩ := hdep 8 11 rfl (by kernel_rfl)
      refine flow_rowsB 38 40 3 35 _ rfl Tryd.underlying38 valInfo [valL 0 (zeros 32) sb0 sk0, valL 0 (zeros 32) sb1 sk1, valL 0 zsg sb2 sk2] [.tmp 5, .tmp 8, .tmp 11] rfl (by rw [show [Operand.tmp 5, Operand.tmp 8, Operand.tmp 11].map aq.eval = [aq.tmps.getD 5 undef, aq.tmps.getD 8 undef, aq.tmps.getD 11 undef] from rfl, e0, e1, e2]; rfl) (by simp [valL_length, zeros32, hzsg.len]) rfl (by decide) (by decide) (by decide) (fun w' h hb => ⟨_, rfl, kIn_of h hb (HP1.out wq (hcB hc).size _ (Nat.le_refl _)) [(numsV znl, sb0, sk0), (vtU zdzs zdzi zdzb zdzcze zdzczr zdztze zdztzr, sb1, sk1), (.mk 0 zsg [] [], sb2, sk2)] (fun j v hj => by rw [Nat.zero_add]; exact hj) (fun x hx => ?_)⟩)
      simp only [List.mem_cons, List.not_mem_nil, or_false] at hx
      rcases hx with rfl | rfl | rfl
      · exact h0_
      · exact h1_
      · exact h2_
    | 10, _ =>
      cases ho
      obtain ⟨b, e6, h6⟩ := hdep 9 12 rfl (by kernel_rfl)
      refine flow_fun 51 _ _ rfl (fun _ _ => by simp [go_sem]) #[.slice (some ⟨b, 0, none⟩) 3 3] (by rw [show (#[Operand.tmp 12] : Array Operand).map aq.eval = #[aq.tmps.getD 12 undef] from by simp [Act.eval], e6]) ?_
      refine (all_any (some ⟨b, 0, none⟩) 3 3 wq).mono ?_
      rintro x w' ⟨rfl, q⟩
      exact ⟨_, rfl, ⟨b, rfl, h6.keep q⟩, q⟩
    | (k + 11), hk => exact absurd hk (by omega)
  · intro o h11 ho
    omega
  intro vf w8 hc hv
  have e7 : ∃ b, vf 10 = _ ∧ KIn P1 w8 _ b 0 := hv 10 13 (by decide) rfl
  obtain ⟨b, e7, h7⟩ := e7
  have B8 := HB.out.trans ((hcB hc).mono (by omega))
  have H8v := HY.out.keep (hcB hc)
  have s8 := (hcB hc).size
  clear hv hc
  simp only [List.take_succ_cons, List.take_zero, List.drop_succ_cons, List.drop_zero, putAll, Act.put, List.setIfInBounds_toArray, List.set_cons_succ, List.set_cons_zero]
  rw [e7]
  have HB8 := hid B8
  have HK := hid h7
  clear B8 h7 e7 HB
  go_wp2_with ((with_reducible refine at_list' ?_); first
    | (refine wpList_store_c Tryd.ty40 rfl (.tmp 2) (.tmp 13) rfl (w.heap.size + 1) (valL 0 (zeros 32) nilS (.slice (some ⟨b, 0, none⟩) 3 3)) rfl rfl rfl (valL_oneC _ _ _ _ trivial trivial) _ H8v rfl ?_; intro w9 H9 O9))
  refine bodyPost_ret (results_c1 Tryd.ty40 rfl _ w9 (w.heap.size + 1) _ rfl H9 rfl) rfl ⟨_, rfl, ⟨nilS, _, rfl, ?_⟩, below_only HB8.out O9 (by omega)⟩
  have hk := HK.out
  rw [← hP1.out] at hk
  exact vIn_all (ks := [numsV znl, vtU zdzs zdzi zdzb zdzcze zdzczr zdztze zdztzr, .mk 0 zsg [] []]) rfl (by decide) (hk.only O9)
end Go.Proofs.YtfmecdmkepnlmaaDoor

/- The document's value of a struct (AttesterSlashing), and where it lies. -/
namespace Go.Proofs.YtfmecdmkepnlmaaDoor
open Go.RowKit Go.Shelf
set_option linter.unusedVariables false
set_option linter.unusedSimpArgs false
set_option maxRecDepth 100000

def asU (zazno : Option Addr) (zaznc : Nat) (zaznl : List Nat) (zazdzs : Nat) (zazdzi : Nat) (zazdzb : List Nat) (zazdzcze : Nat) (zazdzczr : List Nat) (zazdztze : Nat) (zazdztzr : List Nat) (zazsg : List Nat) (zzzno : Option Addr) (zzznc : Nat) (zzznl : List Nat) (zzzdzs : Nat) (zzzdzi : Nat) (zzzdzb : List Nat) (zzzdzcze : Nat) (zzzdzczr : List Nat) (zzzdztze : Nat) (zzzdztzr : List Nat) (zzzsg : List Nat) : Vt := .mk 0 (zeros 32) [] [ixU zazno zaznc zaznl zazdzs zazdzi zazdzb zazdzcze zazdzczr zazdztze zazdztzr zazsg, ixU zzzno zzznc zzznl zzzdzs zzzdzi zzzdzb zzzdzcze zzzdzczr zzzdztze zzzdztzr zzzsg]
set_option maxHeartbeats 2000000 in
theorem asW_any (P : Nat → Prop) (zazno : Option Addr) (zaznc : Nat) (zaznl : List Nat) (zazdzs : Nat) (zazdzi : Nat) (zazdzb : List Nat) (zazdzcze : Nat) (zazdzczr : List Nat) (zazdztze : Nat) (zazdztzr : List Nat) (zazsg : List Nat) (zzzno : Option Addr) (zzznc : Nat) (zzznl : List Nat) (zzzdzs : Nat) (zzzdzi : Nat) (zzzdzb : List Nat) (zzzdzcze : Nat) (zzzdzczr : List Nat) (zzzdztze : Nat) (zzzdztzr : List Nat) (zzzsg : List Nat) (hzazdzs : zazdzs < 18446744073709551616) (hzazdzi : zazdzi < 18446744073709551616) (hzazdzb : Rt zazdzb) (hzazdzcze : zazdzcze < 18446744073709551616) (hzazdzczr : Rt zazdzczr) (hzazdztze : zazdztze < 18446744073709551616) (hzazdztzr : Rt zazdztzr) (hzazsg : Rt zazsg) (hzzzdzs : zzzdzs < 18446744073709551616) (hzzzdzi : zzzdzi < 18446744073709551616) (hzzzdzb : Rt zzzdzb) (hzzzdzcze : zzzdzcze < 18446744073709551616) (hzzzdzczr : Rt zzzdzczr) (hzzzdztze : zzzdztze < 18446744073709551616) (hzzzdztzr : Rt zzzdztzr) (hzzzsg : Rt zzzsg) (w : World) (hP : ∀ b, w.heap.size ≤ b → P b) (hzazn : IsN w (.slice zazno zaznl.length zaznc) zaznl) (hzaznn : zaznl.length ≤ 500) (hzzzn : IsN w (.slice zzzno zzznl.length zzznc) zzznl) (hzzznn : zzznl.length ≤ 500) : Calls Tryd.prog 14 #[.agg (asC zazno zaznc zaznl zazdzs zazdzi zazdzb zazdzcze zazdzczr zazdztze zazdztzr zazsg zzzno zzznc zzznl zzzdzs zzzdzi zzzdzb zzzdzcze zzzdzczr zzzdztze zzzdztzr zzzsg).toArray] w fun x w' => ∃ v, x = .returned v ∧ IsVI P w' v (asU zazno zaznc zaznl zazdzs zazdzi zazdzb zazdzcze zazdzczr zazdztze zazdztzr zazsg zzzno zzznc zzznl zzzdzs zzzdzi zzzdzb zzzdzcze zzzdzczr zzzdztze zzzdztzr zzzsg) ∧ Below w.heap.size w w' := by
  go_enter Tryd.func14, Tryd.ntmps14
  go_wp2_with ((with_reducible refine at_list' ?_); first
    | (refine wpList_box_c rfl 1 rfl (.tmp 0) rfl (asC zazno zaznc zaznl zazdzs zazdzi zazdzb zazdzcze zazdzczr zazdztze zazdztzr zazsg zzzno zzznc zzznl zzzdzs zzzdzi zzzdzb zzzdzcze zzzdzczr zzzdztze zzzdztzr zzzsg) rfl ?_; intro w1 H1 B1 S1)
    | (refine wpList_alloc_c Tryd.ty40 rfl 2 rfl rfl ?_; intro w2 H2 B2 S2; rw [S1] at H2 S2; rw [S1]))
  have HX := hid (H1.keep B2)
  have HY := hid H2
  have HB := hid (B1.trans (B2.mono (by omega)))
  have s2 : w2.heap.size = w.heap.size + 2 := by omega
  obtain ⟨P1, hP1⟩ : ∃ P1 : Nat → Prop, Same (fun b => P b ∧ b ≠ w.heap.size + 1) P1 := ⟨_, ⟨rfl⟩⟩
  have HP1 := hid (fun (wq : World) (h : w2.heap.size ≤ wq.heap.size) b (hb : wq.heap.size ≤ b) => show P1 b by rw [← hP1.out]; exact ⟨hP b (by omega), by omega⟩)
  clear H1 B1 S1 H2 B2 S2
  try simp only [Act.put, List.setIfInBounds_toArray, List.set_cons_succ, List.set_cons_zero]
  refine wp_region_flow 8 8 (fun i v wq => match i with
    | 0 => v = .pointer (some ⟨w.heap.size, 0, none⟩)
    | 1 => v = .agg (ixC zazno zaznc zaznl zazdzs zazdzi zazdzb zazdzcze zazdzczr zazdztze zazdztzr zazsg).toArray
    | 2 => IsVI P1 wq v (ixU zazno zaznc zaznl zazdzs zazdzi zazdzb zazdzcze zazdzczr zazdztze zazdztzr zazsg)
    | 3 => v = .pointer (some ⟨w.heap.size, 133, none⟩)
    | 4 => v = .agg (ixC zzzno zzznc zzznl zzzdzs zzzdzi zzzdzb zzzdzcze zzzdzczr zzzdztze zzzdztzr zzzsg).toArray
    | 5 => IsVI P1 wq v (ixU zzzno zzznc zzznl zzzdzs zzzdzi zzzdzb zzzdzcze zzzdzczr zzzdztze zzzdztzr zzzsg)
    | 6 => ∃ b, v = .slice (some ⟨b, 0, none⟩) 2 2 ∧ KIn P1 wq [ixU zazno zaznc zaznl zazdzs zazdzi zazdzb zazdzcze zazdzczr zazdztze zazdztzr zazsg, ixU zzzno zzznc zzznl zzzdzs zzzdzi zzzdzb zzzdzcze zzzdzczr zzzdztze zzzdztzr zzzsg] b 0
    | _ => ∃ b, v = .agg (valL 0 (zeros 32) nilS (.slice (some ⟨b, 0, none⟩) 2 2)).toArray ∧ KIn P1 wq [ixU zazno zaznc zaznl zazdzs zazdzi zazdzb zazdzcze zazdzczr zazdztze zazdztzr zazsg, ixU zzzno zzznc zzznl zzzdzs zzzdzi zzzdzb zzzdzcze zzzdzczr zzzdztze zzzdztzr zzzsg] b 0) (by kernel_rfl) (by kernel_rfl) (fun _ d _ _ _ h => by cases d <;> exact h) ?_ ?_ ?_ ?_
  · intro i v wq wq' hi hv hb
    match i, hi with
    | 0, _ => exact hv
    | 1, _ => exact hv
    | 2, _ => exact hv.keep hb
    | 3, _ => exact hv
    | 4, _ => exact hv
    | 5, _ => exact hv.keep hb
    | 6, _ => obtain ⟨b, h1, h2⟩ := hv; exact ⟨b, h1, h2.keep hb⟩
    | 7, _ => obtain ⟨b, h1, h2⟩ := hv; exact ⟨b, h1, h2.keep hb⟩
    | (k + 8), hk => exact absurd hk (by omega)
  · intro i o hi ho aq wq hc hk hdep
    match i, hi with
    | 0, _ =>
      cases ho
      have e1 : aq.tmps.getD 1 undef = .pointer (some ⟨w.heap.size, 0, none⟩) := hk 1 (by decide)
      exact flow_value _ (run_fieldAt 44 (.tmp 1) 0 rfl _ _ e1 (by kernel_rfl)) rfl
    | 1, _ =>
      cases ho
      have e0 : aq.tmps.getD 3 undef = .pointer (some ⟨w.heap.size, 0, none⟩) := hdep 0 3 rfl (by kernel_rfl)
      exact flow_value _ (run_mid 31 (.tmp 3) rfl w.heap.size 0 e0 (ixC zazno zaznc zaznl zazdzs zazdzi zazdzb zazdzcze zazdzczr zazdztze zazdztzr zazsg) ((HX.out.keep (hcB hc)).range 0 (ixC zazno zaznc zaznl zazdzs zazdzi zazdzb zazdzcze zazdzczr zazdztze zazdztzr zazsg) (seg (ps := asP zazno zaznc zaznl zazdzs zazdzi zazdzb zazdzcze zazdzczr zazdztze zazdztzr zazsg zzzno zzznc zzznl zzzdzs zzzdzi zzzdzb zzzdzcze zzzdzczr zzzdztze zzzdztzr zzzsg) (i := 0) (off := 0) rfl (by simp [asP, cellsB_length, hzazdzb.len, hzazdzczr.len, hzazdztzr.len, hzazsg.len, hzzzdzb.len, hzzzdzczr.len, hzzzdztzr.len, hzzzsg.len, ixC_length zazno zaznc zaznl zazdzs zazdzi zazdzb zazdzcze zazdzczr zazdztze zazdztzr zazsg hzazdzb.len hzazdzczr.len hzazdztzr.len hzazsg.len, ixC_length zzzno zzznc zzznl zzzdzs zzzdzi zzzdzb zzzdzcze zzzdzczr zzzdztze zzzdztzr zzzsg hzzzdzb.len hzzzdzczr.len hzzzdztzr.len hzzzsg.len]))) _ Tryd.underlying31 rfl (by rw [ixC_length zazno zaznc zaznl zazdzs zazdzi zazdzb zazdzcze zazdzczr zazdztze zazdztzr zazsg hzazdzb.len hzazdzczr.len hzazdztzr.len hzazsg.len]; kernel_rfl)) rfl
    | 2, _ =>
      cases ho
      have e0 : aq.tmps.getD 4 undef = .agg (ixC zazno zaznc zaznl zazdzs zazdzi zazdzb zazdzcze zazdzczr zazdztze zazdztzr zazsg).toArray := hdep 1 4 rfl (by kernel_rfl)
      refine flow_fun 11 _ _ rfl (fun _ _ => by simp [go_sem]) #[.agg (ixC zazno zaznc zaznl zazdzs zazdzi zazdzb zazdzcze zazdzczr zazdztze zazdztzr zazsg).toArray] (by rw [show (#[Operand.tmp 4] : Array Operand).map aq.eval = #[aq.tmps.getD 4 undef] from by simp [Act.eval], e0]) ?_
      refine (ixW_any P1 zazno zaznc zaznl zazdzs zazdzi zazdzb zazdzcze zazdzczr zazdztze zazdztzr zazsg hzazdzs hzazdzi hzazdzb hzazdzcze hzazdzczr hzazdztze hzazdztzr hzazsg wq (HP1.out wq (hcB hc).size) (hzazn.keep (HB.out.trans ((hcB hc).mono HB.out.size))) hzaznn).mono ?_
      rintro x w' ⟨v, rfl, hv, q⟩
      exact ⟨v, rfl, hv, q⟩
    | 3, _ =>
      cases ho
      have e1 : aq.tmps.getD 1 undef = .pointer (some ⟨w.heap.size, 0, none⟩) := hk 1 (by decide)
      exact flow_value _ (run_fieldAt 44 (.tmp 1) 1 rfl _ _ e1 (by kernel_rfl)) rfl
    | 4, _ =>
      cases ho
      have e0 : aq.tmps.getD 6 undef = .pointer (some ⟨w.heap.size, 133, none⟩) := hdep 3 6 rfl (by kernel_rfl)
      exact flow_value _ (run_mid 31 (.tmp 6) rfl w.heap.size 133 e0 (ixC zzzno zzznc zzznl zzzdzs zzzdzi zzzdzb zzzdzcze zzzdzczr zzzdztze zzzdztzr zzzsg) ((HX.out.keep (hcB hc)).range 133 (ixC zzzno zzznc zzznl zzzdzs zzzdzi zzzdzb zzzdzcze zzzdzczr zzzdztze zzzdztzr zzzsg) (seg (ps := asP zazno zaznc zaznl zazdzs zazdzi zazdzb zazdzcze zazdzczr zazdztze zazdztzr zazsg zzzno zzznc zzznl zzzdzs zzzdzi zzzdzb zzzdzcze zzzdzczr zzzdztze zzzdztzr zzzsg) (i := 1) (off := 133) rfl (by simp [asP, cellsB_length, hzazdzb.len, hzazdzczr.len, hzazdztzr.len, hzazsg.len, hzzzdzb.len, hzzzdzczr.len, hzzzdztzr.len, hzzzsg.len, ixC_length zazno zaznc zaznl zazdzs zazdzi zazdzb zazdzcze zazdzczr zazdztze zazdztzr zazsg hzazdzb.len hzazdzczr.len hzazdztzr.len hzazsg.len, ixC_length zzzno zzznc zzznl zzzdzs zzzdzi zzzdzb zzzdzcze zzzdzczr zzzdztze zzzdztzr zzzsg hzzzdzb.len hzzzdzczr.len hzzzdztzr.len hzzzsg.len]))) _ Tryd.underlying31 rfl (by rw [ixC_length zzzno zzznc zzznl zzzdzs zzzdzi zzzdzb zzzdzcze zzzdzczr zzzdztze zzzdztzr zzzsg hzzzdzb.len hzzzdzczr.len hzzzdztzr.len hzzzsg.len]; kernel_rfl)) rfl
    | 5, _ =>
      cases ho
      have e0 : aq.tmps.getD 7 undef = .agg (ixC zzzno zzznc zzznl zzzdzs zzzdzi zzzdzb zzzdzcze zzzdzczr zzzdztze zzzdztzr zzzsg).toArray := hdep 4 7 rfl (by kernel_rfl)
      refine flow_fun 11 _ _ rfl (fun _ _ => by simp [go_sem]) #[.agg (ixC zzzno zzznc zzznl zzzdzs zzzdzi zzzdzb zzzdzcze zzzdzczr zzzdztze zzzdztzr zzzsg).toArray] (by rw [show (#[Operand.tmp 7] : Array Operand).map aq.eval = #[aq.tmps.getD 7 undef] from by simp [Act.eval], e0]) ?_
      refine (ixW_any P1 zzzno zzznc zzznl zzzdzs zzzdzi zzzdzb zzzdzcze zzzdzczr zzzdztze zzzdztzr zzzsg hzzzdzs hzzzdzi hzzzdzb hzzzdzcze hzzzdzczr hzzzdztze hzzzdztzr hzzzsg wq (HP1.out wq (hcB hc).size) (hzzzn.keep (HB.out.trans ((hcB hc).mono HB.out.size))) hzzznn).mono ?_
      rintro x w' ⟨v, rfl, hv, q⟩
      exact ⟨v, rfl, hv, q⟩
    | 6, _ =>
      cases ho
      obtain ⟨sb0, sk0, e0, h0_⟩ := hdep 2 5 rfl (by kernel_rfl)
      obtain ⟨sb1, sk1, e1, h1_⟩ := hdep 5 8 rfl (by kernel_rfl)
      refine flow_rowsB 38 40 2 35 _ rfl Tryd.underlying38 valInfo [valL 0 (zeros 32) sb0 sk0, valL 0 (zeros 32) sb1 sk1] [.tmp 5, .tmp 8] rfl (by rw [show [Operand.tmp 5, Operand.tmp 8].map aq.eval = [aq.tmps.getD 5 undef, aq.tmps.getD 8 undef] from rfl, e0, e1]; rfl) (by simp [valL_length, zeros32]) rfl (by decide) (by decide) (by decide) (fun w' h hb => ⟨_, rfl, kIn_of h hb (HP1.out wq (hcB hc).size _ (Nat.le_refl _)) [(ixU zazno zaznc zaznl zazdzs zazdzi zazdzb zazdzcze zazdzczr zazdztze zazdztzr zazsg, sb0, sk0), (ixU zzzno zzznc zzznl zzzdzs zzzdzi zzzdzb zzzdzcze zzzdzczr zzzdztze zzzdztzr zzzsg, sb1, sk1)] (fun j v hj => by rw [Nat.zero_add]; exact hj) (fun x hx => ?_)⟩)
      simp only [List.mem_cons, List.not_mem_nil, or_false] at hx
      rcases hx with rfl | rfl
      · exact h0_
      · exact h1_
    | 7, _ =>
      cases ho
      obtain ⟨b, e6, h6⟩ := hdep 6 9 rfl (by kernel_rfl)
      refine flow_fun 51 _ _ rfl (fun _ _ => by simp [go_sem]) #[.slice (some ⟨b, 0, none⟩) 2 2] (by rw [show (#[Operand.tmp 9] : Array Operand).map aq.eval = #[aq.tmps.getD 9 undef] from by simp [Act.eval], e6]) ?_
      refine (all_any (some ⟨b, 0, none⟩) 2 2 wq).mono ?_
      rintro x w' ⟨rfl, q⟩
      exact ⟨_, rfl, ⟨b, rfl, h6.keep q⟩, q⟩
    | (k + 8), hk => exact absurd hk (by omega)
  · intro o h8 ho
    omega
  intro vf w8 hc hv
  have e7 : ∃ b, vf 7 = _ ∧ KIn P1 w8 _ b 0 := hv 7 10 (by decide) rfl
  obtain ⟨b, e7, h7⟩ := e7
  have B8 := HB.out.trans ((hcB hc).mono (by omega))
  have H8v := HY.out.keep (hcB hc)
  have s8 := (hcB hc).size
  clear hv hc
  simp only [List.take_succ_cons, List.take_zero, List.drop_succ_cons, List.drop_zero, putAll, Act.put, List.setIfInBounds_toArray, List.set_cons_succ, List.set_cons_zero]
  rw [e7]
  have HB8 := hid B8
  have HK := hid h7
  clear B8 h7 e7 HB
  go_wp2_with ((with_reducible refine at_list' ?_); first
    | (refine wpList_store_c Tryd.ty40 rfl (.tmp 2) (.tmp 10) rfl (w.heap.size + 1) (valL 0 (zeros 32) nilS (.slice (some ⟨b, 0, none⟩) 2 2)) rfl rfl rfl (valL_oneC _ _ _ _ trivial trivial) _ H8v rfl ?_; intro w9 H9 O9))
  refine bodyPost_ret (results_c1 Tryd.ty40 rfl _ w9 (w.heap.size + 1) _ rfl H9 rfl) rfl ⟨_, rfl, ⟨nilS, _, rfl, ?_⟩, below_only HB8.out O9 (by omega)⟩
  have hk := HK.out
  rw [← hP1.out] at hk
  exact vIn_all (ks := [ixU zazno zaznc zaznl zazdzs zazdzi zazdzb zazdzcze zazdzczr zazdztze zazdztzr zazsg, ixU zzzno zzznc zzznl zzzdzs zzzdzi zzzdzb zzzdzcze zzzdzczr zzzdztze zzzdztzr zzzsg]) rfl (by decide) (hk.only O9)
end Go.Proofs.YtfmecdmkepnlmaaDoor

/- Two roots compared. -/
namespace Go.Proofs.YtfmecdmkepnlmaaDoor
open Go.RowKit
set_option linter.unusedVariables false
set_option linter.unusedSimpArgs false
set_option maxRecDepth 100000

theorem run_same_root {o : Oper} {a : Act} {w : World} (x y : Operand) (ho : o.op = .binOp .eql 25 x y 25) (r : List Nat) (hr : Rt r) (hx : a.eval x = .agg (nums .u8 r)) (hy : a.eval y = .agg (nums .u8 r)) : (execOp a.eval o).run Tryd.prog w = .ok (.value (.bool true)) w := by
  have h := eql_api r r hr.len hr.len hr.byte hr.byte w
  simp only [decide_true] at h
  unfold execOp
  simp only [ho, hx, hy]
  simp [go_sem, h]
end Go.Proofs.YtfmecdmkepnlmaaDoor

/- RootAttesterSlashings answers true for every value. -/
namespace Go.Proofs.YtfmecdmkepnlmaaDoor
open Go.RowKit Go.Shelf
set_option linter.unusedVariables false
set_option linter.unusedSimpArgs false
set_option maxRecDepth 100000

theorem wpList_runW {P : Program} {ops : Array Oper} {Q : Exit → Act → World → Prop} {a : Act} {w : World} {rest : List Oper} {o : Oper} (hw : Region.wanted o (yielded ops a.tmps) = true) (v : Value) (hrun : (execOp a.eval o).run P w = .ok (.value v) w) (h : wpList P ops Q rest (a.put o.dst v) w) : wpList P ops Q (o :: rest) a w :=
  BigFrame.wpList_want hw fun K hK => by unfold Oper.wp; rw [hrun]; exact hK _ _ h
theorem listR_nums (ns : List Nat) : listR 32 ((ns.map fun n => Vt.mk n (zeros 32) [] []).map Vt.num) = numR ns := by
  have e : (ns.map fun n => Vt.mk n (zeros 32) [] []).map Vt.num = ns := by rw [List.map_map]; exact List.map_id'' (fun _ => rfl) ns
  rw [e]
  unfold listR numR
  rfl
theorem asD_root (zazno : Option Addr) (zaznc : Nat) (zaznl : List Nat) (zazdzs : Nat) (zazdzi : Nat) (zazdzb : List Nat) (zazdzcze : Nat) (zazdzczr : List Nat) (zazdztze : Nat) (zazdztzr : List Nat) (zazsg : List Nat) (zzzno : Option Addr) (zzznc : Nat) (zzznl : List Nat) (zzzdzs : Nat) (zzzdzi : Nat) (zzzdzb : List Nat) (zzzdzcze : Nat) (zzzdzczr : List Nat) (zzzdztze : Nat) (zzzdztzr : List Nat) (zzzsg : List Nat) : rootV asD (asU zazno zaznc zaznl zazdzs zazdzi zazdzb zazdzcze zazdzczr zazdztze zazdztzr zazsg zzzno zzznc zzznl zzzdzs zzzdzi zzzdzb zzzdzcze zzzdzczr zzzdztze zzzdztzr zzzsg) = asR zazno zaznc zaznl zazdzs zazdzi zazdzb zazdzcze zazdzczr zazdztze zazdztzr zazsg zzzno zzznc zzznl zzzdzs zzzdzi zzzdzb zzzdzcze zzzdzczr zzzdztze zzzdztzr zzzsg := by
  simp only [cpD, vtD, ixD, asD, cpU, vtU, ixU, asU, dBox, dNum, dRoot, dTruth, dNums, numsV, cpR, vtR, ixR, asR, rootV, rootsV, listR_nums]
  simp
theorem asD_ok (zazno : Option Addr) (zaznc : Nat) (zaznl : List Nat) (zazdzs : Nat) (zazdzi : Nat) (zazdzb : List Nat) (zazdzcze : Nat) (zazdzczr : List Nat) (zazdztze : Nat) (zazdztzr : List Nat) (zazsg : List Nat) (zzzno : Option Addr) (zzznc : Nat) (zzznl : List Nat) (zzzdzs : Nat) (zzzdzi : Nat) (zzzdzb : List Nat) (zzzdzcze : Nat) (zzzdzczr : List Nat) (zzzdztze : Nat) (zzzdztzr : List Nat) (zzzsg : List Nat) (hzaznn : zaznl.length ≤ 500) (hzzznn : zzznl.length ≤ 500) : okR asD (asU zazno zaznc zaznl zazdzs zazdzi zazdzb zazdzcze zazdzczr zazdztze zazdztzr zazsg zzzno zzznc zzznl zzzdzs zzzdzi zzzdzb zzzdzcze zzzdzczr zzzdztze zzzdztzr zzzsg) := by
  simp [cpD, vtD, ixD, asD, cpU, vtU, ixU, asU, dBox, dNum, dRoot, dTruth, dNums, numsV, okR, okRs]
  omega
set_option maxHeartbeats 2000000 in
theorem as_walk (zazno : Option Addr) (zaznc : Nat) (zaznl : List Nat) (zazdzs : Nat) (zazdzi : Nat) (zazdzb : List Nat) (zazdzcze : Nat) (zazdzczr : List Nat) (zazdztze : Nat) (zazdztzr : List Nat) (zazsg : List Nat) (zzzno : Option Addr) (zzznc : Nat) (zzznl : List Nat) (zzzdzs : Nat) (zzzdzi : Nat) (zzzdzb : List Nat) (zzzdzcze : Nat) (zzzdzczr : List Nat) (zzzdztze : Nat) (zzzdztzr : List Nat) (zzzsg : List Nat) (hzazdzs : zazdzs < 18446744073709551616) (hzazdzi : zazdzi < 18446744073709551616) (hzazdzb : Rt zazdzb) (hzazdzcze : zazdzcze < 18446744073709551616) (hzazdzczr : Rt zazdzczr) (hzazdztze : zazdztze < 18446744073709551616) (hzazdztzr : Rt zazdztzr) (hzazsg : Rt zazsg) (hzzzdzs : zzzdzs < 18446744073709551616) (hzzzdzi : zzzdzi < 18446744073709551616) (hzzzdzb : Rt zzzdzb) (hzzzdzcze : zzzdzcze < 18446744073709551616) (hzzzdzczr : Rt zzzdzczr) (hzzzdztze : zzzdztze < 18446744073709551616) (hzzzdztzr : Rt zzzdztzr) (hzzzsg : Rt zzzsg) (w : World) (hT : Tabs w) (hzazn : IsN w (.slice zazno zaznl.length zaznc) zaznl) (hzzzn : IsN w (.slice zzzno zzznl.length zzznc) zzznl) : Calls Tryd.prog 4 #[.agg (asC zazno zaznc zaznl zazdzs zazdzi zazdzb zazdzcze zazdzczr zazdztze zazdztzr zazsg zzzno zzznc zzznl zzzdzs zzzdzi zzzdzb zzzdzcze zzzdzczr zzzdztze zzzdztzr zzzsg).toArray] w fun e w' => e = .returned (.bool true) ∧ Below w.heap.size w w' := by
  have hR1 := asR_rt zazno zaznc zaznl zazdzs zazdzi zazdzb zazdzcze zazdzczr zazdztze zazdztzr zazsg zzzno zzznc zzznl zzzdzs zzzdzi zzzdzb zzzdzcze zzzdzczr zzzdztze zzzdztzr zzzsg hzazdzb hzazdzczr hzazdztzr hzazsg hzzzdzb hzzzdzczr hzzzdztzr hzzzsg
  have HE0 := asD_root zazno zaznc zaznl zazdzs zazdzi zazdzb zazdzcze zazdzczr zazdztze zazdztzr zazsg zzzno zzznc zzznl zzzdzs zzzdzi zzzdzb zzzdzcze zzzdzczr zzzdztze zzzdztzr zzzsg
  obtain ⟨R1, HR⟩ : ∃ R, Same (asR zazno zaznc zaznl zazdzs zazdzi zazdzb zazdzcze zazdzczr zazdztze zazdztzr zazsg zzzno zzznc zzznl zzzdzs zzzdzi zzzdzb zzzdzcze zzzdzczr zzzdztze zzzdztzr zzzsg) R := ⟨_, ⟨rfl⟩⟩
  rw [HR.out] at hR1 HE0
  have HE : Same (rootV asD (asU zazno zaznc zaznl zazdzs zazdzi zazdzb zazdzcze zazdzczr zazdztze zazdztzr zazsg zzzno zzznc zzznl zzzdzs zzzdzi zzzdzb zzzdzcze zzzdzczr zzzdztze zzzdztzr zzzsg)) R1 := ⟨HE0⟩
  clear HE0
  go_enter Tryd.func4, Tryd.ntmps4
  go_wp2_with ((with_reducible refine at_list' ?_); first
    | (refine wpList_box_c rfl 1 rfl (.tmp 0) rfl (asC zazno zaznc zaznl zazdzs zazdzi zazdzb zazdzcze zazdzczr zazdztze zazdztzr zazsg zzzno zzznc zzznl zzzdzs zzzdzi zzzdzb zzzdzcze zzzdzczr zzzdztze zzzdztzr zzzsg) rfl ?_; intro w1 H1 B1 S1))
  refine (awake_any w1 (hT.keep B1)).mono ?_
  rintro e w2 ⟨rfl, B2⟩
  have HX := hid (H1.keep B2)
  have HB := hid (B1.trans (B2.mono B1.size))
  have HT := hid (hT.keep HB.out)
  clear H1 B1 S1 B2
  have HC0 := hid (HX.out.cell (j := 0) (v := .slice zazno zaznl.length zaznc) (seg2 (ps := asP zazno zaznc zaznl zazdzs zazdzi zazdzb zazdzcze zazdzczr zazdztze zazdztzr zazsg zzzno zzznc zzznl zzzdzs zzzdzi zzzdzb zzzdzcze zzzdzczr zzzdztze zzzdztzr zzzsg) (qs := ixP zazno zaznc zaznl zazdzs zazdzi zazdzb zazdzcze zazdzczr zazdztze zazdztzr zazsg) (i := 0) (k := 0) (off := 0) (o2 := 0) (tot := 0) rfl (by simp [asP, cellsB_length, hzazdzb.len, hzazdzczr.len, hzazdztzr.len, hzazsg.len, hzzzdzb.len, hzzzdzczr.len, hzzzdztzr.len, hzzzsg.len, ixC_length zazno zaznc zaznl zazdzs zazdzi zazdzb zazdzcze zazdzczr zazdztze zazdztzr zazsg hzazdzb.len hzazdzczr.len hzazdztzr.len hzazsg.len, ixC_length zzzno zzznc zzznl zzzdzs zzzdzi zzzdzb zzzdzcze zzzdzczr zzzdztze zzzdztzr zzzsg hzzzdzb.len hzzzdzczr.len hzzzdztzr.len hzzzsg.len]) rfl (by simp [ixP, cellsB_length, hzazdzb.len, hzazdzczr.len, hzazdztzr.len, hzazsg.len, vtC_length zazdzs zazdzi zazdzb zazdzcze zazdzczr zazdztze zazdztzr hzazdzb.len hzazdzczr.len hzazdztzr.len]) rfl 0 _ rfl))
  have HC1 := hid (HX.out.cell (j := 133) (v := .slice zzzno zzznl.length zzznc) (seg2 (ps := asP zazno zaznc zaznl zazdzs zazdzi zazdzb zazdzcze zazdzczr zazdztze zazdztzr zazsg zzzno zzznc zzznl zzzdzs zzzdzi zzzdzb zzzdzcze zzzdzczr zzzdztze zzzdztzr zzzsg) (qs := ixP zzzno zzznc zzznl zzzdzs zzzdzi zzzdzb zzzdzcze zzzdzczr zzzdztze zzzdztzr zzzsg) (i := 1) (k := 0) (off := 133) (o2 := 0) (tot := 133) rfl (by simp [asP, cellsB_length, hzazdzb.len, hzazdzczr.len, hzazdztzr.len, hzazsg.len, hzzzdzb.len, hzzzdzczr.len, hzzzdztzr.len, hzzzsg.len, ixC_length zazno zaznc zaznl zazdzs zazdzi zazdzb zazdzcze zazdzczr zazdztze zazdztzr zazsg hzazdzb.len hzazdzczr.len hzazdztzr.len hzazsg.len, ixC_length zzzno zzznc zzznl zzzdzs zzzdzi zzzdzb zzzdzcze zzzdzczr zzzdztze zzzdztzr zzzsg hzzzdzb.len hzzzdzczr.len hzzzdztzr.len hzzzsg.len]) rfl (by simp [ixP, cellsB_length, hzzzdzb.len, hzzzdzczr.len, hzzzdztzr.len, hzzzsg.len, vtC_length zzzdzs zzzdzi zzzdzb zzzdzcze zzzdzczr zzzdztze zzzdztzr hzzzdzb.len hzzzdzczr.len hzzzdztzr.len]) rfl 0 _ rfl))
  by_cases ha : (500 : Int) < ((zaznl.length : Nat) : Int)
  · go_wp2_with ((with_reducible refine at_list' ?_); first | (refine wpList_run rfl _ (run_cell 22 (.tmp 6) rfl ⟨w.heap.size, 0, none⟩ rfl _ HC0.out _ Tryd.underlying22 rfl) ?_) | (refine wpList_runW rfl _ (run_cell 22 (.tmp 12) rfl ⟨w.heap.size, 133, none⟩ rfl _ HC1.out _ Tryd.underlying22 rfl) ?_))
    go_ret
    exact ⟨rfl, HB.out⟩
  have hda : decide ((500 : Int) < ((zaznl.length : Nat) : Int)) = false := decide_eq_false ha
  by_cases hz : (500 : Int) < ((zzznl.length : Nat) : Int)
  · go_wp2_with ((with_reducible refine at_list' ?_); first | (refine wpList_run rfl _ (run_cell 22 (.tmp 6) rfl ⟨w.heap.size, 0, none⟩ rfl _ HC0.out _ Tryd.underlying22 rfl) ?_) | (refine wpList_runW rfl _ (run_cell 22 (.tmp 12) rfl ⟨w.heap.size, 133, none⟩ rfl _ HC1.out _ Tryd.underlying22 rfl) ?_))
    go_ret
    exact ⟨rfl, HB.out⟩
  have hzaznn : zaznl.length ≤ 500 := by omega
  have hzzznn : zzznl.length ≤ 500 := by omega
  have HO := hid (asD_ok zazno zaznc zaznl zazdzs zazdzi zazdzb zazdzcze zazdzczr zazdztze zazdztzr zazsg zzzno zzznc zzznl zzzdzs zzzdzi zzzdzb zzzdzcze zzzdzczr zzzdztze zzzdztzr zzzsg hzaznn hzzznn)
  go_wp2_with ((with_reducible refine at_list' ?_); first | (refine wpList_run rfl _ (run_cell 22 (.tmp 6) rfl ⟨w.heap.size, 0, none⟩ rfl _ HC0.out _ Tryd.underlying22 rfl) ?_) | (refine wpList_runW rfl _ (run_cell 22 (.tmp 12) rfl ⟨w.heap.size, 133, none⟩ rfl _ HC1.out _ Tryd.underlying22 rfl) ?_))
  try simp only [Act.put, List.setIfInBounds_toArray, List.set_cons_succ, List.set_cons_zero]
  refine wp_region_flow 7 7 (fun i v wq => match i with
    | 0 => v = .agg (asC zazno zaznc zaznl zazdzs zazdzi zazdzb zazdzcze zazdzczr zazdztze zazdztzr zazsg zzzno zzznc zzznl zzzdzs zzzdzi zzzdzb zzzdzcze zzzdzczr zzzdztze zzzdztzr zzzsg).toArray
    | 1 => v = .agg (nums .u8 R1)
    | 2 => ∃ p, v = .pointer (some ⟨p, 0, none⟩) ∧ DAt wq asD p
    | 3 => v = .agg (asC zazno zaznc zaznl zazdzs zazdzi zazdzb zazdzcze zazdzczr zazdztze zazdztzr zazsg zzzno zzznc zzznl zzzdzs zzzdzi zzzdzb zzzdzcze zzzdzczr zzzdztze zzzdztzr zzzsg).toArray
    | 4 => IsV wq v (asU zazno zaznc zaznl zazdzs zazdzi zazdzb zazdzcze zazdzczr zazdztze zazdztzr zazsg zzzno zzznc zzznl zzzdzs zzzdzi zzzdzb zzzdzcze zzzdzczr zzzdztze zzzdztzr zzzsg)
    | 5 => v = .agg (nums .u8 R1)
    | _ => v = .bool true) (by kernel_rfl) (by kernel_rfl) (fun _ d _ _ _ h => by cases d <;> exact h) ?_ ?_ ?_ ?_
  · intro i v wq wq' hi hv hb
    match i, hi with
    | 0, _ => exact hv
    | 1, _ => exact hv
    | 2, _ => obtain ⟨p, h1, h2⟩ := hv; exact ⟨p, h1, DAt.keep hb _ h2⟩
    | 3, _ => exact hv
    | 4, _ => exact hv.keep hb
    | 5, _ => exact hv
    | 6, _ => exact hv
    | (k + 7), hk => exact absurd hk (by omega)
  · intro i o hi ho aq wq hc hk hdep
    match i, hi with
    | 0, _ =>
      cases ho
      have e1 : aq.tmps.getD 1 undef = .pointer (some ⟨w.heap.size, 0, none⟩) := hk 1 (by decide)
      exact flow_value _ (run_mid 44 (.tmp 1) rfl w.heap.size 0 e1 (asC zazno zaznc zaznl zazdzs zazdzi zazdzb zazdzcze zazdzczr zazdztze zazdztzr zazsg zzzno zzznc zzznl zzzdzs zzzdzi zzzdzb zzzdzcze zzzdzczr zzzdztze zzzdztzr zzzsg) ((HX.out.keep (hcB hc)).range 0 (asC zazno zaznc zaznl zazdzs zazdzi zazdzb zazdzcze zazdzczr zazdztze zazdztzr zazsg zzzno zzznc zzznl zzzdzs zzzdzi zzzdzb zzzdzcze zzzdzczr zzzdztze zzzdztzr zzzsg) (fun j v hv => by rw [Nat.zero_add]; exact hv)) _ Tryd.underlying44 rfl (by rw [asC_length zazno zaznc zaznl zazdzs zazdzi zazdzb zazdzcze zazdzczr zazdztze zazdztzr zazsg zzzno zzznc zzznl zzzdzs zzzdzi zzzdzb zzzdzcze zzzdzczr zzzdztze zzzdztzr zzzsg hzazdzb.len hzazdzczr.len hzazdztzr.len hzazsg.len hzzzdzb.len hzzzdzczr.len hzzzdztzr.len hzzzsg.len]; kernel_rfl)) rfl
    | 1, _ =>
      cases ho
      have e0 : aq.tmps.getD 17 undef = .agg (asC zazno zaznc zaznl zazdzs zazdzi zazdzb zazdzcze zazdzczr zazdztze zazdztzr zazsg zzzno zzznc zzznl zzzdzs zzzdzi zzzdzb zzzdzcze zzzdzczr zzzdztze zzzdztzr zzzsg).toArray := hdep 0 17 rfl (by kernel_rfl)
      refine flow_fun 12 _ _ rfl (fun _ _ => by simp [go_sem]) #[.agg (asC zazno zaznc zaznl zazdzs zazdzi zazdzb zazdzcze zazdzczr zazdztze zazdztzr zazsg zzzno zzznc zzznl zzzdzs zzzdzi zzzdzb zzzdzcze zzzdzczr zzzdztze zzzdztzr zzzsg).toArray] (by rw [show (#[Operand.tmp 17] : Array Operand).map aq.eval = #[aq.tmps.getD 17 undef] from by simp [Act.eval], e0]) ?_
      refine (asR_any zazno zaznc zaznl zazdzs zazdzi zazdzb zazdzcze zazdzczr zazdztze zazdztzr zazsg zzzno zzznc zzznl zzzdzs zzzdzi zzzdzb zzzdzcze zzzdzczr zzzdztze zzzdztzr zzzsg hzazdzs hzazdzi hzazdzb hzazdzcze hzazdzczr hzazdztze hzazdztzr hzazsg hzzzdzs hzzzdzi hzzzdzb hzzzdzcze hzzzdzczr hzzzdztze hzzzdztzr hzzzsg wq (HT.out.keep (hcB hc)) (hzazn.keep (HB.out.trans ((hcB hc).mono HB.out.size))) hzaznn (hzzzn.keep (HB.out.trans ((hcB hc).mono HB.out.size))) hzzznn).mono ?_
      rintro x w' ⟨rfl, q⟩
      exact ⟨_, rfl, (by rw [← HR.out]; rfl), q⟩
    | 2, _ =>
      cases ho
      refine flow_fun 13 _ _ rfl (fun _ _ => by simp [go_sem]) #[] (by simp) ?_
      refine (asD_any wq).mono ?_
      rintro x w' ⟨p, rfl, h1, q⟩
      exact ⟨_, rfl, ⟨p, rfl, h1⟩, q⟩
    | 3, _ =>
      cases ho
      have e1 : aq.tmps.getD 1 undef = .pointer (some ⟨w.heap.size, 0, none⟩) := hk 1 (by decide)
      exact flow_value _ (run_mid 44 (.tmp 1) rfl w.heap.size 0 e1 (asC zazno zaznc zaznl zazdzs zazdzi zazdzb zazdzcze zazdzczr zazdztze zazdztzr zazsg zzzno zzznc zzznl zzzdzs zzzdzi zzzdzb zzzdzcze zzzdzczr zzzdztze zzzdztzr zzzsg) ((HX.out.keep (hcB hc)).range 0 (asC zazno zaznc zaznl zazdzs zazdzi zazdzb zazdzcze zazdzczr zazdztze zazdztzr zazsg zzzno zzznc zzznl zzzdzs zzzdzi zzzdzb zzzdzcze zzzdzczr zzzdztze zzzdztzr zzzsg) (fun j v hv => by rw [Nat.zero_add]; exact hv)) _ Tryd.underlying44 rfl (by rw [asC_length zazno zaznc zaznl zazdzs zazdzi zazdzb zazdzcze zazdzczr zazdztze zazdztzr zazsg zzzno zzznc zzznl zzzdzs zzzdzi zzzdzb zzzdzcze zzzdzczr zzzdztze zzzdztzr zzzsg hzazdzb.len hzazdzczr.len hzazdztzr.len hzazsg.len hzzzdzb.len hzzzdzczr.len hzzzdztzr.len hzzzsg.len]; kernel_rfl)) rfl
    | 4, _ =>
      cases ho
      have e0 : aq.tmps.getD 20 undef = .agg (asC zazno zaznc zaznl zazdzs zazdzi zazdzb zazdzcze zazdzczr zazdztze zazdztzr zazsg zzzno zzznc zzznl zzzdzs zzzdzi zzzdzb zzzdzcze zzzdzczr zzzdztze zzzdztzr zzzsg).toArray := hdep 3 20 rfl (by kernel_rfl)
      refine flow_fun 14 _ _ rfl (fun _ _ => by simp [go_sem]) #[.agg (asC zazno zaznc zaznl zazdzs zazdzi zazdzb zazdzcze zazdzczr zazdztze zazdztzr zazsg zzzno zzznc zzznl zzzdzs zzzdzi zzzdzb zzzdzcze zzzdzczr zzzdztze zzzdztzr zzzsg).toArray] (by rw [show (#[Operand.tmp 20] : Array Operand).map aq.eval = #[aq.tmps.getD 20 undef] from by simp [Act.eval], e0]) ?_
      refine (asW_any (fun _ => True) zazno zaznc zaznl zazdzs zazdzi zazdzb zazdzcze zazdzczr zazdztze zazdztzr zazsg zzzno zzznc zzznl zzzdzs zzzdzi zzzdzb zzzdzcze zzzdzczr zzzdztze zzzdztzr zzzsg hzazdzs hzazdzi hzazdzb hzazdzcze hzazdzczr hzazdztze hzazdztzr hzazsg hzzzdzs hzzzdzi hzzzdzb hzzzdzcze hzzzdzczr hzzzdztze hzzzdztzr hzzzsg wq (fun _ _ => trivial) (hzazn.keep (HB.out.trans ((hcB hc).mono HB.out.size))) hzaznn (hzzzn.keep (HB.out.trans ((hcB hc).mono HB.out.size))) hzzznn).mono ?_
      rintro x w' ⟨v, rfl, h1, q⟩
      exact ⟨v, rfl, h1.isV, q⟩
    | 5, _ =>
      cases ho
      obtain ⟨p, e0, h0⟩ := hdep 2 19 rfl (by kernel_rfl)
      have h1 : IsV wq (aq.tmps.getD 21 undef) (asU zazno zaznc zaznl zazdzs zazdzi zazdzb zazdzcze zazdzczr zazdztze zazdztzr zazsg zzzno zzznc zzznl zzzdzs zzzdzi zzzdzb zzzdzcze zzzdzczr zzzdztze zzzdztzr zzzsg) := hdep 4 21 rfl (by kernel_rfl)
      refine flow_fun 9 _ _ rfl (fun _ _ => by simp [go_sem]) #[.pointer (some ⟨p, 0, none⟩), aq.tmps.getD 21 undef] (by rw [show (#[Operand.tmp 19, Operand.tmp 21] : Array Operand).map aq.eval = #[aq.tmps.getD 19 undef, aq.tmps.getD 21 undef] from by simp [Act.eval], e0]) ?_
      refine (rroot_any asD (asU zazno zaznc zaznl zazdzs zazdzi zazdzb zazdzcze zazdzczr zazdztze zazdztzr zazsg zzzno zzznc zzznl zzzdzs zzzdzi zzzdzb zzzdzcze zzzdzczr zzzdztze zzzdztzr zzzsg) p _ wq HO.out h0 h1).mono ?_
      rintro x w' ⟨rfl, q⟩
      exact ⟨_, rfl, (by rw [HE.out]; rfl), q⟩
    | 6, _ =>
      cases ho
      have e0 : aq.tmps.getD 18 undef = .agg (nums .u8 R1) := hdep 1 18 rfl (by kernel_rfl)
      have e1 : aq.tmps.getD 22 undef = .agg (nums .u8 R1) := hdep 5 22 rfl (by kernel_rfl)
      exact flow_value _ (run_same_root (.tmp 18) (.tmp 22) rfl R1 hR1 e0 e1) rfl
    | (k + 7), hk => exact absurd hk (by omega)
  · intro o h7 ho
    omega
  intro vf w8 hc hv
  have e7 : vf 6 = _ := hv 6 23 (by decide) rfl
  have B8 := HB.out.trans ((hcB hc).mono HB.out.size)
  clear hv hc
  simp only [List.take_succ_cons, List.take_zero, List.drop_succ_cons, List.drop_zero, putAll, Act.put, List.setIfInBounds_toArray, List.set_cons_succ, List.set_cons_zero]
  rw [e7]
  have HB8 := hid B8
  clear B8 e7 HB HX HT
  go_wp2
  go_ret
  exact ⟨rfl, HB8.out⟩
end Go.Proofs.YtfmecdmkepnlmaaDoor

/- From the rows' condition on the two tables to what the contracts ask of them. -/
namespace Go.Proofs.YtfmecdmkepnlmaaDoor
open Go.RowKit
set_option linter.unusedVariables false
set_option maxRecDepth 100000

def laidTwo : List (String × DataW Unit) := [("keystone/digest.starts", Rows.laid_keystone_digest_starts), ("keystone/digest.rounds", Rows.laid_keystone_digest_rounds)]
theorem gStarts : Tryd.prog.globalNamed "keystone/digest.starts" = some 0 := by kernel_rfl
theorem gRounds : Tryd.prog.globalNamed "keystone/digest.rounds" = some 1 := by kernel_rfl
theorem tStarts : (Tryd.prog.globals[0]?).map (·.type) = some 120 := by kernel_rfl
theorem tRounds : (Tryd.prog.globals[1]?).map (·.type) = some 124 := by kernel_rfl
theorem dStarts {H : Type} : (Rows.laid_keystone_digest_starts : DataW H) = Lib.tabData .u32 (startNums.map fun n : Nat => (n : Int)) := rfl
theorem dRounds {H : Type} : (Rows.laid_keystone_digest_rounds : DataW H) = Lib.tabData .u32 (kNums.map fun n : Nat => (n : Int)) := rfl

theorem tabs_of_laid {W : World} (h : laidMetH Tryd.prog laidTwo W) : Tabs W := by
  rw [MakeChecks.laidMetH_plain _ _ _ (by kernel_rfl)] at h
  have h1 := Lib.laidMet.reads h (n := "keystone/digest.starts") (d := Rows.laid_keystone_digest_starts) (.head _)
  have h2 := Lib.laidMet.reads h (n := "keystone/digest.rounds") (d := Rows.laid_keystone_digest_rounds) (.tail _ (.head _))
  refine ⟨fun i hi => ?_, fun i hi => ?_⟩
  · obtain ⟨g, t, cs, fuel, p, hg, hty, hvar, hd⟩ := h1
    obtain rfl := Option.some.inj (gStarts.symm.trans hg)
    obtain rfl := Option.some.inj (tStarts.symm.trans hty)
    rw [dStarts] at hd
    have hcs := Lib.cells_of_tab Tryd.underlying120 Tryd.underlying119 (by kernel_rfl) (by kernel_rfl) hd
    rw [World.var?_cell hg hvar i, ← Array.getElem?_toList, hcs, List.map_map, List.getElem?_map]
    have hl : i < startNums.length := hi
    rw [List.getElem?_eq_getElem hl]
    simp [hl]
  · obtain ⟨g, t, cs, fuel, p, hg, hty, hvar, hd⟩ := h2
    obtain rfl := Option.some.inj (gRounds.symm.trans hg)
    obtain rfl := Option.some.inj (tRounds.symm.trans hty)
    rw [dRounds] at hd
    have hcs := Lib.cells_of_tab Tryd.underlying124 Tryd.underlying119 (by kernel_rfl) (by kernel_rfl) hd
    rw [World.var?_cell hg hvar i, ← Array.getElem?_toList, hcs, List.map_map, List.getElem?_map]
    have hl : i < kNums.length := hi
    rw [List.getElem?_eq_getElem hl]
    simp [hl]
end Go.Proofs.YtfmecdmkepnlmaaDoor

/- Structs that came in by value. -/
namespace Go.Proofs.YtfmecdmkepnlmaaDoor
open Go.RowKit Go.Deep Go.WideShapes
set_option linter.unusedVariables false
set_option linter.unusedSimpArgs false
set_option maxRecDepth 100000

theorem cellsRt : Tryd.prog.cellsOf 25 = 32 := by kernel_rfl
theorem cellsU8 : Tryd.prog.cellsOf 5 = 1 := by kernel_rfl
theorem cellsU64 : Tryd.prog.cellsOf 23 = 1 := by kernel_rfl
theorem cellsBo : Tryd.prog.cellsOf 4 = 1 := by kernel_rfl
/-- Parts of a list, one behind the other. -/
def cutAt {α : Type} (cs : List α) : Nat → List Nat → List (List α)
  | _, [] => []
  | o, k :: ks => (cs.drop o).take k :: cutAt cs (o + k) ks
theorem cut_flat {α : Type} (cs : List α) : ∀ (ks : List Nat) (o : Nat), o + ks.sum = cs.length → cs.drop o = (cutAt cs o ks).flatten := by
  intro ks
  induction ks with
  | nil => intro o h; simp at h; rw [h, List.drop_length]; rfl
  | cons k ks ih =>
    intro o h
    rw [cutAt, List.flatten_cons, ← ih (o + k) (by simp at h; omega), ← List.drop_drop, List.take_append_drop]
section
variable {H : Type} {enc : TypeId × Value → H} {W : World} {b0 : Nat} {sp : Nat → Bool} {held : Bool}
theorem root_of_trod {fuel : Nat} {cs : List Value} {x : DataW H × List MemPlace} (h : DataW.trod enc Tryd.prog W b0 sp held fuel 25 cs = some x) : ∃ r : List Nat, cs = (nums .u8 r).toList ∧ Rt r := by
  obtain ⟨xs, m, _, _, hl, hxs, hel⟩ := DataW.trod_array Tryd.und25 h
  rw [cellsRt] at hl
  have key : ∀ i (hi : i < cs.length), ∃ n : Nat, cs[i] = .int .u8 (n : Int) ∧ n < 256 := by
    intro i hi
    have h1 := hel i (by omega)
    rw [cellsU8, Nat.mul_one, List.getElem?_eq_getElem (by omega)] at h1
    obtain ⟨n, e1, _, hw⟩ := DataW.trod_int Tryd.underlying5 h1
    have hb := bounds_u8 hw
    have e2 : (cs.drop i).take 1 = [cs[i]] := by
      rw [List.drop_eq_getElem_cons hi, List.take_succ_cons, List.take_zero]
    have e3 : [cs[i]] = [Value.int .u8 n] := e2.symm.trans e1
    refine ⟨n.toNat, ?_, by omega⟩
    have e4 : cs[i] = Value.int .u8 n := by simpa using e3
    rw [e4]
    congr 1
    omega
  refine ⟨cs.map fun v => (intOf v).toNat, ?_, by simp [hl], ?_⟩
  · unfold nums
    apply List.ext_getElem
    · simp
    · intro i h1 h2
      obtain ⟨n, e, hn⟩ := key i h1
      simp [e, intOf]
  · intro z hz
    obtain ⟨v, hv, rfl⟩ := List.mem_map.1 hz
    obtain ⟨i, hi, rfl⟩ := List.mem_iff_getElem.1 hv
    obtain ⟨n, e, hn⟩ := key i hi
    simp [e, intOf, hn]
theorem num_of_trod {fuel : Nat} {cs : List Value} {x : DataW H × List MemPlace} (h : DataW.trod enc Tryd.prog W b0 sp held fuel 23 cs = some x) : ∃ n : Nat, cs = [.int .u64 (n : Nat)] ∧ n < 18446744073709551616 := by
  obtain ⟨i, e, _, hw⟩ := DataW.trod_int Tryd.underlying23 h
  have hb := bounds_u64 hw
  refine ⟨i.toNat, ?_, by omega⟩
  rw [e, Int.toNat_of_nonneg hb.1]
theorem bool_of_trod {fuel : Nat} {cs : List Value} {x : DataW H × List MemPlace} (h : DataW.trod enc Tryd.prog W b0 sp held fuel 4 cs = some x) : ∃ b : Bool, cs = [.bool b] := by
  obtain ⟨b, e, _⟩ := DataW.trod_bool Tryd.underlying4 h
  exact ⟨b, e⟩
theorem cellsNs : Tryd.prog.cellsOf 22 = 1 := by kernel_rfl
theorem nums_of_trod {fuel : Nat} {cs : List Value} {x : DataW H × List MemPlace} (h : DataW.trod enc Tryd.prog W b0 (fun _ => true) held fuel 22 cs = some x) : ∃ (ao : Option Addr) (c : Nat) (l : List Nat), cs = [.slice ao l.length c] ∧ IsN W (.slice ao l.length c) l := by
  rcases Go.ChangeShapes.open_ints Tryd.underlying22 Tryd.underlying23 cellsU64 h with ⟨hcs, _⟩ | ⟨a, len, cap, zs, hcs, _, hl, hm, hzl, _, hcell, hwf⟩
  · exact ⟨none, 0, [], hcs, ⟨none, 0, rfl, Nat.le_refl _, by decide, .inl rfl⟩, fun _ h => absurd h List.not_mem_nil⟩
  · simp only [if_true] at hzl
    have hln : ((zs.take len).map Int.toNat).length = len := by rw [List.length_map, List.length_take, hzl, Nat.min_eq_left hl]
    refine ⟨some a, cap, (zs.take len).map Int.toNat, by rw [hln]; exact hcs, ⟨some a, cap, rfl, by rw [hln]; exact hl, hm, ?_⟩, ?_⟩
    · by_cases h0 : len = 0
      · exact .inl (by rw [hln]; exact h0)
      · obtain ⟨b, off, spot⟩ := a
        obtain rfl : spot = none := by
          have := hcell 0 (by omega)
          simpa [Addr.add] using World.cell?_spot this
        refine .inr ⟨b, off, rfl, fun i hi => ?_⟩
        rw [hln] at hi
        have hiz : i < zs.length := by omega
        have h1 := hcell i hiz
        rw [Addr.add_lit] at h1
        have hb := bounds_u64 (hwf (zs.getD i 0) (by rw [List.getD_eq_getElem?_getD, List.getElem?_eq_getElem hiz]; exact List.getElem_mem hiz))
        rw [h1]
        have e1 : ((zs.take len).map Int.toNat).getD i 0 = (zs.getD i 0).toNat := by
          rw [List.getD_eq_getElem?_getD, List.getElem?_map, List.getElem?_take, if_pos hi, List.getD_eq_getElem?_getD, List.getElem?_eq_getElem hiz]
          rfl
        rw [e1, Int.toNat_of_nonneg hb.1]
    · intro n hn
      obtain ⟨z, hz, rfl⟩ := List.mem_map.1 hn
      have hb := bounds_u64 (hwf z (List.mem_of_mem_take hz))
      omega
theorem cells_cp : Tryd.prog.cellsOf 27 = 33 := by kernel_rfl
theorem cp_of_trod {fuel : Nat} {cs : List Value} {x : DataW H × List MemPlace} (h : DataW.trod enc Tryd.prog W b0 sp held fuel 27 cs = some x) : ∃ (ze : Nat) (zr : List Nat), cs = cpC ze zr ∧ ze < 18446744073709551616 ∧ Rt zr := by
  obtain ⟨xs, n, _, _, hl, hlen, hf⟩ := DataW.trod_struct Tryd.underlying27 h
  rw [cells_cp] at hl
  have hx : xs.length = 2 := hlen
  have f0 : ∃ y, DataW.trod enc Tryd.prog W b0 sp held n 23 ((cs.drop 0).take 1) = some y := by
    have := hf 0 _ rfl
    change DataW.trod enc Tryd.prog W b0 sp held n 23 (List.take (Tryd.prog.cellsOf 23) (List.drop 0 cs)) = xs[0]? at this
    rw [cellsU64, List.getElem?_eq_getElem (by omega)] at this
    exact ⟨_, this⟩
  obtain ⟨y0, f0⟩ := f0
  obtain ⟨ze, e0, hze⟩ := num_of_trod f0
  have f1 : ∃ y, DataW.trod enc Tryd.prog W b0 sp held n 25 ((cs.drop 1).take 32) = some y := by
    have := hf 1 _ rfl
    change DataW.trod enc Tryd.prog W b0 sp held n 25 (List.take (Tryd.prog.cellsOf 25) (List.drop 1 cs)) = xs[1]? at this
    rw [cellsRt, List.getElem?_eq_getElem (by omega)] at this
    exact ⟨_, this⟩
  obtain ⟨y1, f1⟩ := f1
  obtain ⟨zr, e1, hzr⟩ := root_of_trod f1
  have hc := cut_flat cs [1, 32] 0 (by rw [hl]; rfl)
  rw [List.drop_zero] at e0
  simp only [cutAt, List.drop_zero, Nat.zero_add, Nat.reduceAdd, e0, e1] at hc
  refine ⟨ze, zr, hc, hze, hzr⟩
theorem open_cp {base : Nat} {v : Value} {d : DataW H} {p : List MemPlace} (hv : Value.okWide Tryd.prog W .any base 27 v) (h : DataW.Trod enc Tryd.prog W b0 sp held 27 v d p) : ∃ (ze : Nat) (zr : List Nat), v = .agg (cpC ze zr).toArray ∧ ze < 18446744073709551616 ∧ Rt zr := by
  obtain ⟨cs, rfl, _⟩ := okWide_struct Tryd.underlying27 hv
  obtain ⟨fuel, hf⟩ := h
  obtain ⟨ze, zr, e, hze, hzr⟩ := cp_of_trod hf
  exact ⟨ze, zr, by rw [← Array.toList_inj.1 (show cs.toList = (cpC ze zr).toArray.toList from e)], hze, hzr⟩
theorem cells_vt : Tryd.prog.cellsOf 29 = 100 := by kernel_rfl
theorem vt_of_trod {fuel : Nat} {cs : List Value} {x : DataW H × List MemPlace} (h : DataW.trod enc Tryd.prog W b0 sp held fuel 29 cs = some x) : ∃ (zs : Nat) (zi : Nat) (zb : List Nat) (zcze : Nat) (zczr : List Nat) (ztze : Nat) (ztzr : List Nat), cs = vtC zs zi zb zcze zczr ztze ztzr ∧ zs < 18446744073709551616 ∧ zi < 18446744073709551616 ∧ Rt zb ∧ zcze < 18446744073709551616 ∧ Rt zczr ∧ ztze < 18446744073709551616 ∧ Rt ztzr := by
  obtain ⟨xs, n, _, _, hl, hlen, hf⟩ := DataW.trod_struct Tryd.underlying29 h
  rw [cells_vt] at hl
  have hx : xs.length = 5 := hlen
  have f0 : ∃ y, DataW.trod enc Tryd.prog W b0 sp held n 23 ((cs.drop 0).take 1) = some y := by
    have := hf 0 _ rfl
    change DataW.trod enc Tryd.prog W b0 sp held n 23 (List.take (Tryd.prog.cellsOf 23) (List.drop 0 cs)) = xs[0]? at this
    rw [cellsU64, List.getElem?_eq_getElem (by omega)] at this
    exact ⟨_, this⟩
  obtain ⟨y0, f0⟩ := f0
  obtain ⟨zs, e0, hzs⟩ := num_of_trod f0
  have f1 : ∃ y, DataW.trod enc Tryd.prog W b0 sp held n 23 ((cs.drop 1).take 1) = some y := by
    have := hf 1 _ rfl
    change DataW.trod enc Tryd.prog W b0 sp held n 23 (List.take (Tryd.prog.cellsOf 23) (List.drop 1 cs)) = xs[1]? at this
    rw [cellsU64, List.getElem?_eq_getElem (by omega)] at this
    exact ⟨_, this⟩
  obtain ⟨y1, f1⟩ := f1
  obtain ⟨zi, e1, hzi⟩ := num_of_trod f1
  have f2 : ∃ y, DataW.trod enc Tryd.prog W b0 sp held n 25 ((cs.drop 2).take 32) = some y := by
    have := hf 2 _ rfl
    change DataW.trod enc Tryd.prog W b0 sp held n 25 (List.take (Tryd.prog.cellsOf 25) (List.drop 2 cs)) = xs[2]? at this
    rw [cellsRt, List.getElem?_eq_getElem (by omega)] at this
    exact ⟨_, this⟩
  obtain ⟨y2, f2⟩ := f2
  obtain ⟨zb, e2, hzb⟩ := root_of_trod f2
  have f3 : ∃ y, DataW.trod enc Tryd.prog W b0 sp held n 27 ((cs.drop 34).take 33) = some y := by
    have := hf 3 _ rfl
    change DataW.trod enc Tryd.prog W b0 sp held n 27 (List.take (Tryd.prog.cellsOf 27) (List.drop 34 cs)) = xs[3]? at this
    rw [cells_cp, List.getElem?_eq_getElem (by omega)] at this
    exact ⟨_, this⟩
  obtain ⟨y3, f3⟩ := f3
  obtain ⟨zcze, zczr, e3, hzcze, hzczr⟩ := cp_of_trod f3
  have f4 : ∃ y, DataW.trod enc Tryd.prog W b0 sp held n 27 ((cs.drop 67).take 33) = some y := by
    have := hf 4 _ rfl
    change DataW.trod enc Tryd.prog W b0 sp held n 27 (List.take (Tryd.prog.cellsOf 27) (List.drop 67 cs)) = xs[4]? at this
    rw [cells_cp, List.getElem?_eq_getElem (by omega)] at this
    exact ⟨_, this⟩
  obtain ⟨y4, f4⟩ := f4
  obtain ⟨ztze, ztzr, e4, hztze, hztzr⟩ := cp_of_trod f4
  have hc := cut_flat cs [1, 1, 32, 33, 33] 0 (by rw [hl]; rfl)
  rw [List.drop_zero] at e0
  simp only [cutAt, List.drop_zero, Nat.zero_add, Nat.reduceAdd, e0, e1, e2, e3, e4] at hc
  refine ⟨zs, zi, zb, zcze, zczr, ztze, ztzr, hc, hzs, hzi, hzb, hzcze, hzczr, hztze, hztzr⟩
theorem open_vt {base : Nat} {v : Value} {d : DataW H} {p : List MemPlace} (hv : Value.okWide Tryd.prog W .any base 29 v) (h : DataW.Trod enc Tryd.prog W b0 sp held 29 v d p) : ∃ (zs : Nat) (zi : Nat) (zb : List Nat) (zcze : Nat) (zczr : List Nat) (ztze : Nat) (ztzr : List Nat), v = .agg (vtC zs zi zb zcze zczr ztze ztzr).toArray ∧ zs < 18446744073709551616 ∧ zi < 18446744073709551616 ∧ Rt zb ∧ zcze < 18446744073709551616 ∧ Rt zczr ∧ ztze < 18446744073709551616 ∧ Rt ztzr := by
  obtain ⟨cs, rfl, _⟩ := okWide_struct Tryd.underlying29 hv
  obtain ⟨fuel, hf⟩ := h
  obtain ⟨zs, zi, zb, zcze, zczr, ztze, ztzr, e, hzs, hzi, hzb, hzcze, hzczr, hztze, hztzr⟩ := vt_of_trod hf
  exact ⟨zs, zi, zb, zcze, zczr, ztze, ztzr, by rw [← Array.toList_inj.1 (show cs.toList = (vtC zs zi zb zcze zczr ztze ztzr).toArray.toList from e)], hzs, hzi, hzb, hzcze, hzczr, hztze, hztzr⟩
theorem cells_ix : Tryd.prog.cellsOf 31 = 133 := by kernel_rfl
theorem ix_of_trod {fuel : Nat} {cs : List Value} {x : DataW H × List MemPlace} (h : DataW.trod enc Tryd.prog W b0 (fun _ => true) held fuel 31 cs = some x) : ∃ (zno : Option Addr) (znc : Nat) (znl : List Nat) (zdzs : Nat) (zdzi : Nat) (zdzb : List Nat) (zdzcze : Nat) (zdzczr : List Nat) (zdztze : Nat) (zdztzr : List Nat) (zsg : List Nat), cs = ixC zno znc znl zdzs zdzi zdzb zdzcze zdzczr zdztze zdztzr zsg ∧ zdzs < 18446744073709551616 ∧ zdzi < 18446744073709551616 ∧ Rt zdzb ∧ zdzcze < 18446744073709551616 ∧ Rt zdzczr ∧ zdztze < 18446744073709551616 ∧ Rt zdztzr ∧ Rt zsg ∧ IsN W (.slice zno znl.length znc) znl := by
  obtain ⟨xs, n, _, _, hl, hlen, hf⟩ := DataW.trod_struct Tryd.underlying31 h
  rw [cells_ix] at hl
  have hx : xs.length = 3 := hlen
  have f0 : ∃ y, DataW.trod enc Tryd.prog W b0 (fun _ => true) held n 22 ((cs.drop 0).take 1) = some y := by
    have := hf 0 _ rfl
    change DataW.trod enc Tryd.prog W b0 (fun _ => true) held n 22 (List.take (Tryd.prog.cellsOf 22) (List.drop 0 cs)) = xs[0]? at this
    rw [cellsNs, List.getElem?_eq_getElem (by omega)] at this
    exact ⟨_, this⟩
  obtain ⟨y0, f0⟩ := f0
  obtain ⟨zno, znc, znl, e0, hzn⟩ := nums_of_trod f0
  have f1 : ∃ y, DataW.trod enc Tryd.prog W b0 (fun _ => true) held n 29 ((cs.drop 1).take 100) = some y := by
    have := hf 1 _ rfl
    change DataW.trod enc Tryd.prog W b0 (fun _ => true) held n 29 (List.take (Tryd.prog.cellsOf 29) (List.drop 1 cs)) = xs[1]? at this
    rw [cells_vt, List.getElem?_eq_getElem (by omega)] at this
    exact ⟨_, this⟩
  obtain ⟨y1, f1⟩ := f1
  obtain ⟨zdzs, zdzi, zdzb, zdzcze, zdzczr, zdztze, zdztzr, e1, hzdzs, hzdzi, hzdzb, hzdzcze, hzdzczr, hzdztze, hzdztzr⟩ := vt_of_trod f1
  have f2 : ∃ y, DataW.trod enc Tryd.prog W b0 (fun _ => true) held n 25 ((cs.drop 101).take 32) = some y := by
    have := hf 2 _ rfl
    change DataW.trod enc Tryd.prog W b0 (fun _ => true) held n 25 (List.take (Tryd.prog.cellsOf 25) (List.drop 101 cs)) = xs[2]? at this
    rw [cellsRt, List.getElem?_eq_getElem (by omega)] at this
    exact ⟨_, this⟩
  obtain ⟨y2, f2⟩ := f2
  obtain ⟨zsg, e2, hzsg⟩ := root_of_trod f2
  have hc := cut_flat cs [1, 100, 32] 0 (by rw [hl]; rfl)
  rw [List.drop_zero] at e0
  simp only [cutAt, List.drop_zero, Nat.zero_add, Nat.reduceAdd, e0, e1, e2] at hc
  refine ⟨zno, znc, znl, zdzs, zdzi, zdzb, zdzcze, zdzczr, zdztze, zdztzr, zsg, hc, hzdzs, hzdzi, hzdzb, hzdzcze, hzdzczr, hzdztze, hzdztzr, hzsg, hzn⟩
theorem open_ix {base : Nat} {v : Value} {d : DataW H} {p : List MemPlace} (hv : Value.okWide Tryd.prog W .any base 31 v) (h : DataW.Trod enc Tryd.prog W b0 (fun _ => true) held 31 v d p) : ∃ (zno : Option Addr) (znc : Nat) (znl : List Nat) (zdzs : Nat) (zdzi : Nat) (zdzb : List Nat) (zdzcze : Nat) (zdzczr : List Nat) (zdztze : Nat) (zdztzr : List Nat) (zsg : List Nat), v = .agg (ixC zno znc znl zdzs zdzi zdzb zdzcze zdzczr zdztze zdztzr zsg).toArray ∧ zdzs < 18446744073709551616 ∧ zdzi < 18446744073709551616 ∧ Rt zdzb ∧ zdzcze < 18446744073709551616 ∧ Rt zdzczr ∧ zdztze < 18446744073709551616 ∧ Rt zdztzr ∧ Rt zsg ∧ IsN W (.slice zno znl.length znc) znl := by
  obtain ⟨cs, rfl, _⟩ := okWide_struct Tryd.underlying31 hv
  obtain ⟨fuel, hf⟩ := h
  obtain ⟨zno, znc, znl, zdzs, zdzi, zdzb, zdzcze, zdzczr, zdztze, zdztzr, zsg, e, hzdzs, hzdzi, hzdzb, hzdzcze, hzdzczr, hzdztze, hzdztzr, hzsg, hzn⟩ := ix_of_trod hf
  exact ⟨zno, znc, znl, zdzs, zdzi, zdzb, zdzcze, zdzczr, zdztze, zdztzr, zsg, by rw [← Array.toList_inj.1 (show cs.toList = (ixC zno znc znl zdzs zdzi zdzb zdzcze zdzczr zdztze zdztzr zsg).toArray.toList from e)], hzdzs, hzdzi, hzdzb, hzdzcze, hzdzczr, hzdztze, hzdztzr, hzsg, hzn⟩
theorem cells_as : Tryd.prog.cellsOf 44 = 266 := by kernel_rfl
theorem as_of_trod {fuel : Nat} {cs : List Value} {x : DataW H × List MemPlace} (h : DataW.trod enc Tryd.prog W b0 (fun _ => true) held fuel 44 cs = some x) : ∃ (zazno : Option Addr) (zaznc : Nat) (zaznl : List Nat) (zazdzs : Nat) (zazdzi : Nat) (zazdzb : List Nat) (zazdzcze : Nat) (zazdzczr : List Nat) (zazdztze : Nat) (zazdztzr : List Nat) (zazsg : List Nat) (zzzno : Option Addr) (zzznc : Nat) (zzznl : List Nat) (zzzdzs : Nat) (zzzdzi : Nat) (zzzdzb : List Nat) (zzzdzcze : Nat) (zzzdzczr : List Nat) (zzzdztze : Nat) (zzzdztzr : List Nat) (zzzsg : List Nat), cs = asC zazno zaznc zaznl zazdzs zazdzi zazdzb zazdzcze zazdzczr zazdztze zazdztzr zazsg zzzno zzznc zzznl zzzdzs zzzdzi zzzdzb zzzdzcze zzzdzczr zzzdztze zzzdztzr zzzsg ∧ zazdzs < 18446744073709551616 ∧ zazdzi < 18446744073709551616 ∧ Rt zazdzb ∧ zazdzcze < 18446744073709551616 ∧ Rt zazdzczr ∧ zazdztze < 18446744073709551616 ∧ Rt zazdztzr ∧ Rt zazsg ∧ zzzdzs < 18446744073709551616 ∧ zzzdzi < 18446744073709551616 ∧ Rt zzzdzb ∧ zzzdzcze < 18446744073709551616 ∧ Rt zzzdzczr ∧ zzzdztze < 18446744073709551616 ∧ Rt zzzdztzr ∧ Rt zzzsg ∧ IsN W (.slice zazno zaznl.length zaznc) zaznl ∧ IsN W (.slice zzzno zzznl.length zzznc) zzznl := by
  obtain ⟨xs, n, _, _, hl, hlen, hf⟩ := DataW.trod_struct Tryd.underlying44 h
  rw [cells_as] at hl
  have hx : xs.length = 2 := hlen
  have f0 : ∃ y, DataW.trod enc Tryd.prog W b0 (fun _ => true) held n 31 ((cs.drop 0).take 133) = some y := by
    have := hf 0 _ rfl
    change DataW.trod enc Tryd.prog W b0 (fun _ => true) held n 31 (List.take (Tryd.prog.cellsOf 31) (List.drop 0 cs)) = xs[0]? at this
    rw [cells_ix, List.getElem?_eq_getElem (by omega)] at this
    exact ⟨_, this⟩
  obtain ⟨y0, f0⟩ := f0
  obtain ⟨zazno, zaznc, zaznl, zazdzs, zazdzi, zazdzb, zazdzcze, zazdzczr, zazdztze, zazdztzr, zazsg, e0, hzazdzs, hzazdzi, hzazdzb, hzazdzcze, hzazdzczr, hzazdztze, hzazdztzr, hzazsg, hzazn⟩ := ix_of_trod f0
  have f1 : ∃ y, DataW.trod enc Tryd.prog W b0 (fun _ => true) held n 31 ((cs.drop 133).take 133) = some y := by
    have := hf 1 _ rfl
    change DataW.trod enc Tryd.prog W b0 (fun _ => true) held n 31 (List.take (Tryd.prog.cellsOf 31) (List.drop 133 cs)) = xs[1]? at this
    rw [cells_ix, List.getElem?_eq_getElem (by omega)] at this
    exact ⟨_, this⟩
  obtain ⟨y1, f1⟩ := f1
  obtain ⟨zzzno, zzznc, zzznl, zzzdzs, zzzdzi, zzzdzb, zzzdzcze, zzzdzczr, zzzdztze, zzzdztzr, zzzsg, e1, hzzzdzs, hzzzdzi, hzzzdzb, hzzzdzcze, hzzzdzczr, hzzzdztze, hzzzdztzr, hzzzsg, hzzzn⟩ := ix_of_trod f1
  have hc := cut_flat cs [133, 133] 0 (by rw [hl]; rfl)
  rw [List.drop_zero] at e0
  simp only [cutAt, List.drop_zero, Nat.zero_add, Nat.reduceAdd, e0, e1] at hc
  refine ⟨zazno, zaznc, zaznl, zazdzs, zazdzi, zazdzb, zazdzcze, zazdzczr, zazdztze, zazdztzr, zazsg, zzzno, zzznc, zzznl, zzzdzs, zzzdzi, zzzdzb, zzzdzcze, zzzdzczr, zzzdztze, zzzdztzr, zzzsg, hc, hzazdzs, hzazdzi, hzazdzb, hzazdzcze, hzazdzczr, hzazdztze, hzazdztzr, hzazsg, hzzzdzs, hzzzdzi, hzzzdzb, hzzzdzcze, hzzzdzczr, hzzzdztze, hzzzdztzr, hzzzsg, hzazn, hzzzn⟩
theorem open_as {base : Nat} {v : Value} {d : DataW H} {p : List MemPlace} (hv : Value.okWide Tryd.prog W .any base 44 v) (h : DataW.Trod enc Tryd.prog W b0 (fun _ => true) held 44 v d p) : ∃ (zazno : Option Addr) (zaznc : Nat) (zaznl : List Nat) (zazdzs : Nat) (zazdzi : Nat) (zazdzb : List Nat) (zazdzcze : Nat) (zazdzczr : List Nat) (zazdztze : Nat) (zazdztzr : List Nat) (zazsg : List Nat) (zzzno : Option Addr) (zzznc : Nat) (zzznl : List Nat) (zzzdzs : Nat) (zzzdzi : Nat) (zzzdzb : List Nat) (zzzdzcze : Nat) (zzzdzczr : List Nat) (zzzdztze : Nat) (zzzdztzr : List Nat) (zzzsg : List Nat), v = .agg (asC zazno zaznc zaznl zazdzs zazdzi zazdzb zazdzcze zazdzczr zazdztze zazdztzr zazsg zzzno zzznc zzznl zzzdzs zzzdzi zzzdzb zzzdzcze zzzdzczr zzzdztze zzzdztzr zzzsg).toArray ∧ zazdzs < 18446744073709551616 ∧ zazdzi < 18446744073709551616 ∧ Rt zazdzb ∧ zazdzcze < 18446744073709551616 ∧ Rt zazdzczr ∧ zazdztze < 18446744073709551616 ∧ Rt zazdztzr ∧ Rt zazsg ∧ zzzdzs < 18446744073709551616 ∧ zzzdzi < 18446744073709551616 ∧ Rt zzzdzb ∧ zzzdzcze < 18446744073709551616 ∧ Rt zzzdzczr ∧ zzzdztze < 18446744073709551616 ∧ Rt zzzdztzr ∧ Rt zzzsg ∧ IsN W (.slice zazno zaznl.length zaznc) zaznl ∧ IsN W (.slice zzzno zzznl.length zzznc) zzznl := by
  obtain ⟨cs, rfl, _⟩ := okWide_struct Tryd.underlying44 hv
  obtain ⟨fuel, hf⟩ := h
  obtain ⟨zazno, zaznc, zaznl, zazdzs, zazdzi, zazdzb, zazdzcze, zazdzczr, zazdztze, zazdztzr, zazsg, zzzno, zzznc, zzznl, zzzdzs, zzzdzi, zzzdzb, zzzdzcze, zzzdzczr, zzzdztze, zzzdztzr, zzzsg, e, hzazdzs, hzazdzi, hzazdzb, hzazdzcze, hzazdzczr, hzazdztze, hzazdztzr, hzazsg, hzzzdzs, hzzzdzi, hzzzdzb, hzzzdzcze, hzzzdzczr, hzzzdztze, hzzzdztzr, hzzzsg, hzazn, hzzzn⟩ := as_of_trod hf
  exact ⟨zazno, zaznc, zaznl, zazdzs, zazdzi, zazdzb, zazdzcze, zazdzczr, zazdztze, zazdztzr, zazsg, zzzno, zzznc, zzznl, zzzdzs, zzzdzi, zzzdzb, zzzdzcze, zzzdzczr, zzzdztze, zzzdztzr, zzzsg, by rw [← Array.toList_inj.1 (show cs.toList = (asC zazno zaznc zaznl zazdzs zazdzi zazdzb zazdzcze zazdzczr zazdztze zazdztzr zazsg zzzno zzznc zzznl zzzdzs zzzdzi zzzdzb zzzdzcze zzzdzczr zzzdztze zzzdztzr zzzsg).toArray.toList from e)], hzazdzs, hzazdzi, hzazdzb, hzazdzcze, hzazdzczr, hzazdztze, hzazdztzr, hzazsg, hzzzdzs, hzzzdzi, hzzzdzb, hzzzdzcze, hzzzdzczr, hzzzdztze, hzzzdztzr, hzzzsg, hzazn, hzzzn⟩
end
end Go.Proofs.YtfmecdmkepnlmaaDoor

