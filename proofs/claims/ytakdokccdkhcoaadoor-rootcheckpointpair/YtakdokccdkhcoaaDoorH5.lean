/- Own texts of the proof, joined: CoValidator Open6 VaHeader LwHeader VaVote LwVote VaExit VaSignedExit LwSignedExit. -/
import Derived.Test.YtakdokccdkhcoaaDoorH4
import Derived.ProofKit
import Derived.OpenShut
import Derived.ShutString
import Derived.ChangeOld
import Derived.Deep.Slices
import Derived.SevenTiedAt
import Derived.Stop.Joined
/- The root of a struct (Validator), by the program. -/
namespace Go.Proofs.YtakdokccdkhcoaaDoor
open Go.RowKit Go.Shelf
set_option linter.unusedVariables false
set_option linter.unusedSimpArgs false
set_option maxRecDepth 100000

def vaP (zk : List Nat) (zcr : List Nat) (zef : Nat) (zsl : Bool) (zel : Nat) (zac : Nat) (zxi : Nat) (zwi : Nat) : List (List Value) := [cellsB zk, cellsB zcr, [.int .u64 (zef : Nat)], [.bool zsl], [.int .u64 (zel : Nat)], [.int .u64 (zac : Nat)], [.int .u64 (zxi : Nat)], [.int .u64 (zwi : Nat)]]
def vaC (zk : List Nat) (zcr : List Nat) (zef : Nat) (zsl : Bool) (zel : Nat) (zac : Nat) (zxi : Nat) (zwi : Nat) : List Value := (vaP zk zcr zef zsl zel zac zxi zwi).flatten
theorem vaC_length (zk : List Nat) (zcr : List Nat) (zef : Nat) (zsl : Bool) (zel : Nat) (zac : Nat) (zxi : Nat) (zwi : Nat) (hzk : zk.length = 32) (hzcr : zcr.length = 32) : (vaC zk zcr zef zsl zel zac zxi zwi).length = 70 := by simp [vaC, vaP, cellsB_length, hzk, hzcr]
def vaR (zk : List Nat) (zcr : List Nat) (zef : Nat) (zsl : Bool) (zel : Nat) (zac : Nat) (zxi : Nat) (zwi : Nat) : List Nat := fullR (depth (([zk, zcr, wUp zef 8, boolR zsl, wUp zel 8, wUp zac 8, wUp zxi 8, wUp zwi 8] : List (List Nat)).length : Nat)) [zk, zcr, wUp zef 8, boolR zsl, wUp zel 8, wUp zac 8, wUp zxi 8, wUp zwi 8]
theorem vaR_rt (zk : List Nat) (zcr : List Nat) (zef : Nat) (zsl : Bool) (zel : Nat) (zac : Nat) (zxi : Nat) (zwi : Nat) (hzk : Rt zk) (hzcr : Rt zcr) : Rt (vaR zk zcr zef zsl zel zac zxi zwi) := full_rt _ _ (Rts.more hzk (Rts.more hzcr (Rts.more (wUp_rt zef 8) (Rts.more (boolR_rt zsl) (Rts.more (wUp_rt zel 8) (Rts.more (wUp_rt zac 8) (Rts.more (wUp_rt zxi 8) (Rts.more (wUp_rt zwi 8) Rts.nil))))))))
set_option maxHeartbeats 2000000 in
theorem vaR_any (zk : List Nat) (zcr : List Nat) (zef : Nat) (zsl : Bool) (zel : Nat) (zac : Nat) (zxi : Nat) (zwi : Nat) (hzk : Rt zk) (hzcr : Rt zcr) (hzef : zef < 18446744073709551616) (hzel : zel < 18446744073709551616) (hzac : zac < 18446744073709551616) (hzxi : zxi < 18446744073709551616) (hzwi : zwi < 18446744073709551616) (w : World) (hT : Tabs w) :
    Calls Tryd.prog 24 #[.agg (vaC zk zcr zef zsl zel zac zxi zwi).toArray] w fun x w' => x = .returned (.agg (nums .u8 (vaR zk zcr zef zsl zel zac zxi zwi))) ∧ Below w.heap.size w w' := by
  have hfr := vaR_rt zk zcr zef zsl zel zac zxi zwi hzk hzcr
  obtain ⟨W, HW⟩ : ∃ W, Hid (vaR zk zcr zef zsl zel zac zxi zwi = W) := ⟨_, hid rfl⟩
  rw [HW.out] at hfr ⊢
  go_enter Tryd.func24, Tryd.ntmps24
  go_wp2_with ((with_reducible refine at_list' ?_); first
    | (refine wpList_box_c rfl 1 rfl (.tmp 0) rfl (vaC zk zcr zef zsl zel zac zxi zwi) rfl ?_; intro w1 H1 B1 S1)
    | (refine wpList_alloc_has rfl 2 rfl 24 rfl .u8 32 Tryd.zero24 ?_; intro w2 H2 B2 S2; rw [S1] at H2 S2; rw [S1]))
  have HX := hid (H1.keep B2)
  have HY := hid H2
  have HB := hid (B1.trans (B2.mono (by omega)))
  have HT := hid (hT.keep HB.out)
  have s2 : w2.heap.size = w.heap.size + 2 := by omega
  clear H1 B1 S1 H2 B2 S2
  try simp only [Act.put, List.setIfInBounds_toArray, List.set_cons_succ, List.set_cons_zero]
  refine wp_region_flow 24 24 (fun i v wq => match i with
    | 0 => v = .pointer (some ⟨w.heap.size, 0, none⟩)
    | 1 => v = .agg (nums .u8 zk)
    | 2 => v = .pointer (some ⟨w.heap.size, 32, none⟩)
    | 3 => v = .agg (nums .u8 zcr)
    | 4 => v = .pointer (some ⟨w.heap.size, 64, none⟩)
    | 5 => v = .int .u64 (zef : Nat)
    | 6 => v = .agg (nums .u8 (wUp zef 8))
    | 7 => v = .pointer (some ⟨w.heap.size, 65, none⟩)
    | 8 => v = .bool zsl
    | 9 => v = .agg (nums .u8 (boolR zsl))
    | 10 => v = .pointer (some ⟨w.heap.size, 66, none⟩)
    | 11 => v = .int .u64 (zel : Nat)
    | 12 => v = .agg (nums .u8 (wUp zel 8))
    | 13 => v = .pointer (some ⟨w.heap.size, 67, none⟩)
    | 14 => v = .int .u64 (zac : Nat)
    | 15 => v = .agg (nums .u8 (wUp zac 8))
    | 16 => v = .pointer (some ⟨w.heap.size, 68, none⟩)
    | 17 => v = .int .u64 (zxi : Nat)
    | 18 => v = .agg (nums .u8 (wUp zxi 8))
    | 19 => v = .pointer (some ⟨w.heap.size, 69, none⟩)
    | 20 => v = .int .u64 (zwi : Nat)
    | 21 => v = .agg (nums .u8 (wUp zwi 8))
    | 22 => ∃ b, v = .slice (some ⟨b, 0, none⟩) 8 8 ∧ RootsAt wq (some ⟨b, 0, none⟩) [zk, zcr, wUp zef 8, boolR zsl, wUp zel 8, wUp zac 8, wUp zxi 8, wUp zwi 8]
    | _ => v = .agg (nums .u8 W)) (by kernel_rfl) (by kernel_rfl) (fun _ d _ _ _ h => by cases d <;> exact h) ?_ ?_ ?_ ?_
  · intro i v wq wq' hi hv hb
    match i, hi with
    | 0, _ => exact hv
    | 1, _ => exact hv
    | 2, _ => exact hv
    | 3, _ => exact hv
    | 4, _ => exact hv
    | 5, _ => exact hv
    | 6, _ => exact hv
    | 7, _ => exact hv
    | 8, _ => exact hv
    | 9, _ => exact hv
    | 10, _ => exact hv
    | 11, _ => exact hv
    | 12, _ => exact hv
    | 13, _ => exact hv
    | 14, _ => exact hv
    | 15, _ => exact hv
    | 16, _ => exact hv
    | 17, _ => exact hv
    | 18, _ => exact hv
    | 19, _ => exact hv
    | 20, _ => exact hv
    | 21, _ => exact hv
    | 22, _ => obtain ⟨b, h1, h2⟩ := hv; exact ⟨b, h1, h2.keep hb⟩
    | 23, _ => exact hv
    | (k + 24), hk => exact absurd hk (by omega)
  · intro i o hi ho aq wq hc hk hdep
    match i, hi with
    | 0, _ =>
      cases ho
      have e1 : aq.tmps.getD 1 undef = .pointer (some ⟨w.heap.size, 0, none⟩) := hk 1 (by decide)
      exact flow_value _ (run_fieldAt 57 (.tmp 1) 0 rfl _ _ e1 (by kernel_rfl)) rfl
    | 1, _ =>
      cases ho
      have e0 : aq.tmps.getD 3 undef = .pointer (some ⟨w.heap.size, 0, none⟩) := hdep 0 3 rfl (by kernel_rfl)
      exact flow_value _ (run_mid 24 (.tmp 3) rfl w.heap.size 0 e0 (cellsB zk) ((HX.out.keep (hcB hc)).range 0 (cellsB zk) (seg (ps := vaP zk zcr zef zsl zel zac zxi zwi) (i := 0) (off := 0) rfl (by simp [vaP, cellsB_length, hzk.len, hzcr.len]))) _ Tryd.und24 rfl (by rw [cellsB_length, hzk.len]; exact Tryd.size24)) rfl
    | 2, _ =>
      cases ho
      have e1 : aq.tmps.getD 1 undef = .pointer (some ⟨w.heap.size, 0, none⟩) := hk 1 (by decide)
      exact flow_value _ (run_fieldAt 57 (.tmp 1) 1 rfl _ _ e1 (by kernel_rfl)) rfl
    | 3, _ =>
      cases ho
      have e0 : aq.tmps.getD 5 undef = .pointer (some ⟨w.heap.size, 32, none⟩) := hdep 2 5 rfl (by kernel_rfl)
      exact flow_value _ (run_mid 24 (.tmp 5) rfl w.heap.size 32 e0 (cellsB zcr) ((HX.out.keep (hcB hc)).range 32 (cellsB zcr) (seg (ps := vaP zk zcr zef zsl zel zac zxi zwi) (i := 1) (off := 32) rfl (by simp [vaP, cellsB_length, hzk.len, hzcr.len]))) _ Tryd.und24 rfl (by rw [cellsB_length, hzcr.len]; exact Tryd.size24)) rfl
    | 4, _ =>
      cases ho
      have e1 : aq.tmps.getD 1 undef = .pointer (some ⟨w.heap.size, 0, none⟩) := hk 1 (by decide)
      exact flow_value _ (run_fieldAt 57 (.tmp 1) 2 rfl _ _ e1 (by kernel_rfl)) rfl
    | 5, _ =>
      cases ho
      have e0 : aq.tmps.getD 7 undef = .pointer (some ⟨w.heap.size, 64, none⟩) := hdep 4 7 rfl (by kernel_rfl)
      exact flow_value _ (run_cell 22 (.tmp 7) rfl _ e0 _ ((HX.out.keep (hcB hc)).cell (seg (ps := vaP zk zcr zef zsl zel zac zxi zwi) (i := 2) (off := 64) rfl (by simp [vaP, cellsB_length, hzk.len, hzcr.len]) 0 _ rfl)) _ Tryd.underlying22 rfl) rfl
    | 6, _ =>
      cases ho
      have e0 : aq.tmps.getD 8 undef = .int .u64 (zef : Nat) := hdep 5 8 rfl (by kernel_rfl)
      refine flow_fun 31 _ _ rfl (fun _ _ => by simp [go_sem]) #[.int .u64 (zef : Nat)] (by rw [show (#[Operand.tmp 8] : Array Operand).map aq.eval = #[aq.tmps.getD 8 undef] from by simp [Act.eval], e0]) ?_
      refine (number_any zef hzef wq).mono ?_
      rintro x w' ⟨rfl, q⟩
      exact ⟨_, rfl, rfl, q⟩
    | 7, _ =>
      cases ho
      have e1 : aq.tmps.getD 1 undef = .pointer (some ⟨w.heap.size, 0, none⟩) := hk 1 (by decide)
      exact flow_value _ (run_fieldAt 57 (.tmp 1) 3 rfl _ _ e1 (by kernel_rfl)) rfl
    | 8, _ =>
      cases ho
      have e0 : aq.tmps.getD 10 undef = .pointer (some ⟨w.heap.size, 65, none⟩) := hdep 7 10 rfl (by kernel_rfl)
      exact flow_value _ (run_cell 4 (.tmp 10) rfl _ e0 _ ((HX.out.keep (hcB hc)).cell (seg (ps := vaP zk zcr zef zsl zel zac zxi zwi) (i := 3) (off := 65) rfl (by simp [vaP, cellsB_length, hzk.len, hzcr.len]) 0 _ rfl)) _ Tryd.underlying4 rfl) rfl
    | 9, _ =>
      cases ho
      have e0 : aq.tmps.getD 11 undef = .bool zsl := hdep 8 11 rfl (by kernel_rfl)
      refine flow_fun 50 _ _ rfl (fun _ _ => by simp [go_sem]) #[.bool zsl] (by rw [show (#[Operand.tmp 11] : Array Operand).map aq.eval = #[aq.tmps.getD 11 undef] from by simp [Act.eval], e0]) ?_
      refine (truth_any zsl wq).mono ?_
      rintro x w' ⟨rfl, q⟩
      exact ⟨_, rfl, rfl, q⟩
    | 10, _ =>
      cases ho
      have e1 : aq.tmps.getD 1 undef = .pointer (some ⟨w.heap.size, 0, none⟩) := hk 1 (by decide)
      exact flow_value _ (run_fieldAt 57 (.tmp 1) 4 rfl _ _ e1 (by kernel_rfl)) rfl
    | 11, _ =>
      cases ho
      have e0 : aq.tmps.getD 13 undef = .pointer (some ⟨w.heap.size, 66, none⟩) := hdep 10 13 rfl (by kernel_rfl)
      exact flow_value _ (run_cell 22 (.tmp 13) rfl _ e0 _ ((HX.out.keep (hcB hc)).cell (seg (ps := vaP zk zcr zef zsl zel zac zxi zwi) (i := 4) (off := 66) rfl (by simp [vaP, cellsB_length, hzk.len, hzcr.len]) 0 _ rfl)) _ Tryd.underlying22 rfl) rfl
    | 12, _ =>
      cases ho
      have e0 : aq.tmps.getD 14 undef = .int .u64 (zel : Nat) := hdep 11 14 rfl (by kernel_rfl)
      refine flow_fun 31 _ _ rfl (fun _ _ => by simp [go_sem]) #[.int .u64 (zel : Nat)] (by rw [show (#[Operand.tmp 14] : Array Operand).map aq.eval = #[aq.tmps.getD 14 undef] from by simp [Act.eval], e0]) ?_
      refine (number_any zel hzel wq).mono ?_
      rintro x w' ⟨rfl, q⟩
      exact ⟨_, rfl, rfl, q⟩
    | 13, _ =>
      cases ho
      have e1 : aq.tmps.getD 1 undef = .pointer (some ⟨w.heap.size, 0, none⟩) := hk 1 (by decide)
      exact flow_value _ (run_fieldAt 57 (.tmp 1) 5 rfl _ _ e1 (by kernel_rfl)) rfl
    | 14, _ =>
      cases ho
      have e0 : aq.tmps.getD 16 undef = .pointer (some ⟨w.heap.size, 67, none⟩) := hdep 13 16 rfl (by kernel_rfl)
      exact flow_value _ (run_cell 22 (.tmp 16) rfl _ e0 _ ((HX.out.keep (hcB hc)).cell (seg (ps := vaP zk zcr zef zsl zel zac zxi zwi) (i := 5) (off := 67) rfl (by simp [vaP, cellsB_length, hzk.len, hzcr.len]) 0 _ rfl)) _ Tryd.underlying22 rfl) rfl
    | 15, _ =>
      cases ho
      have e0 : aq.tmps.getD 17 undef = .int .u64 (zac : Nat) := hdep 14 17 rfl (by kernel_rfl)
      refine flow_fun 31 _ _ rfl (fun _ _ => by simp [go_sem]) #[.int .u64 (zac : Nat)] (by rw [show (#[Operand.tmp 17] : Array Operand).map aq.eval = #[aq.tmps.getD 17 undef] from by simp [Act.eval], e0]) ?_
      refine (number_any zac hzac wq).mono ?_
      rintro x w' ⟨rfl, q⟩
      exact ⟨_, rfl, rfl, q⟩
    | 16, _ =>
      cases ho
      have e1 : aq.tmps.getD 1 undef = .pointer (some ⟨w.heap.size, 0, none⟩) := hk 1 (by decide)
      exact flow_value _ (run_fieldAt 57 (.tmp 1) 6 rfl _ _ e1 (by kernel_rfl)) rfl
    | 17, _ =>
      cases ho
      have e0 : aq.tmps.getD 19 undef = .pointer (some ⟨w.heap.size, 68, none⟩) := hdep 16 19 rfl (by kernel_rfl)
      exact flow_value _ (run_cell 22 (.tmp 19) rfl _ e0 _ ((HX.out.keep (hcB hc)).cell (seg (ps := vaP zk zcr zef zsl zel zac zxi zwi) (i := 6) (off := 68) rfl (by simp [vaP, cellsB_length, hzk.len, hzcr.len]) 0 _ rfl)) _ Tryd.underlying22 rfl) rfl
    | 18, _ =>
      cases ho
      have e0 : aq.tmps.getD 20 undef = .int .u64 (zxi : Nat) := hdep 17 20 rfl (by kernel_rfl)
      refine flow_fun 31 _ _ rfl (fun _ _ => by simp [go_sem]) #[.int .u64 (zxi : Nat)] (by rw [show (#[Operand.tmp 20] : Array Operand).map aq.eval = #[aq.tmps.getD 20 undef] from by simp [Act.eval], e0]) ?_
      refine (number_any zxi hzxi wq).mono ?_
      rintro x w' ⟨rfl, q⟩
      exact ⟨_, rfl, rfl, q⟩
    | 19, _ =>
      cases ho
      have e1 : aq.tmps.getD 1 undef = .pointer (some ⟨w.heap.size, 0, none⟩) := hk 1 (by decide)
      exact flow_value _ (run_fieldAt 57 (.tmp 1) 7 rfl _ _ e1 (by kernel_rfl)) rfl
    | 20, _ =>
      cases ho
      have e0 : aq.tmps.getD 22 undef = .pointer (some ⟨w.heap.size, 69, none⟩) := hdep 19 22 rfl (by kernel_rfl)
      exact flow_value _ (run_cell 22 (.tmp 22) rfl _ e0 _ ((HX.out.keep (hcB hc)).cell (seg (ps := vaP zk zcr zef zsl zel zac zxi zwi) (i := 7) (off := 69) rfl (by simp [vaP, cellsB_length, hzk.len, hzcr.len]) 0 _ rfl)) _ Tryd.underlying22 rfl) rfl
    | 21, _ =>
      cases ho
      have e0 : aq.tmps.getD 23 undef = .int .u64 (zwi : Nat) := hdep 20 23 rfl (by kernel_rfl)
      refine flow_fun 31 _ _ rfl (fun _ _ => by simp [go_sem]) #[.int .u64 (zwi : Nat)] (by rw [show (#[Operand.tmp 23] : Array Operand).map aq.eval = #[aq.tmps.getD 23 undef] from by simp [Act.eval], e0]) ?_
      refine (number_any zwi hzwi wq).mono ?_
      rintro x w' ⟨rfl, q⟩
      exact ⟨_, rfl, rfl, q⟩
    | 22, _ =>
      cases ho
      have e0 : aq.tmps.getD 4 undef = .agg (nums .u8 zk) := hdep 1 4 rfl (by kernel_rfl)
      have e1 : aq.tmps.getD 6 undef = .agg (nums .u8 zcr) := hdep 3 6 rfl (by kernel_rfl)
      have e2 : aq.tmps.getD 9 undef = .agg (nums .u8 (wUp zef 8)) := hdep 6 9 rfl (by kernel_rfl)
      have e3 : aq.tmps.getD 12 undef = .agg (nums .u8 (boolR zsl)) := hdep 9 12 rfl (by kernel_rfl)
      have e4 : aq.tmps.getD 15 undef = .agg (nums .u8 (wUp zel 8)) := hdep 12 15 rfl (by kernel_rfl)
      have e5 : aq.tmps.getD 18 undef = .agg (nums .u8 (wUp zac 8)) := hdep 15 18 rfl (by kernel_rfl)
      have e6 : aq.tmps.getD 21 undef = .agg (nums .u8 (wUp zxi 8)) := hdep 18 21 rfl (by kernel_rfl)
      have e7 : aq.tmps.getD 24 undef = .agg (nums .u8 (wUp zwi 8)) := hdep 21 24 rfl (by kernel_rfl)
      exact flow_rows 91 24 8 32 _ rfl Tryd.underlying91 rootInfo6 [cellsB (zk), cellsB (zcr), cellsB (wUp zef 8), cellsB (boolR zsl), cellsB (wUp zel 8), cellsB (wUp zac 8), cellsB (wUp zxi 8), cellsB (wUp zwi 8)] [.tmp 4, .tmp 6, .tmp 9, .tmp 12, .tmp 15, .tmp 18, .tmp 21, .tmp 24] rfl (by rw [show [Operand.tmp 4, Operand.tmp 6, Operand.tmp 9, Operand.tmp 12, Operand.tmp 15, Operand.tmp 18, Operand.tmp 21, Operand.tmp 24].map aq.eval = [aq.tmps.getD 4 undef, aq.tmps.getD 6 undef, aq.tmps.getD 9 undef, aq.tmps.getD 12 undef, aq.tmps.getD 15 undef, aq.tmps.getD 18 undef, aq.tmps.getD 21 undef, aq.tmps.getD 24 undef] from rfl, e0, e1, e2, e3, e4, e5, e6, e7]; rfl) (by simp [cellsB_length, (hzk).len, (hzcr).len, ((wUp_rt zef 8)).len, ((boolR_rt zsl)).len, ((wUp_rt zel 8)).len, ((wUp_rt zac 8)).len, ((wUp_rt zxi 8)).len, ((wUp_rt zwi 8)).len]) rfl (by decide) (by decide) (by decide) (fun w' h => ⟨_, rfl, hasC_roots (rs := [zk, zcr, wUp zef 8, boolR zsl, wUp zel 8, wUp zac 8, wUp zxi 8, wUp zwi 8]) h (Rts.more hzk (Rts.more hzcr (Rts.more (wUp_rt zef 8) (Rts.more (boolR_rt zsl) (Rts.more (wUp_rt zel 8) (Rts.more (wUp_rt zac 8) (Rts.more (wUp_rt zxi 8) (Rts.more (wUp_rt zwi 8) Rts.nil))))))))⟩)
    | 23, _ =>
      cases ho
      obtain ⟨b, e6, h6⟩ := hdep 22 25 rfl (by kernel_rfl)
      refine flow_fun 30 _ _ rfl (fun _ _ => by simp [go_sem]) #[.slice (some ⟨b, 0, none⟩) 8 8] (by rw [show (#[Operand.tmp 25] : Array Operand).map aq.eval = #[aq.tmps.getD 25 undef] from by simp [Act.eval], e6]) ?_
      refine (cont_any (some ⟨b, 0, none⟩) 8 [zk, zcr, wUp zef 8, boolR zsl, wUp zel 8, wUp zac 8, wUp zxi 8, wUp zwi 8] wq (HT.out.keep (hcB hc)) (Nat.le_refl _) (by decide) (by show 8 ≤ 1048576; decide) h6).mono ?_
      rintro x w' ⟨rfl, q⟩
      exact ⟨_, rfl, (by rw [← HW.out]; rfl), q⟩
    | (k + 24), hk => exact absurd hk (by omega)
  · intro o h24 ho
    omega
  intro vf w8 hc hv
  have e7 : vf 23 = _ := hv 23 26 (by decide) rfl
  have B8 := HB.out.trans ((hcB hc).mono (by omega))
  have H8v := HY.out.keep (hcB hc)
  have s8 := (hcB hc).size
  clear hv hc
  simp only [List.take_succ_cons, List.take_zero, List.drop_succ_cons, List.drop_zero, putAll, Act.put, List.setIfInBounds_toArray, List.set_cons_succ, List.set_cons_zero]
  rw [e7]
  have HB8 := hid B8
  clear B8 e7 HB
  go_wp2_with ((with_reducible refine at_list' ?_); first
    | (refine wpList_store_has rfl 24 (.tmp 2) (.tmp 26) rfl (w.heap.size + 1) .u8 W (zeros 32) rfl rfl 24 H8v (hfr.size _ Tryd.size24) (by rw [hfr.len, zeros_length]) ?_; intro w9 H9 O9))
  refine bodyPost_ret (results_has rfl _ _ (w.heap.size + 1) 24 .u8 W _ _ rfl H9 Tryd.und24 (hfr.size _ Tryd.size24)) rfl ?_
  exact ⟨rfl, below_only HB8.out O9 (by omega)⟩
end Go.Proofs.YtakdokccdkhcoaaDoor

/- Structs that came in by value. -/
namespace Go.Proofs.YtakdokccdkhcoaaDoor
open Go.RowKit Go.Deep Go.WideShapes
set_option linter.unusedVariables false
set_option linter.unusedSimpArgs false
set_option maxRecDepth 100000

theorem cellsRt : Tryd.prog.cellsOf 24 = 32 := by kernel_rfl
theorem cellsU8 : Tryd.prog.cellsOf 5 = 1 := by kernel_rfl
theorem cellsU64 : Tryd.prog.cellsOf 22 = 1 := by kernel_rfl
theorem cellsBo : Tryd.prog.cellsOf 4 = 1 := by kernel_rfl
/-- Parts of a list, one behind the other. -/
def cutAt {α : Type} (cs : List α) : Nat → List Nat → List (List α)
  | _, [] => []
  | o, k :: ks => (cs.drop o).take k :: cutAt cs (o + k) ks
theorem cut_flat {α : Type} (cs : List α) : ∀ (ks : List Nat) (o : Nat), o + ks.sum = cs.length → cs.drop o = (cutAt cs o ks).flatten := by
  intro ks
  induction ks with
  | nil => intro o h; simp at h; rw [h, List.drop_length]; rfl
  | cons k ks ih =>
    intro o h
    rw [cutAt, List.flatten_cons, ← ih (o + k) (by simp at h; omega), ← List.drop_drop, List.take_append_drop]
section
variable {H : Type} {enc : TypeId × Value → H} {W : World} {b0 : Nat} {sp : Nat → Bool} {held : Bool}
theorem root_of_trod {fuel : Nat} {cs : List Value} {x : DataW H × List MemPlace} (h : DataW.trod enc Tryd.prog W b0 sp held fuel 24 cs = some x) : ∃ r : List Nat, cs = (nums .u8 r).toList ∧ Rt r := by
  obtain ⟨xs, m, _, _, hl, hxs, hel⟩ := DataW.trod_array Tryd.und24 h
  rw [cellsRt] at hl
  have key : ∀ i (hi : i < cs.length), ∃ n : Nat, cs[i] = .int .u8 (n : Int) ∧ n < 256 := by
    intro i hi
    have h1 := hel i (by omega)
    rw [cellsU8, Nat.mul_one, List.getElem?_eq_getElem (by omega)] at h1
    obtain ⟨n, e1, _, hw⟩ := DataW.trod_int Tryd.underlying5 h1
    have hb := bounds_u8 hw
    have e2 : (cs.drop i).take 1 = [cs[i]] := by
      rw [List.drop_eq_getElem_cons hi, List.take_succ_cons, List.take_zero]
    have e3 : [cs[i]] = [Value.int .u8 n] := e2.symm.trans e1
    refine ⟨n.toNat, ?_, by omega⟩
    have e4 : cs[i] = Value.int .u8 n := by simpa using e3
    rw [e4]
    congr 1
    omega
  refine ⟨cs.map fun v => (intOf v).toNat, ?_, by simp [hl], ?_⟩
  · unfold nums
    apply List.ext_getElem
    · simp
    · intro i h1 h2
      obtain ⟨n, e, hn⟩ := key i h1
      simp [e, intOf]
  · intro z hz
    obtain ⟨v, hv, rfl⟩ := List.mem_map.1 hz
    obtain ⟨i, hi, rfl⟩ := List.mem_iff_getElem.1 hv
    obtain ⟨n, e, hn⟩ := key i hi
    simp [e, intOf, hn]
theorem num_of_trod {fuel : Nat} {cs : List Value} {x : DataW H × List MemPlace} (h : DataW.trod enc Tryd.prog W b0 sp held fuel 22 cs = some x) : ∃ n : Nat, cs = [.int .u64 (n : Nat)] ∧ n < 18446744073709551616 := by
  obtain ⟨i, e, _, hw⟩ := DataW.trod_int Tryd.underlying22 h
  have hb := bounds_u64 hw
  refine ⟨i.toNat, ?_, by omega⟩
  rw [e, Int.toNat_of_nonneg hb.1]
theorem bool_of_trod {fuel : Nat} {cs : List Value} {x : DataW H × List MemPlace} (h : DataW.trod enc Tryd.prog W b0 sp held fuel 4 cs = some x) : ∃ b : Bool, cs = [.bool b] := by
  obtain ⟨b, e, _⟩ := DataW.trod_bool Tryd.underlying4 h
  exact ⟨b, e⟩
theorem cells_cp : Tryd.prog.cellsOf 26 = 33 := by kernel_rfl
theorem cp_of_trod {fuel : Nat} {cs : List Value} {x : DataW H × List MemPlace} (h : DataW.trod enc Tryd.prog W b0 sp held fuel 26 cs = some x) : ∃ (ze : Nat) (zr : List Nat), cs = cpC ze zr ∧ ze < 18446744073709551616 ∧ Rt zr := by
  obtain ⟨xs, n, _, _, hl, hlen, hf⟩ := DataW.trod_struct Tryd.underlying26 h
  rw [cells_cp] at hl
  have hx : xs.length = 2 := hlen
  have f0 : ∃ y, DataW.trod enc Tryd.prog W b0 sp held n 22 ((cs.drop 0).take 1) = some y := by
    have := hf 0 _ rfl
    change DataW.trod enc Tryd.prog W b0 sp held n 22 (List.take (Tryd.prog.cellsOf 22) (List.drop 0 cs)) = xs[0]? at this
    rw [cellsU64, List.getElem?_eq_getElem (by omega)] at this
    exact ⟨_, this⟩
  obtain ⟨y0, f0⟩ := f0
  obtain ⟨ze, e0, hze⟩ := num_of_trod f0
  have f1 : ∃ y, DataW.trod enc Tryd.prog W b0 sp held n 24 ((cs.drop 1).take 32) = some y := by
    have := hf 1 _ rfl
    change DataW.trod enc Tryd.prog W b0 sp held n 24 (List.take (Tryd.prog.cellsOf 24) (List.drop 1 cs)) = xs[1]? at this
    rw [cellsRt, List.getElem?_eq_getElem (by omega)] at this
    exact ⟨_, this⟩
  obtain ⟨y1, f1⟩ := f1
  obtain ⟨zr, e1, hzr⟩ := root_of_trod f1
  have hc := cut_flat cs [1, 32] 0 (by rw [hl]; rfl)
  rw [List.drop_zero] at e0
  simp only [cutAt, List.drop_zero, Nat.zero_add, Nat.reduceAdd, e0, e1] at hc
  refine ⟨ze, zr, hc, hze, hzr⟩
theorem open_cp {base : Nat} {v : Value} {d : DataW H} {p : List MemPlace} (hv : Value.okWide Tryd.prog W .any base 26 v) (h : DataW.Trod enc Tryd.prog W b0 sp held 26 v d p) : ∃ (ze : Nat) (zr : List Nat), v = .agg (cpC ze zr).toArray ∧ ze < 18446744073709551616 ∧ Rt zr := by
  obtain ⟨cs, rfl, _⟩ := okWide_struct Tryd.underlying26 hv
  obtain ⟨fuel, hf⟩ := h
  obtain ⟨ze, zr, e, hze, hzr⟩ := cp_of_trod hf
  exact ⟨ze, zr, by rw [← Array.toList_inj.1 (show cs.toList = (cpC ze zr).toArray.toList from e)], hze, hzr⟩
theorem cells_hd : Tryd.prog.cellsOf 40 = 98 := by kernel_rfl
theorem hd_of_trod {fuel : Nat} {cs : List Value} {x : DataW H × List MemPlace} (h : DataW.trod enc Tryd.prog W b0 sp held fuel 40 cs = some x) : ∃ (zs : Nat) (zp : Nat) (zpa : List Nat) (zst : List Nat) (zbo : List Nat), cs = hdC zs zp zpa zst zbo ∧ zs < 18446744073709551616 ∧ zp < 18446744073709551616 ∧ Rt zpa ∧ Rt zst ∧ Rt zbo := by
  obtain ⟨xs, n, _, _, hl, hlen, hf⟩ := DataW.trod_struct Tryd.underlying40 h
  rw [cells_hd] at hl
  have hx : xs.length = 5 := hlen
  have f0 : ∃ y, DataW.trod enc Tryd.prog W b0 sp held n 22 ((cs.drop 0).take 1) = some y := by
    have := hf 0 _ rfl
    change DataW.trod enc Tryd.prog W b0 sp held n 22 (List.take (Tryd.prog.cellsOf 22) (List.drop 0 cs)) = xs[0]? at this
    rw [cellsU64, List.getElem?_eq_getElem (by omega)] at this
    exact ⟨_, this⟩
  obtain ⟨y0, f0⟩ := f0
  obtain ⟨zs, e0, hzs⟩ := num_of_trod f0
  have f1 : ∃ y, DataW.trod enc Tryd.prog W b0 sp held n 22 ((cs.drop 1).take 1) = some y := by
    have := hf 1 _ rfl
    change DataW.trod enc Tryd.prog W b0 sp held n 22 (List.take (Tryd.prog.cellsOf 22) (List.drop 1 cs)) = xs[1]? at this
    rw [cellsU64, List.getElem?_eq_getElem (by omega)] at this
    exact ⟨_, this⟩
  obtain ⟨y1, f1⟩ := f1
  obtain ⟨zp, e1, hzp⟩ := num_of_trod f1
  have f2 : ∃ y, DataW.trod enc Tryd.prog W b0 sp held n 24 ((cs.drop 2).take 32) = some y := by
    have := hf 2 _ rfl
    change DataW.trod enc Tryd.prog W b0 sp held n 24 (List.take (Tryd.prog.cellsOf 24) (List.drop 2 cs)) = xs[2]? at this
    rw [cellsRt, List.getElem?_eq_getElem (by omega)] at this
    exact ⟨_, this⟩
  obtain ⟨y2, f2⟩ := f2
  obtain ⟨zpa, e2, hzpa⟩ := root_of_trod f2
  have f3 : ∃ y, DataW.trod enc Tryd.prog W b0 sp held n 24 ((cs.drop 34).take 32) = some y := by
    have := hf 3 _ rfl
    change DataW.trod enc Tryd.prog W b0 sp held n 24 (List.take (Tryd.prog.cellsOf 24) (List.drop 34 cs)) = xs[3]? at this
    rw [cellsRt, List.getElem?_eq_getElem (by omega)] at this
    exact ⟨_, this⟩
  obtain ⟨y3, f3⟩ := f3
  obtain ⟨zst, e3, hzst⟩ := root_of_trod f3
  have f4 : ∃ y, DataW.trod enc Tryd.prog W b0 sp held n 24 ((cs.drop 66).take 32) = some y := by
    have := hf 4 _ rfl
    change DataW.trod enc Tryd.prog W b0 sp held n 24 (List.take (Tryd.prog.cellsOf 24) (List.drop 66 cs)) = xs[4]? at this
    rw [cellsRt, List.getElem?_eq_getElem (by omega)] at this
    exact ⟨_, this⟩
  obtain ⟨y4, f4⟩ := f4
  obtain ⟨zbo, e4, hzbo⟩ := root_of_trod f4
  have hc := cut_flat cs [1, 1, 32, 32, 32] 0 (by rw [hl]; rfl)
  rw [List.drop_zero] at e0
  simp only [cutAt, List.drop_zero, Nat.zero_add, Nat.reduceAdd, e0, e1, e2, e3, e4] at hc
  refine ⟨zs, zp, zpa, zst, zbo, hc, hzs, hzp, hzpa, hzst, hzbo⟩
theorem open_hd {base : Nat} {v : Value} {d : DataW H} {p : List MemPlace} (hv : Value.okWide Tryd.prog W .any base 40 v) (h : DataW.Trod enc Tryd.prog W b0 sp held 40 v d p) : ∃ (zs : Nat) (zp : Nat) (zpa : List Nat) (zst : List Nat) (zbo : List Nat), v = .agg (hdC zs zp zpa zst zbo).toArray ∧ zs < 18446744073709551616 ∧ zp < 18446744073709551616 ∧ Rt zpa ∧ Rt zst ∧ Rt zbo := by
  obtain ⟨cs, rfl, _⟩ := okWide_struct Tryd.underlying40 hv
  obtain ⟨fuel, hf⟩ := h
  obtain ⟨zs, zp, zpa, zst, zbo, e, hzs, hzp, hzpa, hzst, hzbo⟩ := hd_of_trod hf
  exact ⟨zs, zp, zpa, zst, zbo, by rw [← Array.toList_inj.1 (show cs.toList = (hdC zs zp zpa zst zbo).toArray.toList from e)], hzs, hzp, hzpa, hzst, hzbo⟩
theorem cells_vt : Tryd.prog.cellsOf 45 = 100 := by kernel_rfl
theorem vt_of_trod {fuel : Nat} {cs : List Value} {x : DataW H × List MemPlace} (h : DataW.trod enc Tryd.prog W b0 sp held fuel 45 cs = some x) : ∃ (zs : Nat) (zi : Nat) (zb : List Nat) (zcze : Nat) (zczr : List Nat) (ztze : Nat) (ztzr : List Nat), cs = vtC zs zi zb zcze zczr ztze ztzr ∧ zs < 18446744073709551616 ∧ zi < 18446744073709551616 ∧ Rt zb ∧ zcze < 18446744073709551616 ∧ Rt zczr ∧ ztze < 18446744073709551616 ∧ Rt ztzr := by
  obtain ⟨xs, n, _, _, hl, hlen, hf⟩ := DataW.trod_struct Tryd.underlying45 h
  rw [cells_vt] at hl
  have hx : xs.length = 5 := hlen
  have f0 : ∃ y, DataW.trod enc Tryd.prog W b0 sp held n 22 ((cs.drop 0).take 1) = some y := by
    have := hf 0 _ rfl
    change DataW.trod enc Tryd.prog W b0 sp held n 22 (List.take (Tryd.prog.cellsOf 22) (List.drop 0 cs)) = xs[0]? at this
    rw [cellsU64, List.getElem?_eq_getElem (by omega)] at this
    exact ⟨_, this⟩
  obtain ⟨y0, f0⟩ := f0
  obtain ⟨zs, e0, hzs⟩ := num_of_trod f0
  have f1 : ∃ y, DataW.trod enc Tryd.prog W b0 sp held n 22 ((cs.drop 1).take 1) = some y := by
    have := hf 1 _ rfl
    change DataW.trod enc Tryd.prog W b0 sp held n 22 (List.take (Tryd.prog.cellsOf 22) (List.drop 1 cs)) = xs[1]? at this
    rw [cellsU64, List.getElem?_eq_getElem (by omega)] at this
    exact ⟨_, this⟩
  obtain ⟨y1, f1⟩ := f1
  obtain ⟨zi, e1, hzi⟩ := num_of_trod f1
  have f2 : ∃ y, DataW.trod enc Tryd.prog W b0 sp held n 24 ((cs.drop 2).take 32) = some y := by
    have := hf 2 _ rfl
    change DataW.trod enc Tryd.prog W b0 sp held n 24 (List.take (Tryd.prog.cellsOf 24) (List.drop 2 cs)) = xs[2]? at this
    rw [cellsRt, List.getElem?_eq_getElem (by omega)] at this
    exact ⟨_, this⟩
  obtain ⟨y2, f2⟩ := f2
  obtain ⟨zb, e2, hzb⟩ := root_of_trod f2
  have f3 : ∃ y, DataW.trod enc Tryd.prog W b0 sp held n 26 ((cs.drop 34).take 33) = some y := by
    have := hf 3 _ rfl
    change DataW.trod enc Tryd.prog W b0 sp held n 26 (List.take (Tryd.prog.cellsOf 26) (List.drop 34 cs)) = xs[3]? at this
    rw [cells_cp, List.getElem?_eq_getElem (by omega)] at this
    exact ⟨_, this⟩
  obtain ⟨y3, f3⟩ := f3
  obtain ⟨zcze, zczr, e3, hzcze, hzczr⟩ := cp_of_trod f3
  have f4 : ∃ y, DataW.trod enc Tryd.prog W b0 sp held n 26 ((cs.drop 67).take 33) = some y := by
    have := hf 4 _ rfl
    change DataW.trod enc Tryd.prog W b0 sp held n 26 (List.take (Tryd.prog.cellsOf 26) (List.drop 67 cs)) = xs[4]? at this
    rw [cells_cp, List.getElem?_eq_getElem (by omega)] at this
    exact ⟨_, this⟩
  obtain ⟨y4, f4⟩ := f4
  obtain ⟨ztze, ztzr, e4, hztze, hztzr⟩ := cp_of_trod f4
  have hc := cut_flat cs [1, 1, 32, 33, 33] 0 (by rw [hl]; rfl)
  rw [List.drop_zero] at e0
  simp only [cutAt, List.drop_zero, Nat.zero_add, Nat.reduceAdd, e0, e1, e2, e3, e4] at hc
  refine ⟨zs, zi, zb, zcze, zczr, ztze, ztzr, hc, hzs, hzi, hzb, hzcze, hzczr, hztze, hztzr⟩
theorem open_vt {base : Nat} {v : Value} {d : DataW H} {p : List MemPlace} (hv : Value.okWide Tryd.prog W .any base 45 v) (h : DataW.Trod enc Tryd.prog W b0 sp held 45 v d p) : ∃ (zs : Nat) (zi : Nat) (zb : List Nat) (zcze : Nat) (zczr : List Nat) (ztze : Nat) (ztzr : List Nat), v = .agg (vtC zs zi zb zcze zczr ztze ztzr).toArray ∧ zs < 18446744073709551616 ∧ zi < 18446744073709551616 ∧ Rt zb ∧ zcze < 18446744073709551616 ∧ Rt zczr ∧ ztze < 18446744073709551616 ∧ Rt ztzr := by
  obtain ⟨cs, rfl, _⟩ := okWide_struct Tryd.underlying45 hv
  obtain ⟨fuel, hf⟩ := h
  obtain ⟨zs, zi, zb, zcze, zczr, ztze, ztzr, e, hzs, hzi, hzb, hzcze, hzczr, hztze, hztzr⟩ := vt_of_trod hf
  exact ⟨zs, zi, zb, zcze, zczr, ztze, ztzr, by rw [← Array.toList_inj.1 (show cs.toList = (vtC zs zi zb zcze zczr ztze ztzr).toArray.toList from e)], hzs, hzi, hzb, hzcze, hzczr, hztze, hztzr⟩
theorem cells_ex : Tryd.prog.cellsOf 50 = 2 := by kernel_rfl
theorem ex_of_trod {fuel : Nat} {cs : List Value} {x : DataW H × List MemPlace} (h : DataW.trod enc Tryd.prog W b0 sp held fuel 50 cs = some x) : ∃ (ze : Nat) (zi : Nat), cs = exC ze zi ∧ ze < 18446744073709551616 ∧ zi < 18446744073709551616 := by
  obtain ⟨xs, n, _, _, hl, hlen, hf⟩ := DataW.trod_struct Tryd.underlying50 h
  rw [cells_ex] at hl
  have hx : xs.length = 2 := hlen
  have f0 : ∃ y, DataW.trod enc Tryd.prog W b0 sp held n 22 ((cs.drop 0).take 1) = some y := by
    have := hf 0 _ rfl
    change DataW.trod enc Tryd.prog W b0 sp held n 22 (List.take (Tryd.prog.cellsOf 22) (List.drop 0 cs)) = xs[0]? at this
    rw [cellsU64, List.getElem?_eq_getElem (by omega)] at this
    exact ⟨_, this⟩
  obtain ⟨y0, f0⟩ := f0
  obtain ⟨ze, e0, hze⟩ := num_of_trod f0
  have f1 : ∃ y, DataW.trod enc Tryd.prog W b0 sp held n 22 ((cs.drop 1).take 1) = some y := by
    have := hf 1 _ rfl
    change DataW.trod enc Tryd.prog W b0 sp held n 22 (List.take (Tryd.prog.cellsOf 22) (List.drop 1 cs)) = xs[1]? at this
    rw [cellsU64, List.getElem?_eq_getElem (by omega)] at this
    exact ⟨_, this⟩
  obtain ⟨y1, f1⟩ := f1
  obtain ⟨zi, e1, hzi⟩ := num_of_trod f1
  have hc := cut_flat cs [1, 1] 0 (by rw [hl]; rfl)
  rw [List.drop_zero] at e0
  simp only [cutAt, List.drop_zero, Nat.zero_add, Nat.reduceAdd, e0, e1] at hc
  refine ⟨ze, zi, hc, hze, hzi⟩
theorem open_ex {base : Nat} {v : Value} {d : DataW H} {p : List MemPlace} (hv : Value.okWide Tryd.prog W .any base 50 v) (h : DataW.Trod enc Tryd.prog W b0 sp held 50 v d p) : ∃ (ze : Nat) (zi : Nat), v = .agg (exC ze zi).toArray ∧ ze < 18446744073709551616 ∧ zi < 18446744073709551616 := by
  obtain ⟨cs, rfl, _⟩ := okWide_struct Tryd.underlying50 hv
  obtain ⟨fuel, hf⟩ := h
  obtain ⟨ze, zi, e, hze, hzi⟩ := ex_of_trod hf
  exact ⟨ze, zi, by rw [← Array.toList_inj.1 (show cs.toList = (exC ze zi).toArray.toList from e)], hze, hzi⟩
theorem cells_sx : Tryd.prog.cellsOf 52 = 34 := by kernel_rfl
theorem sx_of_trod {fuel : Nat} {cs : List Value} {x : DataW H × List MemPlace} (h : DataW.trod enc Tryd.prog W b0 sp held fuel 52 cs = some x) : ∃ (zxze : Nat) (zxzi : Nat) (zsg : List Nat), cs = sxC zxze zxzi zsg ∧ zxze < 18446744073709551616 ∧ zxzi < 18446744073709551616 ∧ Rt zsg := by
  obtain ⟨xs, n, _, _, hl, hlen, hf⟩ := DataW.trod_struct Tryd.underlying52 h
  rw [cells_sx] at hl
  have hx : xs.length = 2 := hlen
  have f0 : ∃ y, DataW.trod enc Tryd.prog W b0 sp held n 50 ((cs.drop 0).take 2) = some y := by
    have := hf 0 _ rfl
    change DataW.trod enc Tryd.prog W b0 sp held n 50 (List.take (Tryd.prog.cellsOf 50) (List.drop 0 cs)) = xs[0]? at this
    rw [cells_ex, List.getElem?_eq_getElem (by omega)] at this
    exact ⟨_, this⟩
  obtain ⟨y0, f0⟩ := f0
  obtain ⟨zxze, zxzi, e0, hzxze, hzxzi⟩ := ex_of_trod f0
  have f1 : ∃ y, DataW.trod enc Tryd.prog W b0 sp held n 24 ((cs.drop 2).take 32) = some y := by
    have := hf 1 _ rfl
    change DataW.trod enc Tryd.prog W b0 sp held n 24 (List.take (Tryd.prog.cellsOf 24) (List.drop 2 cs)) = xs[1]? at this
    rw [cellsRt, List.getElem?_eq_getElem (by omega)] at this
    exact ⟨_, this⟩
  obtain ⟨y1, f1⟩ := f1
  obtain ⟨zsg, e1, hzsg⟩ := root_of_trod f1
  have hc := cut_flat cs [2, 32] 0 (by rw [hl]; rfl)
  rw [List.drop_zero] at e0
  simp only [cutAt, List.drop_zero, Nat.zero_add, Nat.reduceAdd, e0, e1] at hc
  refine ⟨zxze, zxzi, zsg, hc, hzxze, hzxzi, hzsg⟩
theorem open_sx {base : Nat} {v : Value} {d : DataW H} {p : List MemPlace} (hv : Value.okWide Tryd.prog W .any base 52 v) (h : DataW.Trod enc Tryd.prog W b0 sp held 52 v d p) : ∃ (zxze : Nat) (zxzi : Nat) (zsg : List Nat), v = .agg (sxC zxze zxzi zsg).toArray ∧ zxze < 18446744073709551616 ∧ zxzi < 18446744073709551616 ∧ Rt zsg := by
  obtain ⟨cs, rfl, _⟩ := okWide_struct Tryd.underlying52 hv
  obtain ⟨fuel, hf⟩ := h
  obtain ⟨zxze, zxzi, zsg, e, hzxze, hzxzi, hzsg⟩ := sx_of_trod hf
  exact ⟨zxze, zxzi, zsg, by rw [← Array.toList_inj.1 (show cs.toList = (sxC zxze zxzi zsg).toArray.toList from e)], hzxze, hzxzi, hzsg⟩
theorem cells_va : Tryd.prog.cellsOf 57 = 70 := by kernel_rfl
theorem va_of_trod {fuel : Nat} {cs : List Value} {x : DataW H × List MemPlace} (h : DataW.trod enc Tryd.prog W b0 sp held fuel 57 cs = some x) : ∃ (zk : List Nat) (zcr : List Nat) (zef : Nat) (zsl : Bool) (zel : Nat) (zac : Nat) (zxi : Nat) (zwi : Nat), cs = vaC zk zcr zef zsl zel zac zxi zwi ∧ Rt zk ∧ Rt zcr ∧ zef < 18446744073709551616 ∧ zel < 18446744073709551616 ∧ zac < 18446744073709551616 ∧ zxi < 18446744073709551616 ∧ zwi < 18446744073709551616 := by
  obtain ⟨xs, n, _, _, hl, hlen, hf⟩ := DataW.trod_struct Tryd.underlying57 h
  rw [cells_va] at hl
  have hx : xs.length = 8 := hlen
  have f0 : ∃ y, DataW.trod enc Tryd.prog W b0 sp held n 24 ((cs.drop 0).take 32) = some y := by
    have := hf 0 _ rfl
    change DataW.trod enc Tryd.prog W b0 sp held n 24 (List.take (Tryd.prog.cellsOf 24) (List.drop 0 cs)) = xs[0]? at this
    rw [cellsRt, List.getElem?_eq_getElem (by omega)] at this
    exact ⟨_, this⟩
  obtain ⟨y0, f0⟩ := f0
  obtain ⟨zk, e0, hzk⟩ := root_of_trod f0
  have f1 : ∃ y, DataW.trod enc Tryd.prog W b0 sp held n 24 ((cs.drop 32).take 32) = some y := by
    have := hf 1 _ rfl
    change DataW.trod enc Tryd.prog W b0 sp held n 24 (List.take (Tryd.prog.cellsOf 24) (List.drop 32 cs)) = xs[1]? at this
    rw [cellsRt, List.getElem?_eq_getElem (by omega)] at this
    exact ⟨_, this⟩
  obtain ⟨y1, f1⟩ := f1
  obtain ⟨zcr, e1, hzcr⟩ := root_of_trod f1
  have f2 : ∃ y, DataW.trod enc Tryd.prog W b0 sp held n 22 ((cs.drop 64).take 1) = some y := by
    have := hf 2 _ rfl
    change DataW.trod enc Tryd.prog W b0 sp held n 22 (List.take (Tryd.prog.cellsOf 22) (List.drop 64 cs)) = xs[2]? at this
    rw [cellsU64, List.getElem?_eq_getElem (by omega)] at this
    exact ⟨_, this⟩
  obtain ⟨y2, f2⟩ := f2
  obtain ⟨zef, e2, hzef⟩ := num_of_trod f2
  have f3 : ∃ y, DataW.trod enc Tryd.prog W b0 sp held n 4 ((cs.drop 65).take 1) = some y := by
    have := hf 3 _ rfl
    change DataW.trod enc Tryd.prog W b0 sp held n 4 (List.take (Tryd.prog.cellsOf 4) (List.drop 65 cs)) = xs[3]? at this
    rw [cellsBo, List.getElem?_eq_getElem (by omega)] at this
    exact ⟨_, this⟩
  obtain ⟨y3, f3⟩ := f3
  obtain ⟨zsl, e3⟩ := bool_of_trod f3
  have f4 : ∃ y, DataW.trod enc Tryd.prog W b0 sp held n 22 ((cs.drop 66).take 1) = some y := by
    have := hf 4 _ rfl
    change DataW.trod enc Tryd.prog W b0 sp held n 22 (List.take (Tryd.prog.cellsOf 22) (List.drop 66 cs)) = xs[4]? at this
    rw [cellsU64, List.getElem?_eq_getElem (by omega)] at this
    exact ⟨_, this⟩
  obtain ⟨y4, f4⟩ := f4
  obtain ⟨zel, e4, hzel⟩ := num_of_trod f4
  have f5 : ∃ y, DataW.trod enc Tryd.prog W b0 sp held n 22 ((cs.drop 67).take 1) = some y := by
    have := hf 5 _ rfl
    change DataW.trod enc Tryd.prog W b0 sp held n 22 (List.take (Tryd.prog.cellsOf 22) (List.drop 67 cs)) = xs[5]? at this
    rw [cellsU64, List.getElem?_eq_getElem (by omega)] at this
    exact ⟨_, this⟩
  obtain ⟨y5, f5⟩ := f5
  obtain ⟨zac, e5, hzac⟩ := num_of_trod f5
  have f6 : ∃ y, DataW.trod enc Tryd.prog W b0 sp held n 22 ((cs.drop 68).take 1) = some y := by
    have := hf 6 _ rfl
    change DataW.trod enc Tryd.prog W b0 sp held n 22 (List.take (Tryd.prog.cellsOf 22) (List.drop 68 cs)) = xs[6]? at this
    rw [cellsU64, List.getElem?_eq_getElem (by omega)] at this
    exact ⟨_, this⟩
  obtain ⟨y6, f6⟩ := f6
  obtain ⟨zxi, e6, hzxi⟩ := num_of_trod f6
  have f7 : ∃ y, DataW.trod enc Tryd.prog W b0 sp held n 22 ((cs.drop 69).take 1) = some y := by
    have := hf 7 _ rfl
    change DataW.trod enc Tryd.prog W b0 sp held n 22 (List.take (Tryd.prog.cellsOf 22) (List.drop 69 cs)) = xs[7]? at this
    rw [cellsU64, List.getElem?_eq_getElem (by omega)] at this
    exact ⟨_, this⟩
  obtain ⟨y7, f7⟩ := f7
  obtain ⟨zwi, e7, hzwi⟩ := num_of_trod f7
  have hc := cut_flat cs [32, 32, 1, 1, 1, 1, 1, 1] 0 (by rw [hl]; rfl)
  rw [List.drop_zero] at e0
  simp only [cutAt, List.drop_zero, Nat.zero_add, Nat.reduceAdd, e0, e1, e2, e3, e4, e5, e6, e7] at hc
  refine ⟨zk, zcr, zef, zsl, zel, zac, zxi, zwi, hc, hzk, hzcr, hzef, hzel, hzac, hzxi, hzwi⟩
theorem open_va {base : Nat} {v : Value} {d : DataW H} {p : List MemPlace} (hv : Value.okWide Tryd.prog W .any base 57 v) (h : DataW.Trod enc Tryd.prog W b0 sp held 57 v d p) : ∃ (zk : List Nat) (zcr : List Nat) (zef : Nat) (zsl : Bool) (zel : Nat) (zac : Nat) (zxi : Nat) (zwi : Nat), v = .agg (vaC zk zcr zef zsl zel zac zxi zwi).toArray ∧ Rt zk ∧ Rt zcr ∧ zef < 18446744073709551616 ∧ zel < 18446744073709551616 ∧ zac < 18446744073709551616 ∧ zxi < 18446744073709551616 ∧ zwi < 18446744073709551616 := by
  obtain ⟨cs, rfl, _⟩ := okWide_struct Tryd.underlying57 hv
  obtain ⟨fuel, hf⟩ := h
  obtain ⟨zk, zcr, zef, zsl, zel, zac, zxi, zwi, e, hzk, hzcr, hzef, hzel, hzac, hzxi, hzwi⟩ := va_of_trod hf
  exact ⟨zk, zcr, zef, zsl, zel, zac, zxi, zwi, by rw [← Array.toList_inj.1 (show cs.toList = (vaC zk zcr zef zsl zel zac zxi zwi).toArray.toList from e)], hzk, hzcr, hzef, hzel, hzac, hzxi, hzwi⟩
end
end Go.Proofs.YtakdokccdkhcoaaDoor

/- The document's value of a struct (Header). -/
namespace Go.Proofs.YtakdokccdkhcoaaDoor
open Go.RowKit Go.Shelf
set_option linter.unusedVariables false
set_option linter.unusedSimpArgs false
set_option maxRecDepth 100000

def hdV (zs : Nat) (zp : Nat) (zpa : List Nat) (zst : List Nat) (zbo : List Nat) : Vt := .mk 0 (zeros 32) [] [.mk zs (zeros 32) [] [], .mk zp (zeros 32) [] [], .mk 0 zpa [] [], .mk 0 zst [] [], .mk 0 zbo [] []]
theorem hdV_wide (zs : Nat) (zp : Nat) (zpa : List Nat) (zst : List Nat) (zbo : List Nat) : wide (hdV zs zp zpa zst zbo) := by simp [hdV, wide, wideK]
set_option maxHeartbeats 2000000 in
theorem hdV_any (zs : Nat) (zp : Nat) (zpa : List Nat) (zst : List Nat) (zbo : List Nat) (hzs : zs < 18446744073709551616) (hzp : zp < 18446744073709551616) (hzpa : Rt zpa) (hzst : Rt zst) (hzbo : Rt zbo) (w : World) : Calls Tryd.prog 17 #[.agg (hdC zs zp zpa zst zbo).toArray] w fun x w' => ∃ v, x = .returned v ∧ IsV w' v (hdV zs zp zpa zst zbo) ∧ Below w.heap.size w w' := by
  go_enter Tryd.func17, Tryd.ntmps17
  go_wp2_with ((with_reducible refine at_list' ?_); first
    | (refine wpList_box_c rfl 1 rfl (.tmp 0) rfl (hdC zs zp zpa zst zbo) rfl ?_; intro w1 H1 B1 S1)
    | (refine wpList_alloc_c Tryd.ty37 rfl 2 rfl rfl ?_; intro w2 H2 B2 S2; rw [S1] at H2 S2; rw [S1]))
  have HX := hid (H1.keep B2)
  have HY := hid H2
  have HB := hid (B1.trans (B2.mono (by omega)))
  have s2 : w2.heap.size = w.heap.size + 2 := by omega
  clear H1 B1 S1 H2 B2 S2
  try simp only [Act.put, List.setIfInBounds_toArray, List.set_cons_succ, List.set_cons_zero]
  refine wp_region_flow 17 17 (fun i v wq => match i with
    | 0 => v = .pointer (some ⟨w.heap.size, 0, none⟩)
    | 1 => v = .int .u64 (zs : Nat)
    | 2 => IsV wq v (.mk zs (zeros 32) [] [])
    | 3 => v = .pointer (some ⟨w.heap.size, 1, none⟩)
    | 4 => v = .int .u64 (zp : Nat)
    | 5 => IsV wq v (.mk zp (zeros 32) [] [])
    | 6 => v = .pointer (some ⟨w.heap.size, 2, none⟩)
    | 7 => v = .agg (nums .u8 zpa)
    | 8 => IsV wq v (.mk 0 zpa [] [])
    | 9 => v = .pointer (some ⟨w.heap.size, 34, none⟩)
    | 10 => v = .agg (nums .u8 zst)
    | 11 => IsV wq v (.mk 0 zst [] [])
    | 12 => v = .pointer (some ⟨w.heap.size, 66, none⟩)
    | 13 => v = .agg (nums .u8 zbo)
    | 14 => IsV wq v (.mk 0 zbo [] [])
    | 15 => ∃ b, v = .slice (some ⟨b, 0, none⟩) 5 5 ∧ KsAt wq [.mk zs (zeros 32) [] [], .mk zp (zeros 32) [] [], .mk 0 zpa [] [], .mk 0 zst [] [], .mk 0 zbo [] []] b 0
    | _ => ∃ b, v = .agg (valL 0 (zeros 32) nilS (.slice (some ⟨b, 0, none⟩) 5 5)).toArray ∧ KsAt wq [.mk zs (zeros 32) [] [], .mk zp (zeros 32) [] [], .mk 0 zpa [] [], .mk 0 zst [] [], .mk 0 zbo [] []] b 0) (by kernel_rfl) (by kernel_rfl) (fun _ d _ _ _ h => by cases d <;> exact h) ?_ ?_ ?_ ?_
  · intro i v wq wq' hi hv hb
    match i, hi with
    | 0, _ => exact hv
    | 1, _ => exact hv
    | 2, _ => exact hv.keep hb
    | 3, _ => exact hv
    | 4, _ => exact hv
    | 5, _ => exact hv.keep hb
    | 6, _ => exact hv
    | 7, _ => exact hv
    | 8, _ => exact hv.keep hb
    | 9, _ => exact hv
    | 10, _ => exact hv
    | 11, _ => exact hv.keep hb
    | 12, _ => exact hv
    | 13, _ => exact hv
    | 14, _ => exact hv.keep hb
    | 15, _ => obtain ⟨b, h1, h2⟩ := hv; exact ⟨b, h1, KsAt.keep hb _ h2⟩
    | 16, _ => obtain ⟨b, h1, h2⟩ := hv; exact ⟨b, h1, KsAt.keep hb _ h2⟩
    | (k + 17), hk => exact absurd hk (by omega)
  · intro i o hi ho aq wq hc hk hdep
    match i, hi with
    | 0, _ =>
      cases ho
      have e1 : aq.tmps.getD 1 undef = .pointer (some ⟨w.heap.size, 0, none⟩) := hk 1 (by decide)
      exact flow_value _ (run_fieldAt 40 (.tmp 1) 0 rfl _ _ e1 (by kernel_rfl)) rfl
    | 1, _ =>
      cases ho
      have e0 : aq.tmps.getD 3 undef = .pointer (some ⟨w.heap.size, 0, none⟩) := hdep 0 3 rfl (by kernel_rfl)
      exact flow_value _ (run_cell 22 (.tmp 3) rfl _ e0 _ ((HX.out.keep (hcB hc)).cell (seg (ps := hdP zs zp zpa zst zbo) (i := 0) (off := 0) rfl (by simp [hdP, cellsB_length, hzpa.len, hzst.len, hzbo.len]) 0 _ rfl)) _ Tryd.underlying22 rfl) rfl
    | 2, _ =>
      cases ho
      have e0 : aq.tmps.getD 4 undef = .int .u64 (zs : Nat) := hdep 1 4 rfl (by kernel_rfl)
      refine flow_fun 45 _ _ rfl (fun _ _ => by simp [go_sem]) #[.int .u64 (zs : Nat)] (by rw [show (#[Operand.tmp 4] : Array Operand).map aq.eval = #[aq.tmps.getD 4 undef] from by simp [Act.eval], e0]) ?_
      refine (n_any zs wq).mono ?_
      rintro x w' ⟨rfl, q⟩
      exact ⟨_, rfl, IsV.leaf w' hzs zeros32 (zeros_byte 32), q⟩
    | 3, _ =>
      cases ho
      have e1 : aq.tmps.getD 1 undef = .pointer (some ⟨w.heap.size, 0, none⟩) := hk 1 (by decide)
      exact flow_value _ (run_fieldAt 40 (.tmp 1) 1 rfl _ _ e1 (by kernel_rfl)) rfl
    | 4, _ =>
      cases ho
      have e0 : aq.tmps.getD 6 undef = .pointer (some ⟨w.heap.size, 1, none⟩) := hdep 3 6 rfl (by kernel_rfl)
      exact flow_value _ (run_cell 22 (.tmp 6) rfl _ e0 _ ((HX.out.keep (hcB hc)).cell (seg (ps := hdP zs zp zpa zst zbo) (i := 1) (off := 1) rfl (by simp [hdP, cellsB_length, hzpa.len, hzst.len, hzbo.len]) 0 _ rfl)) _ Tryd.underlying22 rfl) rfl
    | 5, _ =>
      cases ho
      have e0 : aq.tmps.getD 7 undef = .int .u64 (zp : Nat) := hdep 4 7 rfl (by kernel_rfl)
      refine flow_fun 45 _ _ rfl (fun _ _ => by simp [go_sem]) #[.int .u64 (zp : Nat)] (by rw [show (#[Operand.tmp 7] : Array Operand).map aq.eval = #[aq.tmps.getD 7 undef] from by simp [Act.eval], e0]) ?_
      refine (n_any zp wq).mono ?_
      rintro x w' ⟨rfl, q⟩
      exact ⟨_, rfl, IsV.leaf w' hzp zeros32 (zeros_byte 32), q⟩
    | 6, _ =>
      cases ho
      have e1 : aq.tmps.getD 1 undef = .pointer (some ⟨w.heap.size, 0, none⟩) := hk 1 (by decide)
      exact flow_value _ (run_fieldAt 40 (.tmp 1) 2 rfl _ _ e1 (by kernel_rfl)) rfl
    | 7, _ =>
      cases ho
      have e0 : aq.tmps.getD 9 undef = .pointer (some ⟨w.heap.size, 2, none⟩) := hdep 6 9 rfl (by kernel_rfl)
      exact flow_value _ (run_mid 24 (.tmp 9) rfl w.heap.size 2 e0 (cellsB zpa) ((HX.out.keep (hcB hc)).range 2 (cellsB zpa) (seg (ps := hdP zs zp zpa zst zbo) (i := 2) (off := 2) rfl (by simp [hdP, cellsB_length, hzpa.len, hzst.len, hzbo.len]))) _ Tryd.und24 rfl (by rw [cellsB_length, hzpa.len]; exact Tryd.size24)) rfl
    | 8, _ =>
      cases ho
      have e0 : aq.tmps.getD 10 undef = .agg (nums .u8 zpa) := hdep 7 10 rfl (by kernel_rfl)
      refine flow_fun 46 _ _ rfl (fun _ _ => by simp [go_sem]) #[.agg (nums .u8 zpa)] (by rw [show (#[Operand.tmp 10] : Array Operand).map aq.eval = #[aq.tmps.getD 10 undef] from by simp [Act.eval], e0]) ?_
      refine (r_any zpa hzpa.len wq).mono ?_
      rintro x w' ⟨rfl, q⟩
      exact ⟨_, rfl, IsV.leaf w' (by decide) hzpa.len hzpa.byte, q⟩
    | 9, _ =>
      cases ho
      have e1 : aq.tmps.getD 1 undef = .pointer (some ⟨w.heap.size, 0, none⟩) := hk 1 (by decide)
      exact flow_value _ (run_fieldAt 40 (.tmp 1) 3 rfl _ _ e1 (by kernel_rfl)) rfl
    | 10, _ =>
      cases ho
      have e0 : aq.tmps.getD 12 undef = .pointer (some ⟨w.heap.size, 34, none⟩) := hdep 9 12 rfl (by kernel_rfl)
      exact flow_value _ (run_mid 24 (.tmp 12) rfl w.heap.size 34 e0 (cellsB zst) ((HX.out.keep (hcB hc)).range 34 (cellsB zst) (seg (ps := hdP zs zp zpa zst zbo) (i := 3) (off := 34) rfl (by simp [hdP, cellsB_length, hzpa.len, hzst.len, hzbo.len]))) _ Tryd.und24 rfl (by rw [cellsB_length, hzst.len]; exact Tryd.size24)) rfl
    | 11, _ =>
      cases ho
      have e0 : aq.tmps.getD 13 undef = .agg (nums .u8 zst) := hdep 10 13 rfl (by kernel_rfl)
      refine flow_fun 46 _ _ rfl (fun _ _ => by simp [go_sem]) #[.agg (nums .u8 zst)] (by rw [show (#[Operand.tmp 13] : Array Operand).map aq.eval = #[aq.tmps.getD 13 undef] from by simp [Act.eval], e0]) ?_
      refine (r_any zst hzst.len wq).mono ?_
      rintro x w' ⟨rfl, q⟩
      exact ⟨_, rfl, IsV.leaf w' (by decide) hzst.len hzst.byte, q⟩
    | 12, _ =>
      cases ho
      have e1 : aq.tmps.getD 1 undef = .pointer (some ⟨w.heap.size, 0, none⟩) := hk 1 (by decide)
      exact flow_value _ (run_fieldAt 40 (.tmp 1) 4 rfl _ _ e1 (by kernel_rfl)) rfl
    | 13, _ =>
      cases ho
      have e0 : aq.tmps.getD 15 undef = .pointer (some ⟨w.heap.size, 66, none⟩) := hdep 12 15 rfl (by kernel_rfl)
      exact flow_value _ (run_mid 24 (.tmp 15) rfl w.heap.size 66 e0 (cellsB zbo) ((HX.out.keep (hcB hc)).range 66 (cellsB zbo) (seg (ps := hdP zs zp zpa zst zbo) (i := 4) (off := 66) rfl (by simp [hdP, cellsB_length, hzpa.len, hzst.len, hzbo.len]))) _ Tryd.und24 rfl (by rw [cellsB_length, hzbo.len]; exact Tryd.size24)) rfl
    | 14, _ =>
      cases ho
      have e0 : aq.tmps.getD 16 undef = .agg (nums .u8 zbo) := hdep 13 16 rfl (by kernel_rfl)
      refine flow_fun 46 _ _ rfl (fun _ _ => by simp [go_sem]) #[.agg (nums .u8 zbo)] (by rw [show (#[Operand.tmp 16] : Array Operand).map aq.eval = #[aq.tmps.getD 16 undef] from by simp [Act.eval], e0]) ?_
      refine (r_any zbo hzbo.len wq).mono ?_
      rintro x w' ⟨rfl, q⟩
      exact ⟨_, rfl, IsV.leaf w' (by decide) hzbo.len hzbo.byte, q⟩
    | 15, _ =>
      cases ho
      obtain ⟨sb0, sk0, e0, h0_⟩ := hdep 2 5 rfl (by kernel_rfl)
      obtain ⟨sb1, sk1, e1, h1_⟩ := hdep 5 8 rfl (by kernel_rfl)
      obtain ⟨sb2, sk2, e2, h2_⟩ := hdep 8 11 rfl (by kernel_rfl)
      obtain ⟨sb3, sk3, e3, h3_⟩ := hdep 11 14 rfl (by kernel_rfl)
      obtain ⟨sb4, sk4, e4, h4_⟩ := hdep 14 17 rfl (by kernel_rfl)
      refine flow_rowsB 35 37 5 35 _ rfl Tryd.underlying35 valInfo [valL zs (zeros 32) sb0 sk0, valL zp (zeros 32) sb1 sk1, valL 0 zpa sb2 sk2, valL 0 zst sb3 sk3, valL 0 zbo sb4 sk4] [.tmp 5, .tmp 8, .tmp 11, .tmp 14, .tmp 17] rfl (by rw [show [Operand.tmp 5, Operand.tmp 8, Operand.tmp 11, Operand.tmp 14, Operand.tmp 17].map aq.eval = [aq.tmps.getD 5 undef, aq.tmps.getD 8 undef, aq.tmps.getD 11 undef, aq.tmps.getD 14 undef, aq.tmps.getD 17 undef] from rfl, e0, e1, e2, e3, e4]; rfl) (by simp [valL_length, zeros32, hzpa.len, hzst.len, hzbo.len]) rfl (by decide) (by decide) (by decide) (fun w' h hb => ⟨_, rfl, ksAt_of h [(.mk zs (zeros 32) [] [], sb0, sk0), (.mk zp (zeros 32) [] [], sb1, sk1), (.mk 0 zpa [] [], sb2, sk2), (.mk 0 zst [] [], sb3, sk3), (.mk 0 zbo [] [], sb4, sk4)] 0 (fun j v hj => by rw [Nat.zero_add]; exact hj) (fun x hx => ?_)⟩)
      simp only [List.mem_cons, List.not_mem_nil, or_false] at hx
      rcases hx with rfl | rfl | rfl | rfl | rfl
      · exact VAt.keep hb _ h0_
      · exact VAt.keep hb _ h1_
      · exact VAt.keep hb _ h2_
      · exact VAt.keep hb _ h3_
      · exact VAt.keep hb _ h4_
    | 16, _ =>
      cases ho
      obtain ⟨b, e6, h6⟩ := hdep 15 18 rfl (by kernel_rfl)
      refine flow_fun 44 _ _ rfl (fun _ _ => by simp [go_sem]) #[.slice (some ⟨b, 0, none⟩) 5 5] (by rw [show (#[Operand.tmp 18] : Array Operand).map aq.eval = #[aq.tmps.getD 18 undef] from by simp [Act.eval], e6]) ?_
      refine (all_any (some ⟨b, 0, none⟩) 5 5 wq).mono ?_
      rintro x w' ⟨rfl, q⟩
      exact ⟨_, rfl, ⟨b, rfl, KsAt.keep q _ h6⟩, q⟩
    | (k + 17), hk => exact absurd hk (by omega)
  · intro o h17 ho
    omega
  intro vf w8 hc hv
  have e7 : ∃ b, vf 16 = _ ∧ KsAt w8 _ b 0 := hv 16 19 (by decide) rfl
  obtain ⟨b, e7, h7⟩ := e7
  have B8 := HB.out.trans ((hcB hc).mono (by omega))
  have H8v := HY.out.keep (hcB hc)
  have s8 := (hcB hc).size
  clear hv hc
  simp only [List.take_succ_cons, List.take_zero, List.drop_succ_cons, List.drop_zero, putAll, Act.put, List.setIfInBounds_toArray, List.set_cons_succ, List.set_cons_zero]
  rw [e7]
  have HB8 := hid B8
  have HK := hid h7
  clear B8 h7 e7 HB
  go_wp2_with ((with_reducible refine at_list' ?_); first
    | (refine wpList_store_c Tryd.ty37 rfl (.tmp 2) (.tmp 19) rfl (w.heap.size + 1) (valL 0 (zeros 32) nilS (.slice (some ⟨b, 0, none⟩) 5 5)) rfl rfl rfl (valL_oneC _ _ _ _ trivial trivial) _ H8v rfl ?_; intro w9 H9 O9))
  refine bodyPost_ret (results_c1 Tryd.ty37 rfl _ w9 (w.heap.size + 1) _ rfl H9 rfl) rfl ⟨_, rfl, ⟨nilS, _, rfl, ?_⟩, below_only HB8.out O9 (by omega)⟩
  exact VAt.aside H8v rfl O9 (hdV zs zp zpa zst zbo) (hdV_wide zs zp zpa zst zbo) (isV_all (ks := [.mk zs (zeros 32) [] [], .mk zp (zeros 32) [] [], .mk 0 zpa [] [], .mk 0 zst [] [], .mk 0 zbo [] []]) rfl (by decide) HK.out)
end Go.Proofs.YtakdokccdkhcoaaDoor

/- RootHeaders answers true for every value. -/
namespace Go.Proofs.YtakdokccdkhcoaaDoor
open Go.RowKit Go.Shelf
set_option linter.unusedVariables false
set_option linter.unusedSimpArgs false
set_option maxRecDepth 100000

theorem hdD_root (zs : Nat) (zp : Nat) (zpa : List Nat) (zst : List Nat) (zbo : List Nat) : rootV hdD (hdV zs zp zpa zst zbo) = hdR zs zp zpa zst zbo := by
  simp only [hdD, hdV, dBox, dNum, dRoot, dTruth, hdR, rootV, rootsV]
  simp
theorem hdD_ok (zs : Nat) (zp : Nat) (zpa : List Nat) (zst : List Nat) (zbo : List Nat) : okR hdD (hdV zs zp zpa zst zbo) := by
  simp [hdD, hdV, dBox, dNum, dRoot, dTruth, okR, okRs]
set_option maxHeartbeats 2000000 in
theorem hd_walk (zs : Nat) (zp : Nat) (zpa : List Nat) (zst : List Nat) (zbo : List Nat) (hzs : zs < 18446744073709551616) (hzp : zp < 18446744073709551616) (hzpa : Rt zpa) (hzst : Rt zst) (hzbo : Rt zbo) (w : World) (hT : Tabs w) : Calls Tryd.prog 5 #[.agg (hdC zs zp zpa zst zbo).toArray] w fun e w' => e = .returned (.bool true) ∧ Below w.heap.size w w' := by
  have hR1 := hdR_rt zs zp zpa zst zbo hzpa hzst hzbo
  have HE := hid (hdD_root zs zp zpa zst zbo)
  have HO := hid (hdD_ok zs zp zpa zst zbo)
  obtain ⟨R1, HR⟩ : ∃ R, Hid (hdR zs zp zpa zst zbo = R) := ⟨_, hid rfl⟩
  rw [HR.out] at hR1 HE
  go_enter Tryd.func5, Tryd.ntmps5
  go_wp2_with ((with_reducible refine at_list' ?_); first
    | (refine wpList_box_c rfl 1 rfl (.tmp 0) rfl (hdC zs zp zpa zst zbo) rfl ?_; intro w1 H1 B1 S1))
  refine (awake_any w1 (hT.keep B1)).mono ?_
  rintro e w2 ⟨rfl, B2⟩
  have HX := hid (H1.keep B2)
  have HB := hid (B1.trans (B2.mono B1.size))
  have HT := hid (hT.keep HB.out)
  clear H1 B1 S1 B2
  go_wp2_with fail
  try simp only [Act.put, List.setIfInBounds_toArray, List.set_cons_succ, List.set_cons_zero]
  refine wp_region_flow 7 7 (fun i v wq => match i with
    | 0 => v = .agg (hdC zs zp zpa zst zbo).toArray
    | 1 => v = .agg (nums .u8 R1)
    | 2 => ∃ p, v = .pointer (some ⟨p, 0, none⟩) ∧ DAt wq hdD p
    | 3 => v = .agg (hdC zs zp zpa zst zbo).toArray
    | 4 => IsV wq v (hdV zs zp zpa zst zbo)
    | 5 => v = .agg (nums .u8 R1)
    | _ => v = .bool true) (by kernel_rfl) (by kernel_rfl) (fun _ d _ _ _ h => by cases d <;> exact h) ?_ ?_ ?_ ?_
  · intro i v wq wq' hi hv hb
    match i, hi with
    | 0, _ => exact hv
    | 1, _ => exact hv
    | 2, _ => obtain ⟨p, h1, h2⟩ := hv; exact ⟨p, h1, DAt.keep hb _ h2⟩
    | 3, _ => exact hv
    | 4, _ => exact hv.keep hb
    | 5, _ => exact hv
    | 6, _ => exact hv
    | (k + 7), hk => exact absurd hk (by omega)
  · intro i o hi ho aq wq hc hk hdep
    match i, hi with
    | 0, _ =>
      cases ho
      have e1 : aq.tmps.getD 1 undef = .pointer (some ⟨w.heap.size, 0, none⟩) := hk 1 (by decide)
      exact flow_value _ (run_mid 40 (.tmp 1) rfl w.heap.size 0 e1 (hdC zs zp zpa zst zbo) ((HX.out.keep (hcB hc)).range 0 (hdC zs zp zpa zst zbo) (fun j v hv => by rw [Nat.zero_add]; exact hv)) _ Tryd.underlying40 rfl (by rw [hdC_length zs zp zpa zst zbo hzpa.len hzst.len hzbo.len]; kernel_rfl)) rfl
    | 1, _ =>
      cases ho
      have e0 : aq.tmps.getD 5 undef = .agg (hdC zs zp zpa zst zbo).toArray := hdep 0 5 rfl (by kernel_rfl)
      refine flow_fun 15 _ _ rfl (fun _ _ => by simp [go_sem]) #[.agg (hdC zs zp zpa zst zbo).toArray] (by rw [show (#[Operand.tmp 5] : Array Operand).map aq.eval = #[aq.tmps.getD 5 undef] from by simp [Act.eval], e0]) ?_
      refine (hdR_any zs zp zpa zst zbo hzs hzp hzpa hzst hzbo wq (HT.out.keep (hcB hc))).mono ?_
      rintro x w' ⟨rfl, q⟩
      exact ⟨_, rfl, (by rw [← HR.out]; rfl), q⟩
    | 2, _ =>
      cases ho
      refine flow_fun 16 _ _ rfl (fun _ _ => by simp [go_sem]) #[] (by simp) ?_
      refine (hdD_any wq).mono ?_
      rintro x w' ⟨p, rfl, h1, q⟩
      exact ⟨_, rfl, ⟨p, rfl, h1⟩, q⟩
    | 3, _ =>
      cases ho
      have e1 : aq.tmps.getD 1 undef = .pointer (some ⟨w.heap.size, 0, none⟩) := hk 1 (by decide)
      exact flow_value _ (run_mid 40 (.tmp 1) rfl w.heap.size 0 e1 (hdC zs zp zpa zst zbo) ((HX.out.keep (hcB hc)).range 0 (hdC zs zp zpa zst zbo) (fun j v hv => by rw [Nat.zero_add]; exact hv)) _ Tryd.underlying40 rfl (by rw [hdC_length zs zp zpa zst zbo hzpa.len hzst.len hzbo.len]; kernel_rfl)) rfl
    | 4, _ =>
      cases ho
      have e0 : aq.tmps.getD 8 undef = .agg (hdC zs zp zpa zst zbo).toArray := hdep 3 8 rfl (by kernel_rfl)
      refine flow_fun 17 _ _ rfl (fun _ _ => by simp [go_sem]) #[.agg (hdC zs zp zpa zst zbo).toArray] (by rw [show (#[Operand.tmp 8] : Array Operand).map aq.eval = #[aq.tmps.getD 8 undef] from by simp [Act.eval], e0]) ?_
      refine (hdV_any zs zp zpa zst zbo hzs hzp hzpa hzst hzbo wq).mono ?_
      rintro x w' ⟨v, rfl, h1, q⟩
      exact ⟨v, rfl, h1, q⟩
    | 5, _ =>
      cases ho
      obtain ⟨p, e0, h0⟩ := hdep 2 7 rfl (by kernel_rfl)
      have h1 : IsV wq (aq.tmps.getD 9 undef) (hdV zs zp zpa zst zbo) := hdep 4 9 rfl (by kernel_rfl)
      refine flow_fun 12 _ _ rfl (fun _ _ => by simp [go_sem]) #[.pointer (some ⟨p, 0, none⟩), aq.tmps.getD 9 undef] (by rw [show (#[Operand.tmp 7, Operand.tmp 9] : Array Operand).map aq.eval = #[aq.tmps.getD 7 undef, aq.tmps.getD 9 undef] from by simp [Act.eval], e0]) ?_
      refine (rroot_any hdD (hdV zs zp zpa zst zbo) p _ wq HO.out h0 h1).mono ?_
      rintro x w' ⟨rfl, q⟩
      exact ⟨_, rfl, (by rw [HE.out]; rfl), q⟩
    | 6, _ =>
      cases ho
      have e0 : aq.tmps.getD 6 undef = .agg (nums .u8 R1) := hdep 1 6 rfl (by kernel_rfl)
      have e1 : aq.tmps.getD 10 undef = .agg (nums .u8 R1) := hdep 5 10 rfl (by kernel_rfl)
      exact flow_value _ (run_same_root (.tmp 6) (.tmp 10) rfl R1 hR1 e0 e1) rfl
    | (k + 7), hk => exact absurd hk (by omega)
  · intro o h7 ho
    omega
  intro vf w8 hc hv
  have e7 : vf 6 = _ := hv 6 11 (by decide) rfl
  have B8 := HB.out.trans ((hcB hc).mono HB.out.size)
  clear hv hc
  simp only [List.take_succ_cons, List.take_zero, List.drop_succ_cons, List.drop_zero, putAll, Act.put, List.setIfInBounds_toArray, List.set_cons_succ, List.set_cons_zero]
  rw [e7]
  have HB8 := hid B8
  clear B8 e7 HB HX HT
  go_wp2
  go_ret
  exact ⟨rfl, HB8.out⟩
end Go.Proofs.YtakdokccdkhcoaaDoor

/- The document's value of a struct (Vote). -/
namespace Go.Proofs.YtakdokccdkhcoaaDoor
open Go.RowKit Go.Shelf
set_option linter.unusedVariables false
set_option linter.unusedSimpArgs false
set_option maxRecDepth 100000

def vtV (zs : Nat) (zi : Nat) (zb : List Nat) (zcze : Nat) (zczr : List Nat) (ztze : Nat) (ztzr : List Nat) : Vt := .mk 0 (zeros 32) [] [.mk zs (zeros 32) [] [], .mk zi (zeros 32) [] [], .mk 0 zb [] [], cpV zcze zczr, cpV ztze ztzr]
theorem vtV_wide (zs : Nat) (zi : Nat) (zb : List Nat) (zcze : Nat) (zczr : List Nat) (ztze : Nat) (ztzr : List Nat) : wide (vtV zs zi zb zcze zczr ztze ztzr) := by simp [vtV, wide, wideK, cpV_wide, cpV_wide]
set_option maxHeartbeats 2000000 in
theorem vtV_any (zs : Nat) (zi : Nat) (zb : List Nat) (zcze : Nat) (zczr : List Nat) (ztze : Nat) (ztzr : List Nat) (hzs : zs < 18446744073709551616) (hzi : zi < 18446744073709551616) (hzb : Rt zb) (hzcze : zcze < 18446744073709551616) (hzczr : Rt zczr) (hztze : ztze < 18446744073709551616) (hztzr : Rt ztzr) (w : World) : Calls Tryd.prog 20 #[.agg (vtC zs zi zb zcze zczr ztze ztzr).toArray] w fun x w' => ∃ v, x = .returned v ∧ IsV w' v (vtV zs zi zb zcze zczr ztze ztzr) ∧ Below w.heap.size w w' := by
  go_enter Tryd.func20, Tryd.ntmps20
  go_wp2_with ((with_reducible refine at_list' ?_); first
    | (refine wpList_box_c rfl 1 rfl (.tmp 0) rfl (vtC zs zi zb zcze zczr ztze ztzr) rfl ?_; intro w1 H1 B1 S1)
    | (refine wpList_alloc_c Tryd.ty37 rfl 2 rfl rfl ?_; intro w2 H2 B2 S2; rw [S1] at H2 S2; rw [S1]))
  have HX := hid (H1.keep B2)
  have HY := hid H2
  have HB := hid (B1.trans (B2.mono (by omega)))
  have s2 : w2.heap.size = w.heap.size + 2 := by omega
  clear H1 B1 S1 H2 B2 S2
  try simp only [Act.put, List.setIfInBounds_toArray, List.set_cons_succ, List.set_cons_zero]
  refine wp_region_flow 17 17 (fun i v wq => match i with
    | 0 => v = .pointer (some ⟨w.heap.size, 0, none⟩)
    | 1 => v = .int .u64 (zs : Nat)
    | 2 => IsV wq v (.mk zs (zeros 32) [] [])
    | 3 => v = .pointer (some ⟨w.heap.size, 1, none⟩)
    | 4 => v = .int .u64 (zi : Nat)
    | 5 => IsV wq v (.mk zi (zeros 32) [] [])
    | 6 => v = .pointer (some ⟨w.heap.size, 2, none⟩)
    | 7 => v = .agg (nums .u8 zb)
    | 8 => IsV wq v (.mk 0 zb [] [])
    | 9 => v = .pointer (some ⟨w.heap.size, 34, none⟩)
    | 10 => v = .agg (cpC zcze zczr).toArray
    | 11 => IsV wq v (cpV zcze zczr)
    | 12 => v = .pointer (some ⟨w.heap.size, 67, none⟩)
    | 13 => v = .agg (cpC ztze ztzr).toArray
    | 14 => IsV wq v (cpV ztze ztzr)
    | 15 => ∃ b, v = .slice (some ⟨b, 0, none⟩) 5 5 ∧ KsAt wq [.mk zs (zeros 32) [] [], .mk zi (zeros 32) [] [], .mk 0 zb [] [], cpV zcze zczr, cpV ztze ztzr] b 0
    | _ => ∃ b, v = .agg (valL 0 (zeros 32) nilS (.slice (some ⟨b, 0, none⟩) 5 5)).toArray ∧ KsAt wq [.mk zs (zeros 32) [] [], .mk zi (zeros 32) [] [], .mk 0 zb [] [], cpV zcze zczr, cpV ztze ztzr] b 0) (by kernel_rfl) (by kernel_rfl) (fun _ d _ _ _ h => by cases d <;> exact h) ?_ ?_ ?_ ?_
  · intro i v wq wq' hi hv hb
    match i, hi with
    | 0, _ => exact hv
    | 1, _ => exact hv
    | 2, _ => exact hv.keep hb
    | 3, _ => exact hv
    | 4, _ => exact hv
    | 5, _ => exact hv.keep hb
    | 6, _ => exact hv
    | 7, _ => exact hv
    | 8, _ => exact hv.keep hb
    | 9, _ => exact hv
    | 10, _ => exact hv
    | 11, _ => exact hv.keep hb
    | 12, _ => exact hv
    | 13, _ => exact hv
    | 14, _ => exact hv.keep hb
    | 15, _ => obtain ⟨b, h1, h2⟩ := hv; exact ⟨b, h1, KsAt.keep hb _ h2⟩
    | 16, _ => obtain ⟨b, h1, h2⟩ := hv; exact ⟨b, h1, KsAt.keep hb _ h2⟩
    | (k + 17), hk => exact absurd hk (by omega)
  · intro i o hi ho aq wq hc hk hdep
    match i, hi with
    | 0, _ =>
      cases ho
      have e1 : aq.tmps.getD 1 undef = .pointer (some ⟨w.heap.size, 0, none⟩) := hk 1 (by decide)
      exact flow_value _ (run_fieldAt 45 (.tmp 1) 0 rfl _ _ e1 (by kernel_rfl)) rfl
    | 1, _ =>
      cases ho
      have e0 : aq.tmps.getD 3 undef = .pointer (some ⟨w.heap.size, 0, none⟩) := hdep 0 3 rfl (by kernel_rfl)
      exact flow_value _ (run_cell 22 (.tmp 3) rfl _ e0 _ ((HX.out.keep (hcB hc)).cell (seg (ps := vtP zs zi zb zcze zczr ztze ztzr) (i := 0) (off := 0) rfl (by simp [vtP, cellsB_length, hzb.len, hzczr.len, hztzr.len, cpC_length zcze zczr hzczr.len, cpC_length ztze ztzr hztzr.len]) 0 _ rfl)) _ Tryd.underlying22 rfl) rfl
    | 2, _ =>
      cases ho
      have e0 : aq.tmps.getD 4 undef = .int .u64 (zs : Nat) := hdep 1 4 rfl (by kernel_rfl)
      refine flow_fun 45 _ _ rfl (fun _ _ => by simp [go_sem]) #[.int .u64 (zs : Nat)] (by rw [show (#[Operand.tmp 4] : Array Operand).map aq.eval = #[aq.tmps.getD 4 undef] from by simp [Act.eval], e0]) ?_
      refine (n_any zs wq).mono ?_
      rintro x w' ⟨rfl, q⟩
      exact ⟨_, rfl, IsV.leaf w' hzs zeros32 (zeros_byte 32), q⟩
    | 3, _ =>
      cases ho
      have e1 : aq.tmps.getD 1 undef = .pointer (some ⟨w.heap.size, 0, none⟩) := hk 1 (by decide)
      exact flow_value _ (run_fieldAt 45 (.tmp 1) 1 rfl _ _ e1 (by kernel_rfl)) rfl
    | 4, _ =>
      cases ho
      have e0 : aq.tmps.getD 6 undef = .pointer (some ⟨w.heap.size, 1, none⟩) := hdep 3 6 rfl (by kernel_rfl)
      exact flow_value _ (run_cell 22 (.tmp 6) rfl _ e0 _ ((HX.out.keep (hcB hc)).cell (seg (ps := vtP zs zi zb zcze zczr ztze ztzr) (i := 1) (off := 1) rfl (by simp [vtP, cellsB_length, hzb.len, hzczr.len, hztzr.len, cpC_length zcze zczr hzczr.len, cpC_length ztze ztzr hztzr.len]) 0 _ rfl)) _ Tryd.underlying22 rfl) rfl
    | 5, _ =>
      cases ho
      have e0 : aq.tmps.getD 7 undef = .int .u64 (zi : Nat) := hdep 4 7 rfl (by kernel_rfl)
      refine flow_fun 45 _ _ rfl (fun _ _ => by simp [go_sem]) #[.int .u64 (zi : Nat)] (by rw [show (#[Operand.tmp 7] : Array Operand).map aq.eval = #[aq.tmps.getD 7 undef] from by simp [Act.eval], e0]) ?_
      refine (n_any zi wq).mono ?_
      rintro x w' ⟨rfl, q⟩
      exact ⟨_, rfl, IsV.leaf w' hzi zeros32 (zeros_byte 32), q⟩
    | 6, _ =>
      cases ho
      have e1 : aq.tmps.getD 1 undef = .pointer (some ⟨w.heap.size, 0, none⟩) := hk 1 (by decide)
      exact flow_value _ (run_fieldAt 45 (.tmp 1) 2 rfl _ _ e1 (by kernel_rfl)) rfl
    | 7, _ =>
      cases ho
      have e0 : aq.tmps.getD 9 undef = .pointer (some ⟨w.heap.size, 2, none⟩) := hdep 6 9 rfl (by kernel_rfl)
      exact flow_value _ (run_mid 24 (.tmp 9) rfl w.heap.size 2 e0 (cellsB zb) ((HX.out.keep (hcB hc)).range 2 (cellsB zb) (seg (ps := vtP zs zi zb zcze zczr ztze ztzr) (i := 2) (off := 2) rfl (by simp [vtP, cellsB_length, hzb.len, hzczr.len, hztzr.len, cpC_length zcze zczr hzczr.len, cpC_length ztze ztzr hztzr.len]))) _ Tryd.und24 rfl (by rw [cellsB_length, hzb.len]; exact Tryd.size24)) rfl
    | 8, _ =>
      cases ho
      have e0 : aq.tmps.getD 10 undef = .agg (nums .u8 zb) := hdep 7 10 rfl (by kernel_rfl)
      refine flow_fun 46 _ _ rfl (fun _ _ => by simp [go_sem]) #[.agg (nums .u8 zb)] (by rw [show (#[Operand.tmp 10] : Array Operand).map aq.eval = #[aq.tmps.getD 10 undef] from by simp [Act.eval], e0]) ?_
      refine (r_any zb hzb.len wq).mono ?_
      rintro x w' ⟨rfl, q⟩
      exact ⟨_, rfl, IsV.leaf w' (by decide) hzb.len hzb.byte, q⟩
    | 9, _ =>
      cases ho
      have e1 : aq.tmps.getD 1 undef = .pointer (some ⟨w.heap.size, 0, none⟩) := hk 1 (by decide)
      exact flow_value _ (run_fieldAt 45 (.tmp 1) 3 rfl _ _ e1 (by kernel_rfl)) rfl
    | 10, _ =>
      cases ho
      have e0 : aq.tmps.getD 12 undef = .pointer (some ⟨w.heap.size, 34, none⟩) := hdep 9 12 rfl (by kernel_rfl)
      exact flow_value _ (run_mid 26 (.tmp 12) rfl w.heap.size 34 e0 (cpC zcze zczr) ((HX.out.keep (hcB hc)).range 34 (cpC zcze zczr) (seg (ps := vtP zs zi zb zcze zczr ztze ztzr) (i := 3) (off := 34) rfl (by simp [vtP, cellsB_length, hzb.len, hzczr.len, hztzr.len, cpC_length zcze zczr hzczr.len, cpC_length ztze ztzr hztzr.len]))) _ Tryd.underlying26 rfl (by rw [cpC_length zcze zczr hzczr.len]; kernel_rfl)) rfl
    | 11, _ =>
      cases ho
      have e0 : aq.tmps.getD 13 undef = .agg (cpC zcze zczr).toArray := hdep 10 13 rfl (by kernel_rfl)
      refine flow_fun 14 _ _ rfl (fun _ _ => by simp [go_sem]) #[.agg (cpC zcze zczr).toArray] (by rw [show (#[Operand.tmp 13] : Array Operand).map aq.eval = #[aq.tmps.getD 13 undef] from by simp [Act.eval], e0]) ?_
      refine (cpV_any zcze zczr hzcze hzczr wq).mono ?_
      rintro x w' ⟨v, rfl, hv, q⟩
      exact ⟨v, rfl, hv, q⟩
    | 12, _ =>
      cases ho
      have e1 : aq.tmps.getD 1 undef = .pointer (some ⟨w.heap.size, 0, none⟩) := hk 1 (by decide)
      exact flow_value _ (run_fieldAt 45 (.tmp 1) 4 rfl _ _ e1 (by kernel_rfl)) rfl
    | 13, _ =>
      cases ho
      have e0 : aq.tmps.getD 15 undef = .pointer (some ⟨w.heap.size, 67, none⟩) := hdep 12 15 rfl (by kernel_rfl)
      exact flow_value _ (run_mid 26 (.tmp 15) rfl w.heap.size 67 e0 (cpC ztze ztzr) ((HX.out.keep (hcB hc)).range 67 (cpC ztze ztzr) (seg (ps := vtP zs zi zb zcze zczr ztze ztzr) (i := 4) (off := 67) rfl (by simp [vtP, cellsB_length, hzb.len, hzczr.len, hztzr.len, cpC_length zcze zczr hzczr.len, cpC_length ztze ztzr hztzr.len]))) _ Tryd.underlying26 rfl (by rw [cpC_length ztze ztzr hztzr.len]; kernel_rfl)) rfl
    | 14, _ =>
      cases ho
      have e0 : aq.tmps.getD 16 undef = .agg (cpC ztze ztzr).toArray := hdep 13 16 rfl (by kernel_rfl)
      refine flow_fun 14 _ _ rfl (fun _ _ => by simp [go_sem]) #[.agg (cpC ztze ztzr).toArray] (by rw [show (#[Operand.tmp 16] : Array Operand).map aq.eval = #[aq.tmps.getD 16 undef] from by simp [Act.eval], e0]) ?_
      refine (cpV_any ztze ztzr hztze hztzr wq).mono ?_
      rintro x w' ⟨v, rfl, hv, q⟩
      exact ⟨v, rfl, hv, q⟩
    | 15, _ =>
      cases ho
      obtain ⟨sb0, sk0, e0, h0_⟩ := hdep 2 5 rfl (by kernel_rfl)
      obtain ⟨sb1, sk1, e1, h1_⟩ := hdep 5 8 rfl (by kernel_rfl)
      obtain ⟨sb2, sk2, e2, h2_⟩ := hdep 8 11 rfl (by kernel_rfl)
      obtain ⟨sb3, sk3, e3, h3_⟩ := hdep 11 14 rfl (by kernel_rfl)
      obtain ⟨sb4, sk4, e4, h4_⟩ := hdep 14 17 rfl (by kernel_rfl)
      refine flow_rowsB 35 37 5 35 _ rfl Tryd.underlying35 valInfo [valL zs (zeros 32) sb0 sk0, valL zi (zeros 32) sb1 sk1, valL 0 zb sb2 sk2, valL 0 (zeros 32) sb3 sk3, valL 0 (zeros 32) sb4 sk4] [.tmp 5, .tmp 8, .tmp 11, .tmp 14, .tmp 17] rfl (by rw [show [Operand.tmp 5, Operand.tmp 8, Operand.tmp 11, Operand.tmp 14, Operand.tmp 17].map aq.eval = [aq.tmps.getD 5 undef, aq.tmps.getD 8 undef, aq.tmps.getD 11 undef, aq.tmps.getD 14 undef, aq.tmps.getD 17 undef] from rfl, e0, e1, e2, e3, e4]; rfl) (by simp [valL_length, zeros32, hzb.len]) rfl (by decide) (by decide) (by decide) (fun w' h hb => ⟨_, rfl, ksAt_of h [(.mk zs (zeros 32) [] [], sb0, sk0), (.mk zi (zeros 32) [] [], sb1, sk1), (.mk 0 zb [] [], sb2, sk2), (cpV zcze zczr, sb3, sk3), (cpV ztze ztzr, sb4, sk4)] 0 (fun j v hj => by rw [Nat.zero_add]; exact hj) (fun x hx => ?_)⟩)
      simp only [List.mem_cons, List.not_mem_nil, or_false] at hx
      rcases hx with rfl | rfl | rfl | rfl | rfl
      · exact VAt.keep hb _ h0_
      · exact VAt.keep hb _ h1_
      · exact VAt.keep hb _ h2_
      · exact VAt.keep hb _ h3_
      · exact VAt.keep hb _ h4_
    | 16, _ =>
      cases ho
      obtain ⟨b, e6, h6⟩ := hdep 15 18 rfl (by kernel_rfl)
      refine flow_fun 44 _ _ rfl (fun _ _ => by simp [go_sem]) #[.slice (some ⟨b, 0, none⟩) 5 5] (by rw [show (#[Operand.tmp 18] : Array Operand).map aq.eval = #[aq.tmps.getD 18 undef] from by simp [Act.eval], e6]) ?_
      refine (all_any (some ⟨b, 0, none⟩) 5 5 wq).mono ?_
      rintro x w' ⟨rfl, q⟩
      exact ⟨_, rfl, ⟨b, rfl, KsAt.keep q _ h6⟩, q⟩
    | (k + 17), hk => exact absurd hk (by omega)
  · intro o h17 ho
    omega
  intro vf w8 hc hv
  have e7 : ∃ b, vf 16 = _ ∧ KsAt w8 _ b 0 := hv 16 19 (by decide) rfl
  obtain ⟨b, e7, h7⟩ := e7
  have B8 := HB.out.trans ((hcB hc).mono (by omega))
  have H8v := HY.out.keep (hcB hc)
  have s8 := (hcB hc).size
  clear hv hc
  simp only [List.take_succ_cons, List.take_zero, List.drop_succ_cons, List.drop_zero, putAll, Act.put, List.setIfInBounds_toArray, List.set_cons_succ, List.set_cons_zero]
  rw [e7]
  have HB8 := hid B8
  have HK := hid h7
  clear B8 h7 e7 HB
  go_wp2_with ((with_reducible refine at_list' ?_); first
    | (refine wpList_store_c Tryd.ty37 rfl (.tmp 2) (.tmp 19) rfl (w.heap.size + 1) (valL 0 (zeros 32) nilS (.slice (some ⟨b, 0, none⟩) 5 5)) rfl rfl rfl (valL_oneC _ _ _ _ trivial trivial) _ H8v rfl ?_; intro w9 H9 O9))
  refine bodyPost_ret (results_c1 Tryd.ty37 rfl _ w9 (w.heap.size + 1) _ rfl H9 rfl) rfl ⟨_, rfl, ⟨nilS, _, rfl, ?_⟩, below_only HB8.out O9 (by omega)⟩
  exact VAt.aside H8v rfl O9 (vtV zs zi zb zcze zczr ztze ztzr) (vtV_wide zs zi zb zcze zczr ztze ztzr) (isV_all (ks := [.mk zs (zeros 32) [] [], .mk zi (zeros 32) [] [], .mk 0 zb [] [], cpV zcze zczr, cpV ztze ztzr]) rfl (by decide) HK.out)
end Go.Proofs.YtakdokccdkhcoaaDoor

/- RootVotes answers true for every value. -/
namespace Go.Proofs.YtakdokccdkhcoaaDoor
open Go.RowKit Go.Shelf
set_option linter.unusedVariables false
set_option linter.unusedSimpArgs false
set_option maxRecDepth 100000

theorem vtD_root (zs : Nat) (zi : Nat) (zb : List Nat) (zcze : Nat) (zczr : List Nat) (ztze : Nat) (ztzr : List Nat) : rootV vtD (vtV zs zi zb zcze zczr ztze ztzr) = vtR zs zi zb zcze zczr ztze ztzr := by
  simp only [cpD, vtD, cpV, vtV, dBox, dNum, dRoot, dTruth, cpR, vtR, rootV, rootsV]
  simp
theorem vtD_ok (zs : Nat) (zi : Nat) (zb : List Nat) (zcze : Nat) (zczr : List Nat) (ztze : Nat) (ztzr : List Nat) : okR vtD (vtV zs zi zb zcze zczr ztze ztzr) := by
  simp [cpD, vtD, cpV, vtV, dBox, dNum, dRoot, dTruth, okR, okRs]
set_option maxHeartbeats 2000000 in
theorem vt_walk (zs : Nat) (zi : Nat) (zb : List Nat) (zcze : Nat) (zczr : List Nat) (ztze : Nat) (ztzr : List Nat) (hzs : zs < 18446744073709551616) (hzi : zi < 18446744073709551616) (hzb : Rt zb) (hzcze : zcze < 18446744073709551616) (hzczr : Rt zczr) (hztze : ztze < 18446744073709551616) (hztzr : Rt ztzr) (w : World) (hT : Tabs w) : Calls Tryd.prog 6 #[.agg (vtC zs zi zb zcze zczr ztze ztzr).toArray] w fun e w' => e = .returned (.bool true) ∧ Below w.heap.size w w' := by
  have hR1 := vtR_rt zs zi zb zcze zczr ztze ztzr hzb hzczr hztzr
  have HE := hid (vtD_root zs zi zb zcze zczr ztze ztzr)
  have HO := hid (vtD_ok zs zi zb zcze zczr ztze ztzr)
  obtain ⟨R1, HR⟩ : ∃ R, Hid (vtR zs zi zb zcze zczr ztze ztzr = R) := ⟨_, hid rfl⟩
  rw [HR.out] at hR1 HE
  go_enter Tryd.func6, Tryd.ntmps6
  go_wp2_with ((with_reducible refine at_list' ?_); first
    | (refine wpList_box_c rfl 1 rfl (.tmp 0) rfl (vtC zs zi zb zcze zczr ztze ztzr) rfl ?_; intro w1 H1 B1 S1))
  refine (awake_any w1 (hT.keep B1)).mono ?_
  rintro e w2 ⟨rfl, B2⟩
  have HX := hid (H1.keep B2)
  have HB := hid (B1.trans (B2.mono B1.size))
  have HT := hid (hT.keep HB.out)
  clear H1 B1 S1 B2
  go_wp2_with fail
  try simp only [Act.put, List.setIfInBounds_toArray, List.set_cons_succ, List.set_cons_zero]
  refine wp_region_flow 7 7 (fun i v wq => match i with
    | 0 => v = .agg (vtC zs zi zb zcze zczr ztze ztzr).toArray
    | 1 => v = .agg (nums .u8 R1)
    | 2 => ∃ p, v = .pointer (some ⟨p, 0, none⟩) ∧ DAt wq vtD p
    | 3 => v = .agg (vtC zs zi zb zcze zczr ztze ztzr).toArray
    | 4 => IsV wq v (vtV zs zi zb zcze zczr ztze ztzr)
    | 5 => v = .agg (nums .u8 R1)
    | _ => v = .bool true) (by kernel_rfl) (by kernel_rfl) (fun _ d _ _ _ h => by cases d <;> exact h) ?_ ?_ ?_ ?_
  · intro i v wq wq' hi hv hb
    match i, hi with
    | 0, _ => exact hv
    | 1, _ => exact hv
    | 2, _ => obtain ⟨p, h1, h2⟩ := hv; exact ⟨p, h1, DAt.keep hb _ h2⟩
    | 3, _ => exact hv
    | 4, _ => exact hv.keep hb
    | 5, _ => exact hv
    | 6, _ => exact hv
    | (k + 7), hk => exact absurd hk (by omega)
  · intro i o hi ho aq wq hc hk hdep
    match i, hi with
    | 0, _ =>
      cases ho
      have e1 : aq.tmps.getD 1 undef = .pointer (some ⟨w.heap.size, 0, none⟩) := hk 1 (by decide)
      exact flow_value _ (run_mid 45 (.tmp 1) rfl w.heap.size 0 e1 (vtC zs zi zb zcze zczr ztze ztzr) ((HX.out.keep (hcB hc)).range 0 (vtC zs zi zb zcze zczr ztze ztzr) (fun j v hv => by rw [Nat.zero_add]; exact hv)) _ Tryd.underlying45 rfl (by rw [vtC_length zs zi zb zcze zczr ztze ztzr hzb.len hzczr.len hztzr.len]; kernel_rfl)) rfl
    | 1, _ =>
      cases ho
      have e0 : aq.tmps.getD 5 undef = .agg (vtC zs zi zb zcze zczr ztze ztzr).toArray := hdep 0 5 rfl (by kernel_rfl)
      refine flow_fun 18 _ _ rfl (fun _ _ => by simp [go_sem]) #[.agg (vtC zs zi zb zcze zczr ztze ztzr).toArray] (by rw [show (#[Operand.tmp 5] : Array Operand).map aq.eval = #[aq.tmps.getD 5 undef] from by simp [Act.eval], e0]) ?_
      refine (vtR_any zs zi zb zcze zczr ztze ztzr hzs hzi hzb hzcze hzczr hztze hztzr wq (HT.out.keep (hcB hc))).mono ?_
      rintro x w' ⟨rfl, q⟩
      exact ⟨_, rfl, (by rw [← HR.out]; rfl), q⟩
    | 2, _ =>
      cases ho
      refine flow_fun 19 _ _ rfl (fun _ _ => by simp [go_sem]) #[] (by simp) ?_
      refine (vtD_any wq).mono ?_
      rintro x w' ⟨p, rfl, h1, q⟩
      exact ⟨_, rfl, ⟨p, rfl, h1⟩, q⟩
    | 3, _ =>
      cases ho
      have e1 : aq.tmps.getD 1 undef = .pointer (some ⟨w.heap.size, 0, none⟩) := hk 1 (by decide)
      exact flow_value _ (run_mid 45 (.tmp 1) rfl w.heap.size 0 e1 (vtC zs zi zb zcze zczr ztze ztzr) ((HX.out.keep (hcB hc)).range 0 (vtC zs zi zb zcze zczr ztze ztzr) (fun j v hv => by rw [Nat.zero_add]; exact hv)) _ Tryd.underlying45 rfl (by rw [vtC_length zs zi zb zcze zczr ztze ztzr hzb.len hzczr.len hztzr.len]; kernel_rfl)) rfl
    | 4, _ =>
      cases ho
      have e0 : aq.tmps.getD 8 undef = .agg (vtC zs zi zb zcze zczr ztze ztzr).toArray := hdep 3 8 rfl (by kernel_rfl)
      refine flow_fun 20 _ _ rfl (fun _ _ => by simp [go_sem]) #[.agg (vtC zs zi zb zcze zczr ztze ztzr).toArray] (by rw [show (#[Operand.tmp 8] : Array Operand).map aq.eval = #[aq.tmps.getD 8 undef] from by simp [Act.eval], e0]) ?_
      refine (vtV_any zs zi zb zcze zczr ztze ztzr hzs hzi hzb hzcze hzczr hztze hztzr wq).mono ?_
      rintro x w' ⟨v, rfl, h1, q⟩
      exact ⟨v, rfl, h1, q⟩
    | 5, _ =>
      cases ho
      obtain ⟨p, e0, h0⟩ := hdep 2 7 rfl (by kernel_rfl)
      have h1 : IsV wq (aq.tmps.getD 9 undef) (vtV zs zi zb zcze zczr ztze ztzr) := hdep 4 9 rfl (by kernel_rfl)
      refine flow_fun 12 _ _ rfl (fun _ _ => by simp [go_sem]) #[.pointer (some ⟨p, 0, none⟩), aq.tmps.getD 9 undef] (by rw [show (#[Operand.tmp 7, Operand.tmp 9] : Array Operand).map aq.eval = #[aq.tmps.getD 7 undef, aq.tmps.getD 9 undef] from by simp [Act.eval], e0]) ?_
      refine (rroot_any vtD (vtV zs zi zb zcze zczr ztze ztzr) p _ wq HO.out h0 h1).mono ?_
      rintro x w' ⟨rfl, q⟩
      exact ⟨_, rfl, (by rw [HE.out]; rfl), q⟩
    | 6, _ =>
      cases ho
      have e0 : aq.tmps.getD 6 undef = .agg (nums .u8 R1) := hdep 1 6 rfl (by kernel_rfl)
      have e1 : aq.tmps.getD 10 undef = .agg (nums .u8 R1) := hdep 5 10 rfl (by kernel_rfl)
      exact flow_value _ (run_same_root (.tmp 6) (.tmp 10) rfl R1 hR1 e0 e1) rfl
    | (k + 7), hk => exact absurd hk (by omega)
  · intro o h7 ho
    omega
  intro vf w8 hc hv
  have e7 : vf 6 = _ := hv 6 11 (by decide) rfl
  have B8 := HB.out.trans ((hcB hc).mono HB.out.size)
  clear hv hc
  simp only [List.take_succ_cons, List.take_zero, List.drop_succ_cons, List.drop_zero, putAll, Act.put, List.setIfInBounds_toArray, List.set_cons_succ, List.set_cons_zero]
  rw [e7]
  have HB8 := hid B8
  clear B8 e7 HB HX HT
  go_wp2
  go_ret
  exact ⟨rfl, HB8.out⟩
end Go.Proofs.YtakdokccdkhcoaaDoor

/- The document's value of a struct (Exit). -/
namespace Go.Proofs.YtakdokccdkhcoaaDoor
open Go.RowKit Go.Shelf
set_option linter.unusedVariables false
set_option linter.unusedSimpArgs false
set_option maxRecDepth 100000

def exV (ze : Nat) (zi : Nat) : Vt := .mk 0 (zeros 32) [] [.mk ze (zeros 32) [] [], .mk zi (zeros 32) [] []]
theorem exV_wide (ze : Nat) (zi : Nat) : wide (exV ze zi) := by simp [exV, wide, wideK]
set_option maxHeartbeats 2000000 in
theorem exV_any (ze : Nat) (zi : Nat) (hze : ze < 18446744073709551616) (hzi : zi < 18446744073709551616) (w : World) : Calls Tryd.prog 49 #[.agg (exC ze zi).toArray] w fun x w' => ∃ v, x = .returned v ∧ IsV w' v (exV ze zi) ∧ Below w.heap.size w w' := by
  go_enter Tryd.func49, Tryd.ntmps49
  go_wp2_with ((with_reducible refine at_list' ?_); first
    | (refine wpList_box_c rfl 1 rfl (.tmp 0) rfl (exC ze zi) rfl ?_; intro w1 H1 B1 S1)
    | (refine wpList_alloc_c Tryd.ty37 rfl 2 rfl rfl ?_; intro w2 H2 B2 S2; rw [S1] at H2 S2; rw [S1]))
  have HX := hid (H1.keep B2)
  have HY := hid H2
  have HB := hid (B1.trans (B2.mono (by omega)))
  have s2 : w2.heap.size = w.heap.size + 2 := by omega
  clear H1 B1 S1 H2 B2 S2
  try simp only [Act.put, List.setIfInBounds_toArray, List.set_cons_succ, List.set_cons_zero]
  refine wp_region_flow 8 8 (fun i v wq => match i with
    | 0 => v = .pointer (some ⟨w.heap.size, 0, none⟩)
    | 1 => v = .int .u64 (ze : Nat)
    | 2 => IsV wq v (.mk ze (zeros 32) [] [])
    | 3 => v = .pointer (some ⟨w.heap.size, 1, none⟩)
    | 4 => v = .int .u64 (zi : Nat)
    | 5 => IsV wq v (.mk zi (zeros 32) [] [])
    | 6 => ∃ b, v = .slice (some ⟨b, 0, none⟩) 2 2 ∧ KsAt wq [.mk ze (zeros 32) [] [], .mk zi (zeros 32) [] []] b 0
    | _ => ∃ b, v = .agg (valL 0 (zeros 32) nilS (.slice (some ⟨b, 0, none⟩) 2 2)).toArray ∧ KsAt wq [.mk ze (zeros 32) [] [], .mk zi (zeros 32) [] []] b 0) (by kernel_rfl) (by kernel_rfl) (fun _ d _ _ _ h => by cases d <;> exact h) ?_ ?_ ?_ ?_
  · intro i v wq wq' hi hv hb
    match i, hi with
    | 0, _ => exact hv
    | 1, _ => exact hv
    | 2, _ => exact hv.keep hb
    | 3, _ => exact hv
    | 4, _ => exact hv
    | 5, _ => exact hv.keep hb
    | 6, _ => obtain ⟨b, h1, h2⟩ := hv; exact ⟨b, h1, KsAt.keep hb _ h2⟩
    | 7, _ => obtain ⟨b, h1, h2⟩ := hv; exact ⟨b, h1, KsAt.keep hb _ h2⟩
    | (k + 8), hk => exact absurd hk (by omega)
  · intro i o hi ho aq wq hc hk hdep
    match i, hi with
    | 0, _ =>
      cases ho
      have e1 : aq.tmps.getD 1 undef = .pointer (some ⟨w.heap.size, 0, none⟩) := hk 1 (by decide)
      exact flow_value _ (run_fieldAt 50 (.tmp 1) 0 rfl _ _ e1 (by kernel_rfl)) rfl
    | 1, _ =>
      cases ho
      have e0 : aq.tmps.getD 3 undef = .pointer (some ⟨w.heap.size, 0, none⟩) := hdep 0 3 rfl (by kernel_rfl)
      exact flow_value _ (run_cell 22 (.tmp 3) rfl _ e0 _ ((HX.out.keep (hcB hc)).cell (seg (ps := exP ze zi) (i := 0) (off := 0) rfl (by simp [exP, cellsB_length]) 0 _ rfl)) _ Tryd.underlying22 rfl) rfl
    | 2, _ =>
      cases ho
      have e0 : aq.tmps.getD 4 undef = .int .u64 (ze : Nat) := hdep 1 4 rfl (by kernel_rfl)
      refine flow_fun 45 _ _ rfl (fun _ _ => by simp [go_sem]) #[.int .u64 (ze : Nat)] (by rw [show (#[Operand.tmp 4] : Array Operand).map aq.eval = #[aq.tmps.getD 4 undef] from by simp [Act.eval], e0]) ?_
      refine (n_any ze wq).mono ?_
      rintro x w' ⟨rfl, q⟩
      exact ⟨_, rfl, IsV.leaf w' hze zeros32 (zeros_byte 32), q⟩
    | 3, _ =>
      cases ho
      have e1 : aq.tmps.getD 1 undef = .pointer (some ⟨w.heap.size, 0, none⟩) := hk 1 (by decide)
      exact flow_value _ (run_fieldAt 50 (.tmp 1) 1 rfl _ _ e1 (by kernel_rfl)) rfl
    | 4, _ =>
      cases ho
      have e0 : aq.tmps.getD 6 undef = .pointer (some ⟨w.heap.size, 1, none⟩) := hdep 3 6 rfl (by kernel_rfl)
      exact flow_value _ (run_cell 22 (.tmp 6) rfl _ e0 _ ((HX.out.keep (hcB hc)).cell (seg (ps := exP ze zi) (i := 1) (off := 1) rfl (by simp [exP, cellsB_length]) 0 _ rfl)) _ Tryd.underlying22 rfl) rfl
    | 5, _ =>
      cases ho
      have e0 : aq.tmps.getD 7 undef = .int .u64 (zi : Nat) := hdep 4 7 rfl (by kernel_rfl)
      refine flow_fun 45 _ _ rfl (fun _ _ => by simp [go_sem]) #[.int .u64 (zi : Nat)] (by rw [show (#[Operand.tmp 7] : Array Operand).map aq.eval = #[aq.tmps.getD 7 undef] from by simp [Act.eval], e0]) ?_
      refine (n_any zi wq).mono ?_
      rintro x w' ⟨rfl, q⟩
      exact ⟨_, rfl, IsV.leaf w' hzi zeros32 (zeros_byte 32), q⟩
    | 6, _ =>
      cases ho
      obtain ⟨sb0, sk0, e0, h0_⟩ := hdep 2 5 rfl (by kernel_rfl)
      obtain ⟨sb1, sk1, e1, h1_⟩ := hdep 5 8 rfl (by kernel_rfl)
      refine flow_rowsB 35 37 2 35 _ rfl Tryd.underlying35 valInfo [valL ze (zeros 32) sb0 sk0, valL zi (zeros 32) sb1 sk1] [.tmp 5, .tmp 8] rfl (by rw [show [Operand.tmp 5, Operand.tmp 8].map aq.eval = [aq.tmps.getD 5 undef, aq.tmps.getD 8 undef] from rfl, e0, e1]; rfl) (by simp [valL_length, zeros32]) rfl (by decide) (by decide) (by decide) (fun w' h hb => ⟨_, rfl, ksAt_of h [(.mk ze (zeros 32) [] [], sb0, sk0), (.mk zi (zeros 32) [] [], sb1, sk1)] 0 (fun j v hj => by rw [Nat.zero_add]; exact hj) (fun x hx => ?_)⟩)
      simp only [List.mem_cons, List.not_mem_nil, or_false] at hx
      rcases hx with rfl | rfl
      · exact VAt.keep hb _ h0_
      · exact VAt.keep hb _ h1_
    | 7, _ =>
      cases ho
      obtain ⟨b, e6, h6⟩ := hdep 6 9 rfl (by kernel_rfl)
      refine flow_fun 44 _ _ rfl (fun _ _ => by simp [go_sem]) #[.slice (some ⟨b, 0, none⟩) 2 2] (by rw [show (#[Operand.tmp 9] : Array Operand).map aq.eval = #[aq.tmps.getD 9 undef] from by simp [Act.eval], e6]) ?_
      refine (all_any (some ⟨b, 0, none⟩) 2 2 wq).mono ?_
      rintro x w' ⟨rfl, q⟩
      exact ⟨_, rfl, ⟨b, rfl, KsAt.keep q _ h6⟩, q⟩
    | (k + 8), hk => exact absurd hk (by omega)
  · intro o h8 ho
    omega
  intro vf w8 hc hv
  have e7 : ∃ b, vf 7 = _ ∧ KsAt w8 _ b 0 := hv 7 10 (by decide) rfl
  obtain ⟨b, e7, h7⟩ := e7
  have B8 := HB.out.trans ((hcB hc).mono (by omega))
  have H8v := HY.out.keep (hcB hc)
  have s8 := (hcB hc).size
  clear hv hc
  simp only [List.take_succ_cons, List.take_zero, List.drop_succ_cons, List.drop_zero, putAll, Act.put, List.setIfInBounds_toArray, List.set_cons_succ, List.set_cons_zero]
  rw [e7]
  have HB8 := hid B8
  have HK := hid h7
  clear B8 h7 e7 HB
  go_wp2_with ((with_reducible refine at_list' ?_); first
    | (refine wpList_store_c Tryd.ty37 rfl (.tmp 2) (.tmp 10) rfl (w.heap.size + 1) (valL 0 (zeros 32) nilS (.slice (some ⟨b, 0, none⟩) 2 2)) rfl rfl rfl (valL_oneC _ _ _ _ trivial trivial) _ H8v rfl ?_; intro w9 H9 O9))
  refine bodyPost_ret (results_c1 Tryd.ty37 rfl _ w9 (w.heap.size + 1) _ rfl H9 rfl) rfl ⟨_, rfl, ⟨nilS, _, rfl, ?_⟩, below_only HB8.out O9 (by omega)⟩
  exact VAt.aside H8v rfl O9 (exV ze zi) (exV_wide ze zi) (isV_all (ks := [.mk ze (zeros 32) [] [], .mk zi (zeros 32) [] []]) rfl (by decide) HK.out)
end Go.Proofs.YtakdokccdkhcoaaDoor

/- The document's value of a struct (SignedExit). -/
namespace Go.Proofs.YtakdokccdkhcoaaDoor
open Go.RowKit Go.Shelf
set_option linter.unusedVariables false
set_option linter.unusedSimpArgs false
set_option maxRecDepth 100000

def sxV (zxze : Nat) (zxzi : Nat) (zsg : List Nat) : Vt := .mk 0 (zeros 32) [] [exV zxze zxzi, .mk 0 zsg [] []]
theorem sxV_wide (zxze : Nat) (zxzi : Nat) (zsg : List Nat) : wide (sxV zxze zxzi zsg) := by simp [sxV, wide, wideK, exV_wide]
set_option maxHeartbeats 2000000 in
theorem sxV_any (zxze : Nat) (zxzi : Nat) (zsg : List Nat) (hzxze : zxze < 18446744073709551616) (hzxzi : zxzi < 18446744073709551616) (hzsg : Rt zsg) (w : World) : Calls Tryd.prog 23 #[.agg (sxC zxze zxzi zsg).toArray] w fun x w' => ∃ v, x = .returned v ∧ IsV w' v (sxV zxze zxzi zsg) ∧ Below w.heap.size w w' := by
  go_enter Tryd.func23, Tryd.ntmps23
  go_wp2_with ((with_reducible refine at_list' ?_); first
    | (refine wpList_box_c rfl 1 rfl (.tmp 0) rfl (sxC zxze zxzi zsg) rfl ?_; intro w1 H1 B1 S1)
    | (refine wpList_alloc_c Tryd.ty37 rfl 2 rfl rfl ?_; intro w2 H2 B2 S2; rw [S1] at H2 S2; rw [S1]))
  have HX := hid (H1.keep B2)
  have HY := hid H2
  have HB := hid (B1.trans (B2.mono (by omega)))
  have s2 : w2.heap.size = w.heap.size + 2 := by omega
  clear H1 B1 S1 H2 B2 S2
  try simp only [Act.put, List.setIfInBounds_toArray, List.set_cons_succ, List.set_cons_zero]
  refine wp_region_flow 8 8 (fun i v wq => match i with
    | 0 => v = .pointer (some ⟨w.heap.size, 0, none⟩)
    | 1 => v = .agg (exC zxze zxzi).toArray
    | 2 => IsV wq v (exV zxze zxzi)
    | 3 => v = .pointer (some ⟨w.heap.size, 2, none⟩)
    | 4 => v = .agg (nums .u8 zsg)
    | 5 => IsV wq v (.mk 0 zsg [] [])
    | 6 => ∃ b, v = .slice (some ⟨b, 0, none⟩) 2 2 ∧ KsAt wq [exV zxze zxzi, .mk 0 zsg [] []] b 0
    | _ => ∃ b, v = .agg (valL 0 (zeros 32) nilS (.slice (some ⟨b, 0, none⟩) 2 2)).toArray ∧ KsAt wq [exV zxze zxzi, .mk 0 zsg [] []] b 0) (by kernel_rfl) (by kernel_rfl) (fun _ d _ _ _ h => by cases d <;> exact h) ?_ ?_ ?_ ?_
  · intro i v wq wq' hi hv hb
    match i, hi with
    | 0, _ => exact hv
    | 1, _ => exact hv
    | 2, _ => exact hv.keep hb
    | 3, _ => exact hv
    | 4, _ => exact hv
    | 5, _ => exact hv.keep hb
    | 6, _ => obtain ⟨b, h1, h2⟩ := hv; exact ⟨b, h1, KsAt.keep hb _ h2⟩
    | 7, _ => obtain ⟨b, h1, h2⟩ := hv; exact ⟨b, h1, KsAt.keep hb _ h2⟩
    | (k + 8), hk => exact absurd hk (by omega)
  · intro i o hi ho aq wq hc hk hdep
    match i, hi with
    | 0, _ =>
      cases ho
      have e1 : aq.tmps.getD 1 undef = .pointer (some ⟨w.heap.size, 0, none⟩) := hk 1 (by decide)
      exact flow_value _ (run_fieldAt 52 (.tmp 1) 0 rfl _ _ e1 (by kernel_rfl)) rfl
    | 1, _ =>
      cases ho
      have e0 : aq.tmps.getD 3 undef = .pointer (some ⟨w.heap.size, 0, none⟩) := hdep 0 3 rfl (by kernel_rfl)
      exact flow_value _ (run_mid 50 (.tmp 3) rfl w.heap.size 0 e0 (exC zxze zxzi) ((HX.out.keep (hcB hc)).range 0 (exC zxze zxzi) (seg (ps := sxP zxze zxzi zsg) (i := 0) (off := 0) rfl (by simp [sxP, cellsB_length, hzsg.len, exC_length zxze zxzi ]))) _ Tryd.underlying50 rfl (by rw [exC_length zxze zxzi ]; kernel_rfl)) rfl
    | 2, _ =>
      cases ho
      have e0 : aq.tmps.getD 4 undef = .agg (exC zxze zxzi).toArray := hdep 1 4 rfl (by kernel_rfl)
      refine flow_fun 49 _ _ rfl (fun _ _ => by simp [go_sem]) #[.agg (exC zxze zxzi).toArray] (by rw [show (#[Operand.tmp 4] : Array Operand).map aq.eval = #[aq.tmps.getD 4 undef] from by simp [Act.eval], e0]) ?_
      refine (exV_any zxze zxzi hzxze hzxzi wq).mono ?_
      rintro x w' ⟨v, rfl, hv, q⟩
      exact ⟨v, rfl, hv, q⟩
    | 3, _ =>
      cases ho
      have e1 : aq.tmps.getD 1 undef = .pointer (some ⟨w.heap.size, 0, none⟩) := hk 1 (by decide)
      exact flow_value _ (run_fieldAt 52 (.tmp 1) 1 rfl _ _ e1 (by kernel_rfl)) rfl
    | 4, _ =>
      cases ho
      have e0 : aq.tmps.getD 6 undef = .pointer (some ⟨w.heap.size, 2, none⟩) := hdep 3 6 rfl (by kernel_rfl)
      exact flow_value _ (run_mid 24 (.tmp 6) rfl w.heap.size 2 e0 (cellsB zsg) ((HX.out.keep (hcB hc)).range 2 (cellsB zsg) (seg (ps := sxP zxze zxzi zsg) (i := 1) (off := 2) rfl (by simp [sxP, cellsB_length, hzsg.len, exC_length zxze zxzi ]))) _ Tryd.und24 rfl (by rw [cellsB_length, hzsg.len]; exact Tryd.size24)) rfl
    | 5, _ =>
      cases ho
      have e0 : aq.tmps.getD 7 undef = .agg (nums .u8 zsg) := hdep 4 7 rfl (by kernel_rfl)
      refine flow_fun 46 _ _ rfl (fun _ _ => by simp [go_sem]) #[.agg (nums .u8 zsg)] (by rw [show (#[Operand.tmp 7] : Array Operand).map aq.eval = #[aq.tmps.getD 7 undef] from by simp [Act.eval], e0]) ?_
      refine (r_any zsg hzsg.len wq).mono ?_
      rintro x w' ⟨rfl, q⟩
      exact ⟨_, rfl, IsV.leaf w' (by decide) hzsg.len hzsg.byte, q⟩
    | 6, _ =>
      cases ho
      obtain ⟨sb0, sk0, e0, h0_⟩ := hdep 2 5 rfl (by kernel_rfl)
      obtain ⟨sb1, sk1, e1, h1_⟩ := hdep 5 8 rfl (by kernel_rfl)
      refine flow_rowsB 35 37 2 35 _ rfl Tryd.underlying35 valInfo [valL 0 (zeros 32) sb0 sk0, valL 0 zsg sb1 sk1] [.tmp 5, .tmp 8] rfl (by rw [show [Operand.tmp 5, Operand.tmp 8].map aq.eval = [aq.tmps.getD 5 undef, aq.tmps.getD 8 undef] from rfl, e0, e1]; rfl) (by simp [valL_length, zeros32, hzsg.len]) rfl (by decide) (by decide) (by decide) (fun w' h hb => ⟨_, rfl, ksAt_of h [(exV zxze zxzi, sb0, sk0), (.mk 0 zsg [] [], sb1, sk1)] 0 (fun j v hj => by rw [Nat.zero_add]; exact hj) (fun x hx => ?_)⟩)
      simp only [List.mem_cons, List.not_mem_nil, or_false] at hx
      rcases hx with rfl | rfl
      · exact VAt.keep hb _ h0_
      · exact VAt.keep hb _ h1_
    | 7, _ =>
      cases ho
      obtain ⟨b, e6, h6⟩ := hdep 6 9 rfl (by kernel_rfl)
      refine flow_fun 44 _ _ rfl (fun _ _ => by simp [go_sem]) #[.slice (some ⟨b, 0, none⟩) 2 2] (by rw [show (#[Operand.tmp 9] : Array Operand).map aq.eval = #[aq.tmps.getD 9 undef] from by simp [Act.eval], e6]) ?_
      refine (all_any (some ⟨b, 0, none⟩) 2 2 wq).mono ?_
      rintro x w' ⟨rfl, q⟩
      exact ⟨_, rfl, ⟨b, rfl, KsAt.keep q _ h6⟩, q⟩
    | (k + 8), hk => exact absurd hk (by omega)
  · intro o h8 ho
    omega
  intro vf w8 hc hv
  have e7 : ∃ b, vf 7 = _ ∧ KsAt w8 _ b 0 := hv 7 10 (by decide) rfl
  obtain ⟨b, e7, h7⟩ := e7
  have B8 := HB.out.trans ((hcB hc).mono (by omega))
  have H8v := HY.out.keep (hcB hc)
  have s8 := (hcB hc).size
  clear hv hc
  simp only [List.take_succ_cons, List.take_zero, List.drop_succ_cons, List.drop_zero, putAll, Act.put, List.setIfInBounds_toArray, List.set_cons_succ, List.set_cons_zero]
  rw [e7]
  have HB8 := hid B8
  have HK := hid h7
  clear B8 h7 e7 HB
  go_wp2_with ((with_reducible refine at_list' ?_); first
    | (refine wpList_store_c Tryd.ty37 rfl (.tmp 2) (.tmp 10) rfl (w.heap.size + 1) (valL 0 (zeros 32) nilS (.slice (some ⟨b, 0, none⟩) 2 2)) rfl rfl rfl (valL_oneC _ _ _ _ trivial trivial) _ H8v rfl ?_; intro w9 H9 O9))
  refine bodyPost_ret (results_c1 Tryd.ty37 rfl _ w9 (w.heap.size + 1) _ rfl H9 rfl) rfl ⟨_, rfl, ⟨nilS, _, rfl, ?_⟩, below_only HB8.out O9 (by omega)⟩
  exact VAt.aside H8v rfl O9 (sxV zxze zxzi zsg) (sxV_wide zxze zxzi zsg) (isV_all (ks := [exV zxze zxzi, .mk 0 zsg [] []]) rfl (by decide) HK.out)
end Go.Proofs.YtakdokccdkhcoaaDoor

/- RootExits answers true for every value. -/
namespace Go.Proofs.YtakdokccdkhcoaaDoor
open Go.RowKit Go.Shelf
set_option linter.unusedVariables false
set_option linter.unusedSimpArgs false
set_option maxRecDepth 100000

theorem sxD_root (zxze : Nat) (zxzi : Nat) (zsg : List Nat) : rootV sxD (sxV zxze zxzi zsg) = sxR zxze zxzi zsg := by
  simp only [exD, sxD, exV, sxV, dBox, dNum, dRoot, dTruth, exR, sxR, rootV, rootsV]
  simp
theorem sxD_ok (zxze : Nat) (zxzi : Nat) (zsg : List Nat) : okR sxD (sxV zxze zxzi zsg) := by
  simp [exD, sxD, exV, sxV, dBox, dNum, dRoot, dTruth, okR, okRs]
set_option maxHeartbeats 2000000 in
theorem sx_walk (zxze : Nat) (zxzi : Nat) (zsg : List Nat) (hzxze : zxze < 18446744073709551616) (hzxzi : zxzi < 18446744073709551616) (hzsg : Rt zsg) (w : World) (hT : Tabs w) : Calls Tryd.prog 7 #[.agg (sxC zxze zxzi zsg).toArray] w fun e w' => e = .returned (.bool true) ∧ Below w.heap.size w w' := by
  have hR1 := sxR_rt zxze zxzi zsg hzsg
  have HE := hid (sxD_root zxze zxzi zsg)
  have HO := hid (sxD_ok zxze zxzi zsg)
  obtain ⟨R1, HR⟩ : ∃ R, Hid (sxR zxze zxzi zsg = R) := ⟨_, hid rfl⟩
  rw [HR.out] at hR1 HE
  go_enter Tryd.func7, Tryd.ntmps7
  go_wp2_with ((with_reducible refine at_list' ?_); first
    | (refine wpList_box_c rfl 1 rfl (.tmp 0) rfl (sxC zxze zxzi zsg) rfl ?_; intro w1 H1 B1 S1))
  refine (awake_any w1 (hT.keep B1)).mono ?_
  rintro e w2 ⟨rfl, B2⟩
  have HX := hid (H1.keep B2)
  have HB := hid (B1.trans (B2.mono B1.size))
  have HT := hid (hT.keep HB.out)
  clear H1 B1 S1 B2
  go_wp2_with fail
  try simp only [Act.put, List.setIfInBounds_toArray, List.set_cons_succ, List.set_cons_zero]
  refine wp_region_flow 7 7 (fun i v wq => match i with
    | 0 => v = .agg (sxC zxze zxzi zsg).toArray
    | 1 => v = .agg (nums .u8 R1)
    | 2 => ∃ p, v = .pointer (some ⟨p, 0, none⟩) ∧ DAt wq sxD p
    | 3 => v = .agg (sxC zxze zxzi zsg).toArray
    | 4 => IsV wq v (sxV zxze zxzi zsg)
    | 5 => v = .agg (nums .u8 R1)
    | _ => v = .bool true) (by kernel_rfl) (by kernel_rfl) (fun _ d _ _ _ h => by cases d <;> exact h) ?_ ?_ ?_ ?_
  · intro i v wq wq' hi hv hb
    match i, hi with
    | 0, _ => exact hv
    | 1, _ => exact hv
    | 2, _ => obtain ⟨p, h1, h2⟩ := hv; exact ⟨p, h1, DAt.keep hb _ h2⟩
    | 3, _ => exact hv
    | 4, _ => exact hv.keep hb
    | 5, _ => exact hv
    | 6, _ => exact hv
    | (k + 7), hk => exact absurd hk (by omega)
  · intro i o hi ho aq wq hc hk hdep
    match i, hi with
    | 0, _ =>
      cases ho
      have e1 : aq.tmps.getD 1 undef = .pointer (some ⟨w.heap.size, 0, none⟩) := hk 1 (by decide)
      exact flow_value _ (run_mid 52 (.tmp 1) rfl w.heap.size 0 e1 (sxC zxze zxzi zsg) ((HX.out.keep (hcB hc)).range 0 (sxC zxze zxzi zsg) (fun j v hv => by rw [Nat.zero_add]; exact hv)) _ Tryd.underlying52 rfl (by rw [sxC_length zxze zxzi zsg hzsg.len]; kernel_rfl)) rfl
    | 1, _ =>
      cases ho
      have e0 : aq.tmps.getD 5 undef = .agg (sxC zxze zxzi zsg).toArray := hdep 0 5 rfl (by kernel_rfl)
      refine flow_fun 21 _ _ rfl (fun _ _ => by simp [go_sem]) #[.agg (sxC zxze zxzi zsg).toArray] (by rw [show (#[Operand.tmp 5] : Array Operand).map aq.eval = #[aq.tmps.getD 5 undef] from by simp [Act.eval], e0]) ?_
      refine (sxR_any zxze zxzi zsg hzxze hzxzi hzsg wq (HT.out.keep (hcB hc))).mono ?_
      rintro x w' ⟨rfl, q⟩
      exact ⟨_, rfl, (by rw [← HR.out]; rfl), q⟩
    | 2, _ =>
      cases ho
      refine flow_fun 22 _ _ rfl (fun _ _ => by simp [go_sem]) #[] (by simp) ?_
      refine (sxD_any wq).mono ?_
      rintro x w' ⟨p, rfl, h1, q⟩
      exact ⟨_, rfl, ⟨p, rfl, h1⟩, q⟩
    | 3, _ =>
      cases ho
      have e1 : aq.tmps.getD 1 undef = .pointer (some ⟨w.heap.size, 0, none⟩) := hk 1 (by decide)
      exact flow_value _ (run_mid 52 (.tmp 1) rfl w.heap.size 0 e1 (sxC zxze zxzi zsg) ((HX.out.keep (hcB hc)).range 0 (sxC zxze zxzi zsg) (fun j v hv => by rw [Nat.zero_add]; exact hv)) _ Tryd.underlying52 rfl (by rw [sxC_length zxze zxzi zsg hzsg.len]; kernel_rfl)) rfl
    | 4, _ =>
      cases ho
      have e0 : aq.tmps.getD 8 undef = .agg (sxC zxze zxzi zsg).toArray := hdep 3 8 rfl (by kernel_rfl)
      refine flow_fun 23 _ _ rfl (fun _ _ => by simp [go_sem]) #[.agg (sxC zxze zxzi zsg).toArray] (by rw [show (#[Operand.tmp 8] : Array Operand).map aq.eval = #[aq.tmps.getD 8 undef] from by simp [Act.eval], e0]) ?_
      refine (sxV_any zxze zxzi zsg hzxze hzxzi hzsg wq).mono ?_
      rintro x w' ⟨v, rfl, h1, q⟩
      exact ⟨v, rfl, h1, q⟩
    | 5, _ =>
      cases ho
      obtain ⟨p, e0, h0⟩ := hdep 2 7 rfl (by kernel_rfl)
      have h1 : IsV wq (aq.tmps.getD 9 undef) (sxV zxze zxzi zsg) := hdep 4 9 rfl (by kernel_rfl)
      refine flow_fun 12 _ _ rfl (fun _ _ => by simp [go_sem]) #[.pointer (some ⟨p, 0, none⟩), aq.tmps.getD 9 undef] (by rw [show (#[Operand.tmp 7, Operand.tmp 9] : Array Operand).map aq.eval = #[aq.tmps.getD 7 undef, aq.tmps.getD 9 undef] from by simp [Act.eval], e0]) ?_
      refine (rroot_any sxD (sxV zxze zxzi zsg) p _ wq HO.out h0 h1).mono ?_
      rintro x w' ⟨rfl, q⟩
      exact ⟨_, rfl, (by rw [HE.out]; rfl), q⟩
    | 6, _ =>
      cases ho
      have e0 : aq.tmps.getD 6 undef = .agg (nums .u8 R1) := hdep 1 6 rfl (by kernel_rfl)
      have e1 : aq.tmps.getD 10 undef = .agg (nums .u8 R1) := hdep 5 10 rfl (by kernel_rfl)
      exact flow_value _ (run_same_root (.tmp 6) (.tmp 10) rfl R1 hR1 e0 e1) rfl
    | (k + 7), hk => exact absurd hk (by omega)
  · intro o h7 ho
    omega
  intro vf w8 hc hv
  have e7 : vf 6 = _ := hv 6 11 (by decide) rfl
  have B8 := HB.out.trans ((hcB hc).mono HB.out.size)
  clear hv hc
  simp only [List.take_succ_cons, List.take_zero, List.drop_succ_cons, List.drop_zero, putAll, Act.put, List.setIfInBounds_toArray, List.set_cons_succ, List.set_cons_zero]
  rw [e7]
  have HB8 := hid B8
  clear B8 e7 HB HX HT
  go_wp2
  go_ret
  exact ⟨rfl, HB8.out⟩
end Go.Proofs.YtakdokccdkhcoaaDoor

