/- Own texts of the proof, joined: CoDeposit CoVote RootD TreZ CollG ChunkG Pack6 CoIndexed CoAttesterSlashing Bits6 CoAttestation CoSignedHeader. -/
import Derived.Test.YtbmcmabimfoknaaGreatDoorH3
/- The root of a Deposit, by the program. -/
namespace Go.Proofs.YtbmcmabimfoknaaGreatDoor
open Go.RowKit Go.Shelf
set_option linter.unusedVariables false
set_option linter.unusedSimpArgs false
set_option maxRecDepth 100000

def dpP (zp : List (List Nat)) (zdzk : List Nat) (zdzcr : List Nat) (zdzam : Nat) (zdzsg : List Nat) : List (List Value) := [cellsOf zp, ddC zdzk zdzcr zdzam zdzsg]
def dpC (zp : List (List Nat)) (zdzk : List Nat) (zdzcr : List Nat) (zdzam : Nat) (zdzsg : List Nat) : List Value := (dpP zp zdzk zdzcr zdzam zdzsg).flatten
theorem dpC_length (zp : List (List Nat)) (zdzk : List Nat) (zdzcr : List Nat) (zdzam : Nat) (zdzsg : List Nat) (hzp : Rts zp) (hzpl : zp.length = 6) (h1 : zdzk.length = 32) (h2 : zdzcr.length = 32) (h3 : zdzsg.length = 32) : (dpC zp zdzk zdzcr zdzam zdzsg).length = 289 := by simp [dpC, dpP, cellsOf_length zp hzp, hzpl, ddC_length zdzk zdzcr zdzam zdzsg h1 h2 h3]
def dpR (zp : List (List Nat)) (zdzk : List Nat) (zdzcr : List Nat) (zdzam : Nat) (zdzsg : List Nat) : List Nat := fullR (depth (([(fullR (depth ((6 : Nat) : Int)) zp), ddR zdzk zdzcr zdzam zdzsg] : List (List Nat)).length : Nat)) [(fullR (depth ((6 : Nat) : Int)) zp), ddR zdzk zdzcr zdzam zdzsg]
theorem dpR_rt (zp : List (List Nat)) (zdzk : List Nat) (zdzcr : List Nat) (zdzam : Nat) (zdzsg : List Nat) (hzp : Rts zp) (h1 : Rt zdzk) (h2 : Rt zdzcr) (h3 : Rt zdzsg) : Rt (dpR zp zdzk zdzcr zdzam zdzsg) := full_rt _ _ (Rts.more (full_rt _ _ hzp) (Rts.more (ddR_rt zdzk zdzcr zdzam zdzsg h1 h2 h3) Rts.nil))
theorem dp_roots {w : World} {g : Nat} {t : TypeId} (zp : List (List Nat)) (zdzk : List Nat) (zdzcr : List Nat) (zdzam : Nat) (zdzsg : List Nat) (hzp : Rts zp) (h : HasC w g t (dpC zp zdzk zdzcr zdzam zdzsg)) : RootsAt w (some ⟨g, 0, none⟩) zp :=
  ⟨hzp, .inr ⟨g, 0, rfl, fun i hi => by
    rw [Nat.zero_add]
    refine h.cell ?_
    rw [dpC, dpP, List.flatten_cons, List.getElem?_append_left (by rw [cellsOf, List.length_map]; exact hi), cellsOf, List.getElem?_map, List.getElem?_eq_getElem hi, List.getD_eq_getElem?_getD, List.getElem?_eq_getElem hi]
    rfl⟩⟩
theorem run_slice6 {o : Oper} {a : Act} {w : World} (x : Operand) (ho : o.op = .slice 81 x none none none) (g : Nat) (hx : a.eval x = .pointer (some ⟨g, 0, none⟩)) : (execOp a.eval o).run Tryz.prog w = .ok (.value (.slice (some ⟨g, 0, none⟩) 6 6)) w := by
  unfold execOp
  simp only [ho, hx, Option.map]
  go_simp
set_option maxHeartbeats 2000000 in
theorem dpR_any (zp : List (List Nat)) (zdzk : List Nat) (zdzcr : List Nat) (zdzam : Nat) (zdzsg : List Nat) (hzp : Rts zp) (hzpl : zp.length = 6) (hzdzk : Rt zdzk) (hzdzcr : Rt zdzcr) (hzdzam : zdzam < 18446744073709551616) (hzdzsg : Rt zdzsg) (w : World) (hT : Tabs w) :
    Calls Tryz.prog 28 #[.agg (dpC zp zdzk zdzcr zdzam zdzsg).toArray] w fun x w' => x = .returned (.agg (nums .u8 (dpR zp zdzk zdzcr zdzam zdzsg))) ∧ Below w.heap.size w w' := by
  have hfr := dpR_rt zp zdzk zdzcr zdzam zdzsg hzp hzdzk hzdzcr hzdzsg
  unfold dpR at hfr ⊢
  have hX6 : Rt (fullR (depth ((6 : Nat) : Int)) zp) := full_rt _ _ hzp
  have hD6 := ddR_rt zdzk zdzcr zdzam zdzsg hzdzk hzdzcr hzdzsg
  obtain ⟨X6, HX6⟩ : ∃ X, Same (fullR (depth ((6 : Nat) : Int)) zp) X := ⟨_, ⟨rfl⟩⟩
  obtain ⟨D6, HD6⟩ : ∃ X, Same (ddR zdzk zdzcr zdzam zdzsg) X := ⟨_, ⟨rfl⟩⟩
  rw [HX6.out] at hfr hX6 ⊢
  rw [HD6.out] at hfr hD6 ⊢
  obtain ⟨W, HW⟩ : ∃ W, Same (fullR (depth (([X6, D6] : List (List Nat)).length : Nat)) [X6, D6]) W := ⟨_, ⟨rfl⟩⟩
  rw [HW.out] at hfr ⊢
  go_enter Tryz.func28, Tryz.ntmps28
  go_wp2_with ((with_reducible refine at_list' ?_); first
    | (refine wpList_box_c rfl 1 rfl (.tmp 0) rfl (dpC zp zdzk zdzcr zdzam zdzsg) rfl ?_; intro w1 H1 B1 S1)
    | (refine wpList_alloc_has rfl 2 rfl 23 rfl .u8 32 Tryz.zero23 ?_; intro w2 H2 B2 S2; rw [S1] at H2 S2; rw [S1]))
  have HX := hid (H1.keep B2)
  have HY := hid H2
  have HB := hid (B1.trans (B2.mono (by omega)))
  have HT := hid (hT.keep HB.out)
  have s2 : w2.heap.size = w.heap.size + 2 := by omega
  clear H1 B1 S1 H2 B2 S2
  try simp only [Act.put, List.setIfInBounds_toArray, List.set_cons_succ, List.set_cons_zero]
  refine wp_region_flow 8 8 (fun i v wq => match i with
    | 0 => v = .pointer (some ⟨w.heap.size, 0, none⟩)
    | 1 => v = .slice (some ⟨w.heap.size, 0, none⟩) 6 6
    | 2 => v = .agg (nums .u8 X6)
    | 3 => v = .pointer (some ⟨w.heap.size, 192, none⟩)
    | 4 => v = .agg (ddC zdzk zdzcr zdzam zdzsg).toArray
    | 5 => v = .agg (nums .u8 D6)
    | 6 => ∃ b, v = .slice (some ⟨b, 0, none⟩) 2 2 ∧ RootsAt wq (some ⟨b, 0, none⟩) [X6, D6]
    | _ => v = .agg (nums .u8 W)) (by kernel_rfl) (by kernel_rfl) (fun _ d _ _ _ h => by cases d <;> exact h) ?_ ?_ ?_ ?_
  · intro i v wq wq' hi hv hb
    match i, hi with
    | 0, _ => exact hv
    | 1, _ => exact hv
    | 2, _ => exact hv
    | 3, _ => exact hv
    | 4, _ => exact hv
    | 5, _ => exact hv
    | 6, _ => obtain ⟨b, h1, h2⟩ := hv; exact ⟨b, h1, h2.keep hb⟩
    | 7, _ => exact hv
    | (k + 8), hk => exact absurd hk (by omega)
  · intro i o hi ho aq wq hc hk hdep
    match i, hi with
    | 0, _ =>
      cases ho
      have e1 : aq.tmps.getD 1 undef = .pointer (some ⟨w.heap.size, 0, none⟩) := hk 1 (by decide)
      exact flow_value _ (run_fieldAt 85 (.tmp 1) 0 rfl _ _ e1 (by kernel_rfl)) rfl
    | 1, _ =>
      cases ho
      have e0 : aq.tmps.getD 3 undef = .pointer (some ⟨w.heap.size, 0, none⟩) := hdep 0 3 rfl (by kernel_rfl)
      exact flow_value _ (run_slice6 (.tmp 3) rfl w.heap.size e0) rfl
    | 2, _ =>
      cases ho
      have e0 : aq.tmps.getD 4 undef = .slice (some ⟨w.heap.size, 0, none⟩) 6 6 := hdep 1 4 rfl (by kernel_rfl)
      refine flow_fun 19 _ _ rfl (fun _ _ => by simp [go_sem]) #[.slice (some ⟨w.heap.size, 0, none⟩) 6 6] (by rw [show (#[Operand.tmp 4] : Array Operand).map aq.eval = #[aq.tmps.getD 4 undef] from by simp [Act.eval], e0]) ?_
      have hcc := cont_any (some ⟨w.heap.size, 0, none⟩) 6 zp wq (HT.out.keep (hcB hc)) (by omega) (by decide) (by omega) (dp_roots zp zdzk zdzcr zdzam zdzsg hzp (HX.out.keep (hcB hc)))
      rw [hzpl] at hcc
      refine hcc.mono ?_
      rintro x w' ⟨rfl, q⟩
      exact ⟨_, rfl, (by rw [← HX6.out]; rfl), q⟩
    | 3, _ =>
      cases ho
      have e1 : aq.tmps.getD 1 undef = .pointer (some ⟨w.heap.size, 0, none⟩) := hk 1 (by decide)
      exact flow_value _ (run_fieldAt 85 (.tmp 1) 1 rfl _ _ e1 (by kernel_rfl)) rfl
    | 4, _ =>
      cases ho
      have e0 : aq.tmps.getD 6 undef = .pointer (some ⟨w.heap.size, 192, none⟩) := hdep 3 6 rfl (by kernel_rfl)
      exact flow_value _ (run_mid 83 (.tmp 6) rfl w.heap.size 192 e0 (ddC zdzk zdzcr zdzam zdzsg) ((HX.out.keep (hcB hc)).range 192 (ddC zdzk zdzcr zdzam zdzsg) (seg (ps := dpP zp zdzk zdzcr zdzam zdzsg) (i := 1) (off := 192) rfl (by simp [dpP, cellsOf_length zp hzp, hzpl]))) _ Tryz.underlying83 rfl (by rw [ddC_length zdzk zdzcr zdzam zdzsg hzdzk.len hzdzcr.len hzdzsg.len]; kernel_rfl)) rfl
    | 5, _ =>
      cases ho
      have e0 : aq.tmps.getD 7 undef = .agg (ddC zdzk zdzcr zdzam zdzsg).toArray := hdep 4 7 rfl (by kernel_rfl)
      refine flow_fun 72 _ _ rfl (fun _ _ => by simp [go_sem]) #[.agg (ddC zdzk zdzcr zdzam zdzsg).toArray] (by rw [show (#[Operand.tmp 7] : Array Operand).map aq.eval = #[aq.tmps.getD 7 undef] from by simp [Act.eval], e0]) ?_
      refine (ddR_any zdzk zdzcr zdzam zdzsg hzdzk hzdzcr hzdzam hzdzsg wq (HT.out.keep (hcB hc))).mono ?_
      rintro x w' ⟨rfl, q⟩
      exact ⟨_, rfl, (by rw [← HD6.out]; rfl), q⟩
    | 6, _ =>
      cases ho
      have e0 : aq.tmps.getD 5 undef = .agg (nums .u8 X6) := hdep 2 5 rfl (by kernel_rfl)
      have e1 : aq.tmps.getD 8 undef = .agg (nums .u8 D6) := hdep 5 8 rfl (by kernel_rfl)
      exact flow_rows 122 23 2 32 _ rfl Tryz.underlying122 rootInfo6 [cellsB X6, cellsB D6] [.tmp 5, .tmp 8] rfl (by rw [show [Operand.tmp 5, Operand.tmp 8].map aq.eval = [aq.tmps.getD 5 undef, aq.tmps.getD 8 undef] from rfl, e0, e1]; rfl) (by simp [cellsB_length, hX6.len, hD6.len]) rfl (by decide) (by decide) (by decide) (fun w' h => ⟨_, rfl, hasC_roots (rs := [X6, D6]) h (Rts.more hX6 (Rts.more hD6 Rts.nil))⟩)
    | 7, _ =>
      cases ho
      obtain ⟨b, e6, h6⟩ := hdep 6 9 rfl (by kernel_rfl)
      refine flow_fun 19 _ _ rfl (fun _ _ => by simp [go_sem]) #[.slice (some ⟨b, 0, none⟩) 2 2] (by rw [show (#[Operand.tmp 9] : Array Operand).map aq.eval = #[aq.tmps.getD 9 undef] from by simp [Act.eval], e6]) ?_
      refine (cont_any (some ⟨b, 0, none⟩) 2 [X6, D6] wq (HT.out.keep (hcB hc)) (Nat.le_refl _) (by decide) (by show 2 ≤ 1048576; decide) h6).mono ?_
      rintro x w' ⟨rfl, q⟩
      exact ⟨_, rfl, (by rw [← HW.out]; rfl), q⟩
    | (k + 8), hk => exact absurd hk (by omega)
  · intro o h8 ho
    omega
  intro vf w8 hc hv
  have e7 : vf 7 = _ := hv 7 10 (by decide) rfl
  have B8 := HB.out.trans ((hcB hc).mono (by omega))
  have H8v := HY.out.keep (hcB hc)
  have s8 := (hcB hc).size
  clear hv hc
  simp only [List.take_succ_cons, List.take_zero, List.drop_succ_cons, List.drop_zero, putAll, Act.put, List.setIfInBounds_toArray, List.set_cons_succ, List.set_cons_zero]
  rw [e7]
  have HB8 := hid B8
  clear B8 e7 HB
  go_wp2_with ((with_reducible refine at_list' ?_); first
    | (refine wpList_store_has rfl 23 (.tmp 2) (.tmp 10) rfl (w.heap.size + 1) .u8 W (zeros 32) rfl rfl 23 H8v (hfr.size _ Tryz.size23) (by rw [hfr.len, zeros_length]) ?_; intro w9 H9 O9))
  refine bodyPost_ret (results_has rfl _ _ (w.heap.size + 1) 23 .u8 W _ _ rfl H9 Tryz.und23 (hfr.size _ Tryz.size23)) rfl ?_
  exact ⟨rfl, below_only HB8.out O9 (by omega)⟩
end Go.Proofs.YtbmcmabimfoknaaGreatDoor

/- The root of a struct (Vote), by the program. -/
namespace Go.Proofs.YtbmcmabimfoknaaGreatDoor
open Go.RowKit Go.Shelf
set_option linter.unusedVariables false
set_option linter.unusedSimpArgs false
set_option maxRecDepth 100000

def vtP (zs : Nat) (zi : Nat) (zb : List Nat) (zcze : Nat) (zczr : List Nat) (ztze : Nat) (ztzr : List Nat) : List (List Value) := [[.int .u64 (zs : Nat)], [.int .u64 (zi : Nat)], cellsB zb, cpC zcze zczr, cpC ztze ztzr]
def vtC (zs : Nat) (zi : Nat) (zb : List Nat) (zcze : Nat) (zczr : List Nat) (ztze : Nat) (ztzr : List Nat) : List Value := (vtP zs zi zb zcze zczr ztze ztzr).flatten
theorem vtC_length (zs : Nat) (zi : Nat) (zb : List Nat) (zcze : Nat) (zczr : List Nat) (ztze : Nat) (ztzr : List Nat) (hzb : zb.length = 32) (hzczr : zczr.length = 32) (hztzr : ztzr.length = 32) : (vtC zs zi zb zcze zczr ztze ztzr).length = 100 := by simp [vtC, vtP, cellsB_length, hzb, hzczr, hztzr, cpC_length zcze zczr hzczr, cpC_length ztze ztzr hztzr]
def vtR (zs : Nat) (zi : Nat) (zb : List Nat) (zcze : Nat) (zczr : List Nat) (ztze : Nat) (ztzr : List Nat) : List Nat := fullR (depth (([wUp zs 8, wUp zi 8, zb, cpR zcze zczr, cpR ztze ztzr] : List (List Nat)).length : Nat)) [wUp zs 8, wUp zi 8, zb, cpR zcze zczr, cpR ztze ztzr]
theorem vtR_rt (zs : Nat) (zi : Nat) (zb : List Nat) (zcze : Nat) (zczr : List Nat) (ztze : Nat) (ztzr : List Nat) (hzb : Rt zb) (hzczr : Rt zczr) (hztzr : Rt ztzr) : Rt (vtR zs zi zb zcze zczr ztze ztzr) := full_rt _ _ (Rts.more (wUp_rt zs 8) (Rts.more (wUp_rt zi 8) (Rts.more hzb (Rts.more (cpR_rt zcze zczr hzczr) (Rts.more (cpR_rt ztze ztzr hztzr) Rts.nil)))))
set_option maxHeartbeats 2000000 in
theorem vtR_any (zs : Nat) (zi : Nat) (zb : List Nat) (zcze : Nat) (zczr : List Nat) (ztze : Nat) (ztzr : List Nat) (hzs : zs < 18446744073709551616) (hzi : zi < 18446744073709551616) (hzb : Rt zb) (hzcze : zcze < 18446744073709551616) (hzczr : Rt zczr) (hztze : ztze < 18446744073709551616) (hztzr : Rt ztzr) (w : World) (hT : Tabs w) :
    Calls Tryz.prog 70 #[.agg (vtC zs zi zb zcze zczr ztze ztzr).toArray] w fun x w' => x = .returned (.agg (nums .u8 (vtR zs zi zb zcze zczr ztze ztzr))) ∧ Below w.heap.size w w' := by
  have hfr := vtR_rt zs zi zb zcze zczr ztze ztzr hzb hzczr hztzr
  obtain ⟨W, HW⟩ : ∃ W, Hid (vtR zs zi zb zcze zczr ztze ztzr = W) := ⟨_, hid rfl⟩
  rw [HW.out] at hfr ⊢
  go_enter Tryz.func70, Tryz.ntmps70
  go_wp2_with ((with_reducible refine at_list' ?_); first
    | (refine wpList_box_c rfl 1 rfl (.tmp 0) rfl (vtC zs zi zb zcze zczr ztze ztzr) rfl ?_; intro w1 H1 B1 S1)
    | (refine wpList_alloc_has rfl 2 rfl 23 rfl .u8 32 Tryz.zero23 ?_; intro w2 H2 B2 S2; rw [S1] at H2 S2; rw [S1]))
  have HX := hid (H1.keep B2)
  have HY := hid H2
  have HB := hid (B1.trans (B2.mono (by omega)))
  have HT := hid (hT.keep HB.out)
  have s2 : w2.heap.size = w.heap.size + 2 := by omega
  clear H1 B1 S1 H2 B2 S2
  try simp only [Act.put, List.setIfInBounds_toArray, List.set_cons_succ, List.set_cons_zero]
  refine wp_region_flow 16 16 (fun i v wq => match i with
    | 0 => v = .pointer (some ⟨w.heap.size, 0, none⟩)
    | 1 => v = .int .u64 (zs : Nat)
    | 2 => v = .agg (nums .u8 (wUp zs 8))
    | 3 => v = .pointer (some ⟨w.heap.size, 1, none⟩)
    | 4 => v = .int .u64 (zi : Nat)
    | 5 => v = .agg (nums .u8 (wUp zi 8))
    | 6 => v = .pointer (some ⟨w.heap.size, 2, none⟩)
    | 7 => v = .agg (nums .u8 zb)
    | 8 => v = .pointer (some ⟨w.heap.size, 34, none⟩)
    | 9 => v = .agg (cpC zcze zczr).toArray
    | 10 => v = .agg (nums .u8 (cpR zcze zczr))
    | 11 => v = .pointer (some ⟨w.heap.size, 67, none⟩)
    | 12 => v = .agg (cpC ztze ztzr).toArray
    | 13 => v = .agg (nums .u8 (cpR ztze ztzr))
    | 14 => ∃ b, v = .slice (some ⟨b, 0, none⟩) 5 5 ∧ RootsAt wq (some ⟨b, 0, none⟩) [wUp zs 8, wUp zi 8, zb, cpR zcze zczr, cpR ztze ztzr]
    | _ => v = .agg (nums .u8 W)) (by kernel_rfl) (by kernel_rfl) (fun _ d _ _ _ h => by cases d <;> exact h) ?_ ?_ ?_ ?_
  · intro i v wq wq' hi hv hb
    match i, hi with
    | 0, _ => exact hv
    | 1, _ => exact hv
    | 2, _ => exact hv
    | 3, _ => exact hv
    | 4, _ => exact hv
    | 5, _ => exact hv
    | 6, _ => exact hv
    | 7, _ => exact hv
    | 8, _ => exact hv
    | 9, _ => exact hv
    | 10, _ => exact hv
    | 11, _ => exact hv
    | 12, _ => exact hv
    | 13, _ => exact hv
    | 14, _ => obtain ⟨b, h1, h2⟩ := hv; exact ⟨b, h1, h2.keep hb⟩
    | 15, _ => exact hv
    | (k + 16), hk => exact absurd hk (by omega)
  · intro i o hi ho aq wq hc hk hdep
    match i, hi with
    | 0, _ =>
      cases ho
      have e1 : aq.tmps.getD 1 undef = .pointer (some ⟨w.heap.size, 0, none⟩) := hk 1 (by decide)
      exact flow_value _ (run_fieldAt 61 (.tmp 1) 0 rfl _ _ e1 (by kernel_rfl)) rfl
    | 1, _ =>
      cases ho
      have e0 : aq.tmps.getD 3 undef = .pointer (some ⟨w.heap.size, 0, none⟩) := hdep 0 3 rfl (by kernel_rfl)
      exact flow_value _ (run_cell 24 (.tmp 3) rfl _ e0 _ ((HX.out.keep (hcB hc)).cell (seg (ps := vtP zs zi zb zcze zczr ztze ztzr) (i := 0) (off := 0) rfl (by simp [vtP, cellsB_length, hzb.len, hzczr.len, hztzr.len, cpC_length zcze zczr hzczr.len, cpC_length ztze ztzr hztzr.len]) 0 _ rfl)) _ Tryz.underlying24 rfl) rfl
    | 2, _ =>
      cases ho
      have e0 : aq.tmps.getD 4 undef = .int .u64 (zs : Nat) := hdep 1 4 rfl (by kernel_rfl)
      refine flow_fun 59 _ _ rfl (fun _ _ => by simp [go_sem]) #[.int .u64 (zs : Nat)] (by rw [show (#[Operand.tmp 4] : Array Operand).map aq.eval = #[aq.tmps.getD 4 undef] from by simp [Act.eval], e0]) ?_
      refine (number_any zs hzs wq).mono ?_
      rintro x w' ⟨rfl, q⟩
      exact ⟨_, rfl, rfl, q⟩
    | 3, _ =>
      cases ho
      have e1 : aq.tmps.getD 1 undef = .pointer (some ⟨w.heap.size, 0, none⟩) := hk 1 (by decide)
      exact flow_value _ (run_fieldAt 61 (.tmp 1) 1 rfl _ _ e1 (by kernel_rfl)) rfl
    | 4, _ =>
      cases ho
      have e0 : aq.tmps.getD 6 undef = .pointer (some ⟨w.heap.size, 1, none⟩) := hdep 3 6 rfl (by kernel_rfl)
      exact flow_value _ (run_cell 24 (.tmp 6) rfl _ e0 _ ((HX.out.keep (hcB hc)).cell (seg (ps := vtP zs zi zb zcze zczr ztze ztzr) (i := 1) (off := 1) rfl (by simp [vtP, cellsB_length, hzb.len, hzczr.len, hztzr.len, cpC_length zcze zczr hzczr.len, cpC_length ztze ztzr hztzr.len]) 0 _ rfl)) _ Tryz.underlying24 rfl) rfl
    | 5, _ =>
      cases ho
      have e0 : aq.tmps.getD 7 undef = .int .u64 (zi : Nat) := hdep 4 7 rfl (by kernel_rfl)
      refine flow_fun 59 _ _ rfl (fun _ _ => by simp [go_sem]) #[.int .u64 (zi : Nat)] (by rw [show (#[Operand.tmp 7] : Array Operand).map aq.eval = #[aq.tmps.getD 7 undef] from by simp [Act.eval], e0]) ?_
      refine (number_any zi hzi wq).mono ?_
      rintro x w' ⟨rfl, q⟩
      exact ⟨_, rfl, rfl, q⟩
    | 6, _ =>
      cases ho
      have e1 : aq.tmps.getD 1 undef = .pointer (some ⟨w.heap.size, 0, none⟩) := hk 1 (by decide)
      exact flow_value _ (run_fieldAt 61 (.tmp 1) 2 rfl _ _ e1 (by kernel_rfl)) rfl
    | 7, _ =>
      cases ho
      have e0 : aq.tmps.getD 9 undef = .pointer (some ⟨w.heap.size, 2, none⟩) := hdep 6 9 rfl (by kernel_rfl)
      exact flow_value _ (run_mid 23 (.tmp 9) rfl w.heap.size 2 e0 (cellsB zb) ((HX.out.keep (hcB hc)).range 2 (cellsB zb) (seg (ps := vtP zs zi zb zcze zczr ztze ztzr) (i := 2) (off := 2) rfl (by simp [vtP, cellsB_length, hzb.len, hzczr.len, hztzr.len, cpC_length zcze zczr hzczr.len, cpC_length ztze ztzr hztzr.len]))) _ Tryz.und23 rfl (by rw [cellsB_length, hzb.len]; exact Tryz.size23)) rfl
    | 8, _ =>
      cases ho
      have e1 : aq.tmps.getD 1 undef = .pointer (some ⟨w.heap.size, 0, none⟩) := hk 1 (by decide)
      exact flow_value _ (run_fieldAt 61 (.tmp 1) 3 rfl _ _ e1 (by kernel_rfl)) rfl
    | 9, _ =>
      cases ho
      have e0 : aq.tmps.getD 11 undef = .pointer (some ⟨w.heap.size, 34, none⟩) := hdep 8 11 rfl (by kernel_rfl)
      exact flow_value _ (run_mid 55 (.tmp 11) rfl w.heap.size 34 e0 (cpC zcze zczr) ((HX.out.keep (hcB hc)).range 34 (cpC zcze zczr) (seg (ps := vtP zs zi zb zcze zczr ztze ztzr) (i := 3) (off := 34) rfl (by simp [vtP, cellsB_length, hzb.len, hzczr.len, hztzr.len, cpC_length zcze zczr hzczr.len, cpC_length ztze ztzr hztzr.len]))) _ Tryz.underlying55 rfl (by rw [cpC_length zcze zczr hzczr.len]; kernel_rfl)) rfl
    | 10, _ =>
      cases ho
      have e0 : aq.tmps.getD 12 undef = .agg (cpC zcze zczr).toArray := hdep 9 12 rfl (by kernel_rfl)
      refine flow_fun 15 _ _ rfl (fun _ _ => by simp [go_sem]) #[.agg (cpC zcze zczr).toArray] (by rw [show (#[Operand.tmp 12] : Array Operand).map aq.eval = #[aq.tmps.getD 12 undef] from by simp [Act.eval], e0]) ?_
      refine (cpR_any zcze zczr hzcze hzczr wq (HT.out.keep (hcB hc))).mono ?_
      rintro x w' ⟨rfl, q⟩
      exact ⟨_, rfl, rfl, q⟩
    | 11, _ =>
      cases ho
      have e1 : aq.tmps.getD 1 undef = .pointer (some ⟨w.heap.size, 0, none⟩) := hk 1 (by decide)
      exact flow_value _ (run_fieldAt 61 (.tmp 1) 4 rfl _ _ e1 (by kernel_rfl)) rfl
    | 12, _ =>
      cases ho
      have e0 : aq.tmps.getD 14 undef = .pointer (some ⟨w.heap.size, 67, none⟩) := hdep 11 14 rfl (by kernel_rfl)
      exact flow_value _ (run_mid 55 (.tmp 14) rfl w.heap.size 67 e0 (cpC ztze ztzr) ((HX.out.keep (hcB hc)).range 67 (cpC ztze ztzr) (seg (ps := vtP zs zi zb zcze zczr ztze ztzr) (i := 4) (off := 67) rfl (by simp [vtP, cellsB_length, hzb.len, hzczr.len, hztzr.len, cpC_length zcze zczr hzczr.len, cpC_length ztze ztzr hztzr.len]))) _ Tryz.underlying55 rfl (by rw [cpC_length ztze ztzr hztzr.len]; kernel_rfl)) rfl
    | 13, _ =>
      cases ho
      have e0 : aq.tmps.getD 15 undef = .agg (cpC ztze ztzr).toArray := hdep 12 15 rfl (by kernel_rfl)
      refine flow_fun 15 _ _ rfl (fun _ _ => by simp [go_sem]) #[.agg (cpC ztze ztzr).toArray] (by rw [show (#[Operand.tmp 15] : Array Operand).map aq.eval = #[aq.tmps.getD 15 undef] from by simp [Act.eval], e0]) ?_
      refine (cpR_any ztze ztzr hztze hztzr wq (HT.out.keep (hcB hc))).mono ?_
      rintro x w' ⟨rfl, q⟩
      exact ⟨_, rfl, rfl, q⟩
    | 14, _ =>
      cases ho
      have e0 : aq.tmps.getD 5 undef = .agg (nums .u8 (wUp zs 8)) := hdep 2 5 rfl (by kernel_rfl)
      have e1 : aq.tmps.getD 8 undef = .agg (nums .u8 (wUp zi 8)) := hdep 5 8 rfl (by kernel_rfl)
      have e2 : aq.tmps.getD 10 undef = .agg (nums .u8 zb) := hdep 7 10 rfl (by kernel_rfl)
      have e3 : aq.tmps.getD 13 undef = .agg (nums .u8 (cpR zcze zczr)) := hdep 10 13 rfl (by kernel_rfl)
      have e4 : aq.tmps.getD 16 undef = .agg (nums .u8 (cpR ztze ztzr)) := hdep 13 16 rfl (by kernel_rfl)
      exact flow_rows 122 23 5 32 _ rfl Tryz.underlying122 rootInfo6 [cellsB (wUp zs 8), cellsB (wUp zi 8), cellsB (zb), cellsB (cpR zcze zczr), cellsB (cpR ztze ztzr)] [.tmp 5, .tmp 8, .tmp 10, .tmp 13, .tmp 16] rfl (by rw [show [Operand.tmp 5, Operand.tmp 8, Operand.tmp 10, Operand.tmp 13, Operand.tmp 16].map aq.eval = [aq.tmps.getD 5 undef, aq.tmps.getD 8 undef, aq.tmps.getD 10 undef, aq.tmps.getD 13 undef, aq.tmps.getD 16 undef] from rfl, e0, e1, e2, e3, e4]; rfl) (by simp [cellsB_length, ((wUp_rt zs 8)).len, ((wUp_rt zi 8)).len, (hzb).len, ((cpR_rt zcze zczr hzczr)).len, ((cpR_rt ztze ztzr hztzr)).len]) rfl (by decide) (by decide) (by decide) (fun w' h => ⟨_, rfl, hasC_roots (rs := [wUp zs 8, wUp zi 8, zb, cpR zcze zczr, cpR ztze ztzr]) h (Rts.more (wUp_rt zs 8) (Rts.more (wUp_rt zi 8) (Rts.more hzb (Rts.more (cpR_rt zcze zczr hzczr) (Rts.more (cpR_rt ztze ztzr hztzr) Rts.nil)))))⟩)
    | 15, _ =>
      cases ho
      obtain ⟨b, e6, h6⟩ := hdep 14 17 rfl (by kernel_rfl)
      refine flow_fun 19 _ _ rfl (fun _ _ => by simp [go_sem]) #[.slice (some ⟨b, 0, none⟩) 5 5] (by rw [show (#[Operand.tmp 17] : Array Operand).map aq.eval = #[aq.tmps.getD 17 undef] from by simp [Act.eval], e6]) ?_
      refine (cont_any (some ⟨b, 0, none⟩) 5 [wUp zs 8, wUp zi 8, zb, cpR zcze zczr, cpR ztze ztzr] wq (HT.out.keep (hcB hc)) (Nat.le_refl _) (by decide) (by show 5 ≤ 1048576; decide) h6).mono ?_
      rintro x w' ⟨rfl, q⟩
      exact ⟨_, rfl, (by rw [← HW.out]; rfl), q⟩
    | (k + 16), hk => exact absurd hk (by omega)
  · intro o h16 ho
    omega
  intro vf w8 hc hv
  have e7 : vf 15 = _ := hv 15 18 (by decide) rfl
  have B8 := HB.out.trans ((hcB hc).mono (by omega))
  have H8v := HY.out.keep (hcB hc)
  have s8 := (hcB hc).size
  clear hv hc
  simp only [List.take_succ_cons, List.take_zero, List.drop_succ_cons, List.drop_zero, putAll, Act.put, List.setIfInBounds_toArray, List.set_cons_succ, List.set_cons_zero]
  rw [e7]
  have HB8 := hid B8
  clear B8 e7 HB
  go_wp2_with ((with_reducible refine at_list' ?_); first
    | (refine wpList_store_has rfl 23 (.tmp 2) (.tmp 18) rfl (w.heap.size + 1) .u8 W (zeros 32) rfl rfl 23 H8v (hfr.size _ Tryz.size23) (by rw [hfr.len, zeros_length]) ?_; intro w9 H9 O9))
  refine bodyPost_ret (results_has rfl _ _ (w.heap.size + 1) 23 .u8 W _ _ rfl H9 Tryz.und23 (hfr.size _ Tryz.size23)) rfl ?_
  exact ⟨rfl, below_only HB8.out O9 (by omega)⟩
end Go.Proofs.YtbmcmabimfoknaaGreatDoor

/- The document's Root, at numbers, truths, roots and containers. -/
namespace Go.Proofs.YtbmcmabimfoknaaGreatDoor
open Go.RowKit Go.Shelf
set_option linter.unusedVariables false
set_option maxRecDepth 100000

/-- The tree of leaves within their limit, else zero. -/
def treeZ (m : Nat) (rs : List (List Nat)) : List Nat := if rs.length ≤ m then fullR (depth (m : Nat)) rs else zeros 32
theorem treeZ_rt (m : Nat) (rs : List (List Nat)) (h : Rts rs) : Rt (treeZ m rs) := by
  unfold treeZ
  split
  · exact full_rt _ _ h
  · exact zero_rt
/-- The root of a list of at most n bits. -/
def bitsR (n : Nat) (l : List Bool) : List Nat := pr (treeZ ((n + 255) / 256) (chunks (putB l false))) (wUp l.length 8)
/-- Numbers side by side. -/
def numB (ns : List Nat) : List Nat := (ns.map byte8).flatten
theorem numB_length (ns : List Nat) : (numB ns).length = 8 * ns.length := by
  induction ns with
  | nil => rfl
  | cons n ns ih => rw [show numB (n :: ns) = byte8 n ++ numB ns from rfl, List.length_append, ih, byte8_length, List.length_cons]; omega
theorem numB_byte (ns : List Nat) : ∀ z ∈ numB ns, z < 256 := fun z hz => by
  obtain ⟨l, hl, hz⟩ := List.mem_flatten.1 hz
  obtain ⟨n, _, rfl⟩ := List.mem_map.1 hl
  exact byte8_by8 n z hz
theorem numB_succ (ns : List Nat) (t : Nat) (h : t < ns.length) : numB (ns.take t) ++ byte8 (ns.getD t 0) = numB (ns.take (t + 1)) := by
  unfold numB
  rw [List.take_add_one, List.getElem?_eq_getElem h, List.getD_eq_getElem?_getD, List.getElem?_eq_getElem h]
  show (List.map byte8 (ns.take t)).flatten ++ byte8 ns[t] = (List.map byte8 (ns.take t ++ [ns[t]])).flatten
  rw [List.map_append, List.flatten_append]
  simp only [List.map_cons, List.map_nil, List.flatten_cons, List.flatten_nil, List.append_nil]
/-- The root of a list of at most n numbers. -/
def listR (n : Nat) (ns : List Nat) : List Nat := pr (treeZ ((8 * n + 31) / 32) (chunks (numB ns))) (wUp ns.length 8)
mutual
/-- A value's root. -/
def rootV : Dt → Vt → List Nat
  | .mk f n ds, .mk num r bs ks => if f = 1 ∨ f = 2 then wUp num 8 else if f = 3 then r else if f = 7 then bitsR n bs else if f = 5 then listR n (ks.map Vt.num) else fullR (depth (ds.length : Nat)) (rootsV ds ks)
def rootsV : List Dt → List Vt → List (List Nat)
  | d :: ds, v :: vs => rootV d v :: rootsV ds vs
  | [], _ => []
  | _, [] => []
end
mutual
/-- The kinds and values that this speaks of. -/
def okR : Dt → Vt → Prop
  | .mk f n ds, .mk num r bs ks => f = 1 ∨ f = 2 ∨ f = 3 ∨ (f = 7 ∧ n ≤ 1048576 ∧ bs.length ≤ 20000) ∨ (f = 5 ∧ n ≤ 1048576 ∧ (∃ m0 ds0, ds = [.mk 1 m0 ds0]) ∧ ks.length ≤ 2000) ∨ (f = 8 ∧ ds.length = ks.length ∧ ds.length ≤ 1048576 ∧ okRs ds ks)
def okRs : List Dt → List Vt → Prop
  | d :: ds, v :: vs => okR d v ∧ okRs ds vs
  | [], _ => True
  | _, [] => True
end
theorem okRs_get : ∀ {ds : List Dt} {vs : List Vt} {i : Nat} {d : Dt} {v : Vt}, okRs ds vs → ds[i]? = some d → vs[i]? = some v → okR d v
  | d :: ds, v :: vs, 0, _, _, h, h1, h2 => by simp at h1 h2; subst h1; subst h2; rw [okRs] at h; exact h.1
  | d :: ds, v :: vs, i + 1, _, _, h, h1, h2 => by
    rw [List.getElem?_cons_succ] at h1 h2
    rw [okRs] at h
    exact okRs_get h.2 h1 h2
theorem rootsV_get : ∀ {ds : List Dt} {vs : List Vt} {i : Nat} {d : Dt} {v : Vt}, ds[i]? = some d → vs[i]? = some v → (rootsV ds vs)[i]? = some (rootV d v)
  | d :: ds, v :: vs, 0, _, _, h1, h2 => by simp at h1 h2; subst h1; subst h2; rw [rootsV]; rfl
  | d :: ds, v :: vs, i + 1, _, _, h1, h2 => by
    rw [List.getElem?_cons_succ] at h1 h2
    rw [rootsV, List.getElem?_cons_succ]
    exact rootsV_get h1 h2
theorem rootsV_length : ∀ {ds : List Dt} {vs : List Vt}, ds.length = vs.length → (rootsV ds vs).length = ds.length
  | [], _, _ => by rw [rootsV]; rfl
  | d :: ds, v :: vs, h => by rw [rootsV, List.length_cons, rootsV_length (by simpa using h), List.length_cons]
  | d :: ds, [], h => by simp at h
/-- The roots that a value holds are roots. -/
def goodV (w : World) (x : Vt) : Prop := ∃ sb sk, VAt w x sb sk
mutual
theorem rootV_rt {w : World} : ∀ (d : Dt) (x : Vt) {sb sk : Value}, okR d x → VAt w x sb sk → Rt (rootV d x)
  | .mk f n ds, .mk num r bs ks, sb, sk, ho, h => by
    rw [VAt] at h
    rw [rootV]
    rw [okR] at ho
    split
    · exact wUp_rt _ 8
    · split
      · exact ⟨h.1.2.1, h.1.2.2⟩
      · split
        · exact pr_rt _ _
        split
        · exact pr_rt _ _
        · rename_i h1 h2 h3 h5
          rcases ho with ho | ho | ho | ⟨ho, _⟩ | ⟨ho, _⟩ | ⟨_, hl, _, ho⟩
          · exact absurd (.inl ho) h1
          · exact absurd (.inr ho) h1
          · exact absurd ho h2
          · exact absurd ho h3
          · exact absurd ho h5
          refine full_rt _ _ ?_
          obtain ⟨_, _, ao, cap, _, _, _, hk⟩ := h
          rcases hk with hk | ⟨b, off, _, hk⟩
          · rw [List.length_eq_zero_iff.1 (hl.trans hk), rootsV]; exact Rts.nil
          · exact rootsV_rts ds ks ho hk
theorem rootsV_rts {w : World} : ∀ (ds : List Dt) (xs : List Vt) {b off : Nat}, okRs ds xs → KsAt w xs b off → Rts (rootsV ds xs)
  | d :: ds, x :: xs, b, off, ho, h => by
    rw [KsAt] at h
    rw [okRs] at ho
    rw [rootsV]
    obtain ⟨⟨sb, sk, _, h1⟩, h2⟩ := h
    exact Rts.more (rootV_rt d x ho.1 h1) (rootsV_rts ds xs ho.2 h2)
  | [], _, _, _, _, _ => by rw [rootsV]; exact Rts.nil
  | d :: ds, [], _, _, _, _ => by rw [rootsV] <;> first | exact Rts.nil | simp
end
theorem run_atG {P : Program} {o : Oper} {a : Act} {w : World} (ty e : TypeId) (sz : Nat) (x y : Operand) (ho : o.op = .indexAddr ty x y) (hu : P.underlying ty = some (.slice e)) (hs : (P.info? e).map (·.size) = some sz) (b off n cap i : Nat) (hx : a.eval x = .slice (some ⟨b, off, none⟩) n cap) (hy : a.eval y = .int .i64 (i : Int)) (hi : i < n) :
    (execOp a.eval o).run P w = .ok (.value (.pointer (some ⟨b, off + i * sz, none⟩))) w := by
  have hz : (sizeOf e).run P w = .ok sz w := by
    cases hq : P.info? e with
    | none => rw [hq] at hs; cases hs
    | some ie => rw [hq] at hs; simp only [Option.map_some, Option.some.injEq] at hs; simp [sizeOf, typeInfo, hq, hs, go_sem]
  unfold execOp
  simp only [ho, hx, hy]
  by_cases h0 : i * sz = 0
  · simp [Instr.indexAt, underlying, hu, hz, hi, h0, Addr.add, asIntOf, go_sem]
  · simp [Instr.indexAt, underlying, hu, hz, hi, h0, Addr.add, asIntOf, go_sem]

theorem sizeD1 : (Tryz.prog.info? 38).map (·.size) = some 1 := by kernel_rfl
theorem sizeV35 : (Tryz.prog.info? 43).map (·.size) = some 35 := by kernel_rfl

set_option maxHeartbeats 2000000 in
/-- Numbers, truths. -/
theorem root_num (f n num : Nat) (ds : List Dt) (r : List Nat) (sb sk : Value) (p : Nat) (w : World) (hf : f = 1 ∨ f = 2) (hD : DAt w (.mk f n ds) p) (hn : num < 18446744073709551616) :
    Calls Tryz.prog 8 #[.pointer (some ⟨p, 0, none⟩), .agg (valL num r sb sk).toArray] w fun e w' => e = .returned (.agg (nums .u8 (wUp num 8))) ∧ Below w.heap.size w w' := by
  have hwr := wUp_rt num 8
  have HC := hid (fun w => word_any num hn w)
  rw [DAt] at hD
  obtain ⟨hd0, _⟩ := hD
  have HN := hid hn
  clear hn
  generalize wUp num 8 = W at *
  rcases hf with rfl | rfl
  all_goals
    go_enter Tryz.func8, Tryz.ntmps8
    go_wp2_with ((with_reducible refine at_list' ?_); first
      | (refine wpList_box_c rfl 3 rfl (.tmp 1) rfl (valL num r sb sk) rfl ?_; intro w1 H1 B1 S1)
      | (refine wpList_alloc_has rfl 4 rfl 22 rfl .u8 32 Tryz.zero22 ?_; intro w2 H2 B2 S2; rw [S1] at H2 S2; rw [S1]; have hd2 := cell_keep B2 (cell_keep B1 hd0); have hv2 := (H1.keep B2).cell (valL_0 num r sb sk)))
    refine (HC.out _).mono ?_
    rintro e w3 ⟨rfl, B3⟩
    have H3 := H2.keep B3
    have HW3 := below_more (below_more B1 B2 (Nat.le_refl _)) B3 (Nat.le_refl _)
    clear HC H1 H2 B3 hd2 hv2
    go_wp2_with ((with_reducible refine at_list' ?_); first
      | (refine wpList_store_has rfl 22 (.tmp 4) (.tmp 25) rfl (w.heap.size + 1) .u8 W (zeros 32) rfl rfl 22 H3 (hwr.size _ Tryz.size22) (by rw [hwr.len, zeros_length]) ?_; intro w4 H4 O4))
    refine bodyPost_ret (results_has rfl _ _ (w.heap.size + 1) 22 .u8 W _ _ rfl H4 Tryz.underlying22 (hwr.size _ Tryz.size22)) rfl ?_
    exact ⟨rfl, below_only HW3 O4 (by omega)⟩

set_option maxHeartbeats 2000000 in
theorem root_root (n num : Nat) (ds : List Dt) (r : List Nat) (sb sk : Value) (p : Nat) (w : World) (hD : DAt w (.mk 3 n ds) p) (hr : Rt r) :
    Calls Tryz.prog 8 #[.pointer (some ⟨p, 0, none⟩), .agg (valL num r sb sk).toArray] w fun e w' => e = .returned (.agg (nums .u8 r)) ∧ Below w.heap.size w w' := by
  rw [DAt] at hD
  obtain ⟨hd0, _⟩ := hD
  go_enter Tryz.func8, Tryz.ntmps8
  go_wp2_with ((with_reducible refine at_list' ?_); first
    | (refine wpList_box_c rfl 3 rfl (.tmp 1) rfl (valL num r sb sk) rfl ?_; intro w1 H1 B1 S1)
    | (refine wpList_alloc_has rfl 4 rfl 22 rfl .u8 32 Tryz.zero22 ?_; intro w2 H2 B2 S2; rw [S1] at H2 S2; rw [S1]; have hd2 := cell_keep B2 (cell_keep B1 hd0); have HV := hid (H1.keep B2))
    | (refine wpList_load_mid rfl 22 (.tmp 28) rfl w.heap.size 1 rfl (cellsB r) _ (HV.out.range 1 (cellsB r) (fun j v hv => valL_root num r sb sk j v hv)) Tryz.underlying22 rfl (by rw [cellsB_length, hr.len]; exact Tryz.size22) ?_)
    | (refine wpList_store_has rfl 22 (.tmp 4) (.tmp 29) rfl (w.heap.size + 1) .u8 r (zeros 32) rfl rfl 22 H2 (hr.size _ Tryz.size22) (by rw [hr.len, zeros_length]) ?_; intro w4 H4 O4))
  refine bodyPost_ret (results_has rfl _ _ (w.heap.size + 1) 22 .u8 r _ _ rfl H4 Tryz.underlying22 (hr.size _ Tryz.size22)) rfl ?_
  exact ⟨rfl, below_only (below_more B1 B2 (Nat.le_refl _)) O4 (by omega)⟩
end Go.Proofs.YtbmcmabimfoknaaGreatDoor

/- The tree of leaves, beyond their limit too, by the program. -/
namespace Go.Proofs.YtbmcmabimfoknaaGreatDoor
open Go.RowKit
set_option linter.unusedVariables false
set_option maxRecDepth 100000

set_option maxHeartbeats 1000000 in
theorem tre_of (v : Value) (m : Int) (W : List Nat) (en : Int) (w : World) (hW : Rt W) (h : ∀ w1, Below w.heap.size w w1 → Calls Tryz.prog 90 #[v, .int .i64 m] w1 fun e w' => e = .returned (.tuple #[.agg (nums .u8 W), .int .i64 en]) ∧ Below w1.heap.size w1 w') :
    Calls Tryz.prog 61 #[v, .int .i64 m] w fun e w' => e = .returned (.agg (nums .u8 W)) ∧ Below w.heap.size w w' := by
  have HC := hid h
  clear h
  go_enter Tryz.func61, Tryz.ntmps61
  go_wp2_with ((with_reducible refine at_list' ?_); first
    | (refine wpList_alloc_has rfl 4 rfl 23 rfl .u8 32 Tryz.zero23 ?_; intro w1 H1 B1 S1))
  refine (HC.out w1 B1).mono ?_
  rintro e w2 ⟨rfl, B2⟩
  have H2 := H1.keep B2
  have HW2 := below_more B1 B2 (Nat.le_refl _)
  have s2 := H2.lt
  clear HC H1 B1 S1 B2
  go_wp2_with ((with_reducible refine at_list' ?_); first
    | (refine wpList_alloc_has rfl 5 rfl 23 rfl .u8 32 Tryz.zero23 ?_; intro w3 H3 B3 S3)
    | (refine wpList_store_has rfl 23 (.tmp 5) (.tmp 11) rfl w2.heap.size .u8 W (zeros 32) rfl rfl 23 H3 (hW.size _ Tryz.size23) (by rw [hW.len, zeros_length]) ?_; intro w4 H4 O4)
    | (refine wpList_load_has rfl 23 (.tmp 5) rfl w2.heap.size .u8 W rfl 23 H4 _ _ Tryz.und23 (hW.size _ Tryz.size23) ?_)
    | (refine wpList_store_has rfl 23 (.tmp 4) (.tmp 13) rfl w.heap.size .u8 W (zeros 32) rfl rfl 23 ((H2.keep B3).only O4 (by omega)) (hW.size _ Tryz.size23) (by rw [hW.len, zeros_length]) ?_; intro w5 H5 O5))
  refine bodyPost_ret (results_has rfl _ _ w.heap.size 23 .u8 W _ _ rfl H5 Tryz.und23 (hW.size _ Tryz.size23)) rfl ?_
  exact ⟨rfl, below_only (below_only (below_more HW2 B3 (Nat.le_refl _)) O4 (by omega)) O5 (by omega)⟩
theorem treZ_any (ao : Option Addr) (cap : Nat) (rs : List (List Nat)) (m : Nat) (w : World) (hT : Tabs w) (hcap : rs.length ≤ cap) (hm : cap ≤ maxLen) (hlen : rs.length ≤ 1048576) (hmm : m ≤ 1048576) (hR : RootsAt w ao rs) :
    Calls Tryz.prog 61 #[.slice ao rs.length cap, .int .i64 (m : Nat)] w fun e w' => e = .returned (.agg (nums .u8 (treeZ m rs))) ∧ Below w.heap.size w w' := by
  by_cases hle : rs.length ≤ m
  · rw [treeZ, if_pos hle]
    exact tre_of _ _ _ 0 w (full_rt _ _ hR.rts) (fun w1 hb => tree_any ao cap rs (m : Nat) w1 (hT.keep hb) hcap hm (by omega) (hR.keep hb) (by omega) (by omega))
  · rw [treeZ, if_neg hle]
    exact tre_of _ _ _ 4 w zero_rt (fun w1 hb => tree_bad ao cap rs (m : Nat) w1 hcap hm (by omega) (by omega) (.inr (by omega)))
end Go.Proofs.YtbmcmabimfoknaaGreatDoor

/- slices.Collect of the chunks of any bytes; the chunks of bytes, by the program. -/
namespace Go.Proofs.YtbmcmabimfoknaaGreatDoor
open Go.RowKit Go.Shelf
set_option linter.unusedVariables false
set_option maxRecDepth 100000
attribute [local go_sem] Oper.semAt_some

theorem run_one_root {P : Program} {w : World} {o : Oper} {a : Act} (t e : TypeId) (x : Operand) (ho : o.op = .buildSlice t 1 #[(0, x)]) (hu : P.underlying t = some (.slice e))
    (hi : (P.info? e).map (fun i => (i.zero, i.size, i.bytes)) = some (some (.agg (nums .u8 (zeros 32))), 32, 32)) (r : List Nat) (hx : a.eval x = .agg (nums .u8 r)) (hr : r.length = 32) :
    (execOp a.eval o).run P w = .ok (.value (.slice (some ⟨w.heap.size, 0, none⟩) 1 1)) (w.alloc (.cells (nums .u8 r) e)) := by
  obtain ⟨i0, hi0, hz0, hz1, hz2⟩ : ∃ i, P.info? e = some i ∧ i.zero = some (.agg (nums .u8 (zeros 32))) ∧ i.size = 32 ∧ i.bytes = 32 := by
    cases hq : P.info? e with
    | none => simp [hq] at hi
    | some i => simp [hq] at hi; exact ⟨i, rfl, hi.1, hi.2.1, hi.2.2⟩
  have h := run_buildSlice (P := P) w t e 1 ((#[(0, x)] : Array (Nat × Operand)).map fun (i, x) => (i, a.eval x)) (nums .u8 r) i0 (.agg (nums .u8 (zeros 32))) hu hi0 hz0 (by rw [hz1]; omega) (by rw [hz1]; omega) ?_
  · unfold execOp
    simp only [ho]
    simp only [Sem.run_bind, h, Result.andThen_ok, Sem.run_pure]
  rw [hz1]
  have e1 : ((Array.range (1 * 32)).map ((Value.agg (nums .u8 (zeros 32))).cells[· % (Value.agg (nums .u8 (zeros 32))).cells.size]!)) = nums .u8 (zeros 32) := by
    apply Array.toList_inj.1
    have := madeZ 1
    unfold madeCells at this
    rw [this]
    simp [nums]
  rw [e1]
  have e2 : (#[(0, x)] : Array (Nat × Operand)).map (fun (i, x) => (i, a.eval x)) = #[(0, .agg (nums .u8 r))] := by simp [hx]
  rw [e2]
  have hc : (Value.agg (nums .u8 r)).cells = nums .u8 r := rfl
  simp only [Instr.fill, hc, nums_size, hr, zeros_length]
  rw [if_neg (by simp)]
  congr 1
  rw [← Array.foldl_toList, Array.toList_zipIdx]
  have h3 := fold_setV (nums .u8 r).toList 0 (nums .u8 (zeros 32))
  have h4 := setV_nums .u8 (zeros 32) r 0 (by rw [zeros_length, hr]; omega)
  rw [over_all _ _ (by rw [zeros_length, hr])] at h4
  refine Eq.trans ?_ (h3.trans h4)
  simp
theorem run_call_append {P : Program} {w w' : World} {o : Oper} {a : Act} (x y : Operand) (t tx : TypeId) (ho : o.op = .call { callee := .builtin .append, args := #[x, y], argTypes := #[t, tx] }) (u v v' : Value) (hx : a.eval x = u) (hy : a.eval y = v)
    (hr : (Builtin.append_ #[t, tx] o.type #[u, v]).run P w = .ok v' w') : (execOp a.eval o).run P w = .ok (.value v') w' := by
  unfold execOp
  simp only [ho, resolve, invoke, builtin, Sem.run_bind, Sem.run_pure, Result.andThen_ok, List.map_toArray, List.map_cons, List.map_nil, hx, hy, hr]
theorem root_src {w : World} {g : Nat} {x : List Nat} (h : Has w g 23 .u8 x) (hx : x.length = 32) : Src Tryz.prog 32 122 (.slice (some ⟨g, 0, none⟩) 1 1) 1 (cellsOf [x]) w := by
  refine Src.ofSlice w Tryz.underlying122 ⟨g, 0, none⟩ 1 1 _ (by simp [cellsOf, hx]) (fun j u hj => ?_) (cellsOf_one [x])
  have hjl : j < x.length := by
    by_cases hjl : j < x.length
    · exact hjl
    · rw [List.getElem?_eq_none (by simp [cellsOf]; omega)] at hj; cases hj
  rw [Addr.add_lit, Nat.zero_add, h.cell j hjl]
  simpa [cellsOf, hjl] using hj

theorem not_cells {W : World} {p : Addr} {v : Value} {o : Obj} (h : W.cell? p = some v) (ho : W.heap[p.block]? = some o) (hc : o.isCells = false) : False := by
  simp only [World.cell?, ho] at h
  cases o <;> simp [Obj.isCells] at hc h
theorem Reads.kept {W W' : World} {row : Option Nat} {ao : Option Addr} {zs : List Nat} (h : Reads W ao zs) (hg : W.grownBy W' row) (hr : ∀ r, row = some r → ∃ o : Obj, W.heap[r]? = some o ∧ o.isCells = false) : Reads W' ao zs := by
  rcases h with h | ⟨b, off, rfl, hc⟩
  · exact .inl h
  · refine .inr ⟨b, off, rfl, fun i hi => hg.cell (hc i hi) (fun e => ?_)⟩
    obtain ⟨o, ho, hk⟩ := hr b e.symm
    exact not_cells (hc i hi) ho hk
set_option maxHeartbeats 1000000 in
theorem appSeq_any (c cap : Nat) (ao : Option Addr) (bs : List Nat) (w : World) (h8 : ∀ z ∈ bs, z < 256) (hlen : bs.length ≤ 1048576) (hcap : bs.length ≤ cap) (hm : cap ≤ maxLen) (hc : w.cell? ⟨c, 0, none⟩ = some (.slice ao bs.length cap)) (hR : Reads w ao bs) :
    CallsIn Fence.wide 5 Tryz.prog 113 #[.slice none 0 0, .func (.func 115) #[] #[.pointer (some ⟨c, 0, none⟩)]] w fun e w' => ∃ v, e = .returned v ∧ w'.ownsRow w.heap.size 23 32 v (chunks bs).length (cellsOf (chunks bs)) ∧ Below w.heap.size w w' := by
  refine callsIn_of_wp_marks Tryz.func113 rfl trivial ?_ rfl
  simp only [Tryz.ntmps113, List.size_toArray, List.length_cons, List.length_nil, Nat.reduceAdd, Nat.reduceSub, Array.replicate_succ, Array.replicate_zero, List.push_toArray, List.append_toArray, List.nil_append, List.cons_append]
  gi_wp2_with fail
  have BA : Below w.heap.size w (w.alloc (.cells #[.slice none 0 0] 122)) := (Below.refl _ w).alloc (Nat.le_refl _) _
  have X0 : Go.Boxed (w.alloc (.cells #[.slice none 0 0] 122)) w.heap.size 122 (.slice none 0 0) := Go.Boxed.new w _ _
  have S0 : (w.alloc (.cells #[.slice none 0 0] 122)).heap.size = w.heap.size + 1 := by simp
  have C0 := (BA.cell (p := ⟨c, 0, none⟩) (block_lt_of_cell hc)).trans hc
  have R0 := hR.keep BA
  have hcl : c < w.heap.size := block_lt_of_cell hc
  have hchl := chunks_length bs
  generalize w.alloc (.cells #[.slice none 0 0] 122) = w0 at *
  refine wpIn_rangeFunc_ownH rfl (by decide) (gf := 115) (lb := #[.pointer (some ⟨c, 0, none⟩)]) rfl trivial (enters_of Tryz.func115 (by kernel_rfl) rfl)
    (encs := fun x : RtV => #[.agg (nums .u8 x.1)]) (Kp := KeepsOwn c ao bs) (S := fun ys => ys.map Subtype.val = chunks bs) (Sp := fun pre => pre.map Subtype.val = (chunks bs).take pre.length) (N := (chunks bs).length) (w0 := w0)
    (fun l J Jx W hW hJ _ hY h0 => chunkI_in Fence.wide _ trivial rfl (by decide) l c cap ao bs h8 (by omega) hcap hm W J Jx hJ hY ((hW.cell (p := ⟨c, 0, none⟩) (block_lt_of_cell C0)).trans C0) (R0.keep hW) h0)
    KeepsOwn.trans ?kb (Below.refl _ _) (fun _ => rfl)
    (fun pre W => (∃ v, Go.Boxed W w.heap.size 122 v ∧ W.ownsRow w.heap.size 23 32 v pre.length (cellsOf (pre.map Subtype.val)) ∧ True) ∧ Below w.heap.size w W)
    (fun _ _ _ => False)
    (OwnFrom.and (Own.from (holdsRow_own w.heap.size w.heap.size 122 23 32 (fun s : List RtV => s.length) (fun s => cellsOf (s.map Subtype.val)) (fun _ _ => True)) _) (ownFrom_below (Nat.le_refl _) (by omega)))
    (fun _ _ _ _ _ hs _ _ => hs) ⟨⟨_, X0, World.ownsRow_nil _ _ _ _, trivial⟩, BA⟩
    (fun x a' W => ∃ g, w.heap.size ≤ g ∧ Has W g 23 .u8 x.1 ∧ a' = { tmps := #[.slice none 0 0, .func (.func 115) #[] #[.pointer (some ⟨c, 0, none⟩)], .pointer (some ⟨w.heap.size, 0, none⟩), undef, .slice none 0 0, .pointer (some ⟨g, 0, none⟩), .func (.func 115) #[] #[.pointer (some ⟨c, 0, none⟩)], .agg (nums .u8 x.1), undef, undef, undef, undef, undef], defers := [] })
    (fun x a' => Own.from (fun s A B row ⟨g, h1, h2, h3⟩ hg hr => ⟨g, h1, heap_kept h2 hg hr, h3⟩) _) ?assign ?body ?done ?stop
  case kb =>
    intro W l o o' hl h hk _
    exact ⟨World.cell?_of_block (World.putObj_heap_other (fun e => by simp at e; omega)), fun hh => hh.kept (grownBy_putObj' W l o') (fun r e => by cases e; exact ⟨o, h, hk⟩)⟩
  case assign =>
    rintro l pre x W K ⟨⟨v, hX, hown, _⟩, hB⟩ hK
    have hrt := x.2
    have B1 : Below W.heap.size W (W.alloc (.cells (nums .u8 (zeros 32)) 23)) := (Below.refl _ _).alloc (Nat.le_refl _) _
    have H1 : Has (W.alloc (.cells (nums .u8 (zeros 32)) 23)) W.heap.size 23 .u8 (zeros 32) := heap_alloc_new W _
    have hs32 : (nums .u8 x.1).size = 32 := by rw [nums_size, hrt.len]
    have ksc := run_storeCells_from (P := Tryz.prog) W.heap.size 23 (nums .u8 x.1).toList 0 (nums .u8 (zeros 32)) (W.alloc (.cells (nums .u8 (zeros 32)) 23)) H1 (by rw [Array.length_toList, hs32, nums_size, zeros_length]) (fun v hv => (Array.all_eq_true_iff_forall_mem.1 (nums_one .u8 x.1)) v (by simpa using hv))
    rw [List.take_zero, List.nil_append, Array.toArray_toList] at ksc
    have B2 : Below W.heap.size W ((W.alloc (.cells (nums .u8 (zeros 32)) 23)).setRow W.heap.size (nums .u8 x.1)) := below_only B1 (Only.setRow _ _ _) (Nat.le_refl _)
    have H2 : Has ((W.alloc (.cells (nums .u8 (zeros 32)) 23)).setRow W.heap.size (nums .u8 x.1)) W.heap.size 23 .u8 x.1 := setRow_heap _ _ _ _ _ _ H1
    gi_wp2
    rename_i K2 hK2
    erw [ksc]
    simp only [Result.andThen_ok, Oper.uponIn_skip]
    refine hK2 _ _ ?_
    gi_wp2
    have hBB := hB.trans (B2.mono hB.size)
    exact hK _ _ ⟨B2.size, fun k o _ hk ho => (B2.block k (Array.getElem?_eq_some_iff.1 hk).1).trans hk⟩ ⟨B2.cell (p := ⟨c, 0, none⟩) (by show c < W.heap.size; have := hB.size; omega), fun h => h.keep B2⟩ ⟨⟨v, (B2.block _ hX.lt).trans hX, own_keep hown B2, trivial⟩, hBB⟩ ⟨W.heap.size, hB.size, H2, rfl⟩
  case body =>
    rintro l pre x a' W hl ⟨r, hr⟩ ⟨⟨v, hX, hown, _⟩, hB⟩ ⟨g, hg, hH, rfl⟩ hlt
    have hvc := hX.cell
    have hrt := x.2
    have HB1 : Has (W.alloc (.cells (nums .u8 x.1) 23)) W.heap.size 23 .u8 x.1 := heap_alloc_new W _
    have hown1 := hown.alloc (.cells (nums .u8 x.1) 23)
    obtain ⟨i0, hi, hz0, hz1, hz2⟩ := info_parts Tryz.rootInfo
    obtain ⟨v', w1, hrun, hown', hgrow, hmov⟩ := run_append_any (P := Tryz.prog) (W.alloc (.cells (nums .u8 x.1) 23)) w.heap.size 122 122 122 23 i0 (.agg (nums .u8 (zeros 32))) 32 32 Tryz.underlying122 hi hz0 hz1 hz2 (by rw [show (Value.agg (nums .u8 (zeros 32))).cells = nums .u8 (zeros 32) from rfl, nums_size, zeros_length]) (by decide) v pre.length _ hown1 (.slice (some ⟨W.heap.size, 0, none⟩) 1 1) 1 (cellsOf [x.1]) (root_src HB1 hrt.len) (by unfold maxLen; omega) (by omega) (by have := hB.size; simp; omega)
    obtain ⟨q1, q2, q3, q4, q5⟩ := Go.Boxed.appended hX (by decide) hown hB.size (Nat.le_refl _) hown' hgrow
    obtain ⟨g1, cap1, rfl⟩ := ownsRow_succ hown'
    have h1c := q1.cell
    have h1f := q1.frozen
    have hLL := hB.trans q5
    have hcs : cellsOf (pre.map Subtype.val) ++ cellsOf [x.1] = cellsOf ((pre ++ [x]).map Subtype.val) := by rw [← cellsOf_append, List.map_append]; rfl
    rw [hcs] at q3
    have hln : (pre ++ [x]).length = pre.length + 1 := by simp
    have HQ := hid (And.intro q2 (And.intro q3 (And.intro q4 (And.intro q5 (And.intro hLL hln)))))
    have HRN := hid hrun
    clear q2 q3 q4 q5 hLL hcs hln hgrow hown' hown1 hown hmov
    gi_wp2_with (first
      | (refine wpListIn_run rfl rfl (fun _ h => by cases h) _ _ (run_load_has 23 (.tmp 5) rfl g .u8 x.1 rfl 23 hH _ _ Tryz.und23 (by rw [hrt.len]; exact Tryz.size23)) ?_)
      | (refine wpListIn_run rfl rfl (fun _ h => by cases h) _ _ (run_one_root 122 23 (.tmp 9) rfl Tryz.underlying122 Tryz.rootInfo x.1 rfl hrt.len) ?_)
      | (refine wpListIn_run rfl rfl (fun _ h => by cases h) _ _ (run_call_append (.tmp 8) (.tmp 10) 122 122 rfl _ _ _ rfl rfl HRN.out) ?_))
    refine ⟨HQ.out.2.2.1.from _, ⟨HQ.out.2.2.2.1.cell (p := ⟨c, 0, none⟩) hcl, fun _ => hR.keep HQ.out.2.2.2.2.1⟩, ⟨⟨_, HQ.out.1, ?_, trivial⟩, HQ.out.2.2.2.2.1⟩⟩
    rw [HQ.out.2.2.2.2.2]
    exact HQ.out.2.1
  case done =>
    rintro D ys W hD hdn ⟨⟨v, hX, hown, _⟩, hB⟩ hK
    have hvc := hX.cell
    gi_wp2
    refine ⟨by simp, .inl ⟨_, _, rfl, run_takeDeferred hK, ?_⟩⟩
    refine ⟨_, results_tmp rfl _ _ _, v, rfl, ?_, hB.trans (belowK_b (w := w) (Nat.le_refl _) W D _ _ (by omega) hK rfl rfl)⟩
    have h := ownsRow_putObj hown (.deferred none) hK rfl
    rw [hdn] at h
    rw [← hdn, List.length_map]
    rw [← hdn] at h
    exact h
  case stop =>
    rintro D c pre W _ _ h _
    exact h.elim
end Go.Proofs.YtbmcmabimfoknaaGreatDoor

/- Bytes as roots, by the program: Collect, chunks. -/
namespace Go.Proofs.YtbmcmabimfoknaaGreatDoor
open Go.RowKit
set_option linter.unusedVariables false
set_option maxRecDepth 100000

set_option maxHeartbeats 1000000 in
theorem collect_any (c cap : Nat) (ao : Option Addr) (bs : List Nat) (w : World) (h8 : ∀ z ∈ bs, z < 256) (hlen : bs.length ≤ 1048576) (hcap : bs.length ≤ cap) (hm : cap ≤ maxLen) (hc : w.cell? ⟨c, 0, none⟩ = some (.slice ao bs.length cap)) (hR : Reads w ao bs) :
    Calls Tryz.prog 104 #[.func (.func 115) #[] #[.pointer (some ⟨c, 0, none⟩)]] w fun e w' => ∃ v, e = .returned v ∧ w'.ownsRow w.heap.size 23 32 v (chunks bs).length (cellsOf (chunks bs)) ∧ Below w.heap.size w w' := by
  have HC := hid (callsIn_wide.1 (appSeq_any c cap ao bs w h8 hlen hcap hm hc hR))
  clear hm hc hR h8 hcap hlen
  go_enter Tryz.func104, Tryz.ntmps104
  go_wp2_with fail
  refine HC.out.mono ?_
  rintro e w1 ⟨v, rfl, h1, B1⟩
  have X := hid (And.intro h1 B1)
  clear h1 B1
  go_wp2
  go_ret
  exact ⟨_, rfl, X.out.1, X.out.2⟩
set_option maxHeartbeats 1000000 in
theorem chunksR_any (v : Value) (bs : List Nat) (w : World) (hB : IsB w v bs) (hlen : bs.length ≤ 1048576) : Calls Tryz.prog 91 #[v] w fun e w' => ∃ v', e = .returned v' ∧ w'.ownsRow w.heap.size 23 32 v' (chunks bs).length (cellsOf (chunks bs)) ∧ Below w.heap.size w w' := by
  obtain ⟨⟨ao, cap, rfl, hcap, hmx, hnil, hR⟩, h8⟩ := hB
  have HC := hid (chunks_any ao cap bs w hnil hcap (by omega) hR)
  have H8 := hid h8
  have HL := hid hlen
  clear hR h8 hlen
  go_enter Tryz.func91, Tryz.ntmps91
  go_wp2_with fail
  refine HC.out.mono ?_
  rintro e w1 ⟨c, v, hc, rfl, hv, ⟨ao1, cap1, rfl, h1, h2, h3⟩, B1⟩
  have HD := hid (collect_any c cap1 ao1 bs w1 H8.out HL.out h1 h2 hv h3)
  clear HC hv h1 h2 h3
  go_wp2_with fail
  refine HD.out.mono ?_
  rintro e w2 ⟨v2, rfl, h4, B2⟩
  have X := hid (And.intro h4 (B1.trans (B2.mono B1.size)))
  have hs := B1.size
  clear h4 B2 HD
  go_wp2
  go_ret
  refine ⟨_, rfl, ⟨X.out.1.1, ?_⟩, X.out.2⟩
  rcases X.out.1.2 with h | ⟨g, cap, cur, e, hb, rest⟩
  · exact .inl h
  · exact .inr ⟨g, cap, cur, e, Nat.le_trans hs hb, rest⟩
end Go.Proofs.YtbmcmabimfoknaaGreatDoor

/- The root of a list of numbers, by the program. -/
namespace Go.Proofs.YtbmcmabimfoknaaGreatDoor
open Go.RowKit
set_option linter.unusedVariables false
set_option maxRecDepth 100000

/-- A slice of numbers. -/
structure IsN (w : World) (v : Value) (ns : List Nat) : Prop where
  ex : ∃ ao cap, v = .slice ao ns.length cap ∧ ns.length ≤ cap ∧ cap ≤ maxLen ∧ (ns.length = 0 ∨ ∃ b off, ao = some ⟨b, off, none⟩ ∧ ∀ i, i < ns.length → w.cell? ⟨b, off + i, none⟩ = some (.int .u64 (ns.getD i 0 : Nat)))
  by64 : ∀ n ∈ ns, n < 18446744073709551616
theorem IsN.keep {w w' : World} {v : Value} {ns : List Nat} (h : IsN w v ns) (hb : Below w.heap.size w w') : IsN w' v ns := by
  obtain ⟨⟨ao, cap, e, h1, h2, h3⟩, h4⟩ := h
  refine ⟨⟨ao, cap, e, h1, h2, ?_⟩, h4⟩
  rcases h3 with h3 | ⟨b, off, e2, hc⟩
  · exact .inl h3
  · exact .inr ⟨b, off, e2, fun i hi => cell_keep hb (hc i hi)⟩
set_option maxHeartbeats 1000000 in
theorem packed_any (v : Value) (ns : List Nat) (w : World) (hN : IsN w v ns) (hl : ns.length ≤ 2000) :
    Calls Tryz.prog 62 #[v] w fun e w' => ∃ v', e = .returned v' ∧ w'.ownsRow w.heap.size 23 32 v' (chunks (numB ns)).length (cellsOf (chunks (numB ns))) ∧ Below w.heap.size w w' := by
  obtain ⟨⟨ao, cap, rfl, hcap, hmx, hc⟩, h64⟩ := hN
  have HC := hid hc
  have H64 := hid h64
  clear hc h64
  go_enter Tryz.func62, Tryz.ntmps62
  go_wp2_with fail
  go_loopw [3, 5, 8] (fun b _ i wr => ∃ t : Nat, t ≤ ns.length ∧ i = .int .i64 t ∧ Row wr w.heap.size b (numB (ns.take t)) ∧ Below w.heap.size w wr) (fun _ _ i _ => ns.length - (intOf i).toNat)
  case atStart => exact ⟨0, Nat.zero_le _, rfl, Row.nil _ _, Below.refl _ _⟩
  case round =>
    obtain ⟨t, ht, rfl, hown, HL⟩ := hrel
    by_cases hlt : t < ns.length
    · obtain ⟨b, off, rfl, hcc⟩ := HC.out.resolve_left (by omega)
      have hct := cell_keep HL (hcc t hlt)
      have hn64 : ns.getD t 0 < 18446744073709551616 := by
        rw [List.getD_eq_getElem?_getD, List.getElem?_eq_getElem hlt]
        exact H64.out _ (List.getElem_mem hlt)
      have hnx := numB_succ ns t hlt
      have hlB := numB_length (ns.take t)
      rw [List.length_take, Nat.min_eq_left (by omega)] at hlB
      obtain ⟨x, HX⟩ : ∃ x, Hid (ns.getD t 0 = x) := ⟨_, hid rfl⟩
      rw [HX.out] at hct hn64 hnx
      have HP := hid (put_any x 8 hn64 (by decide) (by decide) wr)
      have HO := hid (And.intro hown (And.intro HL hnx))
      have hsz := HL.size
      have hlB' := hid hlB
      clear hcc hown HL hnx hn64 hlB
      go_wp2_with fail
      refine HP.out.mono ?_
      rintro e w2 ⟨cap2, rfl, own2, B2⟩
      have hI := hid (put8_isB' own2)
      have R2 := hid (Row.below HO.out.1 B2)
      have L2 := hid (HO.out.2.1.trans (B2.mono HO.out.2.1.size))
      have s2 := B2.size
      clear own2 B2 HP hct
      go_wp2_with ((with_reducible refine at_list' ?_); first
        | (refine wpList_append_b rfl (.tmp 12) (.tmp 14) 99 rfl w.heap.size _ (numB (ns.take t)) rfl R2.out _ (byte8 x) rfl hI.out.src (by rw [hlB'.out, byte8_length]; omega) (by omega) ?_; intro v4 w4 r1 r2 r3))
      have L4 := below_grownR L2.out R2.out (Nat.le_refl _) r2
      rw [HO.out.2.2] at r1
      have X4 := hid (And.intro r1 L4)
      clear r1 r2 r3 L4
      go_roundw
      case rel => exact ⟨t + 1, by omega, by go_num, X4.out.1, X4.out.2⟩
      case measure => simp [intOf]; omega
    · have ht2 : t = ns.length := by omega
      subst ht2
      rw [List.take_of_length_le (Nat.le_refl _)] at hown
      have HD := hid (chunksR_any _ (numB ns) wr (hown.isB (numB_byte ns)) (by rw [numB_length]; omega))
      have HLL := hid HL
      clear hown HL
      go_wp2_with fail
      refine HD.out.mono ?_
      rintro e w2 ⟨v2, rfl, h2, B2⟩
      have X := hid (And.intro h2 (HLL.out.trans (B2.mono HLL.out.size)))
      have hs := HLL.out.size
      clear h2 B2 HD
      go_wp2
      go_ret
      refine ⟨_, rfl, ⟨X.out.1.1, ?_⟩, X.out.2⟩
      rcases X.out.1.2 with h | ⟨g, cap, cur, e, hb, rest⟩
      · exact .inl h
      · exact .inr ⟨g, cap, cur, e, Nat.le_trans hs hb, rest⟩
/-- The root of a list of numbers. -/
def numR (ns : List Nat) : List Nat := pr (treeZ 8 (chunks (numB ns))) (wUp ns.length 8)
theorem numR_rt (ns : List Nat) : Rt (numR ns) := pr_rt _ _
set_option maxHeartbeats 1000000 in
theorem numbersR_any (v : Value) (ns : List Nat) (w : World) (hT : Tabs w) (hN : IsN w v ns) (hl : ns.length ≤ 2000) :
    Calls Tryz.prog 17 #[v] w fun e w' => e = .returned (.agg (nums .u8 (numR ns))) ∧ Below w.heap.size w w' := by
  obtain ⟨T, HTT⟩ : ∃ T, Hid (treeZ 8 (chunks (numB ns)) = T) := ⟨_, hid rfl⟩
  have hTr := treeZ_rt 8 (chunks (numB ns)) (chunks_rts _ (numB_byte ns))
  rw [HTT.out] at hTr
  have hpr := pr_rt T (wUp ns.length 8)
  obtain ⟨Z, HZ⟩ : ∃ Z, Hid (pr T (wUp ns.length 8) = Z) := ⟨_, hid rfl⟩
  rw [show numR ns = pr (treeZ 8 (chunks (numB ns))) (wUp ns.length 8) from rfl, HTT.out, HZ.out]
  have HMX := hid (fun w (hT : Tabs w) => mix_any' T ns.length hTr (by omega) w hT)
  rw [HZ.out] at hpr HMX
  have HP := hid (fun w1 (hb : Below w.heap.size w w1) => packed_any v ns w1 (hN.keep hb) hl)
  have hcl : (chunks (numB ns)).length ≤ 1048576 := by rw [chunks_length, numB_length]; omega
  have HTz := hid (fun ao cap w1 (hT : Tabs w1) (h1 : (chunks (numB ns)).length ≤ cap) (h2 : cap ≤ maxLen) (h3 : RootsAt w1 ao (chunks (numB ns))) => treZ_any ao cap (chunks (numB ns)) 8 w1 hT h1 h2 hcl (by decide) h3)
  rw [HTT.out] at HTz
  obtain ⟨C, HC⟩ : ∃ C, Hid (chunks (numB ns) = C) := ⟨_, hid rfl⟩
  have hCr := chunks_rts _ (numB_byte ns)
  rw [HC.out] at HTz HP hCr
  obtain ⟨bao, bcap, rfl, _, _, _⟩ := hN.ex
  have HT := hid hT
  clear hN hT hcl
  go_enter Tryz.func17, Tryz.ntmps17
  go_wp2_with ((with_reducible refine at_list' ?_); first
    | (refine wpList_alloc_has rfl 2 rfl 23 rfl .u8 32 Tryz.zero23 ?_; intro w1 H1 B1 S1))
  refine (HP.out w1 B1).mono ?_
  rintro e w3 ⟨v3, rfl, h3, B3⟩
  obtain ⟨_, ao3, cap3, rfl, k1, k2, k3⟩ := RootsAt.own hCr h3
  have L3 := hid (below_more B1 B3 (Nat.le_refl _))
  have H3 := H1.keep B3
  have HT3 := hid (HTz.out ao3 cap3 w3 (HT.out.keep L3.out) k1 k2 k3)
  clear HP h3 k1 k2 k3 H1 B1 S1 B3 HTz
  go_wp2_with fail
  refine HT3.out.mono ?_
  rintro e w4 ⟨rfl, B4⟩
  have L4 := hid (below_more L3.out B4 (Nat.le_refl _))
  have H4 := H3.keep B4
  clear HT3 L3 H3 B4
  go_wp2_with fail
  refine (HMX.out w4 (HT.out.keep L4.out)).mono ?_
  rintro e w5 ⟨rfl, B5⟩
  have L5 := hid (below_more L4.out B5 (Nat.le_refl _))
  have H5 := H4.keep B5
  clear L4 H4 B5 HMX
  go_wp2_with ((with_reducible refine at_list' ?_); first
    | (refine wpList_store_has rfl 23 (.tmp 2) (.tmp 9) rfl w.heap.size .u8 Z (zeros 32) rfl rfl 23 H5 (hpr.size _ Tryz.size23) (by rw [hpr.len, zeros_length]) ?_; intro w6 H6 O6))
  refine bodyPost_ret (results_has rfl _ _ w.heap.size 23 .u8 Z _ _ rfl H6 Tryz.und23 (hpr.size _ Tryz.size23)) rfl ?_
  exact ⟨rfl, below_only L5.out O6 (Nat.le_refl _)⟩
end Go.Proofs.YtbmcmabimfoknaaGreatDoor

/- The root of a struct (Indexed), by the program. -/
namespace Go.Proofs.YtbmcmabimfoknaaGreatDoor
open Go.RowKit Go.Shelf
set_option linter.unusedVariables false
set_option linter.unusedSimpArgs false
set_option maxRecDepth 100000

def ixP (zno : Option Addr) (znc : Nat) (znl : List Nat) (zdzs : Nat) (zdzi : Nat) (zdzb : List Nat) (zdzcze : Nat) (zdzczr : List Nat) (zdztze : Nat) (zdztzr : List Nat) (zsg : List Nat) : List (List Value) := [[.slice zno znl.length znc], vtC zdzs zdzi zdzb zdzcze zdzczr zdztze zdztzr, cellsB zsg]
def ixC (zno : Option Addr) (znc : Nat) (znl : List Nat) (zdzs : Nat) (zdzi : Nat) (zdzb : List Nat) (zdzcze : Nat) (zdzczr : List Nat) (zdztze : Nat) (zdztzr : List Nat) (zsg : List Nat) : List Value := (ixP zno znc znl zdzs zdzi zdzb zdzcze zdzczr zdztze zdztzr zsg).flatten
theorem ixC_length (zno : Option Addr) (znc : Nat) (znl : List Nat) (zdzs : Nat) (zdzi : Nat) (zdzb : List Nat) (zdzcze : Nat) (zdzczr : List Nat) (zdztze : Nat) (zdztzr : List Nat) (zsg : List Nat) (hzdzb : zdzb.length = 32) (hzdzczr : zdzczr.length = 32) (hzdztzr : zdztzr.length = 32) (hzsg : zsg.length = 32) : (ixC zno znc znl zdzs zdzi zdzb zdzcze zdzczr zdztze zdztzr zsg).length = 133 := by simp [ixC, ixP, cellsB_length, hzdzb, hzdzczr, hzdztzr, hzsg, vtC_length zdzs zdzi zdzb zdzcze zdzczr zdztze zdztzr hzdzb hzdzczr hzdztzr]
def ixR (zno : Option Addr) (znc : Nat) (znl : List Nat) (zdzs : Nat) (zdzi : Nat) (zdzb : List Nat) (zdzcze : Nat) (zdzczr : List Nat) (zdztze : Nat) (zdztzr : List Nat) (zsg : List Nat) : List Nat := fullR (depth (([numR znl, vtR zdzs zdzi zdzb zdzcze zdzczr zdztze zdztzr, zsg] : List (List Nat)).length : Nat)) [numR znl, vtR zdzs zdzi zdzb zdzcze zdzczr zdztze zdztzr, zsg]
theorem ixR_rt (zno : Option Addr) (znc : Nat) (znl : List Nat) (zdzs : Nat) (zdzi : Nat) (zdzb : List Nat) (zdzcze : Nat) (zdzczr : List Nat) (zdztze : Nat) (zdztzr : List Nat) (zsg : List Nat) (hzdzb : Rt zdzb) (hzdzczr : Rt zdzczr) (hzdztzr : Rt zdztzr) (hzsg : Rt zsg) : Rt (ixR zno znc znl zdzs zdzi zdzb zdzcze zdzczr zdztze zdztzr zsg) := full_rt _ _ (Rts.more (numR_rt znl) (Rts.more (vtR_rt zdzs zdzi zdzb zdzcze zdzczr zdztze zdztzr hzdzb hzdzczr hzdztzr) (Rts.more hzsg Rts.nil)))
set_option maxHeartbeats 2000000 in
theorem ixR_any (zno : Option Addr) (znc : Nat) (znl : List Nat) (zdzs : Nat) (zdzi : Nat) (zdzb : List Nat) (zdzcze : Nat) (zdzczr : List Nat) (zdztze : Nat) (zdztzr : List Nat) (zsg : List Nat) (hzdzs : zdzs < 18446744073709551616) (hzdzi : zdzi < 18446744073709551616) (hzdzb : Rt zdzb) (hzdzcze : zdzcze < 18446744073709551616) (hzdzczr : Rt zdzczr) (hzdztze : zdztze < 18446744073709551616) (hzdztzr : Rt zdztzr) (hzsg : Rt zsg) (w : World) (hT : Tabs w) (hzn : IsN w (.slice zno znl.length znc) znl) (hznn : znl.length ≤ 500) :
    Calls Tryz.prog 67 #[.agg (ixC zno znc znl zdzs zdzi zdzb zdzcze zdzczr zdztze zdztzr zsg).toArray] w fun x w' => x = .returned (.agg (nums .u8 (ixR zno znc znl zdzs zdzi zdzb zdzcze zdzczr zdztze zdztzr zsg))) ∧ Below w.heap.size w w' := by
  have hfr := ixR_rt zno znc znl zdzs zdzi zdzb zdzcze zdzczr zdztze zdztzr zsg hzdzb hzdzczr hzdztzr hzsg
  obtain ⟨W, HW⟩ : ∃ W, Same (ixR zno znc znl zdzs zdzi zdzb zdzcze zdzczr zdztze zdztzr zsg) W := ⟨_, ⟨rfl⟩⟩
  rw [HW.out] at hfr ⊢
  go_enter Tryz.func67, Tryz.ntmps67
  go_wp2_with ((with_reducible refine at_list' ?_); first
    | (refine wpList_box_c rfl 1 rfl (.tmp 0) rfl (ixC zno znc znl zdzs zdzi zdzb zdzcze zdzczr zdztze zdztzr zsg) rfl ?_; intro w1 H1 B1 S1)
    | (refine wpList_alloc_has rfl 2 rfl 23 rfl .u8 32 Tryz.zero23 ?_; intro w2 H2 B2 S2; rw [S1] at H2 S2; rw [S1]))
  have HX := hid (H1.keep B2)
  have HY := hid H2
  have HB := hid (B1.trans (B2.mono (by omega)))
  have HT := hid (hT.keep HB.out)
  have s2 : w2.heap.size = w.heap.size + 2 := by omega
  clear H1 B1 S1 H2 B2 S2
  try simp only [Act.put, List.setIfInBounds_toArray, List.set_cons_succ, List.set_cons_zero]
  refine wp_region_flow 10 10 (fun i v wq => match i with
    | 0 => v = .pointer (some ⟨w.heap.size, 0, none⟩)
    | 1 => v = .slice zno znl.length znc
    | 2 => v = .agg (nums .u8 (numR znl))
    | 3 => v = .pointer (some ⟨w.heap.size, 1, none⟩)
    | 4 => v = .agg (vtC zdzs zdzi zdzb zdzcze zdzczr zdztze zdztzr).toArray
    | 5 => v = .agg (nums .u8 (vtR zdzs zdzi zdzb zdzcze zdzczr zdztze zdztzr))
    | 6 => v = .pointer (some ⟨w.heap.size, 101, none⟩)
    | 7 => v = .agg (nums .u8 zsg)
    | 8 => ∃ b, v = .slice (some ⟨b, 0, none⟩) 3 3 ∧ RootsAt wq (some ⟨b, 0, none⟩) [numR znl, vtR zdzs zdzi zdzb zdzcze zdzczr zdztze zdztzr, zsg]
    | _ => v = .agg (nums .u8 W)) (by kernel_rfl) (by kernel_rfl) (fun _ d _ _ _ h => by cases d <;> exact h) ?_ ?_ ?_ ?_
  · intro i v wq wq' hi hv hb
    match i, hi with
    | 0, _ => exact hv
    | 1, _ => exact hv
    | 2, _ => exact hv
    | 3, _ => exact hv
    | 4, _ => exact hv
    | 5, _ => exact hv
    | 6, _ => exact hv
    | 7, _ => exact hv
    | 8, _ => obtain ⟨b, h1, h2⟩ := hv; exact ⟨b, h1, h2.keep hb⟩
    | 9, _ => exact hv
    | (k + 10), hk => exact absurd hk (by omega)
  · intro i o hi ho aq wq hc hk hdep
    match i, hi with
    | 0, _ =>
      cases ho
      have e1 : aq.tmps.getD 1 undef = .pointer (some ⟨w.heap.size, 0, none⟩) := hk 1 (by decide)
      exact flow_value _ (run_fieldAt 63 (.tmp 1) 0 rfl _ _ e1 (by kernel_rfl)) rfl
    | 1, _ =>
      cases ho
      have e0 : aq.tmps.getD 3 undef = .pointer (some ⟨w.heap.size, 0, none⟩) := hdep 0 3 rfl (by kernel_rfl)
      exact flow_value _ (run_cell 59 (.tmp 3) rfl _ e0 _ ((HX.out.keep (hcB hc)).cell (seg (ps := ixP zno znc znl zdzs zdzi zdzb zdzcze zdzczr zdztze zdztzr zsg) (i := 0) (off := 0) rfl (by simp [ixP, cellsB_length, hzdzb.len, hzdzczr.len, hzdztzr.len, hzsg.len, vtC_length zdzs zdzi zdzb zdzcze zdzczr zdztze zdztzr hzdzb.len hzdzczr.len hzdztzr.len]) 0 _ rfl)) _ Tryz.underlying59 rfl) rfl
    | 2, _ =>
      cases ho
      have e0 : aq.tmps.getD 4 undef = .slice zno znl.length znc := hdep 1 4 rfl (by kernel_rfl)
      refine flow_fun 17 _ _ rfl (fun _ _ => by simp [go_sem]) #[.slice zno znl.length znc] (by rw [show (#[Operand.tmp 4] : Array Operand).map aq.eval = #[aq.tmps.getD 4 undef] from by simp [Act.eval], e0]) ?_
      refine (numbersR_any (.slice zno znl.length znc) znl wq (HT.out.keep (hcB hc)) (hzn.keep (HB.out.trans ((hcB hc).mono HB.out.size))) (Nat.le_trans hznn (by decide))).mono ?_
      rintro x w' ⟨rfl, q⟩
      exact ⟨_, rfl, rfl, q⟩
    | 3, _ =>
      cases ho
      have e1 : aq.tmps.getD 1 undef = .pointer (some ⟨w.heap.size, 0, none⟩) := hk 1 (by decide)
      exact flow_value _ (run_fieldAt 63 (.tmp 1) 1 rfl _ _ e1 (by kernel_rfl)) rfl
    | 4, _ =>
      cases ho
      have e0 : aq.tmps.getD 6 undef = .pointer (some ⟨w.heap.size, 1, none⟩) := hdep 3 6 rfl (by kernel_rfl)
      exact flow_value _ (run_mid 61 (.tmp 6) rfl w.heap.size 1 e0 (vtC zdzs zdzi zdzb zdzcze zdzczr zdztze zdztzr) ((HX.out.keep (hcB hc)).range 1 (vtC zdzs zdzi zdzb zdzcze zdzczr zdztze zdztzr) (seg (ps := ixP zno znc znl zdzs zdzi zdzb zdzcze zdzczr zdztze zdztzr zsg) (i := 1) (off := 1) rfl (by simp [ixP, cellsB_length, hzdzb.len, hzdzczr.len, hzdztzr.len, hzsg.len, vtC_length zdzs zdzi zdzb zdzcze zdzczr zdztze zdztzr hzdzb.len hzdzczr.len hzdztzr.len]))) _ Tryz.underlying61 rfl (by rw [vtC_length zdzs zdzi zdzb zdzcze zdzczr zdztze zdztzr hzdzb.len hzdzczr.len hzdztzr.len]; kernel_rfl)) rfl
    | 5, _ =>
      cases ho
      have e0 : aq.tmps.getD 7 undef = .agg (vtC zdzs zdzi zdzb zdzcze zdzczr zdztze zdztzr).toArray := hdep 4 7 rfl (by kernel_rfl)
      refine flow_fun 70 _ _ rfl (fun _ _ => by simp [go_sem]) #[.agg (vtC zdzs zdzi zdzb zdzcze zdzczr zdztze zdztzr).toArray] (by rw [show (#[Operand.tmp 7] : Array Operand).map aq.eval = #[aq.tmps.getD 7 undef] from by simp [Act.eval], e0]) ?_
      refine (vtR_any zdzs zdzi zdzb zdzcze zdzczr zdztze zdztzr hzdzs hzdzi hzdzb hzdzcze hzdzczr hzdztze hzdztzr wq (HT.out.keep (hcB hc))).mono ?_
      rintro x w' ⟨rfl, q⟩
      exact ⟨_, rfl, rfl, q⟩
    | 6, _ =>
      cases ho
      have e1 : aq.tmps.getD 1 undef = .pointer (some ⟨w.heap.size, 0, none⟩) := hk 1 (by decide)
      exact flow_value _ (run_fieldAt 63 (.tmp 1) 2 rfl _ _ e1 (by kernel_rfl)) rfl
    | 7, _ =>
      cases ho
      have e0 : aq.tmps.getD 9 undef = .pointer (some ⟨w.heap.size, 101, none⟩) := hdep 6 9 rfl (by kernel_rfl)
      exact flow_value _ (run_mid 23 (.tmp 9) rfl w.heap.size 101 e0 (cellsB zsg) ((HX.out.keep (hcB hc)).range 101 (cellsB zsg) (seg (ps := ixP zno znc znl zdzs zdzi zdzb zdzcze zdzczr zdztze zdztzr zsg) (i := 2) (off := 101) rfl (by simp [ixP, cellsB_length, hzdzb.len, hzdzczr.len, hzdztzr.len, hzsg.len, vtC_length zdzs zdzi zdzb zdzcze zdzczr zdztze zdztzr hzdzb.len hzdzczr.len hzdztzr.len]))) _ Tryz.und23 rfl (by rw [cellsB_length, hzsg.len]; exact Tryz.size23)) rfl
    | 8, _ =>
      cases ho
      have e0 : aq.tmps.getD 5 undef = .agg (nums .u8 (numR znl)) := hdep 2 5 rfl (by kernel_rfl)
      have e1 : aq.tmps.getD 8 undef = .agg (nums .u8 (vtR zdzs zdzi zdzb zdzcze zdzczr zdztze zdztzr)) := hdep 5 8 rfl (by kernel_rfl)
      have e2 : aq.tmps.getD 10 undef = .agg (nums .u8 zsg) := hdep 7 10 rfl (by kernel_rfl)
      exact flow_rows 122 23 3 32 _ rfl Tryz.underlying122 rootInfo6 [cellsB (numR znl), cellsB (vtR zdzs zdzi zdzb zdzcze zdzczr zdztze zdztzr), cellsB (zsg)] [.tmp 5, .tmp 8, .tmp 10] rfl (by rw [show [Operand.tmp 5, Operand.tmp 8, Operand.tmp 10].map aq.eval = [aq.tmps.getD 5 undef, aq.tmps.getD 8 undef, aq.tmps.getD 10 undef] from rfl, e0, e1, e2]; rfl) (by simp [cellsB_length, ((numR_rt znl)).len, ((vtR_rt zdzs zdzi zdzb zdzcze zdzczr zdztze zdztzr hzdzb hzdzczr hzdztzr)).len, (hzsg).len]) rfl (by decide) (by decide) (by decide) (fun w' h => ⟨_, rfl, hasC_roots (rs := [numR znl, vtR zdzs zdzi zdzb zdzcze zdzczr zdztze zdztzr, zsg]) h (Rts.more (numR_rt znl) (Rts.more (vtR_rt zdzs zdzi zdzb zdzcze zdzczr zdztze zdztzr hzdzb hzdzczr hzdztzr) (Rts.more hzsg Rts.nil)))⟩)
    | 9, _ =>
      cases ho
      obtain ⟨b, e6, h6⟩ := hdep 8 11 rfl (by kernel_rfl)
      refine flow_fun 19 _ _ rfl (fun _ _ => by simp [go_sem]) #[.slice (some ⟨b, 0, none⟩) 3 3] (by rw [show (#[Operand.tmp 11] : Array Operand).map aq.eval = #[aq.tmps.getD 11 undef] from by simp [Act.eval], e6]) ?_
      refine (cont_any (some ⟨b, 0, none⟩) 3 [numR znl, vtR zdzs zdzi zdzb zdzcze zdzczr zdztze zdztzr, zsg] wq (HT.out.keep (hcB hc)) (Nat.le_refl _) (by decide) (by show 3 ≤ 1048576; decide) h6).mono ?_
      rintro x w' ⟨rfl, q⟩
      exact ⟨_, rfl, (by rw [← HW.out]; rfl), q⟩
    | (k + 10), hk => exact absurd hk (by omega)
  · intro o h10 ho
    omega
  intro vf w8 hc hv
  have e7 : vf 9 = _ := hv 9 12 (by decide) rfl
  have B8 := HB.out.trans ((hcB hc).mono (by omega))
  have H8v := HY.out.keep (hcB hc)
  have s8 := (hcB hc).size
  clear hv hc
  simp only [List.take_succ_cons, List.take_zero, List.drop_succ_cons, List.drop_zero, putAll, Act.put, List.setIfInBounds_toArray, List.set_cons_succ, List.set_cons_zero]
  rw [e7]
  have HB8 := hid B8
  clear B8 e7 HB
  go_wp2_with ((with_reducible refine at_list' ?_); first
    | (refine wpList_store_has rfl 23 (.tmp 2) (.tmp 12) rfl (w.heap.size + 1) .u8 W (zeros 32) rfl rfl 23 H8v (hfr.size _ Tryz.size23) (by rw [hfr.len, zeros_length]) ?_; intro w9 H9 O9))
  refine bodyPost_ret (results_has rfl _ _ (w.heap.size + 1) 23 .u8 W _ _ rfl H9 Tryz.und23 (hfr.size _ Tryz.size23)) rfl ?_
  exact ⟨rfl, below_only HB8.out O9 (by omega)⟩
end Go.Proofs.YtbmcmabimfoknaaGreatDoor

/- The root of a struct (AttesterSlashing), by the program. -/
namespace Go.Proofs.YtbmcmabimfoknaaGreatDoor
open Go.RowKit Go.Shelf
set_option linter.unusedVariables false
set_option linter.unusedSimpArgs false
set_option maxRecDepth 100000

def asP (zazno : Option Addr) (zaznc : Nat) (zaznl : List Nat) (zazdzs : Nat) (zazdzi : Nat) (zazdzb : List Nat) (zazdzcze : Nat) (zazdzczr : List Nat) (zazdztze : Nat) (zazdztzr : List Nat) (zazsg : List Nat) (zzzno : Option Addr) (zzznc : Nat) (zzznl : List Nat) (zzzdzs : Nat) (zzzdzi : Nat) (zzzdzb : List Nat) (zzzdzcze : Nat) (zzzdzczr : List Nat) (zzzdztze : Nat) (zzzdztzr : List Nat) (zzzsg : List Nat) : List (List Value) := [ixC zazno zaznc zaznl zazdzs zazdzi zazdzb zazdzcze zazdzczr zazdztze zazdztzr zazsg, ixC zzzno zzznc zzznl zzzdzs zzzdzi zzzdzb zzzdzcze zzzdzczr zzzdztze zzzdztzr zzzsg]
def asC (zazno : Option Addr) (zaznc : Nat) (zaznl : List Nat) (zazdzs : Nat) (zazdzi : Nat) (zazdzb : List Nat) (zazdzcze : Nat) (zazdzczr : List Nat) (zazdztze : Nat) (zazdztzr : List Nat) (zazsg : List Nat) (zzzno : Option Addr) (zzznc : Nat) (zzznl : List Nat) (zzzdzs : Nat) (zzzdzi : Nat) (zzzdzb : List Nat) (zzzdzcze : Nat) (zzzdzczr : List Nat) (zzzdztze : Nat) (zzzdztzr : List Nat) (zzzsg : List Nat) : List Value := (asP zazno zaznc zaznl zazdzs zazdzi zazdzb zazdzcze zazdzczr zazdztze zazdztzr zazsg zzzno zzznc zzznl zzzdzs zzzdzi zzzdzb zzzdzcze zzzdzczr zzzdztze zzzdztzr zzzsg).flatten
theorem asC_length (zazno : Option Addr) (zaznc : Nat) (zaznl : List Nat) (zazdzs : Nat) (zazdzi : Nat) (zazdzb : List Nat) (zazdzcze : Nat) (zazdzczr : List Nat) (zazdztze : Nat) (zazdztzr : List Nat) (zazsg : List Nat) (zzzno : Option Addr) (zzznc : Nat) (zzznl : List Nat) (zzzdzs : Nat) (zzzdzi : Nat) (zzzdzb : List Nat) (zzzdzcze : Nat) (zzzdzczr : List Nat) (zzzdztze : Nat) (zzzdztzr : List Nat) (zzzsg : List Nat) (hzazdzb : zazdzb.length = 32) (hzazdzczr : zazdzczr.length = 32) (hzazdztzr : zazdztzr.length = 32) (hzazsg : zazsg.length = 32) (hzzzdzb : zzzdzb.length = 32) (hzzzdzczr : zzzdzczr.length = 32) (hzzzdztzr : zzzdztzr.length = 32) (hzzzsg : zzzsg.length = 32) : (asC zazno zaznc zaznl zazdzs zazdzi zazdzb zazdzcze zazdzczr zazdztze zazdztzr zazsg zzzno zzznc zzznl zzzdzs zzzdzi zzzdzb zzzdzcze zzzdzczr zzzdztze zzzdztzr zzzsg).length = 266 := by simp [asC, asP, cellsB_length, hzazdzb, hzazdzczr, hzazdztzr, hzazsg, hzzzdzb, hzzzdzczr, hzzzdztzr, hzzzsg, ixC_length zazno zaznc zaznl zazdzs zazdzi zazdzb zazdzcze zazdzczr zazdztze zazdztzr zazsg hzazdzb hzazdzczr hzazdztzr hzazsg, ixC_length zzzno zzznc zzznl zzzdzs zzzdzi zzzdzb zzzdzcze zzzdzczr zzzdztze zzzdztzr zzzsg hzzzdzb hzzzdzczr hzzzdztzr hzzzsg]
def asR (zazno : Option Addr) (zaznc : Nat) (zaznl : List Nat) (zazdzs : Nat) (zazdzi : Nat) (zazdzb : List Nat) (zazdzcze : Nat) (zazdzczr : List Nat) (zazdztze : Nat) (zazdztzr : List Nat) (zazsg : List Nat) (zzzno : Option Addr) (zzznc : Nat) (zzznl : List Nat) (zzzdzs : Nat) (zzzdzi : Nat) (zzzdzb : List Nat) (zzzdzcze : Nat) (zzzdzczr : List Nat) (zzzdztze : Nat) (zzzdztzr : List Nat) (zzzsg : List Nat) : List Nat := fullR (depth (([ixR zazno zaznc zaznl zazdzs zazdzi zazdzb zazdzcze zazdzczr zazdztze zazdztzr zazsg, ixR zzzno zzznc zzznl zzzdzs zzzdzi zzzdzb zzzdzcze zzzdzczr zzzdztze zzzdztzr zzzsg] : List (List Nat)).length : Nat)) [ixR zazno zaznc zaznl zazdzs zazdzi zazdzb zazdzcze zazdzczr zazdztze zazdztzr zazsg, ixR zzzno zzznc zzznl zzzdzs zzzdzi zzzdzb zzzdzcze zzzdzczr zzzdztze zzzdztzr zzzsg]
theorem asR_rt (zazno : Option Addr) (zaznc : Nat) (zaznl : List Nat) (zazdzs : Nat) (zazdzi : Nat) (zazdzb : List Nat) (zazdzcze : Nat) (zazdzczr : List Nat) (zazdztze : Nat) (zazdztzr : List Nat) (zazsg : List Nat) (zzzno : Option Addr) (zzznc : Nat) (zzznl : List Nat) (zzzdzs : Nat) (zzzdzi : Nat) (zzzdzb : List Nat) (zzzdzcze : Nat) (zzzdzczr : List Nat) (zzzdztze : Nat) (zzzdztzr : List Nat) (zzzsg : List Nat) (hzazdzb : Rt zazdzb) (hzazdzczr : Rt zazdzczr) (hzazdztzr : Rt zazdztzr) (hzazsg : Rt zazsg) (hzzzdzb : Rt zzzdzb) (hzzzdzczr : Rt zzzdzczr) (hzzzdztzr : Rt zzzdztzr) (hzzzsg : Rt zzzsg) : Rt (asR zazno zaznc zaznl zazdzs zazdzi zazdzb zazdzcze zazdzczr zazdztze zazdztzr zazsg zzzno zzznc zzznl zzzdzs zzzdzi zzzdzb zzzdzcze zzzdzczr zzzdztze zzzdztzr zzzsg) := full_rt _ _ (Rts.more (ixR_rt zazno zaznc zaznl zazdzs zazdzi zazdzb zazdzcze zazdzczr zazdztze zazdztzr zazsg hzazdzb hzazdzczr hzazdztzr hzazsg) (Rts.more (ixR_rt zzzno zzznc zzznl zzzdzs zzzdzi zzzdzb zzzdzcze zzzdzczr zzzdztze zzzdztzr zzzsg hzzzdzb hzzzdzczr hzzzdztzr hzzzsg) Rts.nil))
set_option maxHeartbeats 2000000 in
theorem asR_any (zazno : Option Addr) (zaznc : Nat) (zaznl : List Nat) (zazdzs : Nat) (zazdzi : Nat) (zazdzb : List Nat) (zazdzcze : Nat) (zazdzczr : List Nat) (zazdztze : Nat) (zazdztzr : List Nat) (zazsg : List Nat) (zzzno : Option Addr) (zzznc : Nat) (zzznl : List Nat) (zzzdzs : Nat) (zzzdzi : Nat) (zzzdzb : List Nat) (zzzdzcze : Nat) (zzzdzczr : List Nat) (zzzdztze : Nat) (zzzdztzr : List Nat) (zzzsg : List Nat) (hzazdzs : zazdzs < 18446744073709551616) (hzazdzi : zazdzi < 18446744073709551616) (hzazdzb : Rt zazdzb) (hzazdzcze : zazdzcze < 18446744073709551616) (hzazdzczr : Rt zazdzczr) (hzazdztze : zazdztze < 18446744073709551616) (hzazdztzr : Rt zazdztzr) (hzazsg : Rt zazsg) (hzzzdzs : zzzdzs < 18446744073709551616) (hzzzdzi : zzzdzi < 18446744073709551616) (hzzzdzb : Rt zzzdzb) (hzzzdzcze : zzzdzcze < 18446744073709551616) (hzzzdzczr : Rt zzzdzczr) (hzzzdztze : zzzdztze < 18446744073709551616) (hzzzdztzr : Rt zzzdztzr) (hzzzsg : Rt zzzsg) (w : World) (hT : Tabs w) (hzazn : IsN w (.slice zazno zaznl.length zaznc) zaznl) (hzaznn : zaznl.length ≤ 500) (hzzzn : IsN w (.slice zzzno zzznl.length zzznc) zzznl) (hzzznn : zzznl.length ≤ 500) :
    Calls Tryz.prog 24 #[.agg (asC zazno zaznc zaznl zazdzs zazdzi zazdzb zazdzcze zazdzczr zazdztze zazdztzr zazsg zzzno zzznc zzznl zzzdzs zzzdzi zzzdzb zzzdzcze zzzdzczr zzzdztze zzzdztzr zzzsg).toArray] w fun x w' => x = .returned (.agg (nums .u8 (asR zazno zaznc zaznl zazdzs zazdzi zazdzb zazdzcze zazdzczr zazdztze zazdztzr zazsg zzzno zzznc zzznl zzzdzs zzzdzi zzzdzb zzzdzcze zzzdzczr zzzdztze zzzdztzr zzzsg))) ∧ Below w.heap.size w w' := by
  have hfr := asR_rt zazno zaznc zaznl zazdzs zazdzi zazdzb zazdzcze zazdzczr zazdztze zazdztzr zazsg zzzno zzznc zzznl zzzdzs zzzdzi zzzdzb zzzdzcze zzzdzczr zzzdztze zzzdztzr zzzsg hzazdzb hzazdzczr hzazdztzr hzazsg hzzzdzb hzzzdzczr hzzzdztzr hzzzsg
  obtain ⟨W, HW⟩ : ∃ W, Same (asR zazno zaznc zaznl zazdzs zazdzi zazdzb zazdzcze zazdzczr zazdztze zazdztzr zazsg zzzno zzznc zzznl zzzdzs zzzdzi zzzdzb zzzdzcze zzzdzczr zzzdztze zzzdztzr zzzsg) W := ⟨_, ⟨rfl⟩⟩
  rw [HW.out] at hfr ⊢
  go_enter Tryz.func24, Tryz.ntmps24
  go_wp2_with ((with_reducible refine at_list' ?_); first
    | (refine wpList_box_c rfl 1 rfl (.tmp 0) rfl (asC zazno zaznc zaznl zazdzs zazdzi zazdzb zazdzcze zazdzczr zazdztze zazdztzr zazsg zzzno zzznc zzznl zzzdzs zzzdzi zzzdzb zzzdzcze zzzdzczr zzzdztze zzzdztzr zzzsg) rfl ?_; intro w1 H1 B1 S1)
    | (refine wpList_alloc_has rfl 2 rfl 23 rfl .u8 32 Tryz.zero23 ?_; intro w2 H2 B2 S2; rw [S1] at H2 S2; rw [S1]))
  have HX := hid (H1.keep B2)
  have HY := hid H2
  have HB := hid (B1.trans (B2.mono (by omega)))
  have HT := hid (hT.keep HB.out)
  have s2 : w2.heap.size = w.heap.size + 2 := by omega
  clear H1 B1 S1 H2 B2 S2
  try simp only [Act.put, List.setIfInBounds_toArray, List.set_cons_succ, List.set_cons_zero]
  refine wp_region_flow 8 8 (fun i v wq => match i with
    | 0 => v = .pointer (some ⟨w.heap.size, 0, none⟩)
    | 1 => v = .agg (ixC zazno zaznc zaznl zazdzs zazdzi zazdzb zazdzcze zazdzczr zazdztze zazdztzr zazsg).toArray
    | 2 => v = .agg (nums .u8 (ixR zazno zaznc zaznl zazdzs zazdzi zazdzb zazdzcze zazdzczr zazdztze zazdztzr zazsg))
    | 3 => v = .pointer (some ⟨w.heap.size, 133, none⟩)
    | 4 => v = .agg (ixC zzzno zzznc zzznl zzzdzs zzzdzi zzzdzb zzzdzcze zzzdzczr zzzdztze zzzdztzr zzzsg).toArray
    | 5 => v = .agg (nums .u8 (ixR zzzno zzznc zzznl zzzdzs zzzdzi zzzdzb zzzdzcze zzzdzczr zzzdztze zzzdztzr zzzsg))
    | 6 => ∃ b, v = .slice (some ⟨b, 0, none⟩) 2 2 ∧ RootsAt wq (some ⟨b, 0, none⟩) [ixR zazno zaznc zaznl zazdzs zazdzi zazdzb zazdzcze zazdzczr zazdztze zazdztzr zazsg, ixR zzzno zzznc zzznl zzzdzs zzzdzi zzzdzb zzzdzcze zzzdzczr zzzdztze zzzdztzr zzzsg]
    | _ => v = .agg (nums .u8 W)) (by kernel_rfl) (by kernel_rfl) (fun _ d _ _ _ h => by cases d <;> exact h) ?_ ?_ ?_ ?_
  · intro i v wq wq' hi hv hb
    match i, hi with
    | 0, _ => exact hv
    | 1, _ => exact hv
    | 2, _ => exact hv
    | 3, _ => exact hv
    | 4, _ => exact hv
    | 5, _ => exact hv
    | 6, _ => obtain ⟨b, h1, h2⟩ := hv; exact ⟨b, h1, h2.keep hb⟩
    | 7, _ => exact hv
    | (k + 8), hk => exact absurd hk (by omega)
  · intro i o hi ho aq wq hc hk hdep
    match i, hi with
    | 0, _ =>
      cases ho
      have e1 : aq.tmps.getD 1 undef = .pointer (some ⟨w.heap.size, 0, none⟩) := hk 1 (by decide)
      exact flow_value _ (run_fieldAt 65 (.tmp 1) 0 rfl _ _ e1 (by kernel_rfl)) rfl
    | 1, _ =>
      cases ho
      have e0 : aq.tmps.getD 3 undef = .pointer (some ⟨w.heap.size, 0, none⟩) := hdep 0 3 rfl (by kernel_rfl)
      exact flow_value _ (run_mid 63 (.tmp 3) rfl w.heap.size 0 e0 (ixC zazno zaznc zaznl zazdzs zazdzi zazdzb zazdzcze zazdzczr zazdztze zazdztzr zazsg) ((HX.out.keep (hcB hc)).range 0 (ixC zazno zaznc zaznl zazdzs zazdzi zazdzb zazdzcze zazdzczr zazdztze zazdztzr zazsg) (seg (ps := asP zazno zaznc zaznl zazdzs zazdzi zazdzb zazdzcze zazdzczr zazdztze zazdztzr zazsg zzzno zzznc zzznl zzzdzs zzzdzi zzzdzb zzzdzcze zzzdzczr zzzdztze zzzdztzr zzzsg) (i := 0) (off := 0) rfl (by simp [asP, cellsB_length, hzazdzb.len, hzazdzczr.len, hzazdztzr.len, hzazsg.len, hzzzdzb.len, hzzzdzczr.len, hzzzdztzr.len, hzzzsg.len, ixC_length zazno zaznc zaznl zazdzs zazdzi zazdzb zazdzcze zazdzczr zazdztze zazdztzr zazsg hzazdzb.len hzazdzczr.len hzazdztzr.len hzazsg.len, ixC_length zzzno zzznc zzznl zzzdzs zzzdzi zzzdzb zzzdzcze zzzdzczr zzzdztze zzzdztzr zzzsg hzzzdzb.len hzzzdzczr.len hzzzdztzr.len hzzzsg.len]))) _ Tryz.underlying63 rfl (by rw [ixC_length zazno zaznc zaznl zazdzs zazdzi zazdzb zazdzcze zazdzczr zazdztze zazdztzr zazsg hzazdzb.len hzazdzczr.len hzazdztzr.len hzazsg.len]; kernel_rfl)) rfl
    | 2, _ =>
      cases ho
      have e0 : aq.tmps.getD 4 undef = .agg (ixC zazno zaznc zaznl zazdzs zazdzi zazdzb zazdzcze zazdzczr zazdztze zazdztzr zazsg).toArray := hdep 1 4 rfl (by kernel_rfl)
      refine flow_fun 67 _ _ rfl (fun _ _ => by simp [go_sem]) #[.agg (ixC zazno zaznc zaznl zazdzs zazdzi zazdzb zazdzcze zazdzczr zazdztze zazdztzr zazsg).toArray] (by rw [show (#[Operand.tmp 4] : Array Operand).map aq.eval = #[aq.tmps.getD 4 undef] from by simp [Act.eval], e0]) ?_
      refine (ixR_any zazno zaznc zaznl zazdzs zazdzi zazdzb zazdzcze zazdzczr zazdztze zazdztzr zazsg hzazdzs hzazdzi hzazdzb hzazdzcze hzazdzczr hzazdztze hzazdztzr hzazsg wq (HT.out.keep (hcB hc)) (hzazn.keep (HB.out.trans ((hcB hc).mono HB.out.size))) hzaznn).mono ?_
      rintro x w' ⟨rfl, q⟩
      exact ⟨_, rfl, rfl, q⟩
    | 3, _ =>
      cases ho
      have e1 : aq.tmps.getD 1 undef = .pointer (some ⟨w.heap.size, 0, none⟩) := hk 1 (by decide)
      exact flow_value _ (run_fieldAt 65 (.tmp 1) 1 rfl _ _ e1 (by kernel_rfl)) rfl
    | 4, _ =>
      cases ho
      have e0 : aq.tmps.getD 6 undef = .pointer (some ⟨w.heap.size, 133, none⟩) := hdep 3 6 rfl (by kernel_rfl)
      exact flow_value _ (run_mid 63 (.tmp 6) rfl w.heap.size 133 e0 (ixC zzzno zzznc zzznl zzzdzs zzzdzi zzzdzb zzzdzcze zzzdzczr zzzdztze zzzdztzr zzzsg) ((HX.out.keep (hcB hc)).range 133 (ixC zzzno zzznc zzznl zzzdzs zzzdzi zzzdzb zzzdzcze zzzdzczr zzzdztze zzzdztzr zzzsg) (seg (ps := asP zazno zaznc zaznl zazdzs zazdzi zazdzb zazdzcze zazdzczr zazdztze zazdztzr zazsg zzzno zzznc zzznl zzzdzs zzzdzi zzzdzb zzzdzcze zzzdzczr zzzdztze zzzdztzr zzzsg) (i := 1) (off := 133) rfl (by simp [asP, cellsB_length, hzazdzb.len, hzazdzczr.len, hzazdztzr.len, hzazsg.len, hzzzdzb.len, hzzzdzczr.len, hzzzdztzr.len, hzzzsg.len, ixC_length zazno zaznc zaznl zazdzs zazdzi zazdzb zazdzcze zazdzczr zazdztze zazdztzr zazsg hzazdzb.len hzazdzczr.len hzazdztzr.len hzazsg.len, ixC_length zzzno zzznc zzznl zzzdzs zzzdzi zzzdzb zzzdzcze zzzdzczr zzzdztze zzzdztzr zzzsg hzzzdzb.len hzzzdzczr.len hzzzdztzr.len hzzzsg.len]))) _ Tryz.underlying63 rfl (by rw [ixC_length zzzno zzznc zzznl zzzdzs zzzdzi zzzdzb zzzdzcze zzzdzczr zzzdztze zzzdztzr zzzsg hzzzdzb.len hzzzdzczr.len hzzzdztzr.len hzzzsg.len]; kernel_rfl)) rfl
    | 5, _ =>
      cases ho
      have e0 : aq.tmps.getD 7 undef = .agg (ixC zzzno zzznc zzznl zzzdzs zzzdzi zzzdzb zzzdzcze zzzdzczr zzzdztze zzzdztzr zzzsg).toArray := hdep 4 7 rfl (by kernel_rfl)
      refine flow_fun 67 _ _ rfl (fun _ _ => by simp [go_sem]) #[.agg (ixC zzzno zzznc zzznl zzzdzs zzzdzi zzzdzb zzzdzcze zzzdzczr zzzdztze zzzdztzr zzzsg).toArray] (by rw [show (#[Operand.tmp 7] : Array Operand).map aq.eval = #[aq.tmps.getD 7 undef] from by simp [Act.eval], e0]) ?_
      refine (ixR_any zzzno zzznc zzznl zzzdzs zzzdzi zzzdzb zzzdzcze zzzdzczr zzzdztze zzzdztzr zzzsg hzzzdzs hzzzdzi hzzzdzb hzzzdzcze hzzzdzczr hzzzdztze hzzzdztzr hzzzsg wq (HT.out.keep (hcB hc)) (hzzzn.keep (HB.out.trans ((hcB hc).mono HB.out.size))) hzzznn).mono ?_
      rintro x w' ⟨rfl, q⟩
      exact ⟨_, rfl, rfl, q⟩
    | 6, _ =>
      cases ho
      have e0 : aq.tmps.getD 5 undef = .agg (nums .u8 (ixR zazno zaznc zaznl zazdzs zazdzi zazdzb zazdzcze zazdzczr zazdztze zazdztzr zazsg)) := hdep 2 5 rfl (by kernel_rfl)
      have e1 : aq.tmps.getD 8 undef = .agg (nums .u8 (ixR zzzno zzznc zzznl zzzdzs zzzdzi zzzdzb zzzdzcze zzzdzczr zzzdztze zzzdztzr zzzsg)) := hdep 5 8 rfl (by kernel_rfl)
      exact flow_rows 122 23 2 32 _ rfl Tryz.underlying122 rootInfo6 [cellsB (ixR zazno zaznc zaznl zazdzs zazdzi zazdzb zazdzcze zazdzczr zazdztze zazdztzr zazsg), cellsB (ixR zzzno zzznc zzznl zzzdzs zzzdzi zzzdzb zzzdzcze zzzdzczr zzzdztze zzzdztzr zzzsg)] [.tmp 5, .tmp 8] rfl (by rw [show [Operand.tmp 5, Operand.tmp 8].map aq.eval = [aq.tmps.getD 5 undef, aq.tmps.getD 8 undef] from rfl, e0, e1]; rfl) (by simp [cellsB_length, ((ixR_rt zazno zaznc zaznl zazdzs zazdzi zazdzb zazdzcze zazdzczr zazdztze zazdztzr zazsg hzazdzb hzazdzczr hzazdztzr hzazsg)).len, ((ixR_rt zzzno zzznc zzznl zzzdzs zzzdzi zzzdzb zzzdzcze zzzdzczr zzzdztze zzzdztzr zzzsg hzzzdzb hzzzdzczr hzzzdztzr hzzzsg)).len]) rfl (by decide) (by decide) (by decide) (fun w' h => ⟨_, rfl, hasC_roots (rs := [ixR zazno zaznc zaznl zazdzs zazdzi zazdzb zazdzcze zazdzczr zazdztze zazdztzr zazsg, ixR zzzno zzznc zzznl zzzdzs zzzdzi zzzdzb zzzdzcze zzzdzczr zzzdztze zzzdztzr zzzsg]) h (Rts.more (ixR_rt zazno zaznc zaznl zazdzs zazdzi zazdzb zazdzcze zazdzczr zazdztze zazdztzr zazsg hzazdzb hzazdzczr hzazdztzr hzazsg) (Rts.more (ixR_rt zzzno zzznc zzznl zzzdzs zzzdzi zzzdzb zzzdzcze zzzdzczr zzzdztze zzzdztzr zzzsg hzzzdzb hzzzdzczr hzzzdztzr hzzzsg) Rts.nil))⟩)
    | 7, _ =>
      cases ho
      obtain ⟨b, e6, h6⟩ := hdep 6 9 rfl (by kernel_rfl)
      refine flow_fun 19 _ _ rfl (fun _ _ => by simp [go_sem]) #[.slice (some ⟨b, 0, none⟩) 2 2] (by rw [show (#[Operand.tmp 9] : Array Operand).map aq.eval = #[aq.tmps.getD 9 undef] from by simp [Act.eval], e6]) ?_
      refine (cont_any (some ⟨b, 0, none⟩) 2 [ixR zazno zaznc zaznl zazdzs zazdzi zazdzb zazdzcze zazdzczr zazdztze zazdztzr zazsg, ixR zzzno zzznc zzznl zzzdzs zzzdzi zzzdzb zzzdzcze zzzdzczr zzzdztze zzzdztzr zzzsg] wq (HT.out.keep (hcB hc)) (Nat.le_refl _) (by decide) (by show 2 ≤ 1048576; decide) h6).mono ?_
      rintro x w' ⟨rfl, q⟩
      exact ⟨_, rfl, (by rw [← HW.out]; rfl), q⟩
    | (k + 8), hk => exact absurd hk (by omega)
  · intro o h8 ho
    omega
  intro vf w8 hc hv
  have e7 : vf 7 = _ := hv 7 10 (by decide) rfl
  have B8 := HB.out.trans ((hcB hc).mono (by omega))
  have H8v := HY.out.keep (hcB hc)
  have s8 := (hcB hc).size
  clear hv hc
  simp only [List.take_succ_cons, List.take_zero, List.drop_succ_cons, List.drop_zero, putAll, Act.put, List.setIfInBounds_toArray, List.set_cons_succ, List.set_cons_zero]
  rw [e7]
  have HB8 := hid B8
  clear B8 e7 HB
  go_wp2_with ((with_reducible refine at_list' ?_); first
    | (refine wpList_store_has rfl 23 (.tmp 2) (.tmp 10) rfl (w.heap.size + 1) .u8 W (zeros 32) rfl rfl 23 H8v (hfr.size _ Tryz.size23) (by rw [hfr.len, zeros_length]) ?_; intro w9 H9 O9))
  refine bodyPost_ret (results_has rfl _ _ (w.heap.size + 1) 23 .u8 W _ _ rfl H9 Tryz.und23 (hfr.size _ Tryz.size23)) rfl ?_
  exact ⟨rfl, below_only HB8.out O9 (by omega)⟩
end Go.Proofs.YtbmcmabimfoknaaGreatDoor

/- The root of a list of bits, by the program. -/
namespace Go.Proofs.YtbmcmabimfoknaaGreatDoor
open Go.RowKit
set_option linter.unusedVariables false
set_option maxRecDepth 100000

theorem bitsR_rt (n : Nat) (l : List Bool) : Rt (bitsR n l) := pr_rt _ _
theorem chunks_few (l : List Bool) (hl : l.length ≤ 500) : (chunks (putB l false)).length ≤ 1048576 := by
  rw [chunks_length, putB_length]; simp; omega
set_option maxHeartbeats 1000000 in
theorem bits_any (v : Value) (l : List Bool) (w : World) (hT : Tabs w) (hI : IsT w v l) (hl : l.length ≤ 500) :
    Calls Tryz.prog 69 #[v] w fun e w' => e = .returned (.agg (nums .u8 (bitsR 32 l))) ∧ Below w.heap.size w w' := by
  obtain ⟨T, HTT⟩ : ∃ T, Hid (treeZ 1 (chunks (putB l false)) = T) := ⟨_, hid rfl⟩
  have hTr := treeZ_rt 1 (chunks (putB l false)) (chunks_rts _ (putB_byte l false))
  rw [HTT.out] at hTr
  have hpr := pr_rt T (wUp l.length 8)
  obtain ⟨Z, HZ⟩ : ∃ Z, Hid (pr T (wUp l.length 8) = Z) := ⟨_, hid rfl⟩
  rw [show bitsR 32 l = pr (treeZ 1 (chunks (putB l false))) (wUp l.length 8) from rfl, HTT.out, HZ.out]
  have HMX := hid (fun w (hT : Tabs w) => mix_any' T l.length hTr (by omega) w hT)
  rw [HZ.out] at hpr HMX
  have HP := hid (fun w1 (hb : Below w.heap.size w w1) => putBits_any v l false w1 (hI.keep hb) (by omega))
  have HCH := hid (fun v1 w1 (hB : IsB w1 v1 (putB l false)) => chunksR_any v1 (putB l false) w1 hB (by rw [putB_length]; simp; omega))
  have HTz := hid (fun ao cap w1 (hT : Tabs w1) (h1 : (chunks (putB l false)).length ≤ cap) (h2 : cap ≤ maxLen) (h3 : RootsAt w1 ao (chunks (putB l false))) => treZ_any ao cap (chunks (putB l false)) 1 w1 hT h1 h2 (chunks_few l hl) (by decide) h3)
  rw [HTT.out] at HTz
  obtain ⟨C, HC⟩ : ∃ C, Hid (chunks (putB l false) = C) := ⟨_, hid rfl⟩
  have hCr := chunks_rts _ (putB_byte l false)
  rw [HC.out] at HTz HCH hCr
  obtain ⟨bao, bcap, rfl, _, _, _⟩ := hI.ex
  have HT := hid hT
  clear hI hT
  go_enter Tryz.func69, Tryz.ntmps69
  go_wp2_with ((with_reducible refine at_list' ?_); first
    | (refine wpList_alloc_has rfl 2 rfl 23 rfl .u8 32 Tryz.zero23 ?_; intro w1 H1 B1 S1))
  refine (HP.out w1 B1).mono ?_
  rintro e w2 ⟨v2, rfl, R2, B2⟩
  have HC2 := hid (HCH.out v2 w2 (R2.isB (putB_byte l false)))
  have L2 := hid (below_more B1 B2 (Nat.le_refl _))
  have H2 := H1.keep B2
  clear HP HCH R2 H1 B1 B2 S1
  go_wp2_with fail
  refine HC2.out.mono ?_
  rintro e w3 ⟨v3, rfl, h3, B3⟩
  obtain ⟨_, ao3, cap3, rfl, k1, k2, k3⟩ := RootsAt.own hCr h3
  have L3 := hid (below_more L2.out B3 (Nat.le_refl _))
  have H3 := H2.keep B3
  have HT3 := hid (HTz.out ao3 cap3 w3 (HT.out.keep L3.out) k1 k2 k3)
  clear HC2 h3 k1 k2 k3 L2 H2 B3 HTz
  go_wp2_with fail
  refine HT3.out.mono ?_
  rintro e w4 ⟨rfl, B4⟩
  have L4 := hid (below_more L3.out B4 (Nat.le_refl _))
  have H4 := H3.keep B4
  clear HT3 L3 H3 B4
  go_wp2_with fail
  refine (HMX.out w4 (HT.out.keep L4.out)).mono ?_
  rintro e w5 ⟨rfl, B5⟩
  have L5 := hid (below_more L4.out B5 (Nat.le_refl _))
  have H5 := H4.keep B5
  clear L4 H4 B5 HMX
  go_wp2_with ((with_reducible refine at_list' ?_); first
    | (refine wpList_store_has rfl 23 (.tmp 2) (.tmp 10) rfl w.heap.size .u8 Z (zeros 32) rfl rfl 23 H5 (hpr.size _ Tryz.size23) (by rw [hpr.len, zeros_length]) ?_; intro w6 H6 O6))
  refine bodyPost_ret (results_has rfl _ _ w.heap.size 23 .u8 Z _ _ rfl H6 Tryz.und23 (hpr.size _ Tryz.size23)) rfl ?_
  exact ⟨rfl, below_only L5.out O6 (Nat.le_refl _)⟩
end Go.Proofs.YtbmcmabimfoknaaGreatDoor

/- The root of a struct (Attestation), by the program. -/
namespace Go.Proofs.YtbmcmabimfoknaaGreatDoor
open Go.RowKit Go.Shelf
set_option linter.unusedVariables false
set_option linter.unusedSimpArgs false
set_option maxRecDepth 100000

def atP (zbo : Option Addr) (zbc : Nat) (zbl : List Bool) (zdzs : Nat) (zdzi : Nat) (zdzb : List Nat) (zdzcze : Nat) (zdzczr : List Nat) (zdztze : Nat) (zdztzr : List Nat) (zsg : List Nat) : List (List Value) := [[.slice zbo zbl.length zbc], vtC zdzs zdzi zdzb zdzcze zdzczr zdztze zdztzr, cellsB zsg]
def atC (zbo : Option Addr) (zbc : Nat) (zbl : List Bool) (zdzs : Nat) (zdzi : Nat) (zdzb : List Nat) (zdzcze : Nat) (zdzczr : List Nat) (zdztze : Nat) (zdztzr : List Nat) (zsg : List Nat) : List Value := (atP zbo zbc zbl zdzs zdzi zdzb zdzcze zdzczr zdztze zdztzr zsg).flatten
theorem atC_length (zbo : Option Addr) (zbc : Nat) (zbl : List Bool) (zdzs : Nat) (zdzi : Nat) (zdzb : List Nat) (zdzcze : Nat) (zdzczr : List Nat) (zdztze : Nat) (zdztzr : List Nat) (zsg : List Nat) (hzdzb : zdzb.length = 32) (hzdzczr : zdzczr.length = 32) (hzdztzr : zdztzr.length = 32) (hzsg : zsg.length = 32) : (atC zbo zbc zbl zdzs zdzi zdzb zdzcze zdzczr zdztze zdztzr zsg).length = 133 := by simp [atC, atP, cellsB_length, hzdzb, hzdzczr, hzdztzr, hzsg, vtC_length zdzs zdzi zdzb zdzcze zdzczr zdztze zdztzr hzdzb hzdzczr hzdztzr]
def atR (zbo : Option Addr) (zbc : Nat) (zbl : List Bool) (zdzs : Nat) (zdzi : Nat) (zdzb : List Nat) (zdzcze : Nat) (zdzczr : List Nat) (zdztze : Nat) (zdztzr : List Nat) (zsg : List Nat) : List Nat := fullR (depth (([bitsR 32 zbl, vtR zdzs zdzi zdzb zdzcze zdzczr zdztze zdztzr, zsg] : List (List Nat)).length : Nat)) [bitsR 32 zbl, vtR zdzs zdzi zdzb zdzcze zdzczr zdztze zdztzr, zsg]
theorem atR_rt (zbo : Option Addr) (zbc : Nat) (zbl : List Bool) (zdzs : Nat) (zdzi : Nat) (zdzb : List Nat) (zdzcze : Nat) (zdzczr : List Nat) (zdztze : Nat) (zdztzr : List Nat) (zsg : List Nat) (hzdzb : Rt zdzb) (hzdzczr : Rt zdzczr) (hzdztzr : Rt zdztzr) (hzsg : Rt zsg) : Rt (atR zbo zbc zbl zdzs zdzi zdzb zdzcze zdzczr zdztze zdztzr zsg) := full_rt _ _ (Rts.more (bitsR_rt 32 zbl) (Rts.more (vtR_rt zdzs zdzi zdzb zdzcze zdzczr zdztze zdztzr hzdzb hzdzczr hzdztzr) (Rts.more hzsg Rts.nil)))
set_option maxHeartbeats 2000000 in
theorem atR_any (zbo : Option Addr) (zbc : Nat) (zbl : List Bool) (zdzs : Nat) (zdzi : Nat) (zdzb : List Nat) (zdzcze : Nat) (zdzczr : List Nat) (zdztze : Nat) (zdztzr : List Nat) (zsg : List Nat) (hzdzs : zdzs < 18446744073709551616) (hzdzi : zdzi < 18446744073709551616) (hzdzb : Rt zdzb) (hzdzcze : zdzcze < 18446744073709551616) (hzdzczr : Rt zdzczr) (hzdztze : zdztze < 18446744073709551616) (hzdztzr : Rt zdztzr) (hzsg : Rt zsg) (w : World) (hT : Tabs w) (hzb : IsT w (.slice zbo zbl.length zbc) zbl) (hzbn : zbl.length ≤ 500) :
    Calls Tryz.prog 26 #[.agg (atC zbo zbc zbl zdzs zdzi zdzb zdzcze zdzczr zdztze zdztzr zsg).toArray] w fun x w' => x = .returned (.agg (nums .u8 (atR zbo zbc zbl zdzs zdzi zdzb zdzcze zdzczr zdztze zdztzr zsg))) ∧ Below w.heap.size w w' := by
  have hfr := atR_rt zbo zbc zbl zdzs zdzi zdzb zdzcze zdzczr zdztze zdztzr zsg hzdzb hzdzczr hzdztzr hzsg
  obtain ⟨W, HW⟩ : ∃ W, Same (atR zbo zbc zbl zdzs zdzi zdzb zdzcze zdzczr zdztze zdztzr zsg) W := ⟨_, ⟨rfl⟩⟩
  rw [HW.out] at hfr ⊢
  go_enter Tryz.func26, Tryz.ntmps26
  go_wp2_with ((with_reducible refine at_list' ?_); first
    | (refine wpList_box_c rfl 1 rfl (.tmp 0) rfl (atC zbo zbc zbl zdzs zdzi zdzb zdzcze zdzczr zdztze zdztzr zsg) rfl ?_; intro w1 H1 B1 S1)
    | (refine wpList_alloc_has rfl 2 rfl 23 rfl .u8 32 Tryz.zero23 ?_; intro w2 H2 B2 S2; rw [S1] at H2 S2; rw [S1]))
  have HX := hid (H1.keep B2)
  have HY := hid H2
  have HB := hid (B1.trans (B2.mono (by omega)))
  have HT := hid (hT.keep HB.out)
  have s2 : w2.heap.size = w.heap.size + 2 := by omega
  clear H1 B1 S1 H2 B2 S2
  try simp only [Act.put, List.setIfInBounds_toArray, List.set_cons_succ, List.set_cons_zero]
  refine wp_region_flow 10 10 (fun i v wq => match i with
    | 0 => v = .pointer (some ⟨w.heap.size, 0, none⟩)
    | 1 => v = .slice zbo zbl.length zbc
    | 2 => v = .agg (nums .u8 (bitsR 32 zbl))
    | 3 => v = .pointer (some ⟨w.heap.size, 1, none⟩)
    | 4 => v = .agg (vtC zdzs zdzi zdzb zdzcze zdzczr zdztze zdztzr).toArray
    | 5 => v = .agg (nums .u8 (vtR zdzs zdzi zdzb zdzcze zdzczr zdztze zdztzr))
    | 6 => v = .pointer (some ⟨w.heap.size, 101, none⟩)
    | 7 => v = .agg (nums .u8 zsg)
    | 8 => ∃ b, v = .slice (some ⟨b, 0, none⟩) 3 3 ∧ RootsAt wq (some ⟨b, 0, none⟩) [bitsR 32 zbl, vtR zdzs zdzi zdzb zdzcze zdzczr zdztze zdztzr, zsg]
    | _ => v = .agg (nums .u8 W)) (by kernel_rfl) (by kernel_rfl) (fun _ d _ _ _ h => by cases d <;> exact h) ?_ ?_ ?_ ?_
  · intro i v wq wq' hi hv hb
    match i, hi with
    | 0, _ => exact hv
    | 1, _ => exact hv
    | 2, _ => exact hv
    | 3, _ => exact hv
    | 4, _ => exact hv
    | 5, _ => exact hv
    | 6, _ => exact hv
    | 7, _ => exact hv
    | 8, _ => obtain ⟨b, h1, h2⟩ := hv; exact ⟨b, h1, h2.keep hb⟩
    | 9, _ => exact hv
    | (k + 10), hk => exact absurd hk (by omega)
  · intro i o hi ho aq wq hc hk hdep
    match i, hi with
    | 0, _ =>
      cases ho
      have e1 : aq.tmps.getD 1 undef = .pointer (some ⟨w.heap.size, 0, none⟩) := hk 1 (by decide)
      exact flow_value _ (run_fieldAt 67 (.tmp 1) 0 rfl _ _ e1 (by kernel_rfl)) rfl
    | 1, _ =>
      cases ho
      have e0 : aq.tmps.getD 3 undef = .pointer (some ⟨w.heap.size, 0, none⟩) := hdep 0 3 rfl (by kernel_rfl)
      exact flow_value _ (run_cell 40 (.tmp 3) rfl _ e0 _ ((HX.out.keep (hcB hc)).cell (seg (ps := atP zbo zbc zbl zdzs zdzi zdzb zdzcze zdzczr zdztze zdztzr zsg) (i := 0) (off := 0) rfl (by simp [atP, cellsB_length, hzdzb.len, hzdzczr.len, hzdztzr.len, hzsg.len, vtC_length zdzs zdzi zdzb zdzcze zdzczr zdztze zdztzr hzdzb.len hzdzczr.len hzdztzr.len]) 0 _ rfl)) _ Tryz.underlying40 rfl) rfl
    | 2, _ =>
      cases ho
      have e0 : aq.tmps.getD 4 undef = .slice zbo zbl.length zbc := hdep 1 4 rfl (by kernel_rfl)
      refine flow_fun 69 _ _ rfl (fun _ _ => by simp [go_sem]) #[.slice zbo zbl.length zbc] (by rw [show (#[Operand.tmp 4] : Array Operand).map aq.eval = #[aq.tmps.getD 4 undef] from by simp [Act.eval], e0]) ?_
      refine (bits_any (.slice zbo zbl.length zbc) zbl wq (HT.out.keep (hcB hc)) (hzb.keep (HB.out.trans ((hcB hc).mono HB.out.size))) hzbn).mono ?_
      rintro x w' ⟨rfl, q⟩
      exact ⟨_, rfl, rfl, q⟩
    | 3, _ =>
      cases ho
      have e1 : aq.tmps.getD 1 undef = .pointer (some ⟨w.heap.size, 0, none⟩) := hk 1 (by decide)
      exact flow_value _ (run_fieldAt 67 (.tmp 1) 1 rfl _ _ e1 (by kernel_rfl)) rfl
    | 4, _ =>
      cases ho
      have e0 : aq.tmps.getD 6 undef = .pointer (some ⟨w.heap.size, 1, none⟩) := hdep 3 6 rfl (by kernel_rfl)
      exact flow_value _ (run_mid 61 (.tmp 6) rfl w.heap.size 1 e0 (vtC zdzs zdzi zdzb zdzcze zdzczr zdztze zdztzr) ((HX.out.keep (hcB hc)).range 1 (vtC zdzs zdzi zdzb zdzcze zdzczr zdztze zdztzr) (seg (ps := atP zbo zbc zbl zdzs zdzi zdzb zdzcze zdzczr zdztze zdztzr zsg) (i := 1) (off := 1) rfl (by simp [atP, cellsB_length, hzdzb.len, hzdzczr.len, hzdztzr.len, hzsg.len, vtC_length zdzs zdzi zdzb zdzcze zdzczr zdztze zdztzr hzdzb.len hzdzczr.len hzdztzr.len]))) _ Tryz.underlying61 rfl (by rw [vtC_length zdzs zdzi zdzb zdzcze zdzczr zdztze zdztzr hzdzb.len hzdzczr.len hzdztzr.len]; kernel_rfl)) rfl
    | 5, _ =>
      cases ho
      have e0 : aq.tmps.getD 7 undef = .agg (vtC zdzs zdzi zdzb zdzcze zdzczr zdztze zdztzr).toArray := hdep 4 7 rfl (by kernel_rfl)
      refine flow_fun 70 _ _ rfl (fun _ _ => by simp [go_sem]) #[.agg (vtC zdzs zdzi zdzb zdzcze zdzczr zdztze zdztzr).toArray] (by rw [show (#[Operand.tmp 7] : Array Operand).map aq.eval = #[aq.tmps.getD 7 undef] from by simp [Act.eval], e0]) ?_
      refine (vtR_any zdzs zdzi zdzb zdzcze zdzczr zdztze zdztzr hzdzs hzdzi hzdzb hzdzcze hzdzczr hzdztze hzdztzr wq (HT.out.keep (hcB hc))).mono ?_
      rintro x w' ⟨rfl, q⟩
      exact ⟨_, rfl, rfl, q⟩
    | 6, _ =>
      cases ho
      have e1 : aq.tmps.getD 1 undef = .pointer (some ⟨w.heap.size, 0, none⟩) := hk 1 (by decide)
      exact flow_value _ (run_fieldAt 67 (.tmp 1) 2 rfl _ _ e1 (by kernel_rfl)) rfl
    | 7, _ =>
      cases ho
      have e0 : aq.tmps.getD 9 undef = .pointer (some ⟨w.heap.size, 101, none⟩) := hdep 6 9 rfl (by kernel_rfl)
      exact flow_value _ (run_mid 23 (.tmp 9) rfl w.heap.size 101 e0 (cellsB zsg) ((HX.out.keep (hcB hc)).range 101 (cellsB zsg) (seg (ps := atP zbo zbc zbl zdzs zdzi zdzb zdzcze zdzczr zdztze zdztzr zsg) (i := 2) (off := 101) rfl (by simp [atP, cellsB_length, hzdzb.len, hzdzczr.len, hzdztzr.len, hzsg.len, vtC_length zdzs zdzi zdzb zdzcze zdzczr zdztze zdztzr hzdzb.len hzdzczr.len hzdztzr.len]))) _ Tryz.und23 rfl (by rw [cellsB_length, hzsg.len]; exact Tryz.size23)) rfl
    | 8, _ =>
      cases ho
      have e0 : aq.tmps.getD 5 undef = .agg (nums .u8 (bitsR 32 zbl)) := hdep 2 5 rfl (by kernel_rfl)
      have e1 : aq.tmps.getD 8 undef = .agg (nums .u8 (vtR zdzs zdzi zdzb zdzcze zdzczr zdztze zdztzr)) := hdep 5 8 rfl (by kernel_rfl)
      have e2 : aq.tmps.getD 10 undef = .agg (nums .u8 zsg) := hdep 7 10 rfl (by kernel_rfl)
      exact flow_rows 122 23 3 32 _ rfl Tryz.underlying122 rootInfo6 [cellsB (bitsR 32 zbl), cellsB (vtR zdzs zdzi zdzb zdzcze zdzczr zdztze zdztzr), cellsB (zsg)] [.tmp 5, .tmp 8, .tmp 10] rfl (by rw [show [Operand.tmp 5, Operand.tmp 8, Operand.tmp 10].map aq.eval = [aq.tmps.getD 5 undef, aq.tmps.getD 8 undef, aq.tmps.getD 10 undef] from rfl, e0, e1, e2]; rfl) (by simp [cellsB_length, ((bitsR_rt 32 zbl)).len, ((vtR_rt zdzs zdzi zdzb zdzcze zdzczr zdztze zdztzr hzdzb hzdzczr hzdztzr)).len, (hzsg).len]) rfl (by decide) (by decide) (by decide) (fun w' h => ⟨_, rfl, hasC_roots (rs := [bitsR 32 zbl, vtR zdzs zdzi zdzb zdzcze zdzczr zdztze zdztzr, zsg]) h (Rts.more (bitsR_rt 32 zbl) (Rts.more (vtR_rt zdzs zdzi zdzb zdzcze zdzczr zdztze zdztzr hzdzb hzdzczr hzdztzr) (Rts.more hzsg Rts.nil)))⟩)
    | 9, _ =>
      cases ho
      obtain ⟨b, e6, h6⟩ := hdep 8 11 rfl (by kernel_rfl)
      refine flow_fun 19 _ _ rfl (fun _ _ => by simp [go_sem]) #[.slice (some ⟨b, 0, none⟩) 3 3] (by rw [show (#[Operand.tmp 11] : Array Operand).map aq.eval = #[aq.tmps.getD 11 undef] from by simp [Act.eval], e6]) ?_
      refine (cont_any (some ⟨b, 0, none⟩) 3 [bitsR 32 zbl, vtR zdzs zdzi zdzb zdzcze zdzczr zdztze zdztzr, zsg] wq (HT.out.keep (hcB hc)) (Nat.le_refl _) (by decide) (by show 3 ≤ 1048576; decide) h6).mono ?_
      rintro x w' ⟨rfl, q⟩
      exact ⟨_, rfl, (by rw [← HW.out]; rfl), q⟩
    | (k + 10), hk => exact absurd hk (by omega)
  · intro o h10 ho
    omega
  intro vf w8 hc hv
  have e7 : vf 9 = _ := hv 9 12 (by decide) rfl
  have B8 := HB.out.trans ((hcB hc).mono (by omega))
  have H8v := HY.out.keep (hcB hc)
  have s8 := (hcB hc).size
  clear hv hc
  simp only [List.take_succ_cons, List.take_zero, List.drop_succ_cons, List.drop_zero, putAll, Act.put, List.setIfInBounds_toArray, List.set_cons_succ, List.set_cons_zero]
  rw [e7]
  have HB8 := hid B8
  clear B8 e7 HB
  go_wp2_with ((with_reducible refine at_list' ?_); first
    | (refine wpList_store_has rfl 23 (.tmp 2) (.tmp 12) rfl (w.heap.size + 1) .u8 W (zeros 32) rfl rfl 23 H8v (hfr.size _ Tryz.size23) (by rw [hfr.len, zeros_length]) ?_; intro w9 H9 O9))
  refine bodyPost_ret (results_has rfl _ _ (w.heap.size + 1) 23 .u8 W _ _ rfl H9 Tryz.und23 (hfr.size _ Tryz.size23)) rfl ?_
  exact ⟨rfl, below_only HB8.out O9 (by omega)⟩
end Go.Proofs.YtbmcmabimfoknaaGreatDoor

/- The root of a struct (SignedHeader), by the program. -/
namespace Go.Proofs.YtbmcmabimfoknaaGreatDoor
open Go.RowKit Go.Shelf
set_option linter.unusedVariables false
set_option linter.unusedSimpArgs false
set_option maxRecDepth 100000

def shP (zhzs : Nat) (zhzp : Nat) (zhzpa : List Nat) (zhzst : List Nat) (zhzbo : List Nat) (zsg : List Nat) : List (List Value) := [hdC zhzs zhzp zhzpa zhzst zhzbo, cellsB zsg]
def shC (zhzs : Nat) (zhzp : Nat) (zhzpa : List Nat) (zhzst : List Nat) (zhzbo : List Nat) (zsg : List Nat) : List Value := (shP zhzs zhzp zhzpa zhzst zhzbo zsg).flatten
theorem shC_length (zhzs : Nat) (zhzp : Nat) (zhzpa : List Nat) (zhzst : List Nat) (zhzbo : List Nat) (zsg : List Nat) (hzhzpa : zhzpa.length = 32) (hzhzst : zhzst.length = 32) (hzhzbo : zhzbo.length = 32) (hzsg : zsg.length = 32) : (shC zhzs zhzp zhzpa zhzst zhzbo zsg).length = 130 := by simp [shC, shP, cellsB_length, hzhzpa, hzhzst, hzhzbo, hzsg, hdC_length zhzs zhzp zhzpa zhzst zhzbo hzhzpa hzhzst hzhzbo]
def shR (zhzs : Nat) (zhzp : Nat) (zhzpa : List Nat) (zhzst : List Nat) (zhzbo : List Nat) (zsg : List Nat) : List Nat := fullR (depth (([hdR zhzs zhzp zhzpa zhzst zhzbo, zsg] : List (List Nat)).length : Nat)) [hdR zhzs zhzp zhzpa zhzst zhzbo, zsg]
theorem shR_rt (zhzs : Nat) (zhzp : Nat) (zhzpa : List Nat) (zhzst : List Nat) (zhzbo : List Nat) (zsg : List Nat) (hzhzpa : Rt zhzpa) (hzhzst : Rt zhzst) (hzhzbo : Rt zhzbo) (hzsg : Rt zsg) : Rt (shR zhzs zhzp zhzpa zhzst zhzbo zsg) := full_rt _ _ (Rts.more (hdR_rt zhzs zhzp zhzpa zhzst zhzbo hzhzpa hzhzst hzhzbo) (Rts.more hzsg Rts.nil))
set_option maxHeartbeats 2000000 in
theorem shR_any (zhzs : Nat) (zhzp : Nat) (zhzpa : List Nat) (zhzst : List Nat) (zhzbo : List Nat) (zsg : List Nat) (hzhzs : zhzs < 18446744073709551616) (hzhzp : zhzp < 18446744073709551616) (hzhzpa : Rt zhzpa) (hzhzst : Rt zhzst) (hzhzbo : Rt zhzbo) (hzsg : Rt zsg) (w : World) (hT : Tabs w) :
    Calls Tryz.prog 65 #[.agg (shC zhzs zhzp zhzpa zhzst zhzbo zsg).toArray] w fun x w' => x = .returned (.agg (nums .u8 (shR zhzs zhzp zhzpa zhzst zhzbo zsg))) ∧ Below w.heap.size w w' := by
  have hfr := shR_rt zhzs zhzp zhzpa zhzst zhzbo zsg hzhzpa hzhzst hzhzbo hzsg
  obtain ⟨W, HW⟩ : ∃ W, Hid (shR zhzs zhzp zhzpa zhzst zhzbo zsg = W) := ⟨_, hid rfl⟩
  rw [HW.out] at hfr ⊢
  go_enter Tryz.func65, Tryz.ntmps65
  go_wp2_with ((with_reducible refine at_list' ?_); first
    | (refine wpList_box_c rfl 1 rfl (.tmp 0) rfl (shC zhzs zhzp zhzpa zhzst zhzbo zsg) rfl ?_; intro w1 H1 B1 S1)
    | (refine wpList_alloc_has rfl 2 rfl 23 rfl .u8 32 Tryz.zero23 ?_; intro w2 H2 B2 S2; rw [S1] at H2 S2; rw [S1]))
  have HX := hid (H1.keep B2)
  have HY := hid H2
  have HB := hid (B1.trans (B2.mono (by omega)))
  have HT := hid (hT.keep HB.out)
  have s2 : w2.heap.size = w.heap.size + 2 := by omega
  clear H1 B1 S1 H2 B2 S2
  try simp only [Act.put, List.setIfInBounds_toArray, List.set_cons_succ, List.set_cons_zero]
  refine wp_region_flow 7 7 (fun i v wq => match i with
    | 0 => v = .pointer (some ⟨w.heap.size, 0, none⟩)
    | 1 => v = .agg (hdC zhzs zhzp zhzpa zhzst zhzbo).toArray
    | 2 => v = .agg (nums .u8 (hdR zhzs zhzp zhzpa zhzst zhzbo))
    | 3 => v = .pointer (some ⟨w.heap.size, 98, none⟩)
    | 4 => v = .agg (nums .u8 zsg)
    | 5 => ∃ b, v = .slice (some ⟨b, 0, none⟩) 2 2 ∧ RootsAt wq (some ⟨b, 0, none⟩) [hdR zhzs zhzp zhzpa zhzst zhzbo, zsg]
    | _ => v = .agg (nums .u8 W)) (by kernel_rfl) (by kernel_rfl) (fun _ d _ _ _ h => by cases d <;> exact h) ?_ ?_ ?_ ?_
  · intro i v wq wq' hi hv hb
    match i, hi with
    | 0, _ => exact hv
    | 1, _ => exact hv
    | 2, _ => exact hv
    | 3, _ => exact hv
    | 4, _ => exact hv
    | 5, _ => obtain ⟨b, h1, h2⟩ := hv; exact ⟨b, h1, h2.keep hb⟩
    | 6, _ => exact hv
    | (k + 7), hk => exact absurd hk (by omega)
  · intro i o hi ho aq wq hc hk hdep
    match i, hi with
    | 0, _ =>
      cases ho
      have e1 : aq.tmps.getD 1 undef = .pointer (some ⟨w.heap.size, 0, none⟩) := hk 1 (by decide)
      exact flow_value _ (run_fieldAt 72 (.tmp 1) 0 rfl _ _ e1 (by kernel_rfl)) rfl
    | 1, _ =>
      cases ho
      have e0 : aq.tmps.getD 3 undef = .pointer (some ⟨w.heap.size, 0, none⟩) := hdep 0 3 rfl (by kernel_rfl)
      exact flow_value _ (run_mid 52 (.tmp 3) rfl w.heap.size 0 e0 (hdC zhzs zhzp zhzpa zhzst zhzbo) ((HX.out.keep (hcB hc)).range 0 (hdC zhzs zhzp zhzpa zhzst zhzbo) (seg (ps := shP zhzs zhzp zhzpa zhzst zhzbo zsg) (i := 0) (off := 0) rfl (by simp [shP, cellsB_length, hzhzpa.len, hzhzst.len, hzhzbo.len, hzsg.len, hdC_length zhzs zhzp zhzpa zhzst zhzbo hzhzpa.len hzhzst.len hzhzbo.len]))) _ Tryz.underlying52 rfl (by rw [hdC_length zhzs zhzp zhzpa zhzst zhzbo hzhzpa.len hzhzst.len hzhzbo.len]; kernel_rfl)) rfl
    | 2, _ =>
      cases ho
      have e0 : aq.tmps.getD 4 undef = .agg (hdC zhzs zhzp zhzpa zhzst zhzbo).toArray := hdep 1 4 rfl (by kernel_rfl)
      refine flow_fun 14 _ _ rfl (fun _ _ => by simp [go_sem]) #[.agg (hdC zhzs zhzp zhzpa zhzst zhzbo).toArray] (by rw [show (#[Operand.tmp 4] : Array Operand).map aq.eval = #[aq.tmps.getD 4 undef] from by simp [Act.eval], e0]) ?_
      refine (hdR_any zhzs zhzp zhzpa zhzst zhzbo hzhzs hzhzp hzhzpa hzhzst hzhzbo wq (HT.out.keep (hcB hc))).mono ?_
      rintro x w' ⟨rfl, q⟩
      exact ⟨_, rfl, rfl, q⟩
    | 3, _ =>
      cases ho
      have e1 : aq.tmps.getD 1 undef = .pointer (some ⟨w.heap.size, 0, none⟩) := hk 1 (by decide)
      exact flow_value _ (run_fieldAt 72 (.tmp 1) 1 rfl _ _ e1 (by kernel_rfl)) rfl
    | 4, _ =>
      cases ho
      have e0 : aq.tmps.getD 6 undef = .pointer (some ⟨w.heap.size, 98, none⟩) := hdep 3 6 rfl (by kernel_rfl)
      exact flow_value _ (run_mid 23 (.tmp 6) rfl w.heap.size 98 e0 (cellsB zsg) ((HX.out.keep (hcB hc)).range 98 (cellsB zsg) (seg (ps := shP zhzs zhzp zhzpa zhzst zhzbo zsg) (i := 1) (off := 98) rfl (by simp [shP, cellsB_length, hzhzpa.len, hzhzst.len, hzhzbo.len, hzsg.len, hdC_length zhzs zhzp zhzpa zhzst zhzbo hzhzpa.len hzhzst.len hzhzbo.len]))) _ Tryz.und23 rfl (by rw [cellsB_length, hzsg.len]; exact Tryz.size23)) rfl
    | 5, _ =>
      cases ho
      have e0 : aq.tmps.getD 5 undef = .agg (nums .u8 (hdR zhzs zhzp zhzpa zhzst zhzbo)) := hdep 2 5 rfl (by kernel_rfl)
      have e1 : aq.tmps.getD 7 undef = .agg (nums .u8 zsg) := hdep 4 7 rfl (by kernel_rfl)
      exact flow_rows 122 23 2 32 _ rfl Tryz.underlying122 rootInfo6 [cellsB (hdR zhzs zhzp zhzpa zhzst zhzbo), cellsB (zsg)] [.tmp 5, .tmp 7] rfl (by rw [show [Operand.tmp 5, Operand.tmp 7].map aq.eval = [aq.tmps.getD 5 undef, aq.tmps.getD 7 undef] from rfl, e0, e1]; rfl) (by simp [cellsB_length, ((hdR_rt zhzs zhzp zhzpa zhzst zhzbo hzhzpa hzhzst hzhzbo)).len, (hzsg).len]) rfl (by decide) (by decide) (by decide) (fun w' h => ⟨_, rfl, hasC_roots (rs := [hdR zhzs zhzp zhzpa zhzst zhzbo, zsg]) h (Rts.more (hdR_rt zhzs zhzp zhzpa zhzst zhzbo hzhzpa hzhzst hzhzbo) (Rts.more hzsg Rts.nil))⟩)
    | 6, _ =>
      cases ho
      obtain ⟨b, e6, h6⟩ := hdep 5 8 rfl (by kernel_rfl)
      refine flow_fun 19 _ _ rfl (fun _ _ => by simp [go_sem]) #[.slice (some ⟨b, 0, none⟩) 2 2] (by rw [show (#[Operand.tmp 8] : Array Operand).map aq.eval = #[aq.tmps.getD 8 undef] from by simp [Act.eval], e6]) ?_
      refine (cont_any (some ⟨b, 0, none⟩) 2 [hdR zhzs zhzp zhzpa zhzst zhzbo, zsg] wq (HT.out.keep (hcB hc)) (Nat.le_refl _) (by decide) (by show 2 ≤ 1048576; decide) h6).mono ?_
      rintro x w' ⟨rfl, q⟩
      exact ⟨_, rfl, (by rw [← HW.out]; rfl), q⟩
    | (k + 7), hk => exact absurd hk (by omega)
  · intro o h7 ho
    omega
  intro vf w8 hc hv
  have e7 : vf 6 = _ := hv 6 9 (by decide) rfl
  have B8 := HB.out.trans ((hcB hc).mono (by omega))
  have H8v := HY.out.keep (hcB hc)
  have s8 := (hcB hc).size
  clear hv hc
  simp only [List.take_succ_cons, List.take_zero, List.drop_succ_cons, List.drop_zero, putAll, Act.put, List.setIfInBounds_toArray, List.set_cons_succ, List.set_cons_zero]
  rw [e7]
  have HB8 := hid B8
  clear B8 e7 HB
  go_wp2_with ((with_reducible refine at_list' ?_); first
    | (refine wpList_store_has rfl 23 (.tmp 2) (.tmp 9) rfl (w.heap.size + 1) .u8 W (zeros 32) rfl rfl 23 H8v (hfr.size _ Tryz.size23) (by rw [hfr.len, zeros_length]) ?_; intro w9 H9 O9))
  refine bodyPost_ret (results_has rfl _ _ (w.heap.size + 1) 23 .u8 W _ _ rfl H9 Tryz.und23 (hfr.size _ Tryz.size23)) rfl ?_
  exact ⟨rfl, below_only HB8.out O9 (by omega)⟩
end Go.Proofs.YtbmcmabimfoknaaGreatDoor

