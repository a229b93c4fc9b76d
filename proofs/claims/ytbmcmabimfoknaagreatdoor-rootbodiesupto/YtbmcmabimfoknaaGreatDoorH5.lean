/- Own texts of the proof, joined: CoProposerSlashing CoExit CoSignedExit CoEth OpenU Flow9 RootL. -/
import Derived.Test.YtbmcmabimfoknaaGreatDoorH4
import Derived.Test.YtbmcmabimfoknaaGreatDoorRows
import Derived.ProofKit
import Derived.OpenShut
import Derived.ShutString
import Derived.ChangeOld
import Derived.Deep.Slices
import Derived.SevenTiedAt
import Derived.Stop.Joined
import Derived.Deep.Grids
import Derived.ChangeSlices
/- The root of a struct (ProposerSlashing), by the program. -/
namespace Go.Proofs.YtbmcmabimfoknaaGreatDoor
open Go.RowKit Go.Shelf
set_option linter.unusedVariables false
set_option linter.unusedSimpArgs false
set_option maxRecDepth 100000

def psP (zazhzs : Nat) (zazhzp : Nat) (zazhzpa : List Nat) (zazhzst : List Nat) (zazhzbo : List Nat) (zazsg : List Nat) (zzzhzs : Nat) (zzzhzp : Nat) (zzzhzpa : List Nat) (zzzhzst : List Nat) (zzzhzbo : List Nat) (zzzsg : List Nat) : List (List Value) := [shC zazhzs zazhzp zazhzpa zazhzst zazhzbo zazsg, shC zzzhzs zzzhzp zzzhzpa zzzhzst zzzhzbo zzzsg]
def psC (zazhzs : Nat) (zazhzp : Nat) (zazhzpa : List Nat) (zazhzst : List Nat) (zazhzbo : List Nat) (zazsg : List Nat) (zzzhzs : Nat) (zzzhzp : Nat) (zzzhzpa : List Nat) (zzzhzst : List Nat) (zzzhzbo : List Nat) (zzzsg : List Nat) : List Value := (psP zazhzs zazhzp zazhzpa zazhzst zazhzbo zazsg zzzhzs zzzhzp zzzhzpa zzzhzst zzzhzbo zzzsg).flatten
theorem psC_length (zazhzs : Nat) (zazhzp : Nat) (zazhzpa : List Nat) (zazhzst : List Nat) (zazhzbo : List Nat) (zazsg : List Nat) (zzzhzs : Nat) (zzzhzp : Nat) (zzzhzpa : List Nat) (zzzhzst : List Nat) (zzzhzbo : List Nat) (zzzsg : List Nat) (hzazhzpa : zazhzpa.length = 32) (hzazhzst : zazhzst.length = 32) (hzazhzbo : zazhzbo.length = 32) (hzazsg : zazsg.length = 32) (hzzzhzpa : zzzhzpa.length = 32) (hzzzhzst : zzzhzst.length = 32) (hzzzhzbo : zzzhzbo.length = 32) (hzzzsg : zzzsg.length = 32) : (psC zazhzs zazhzp zazhzpa zazhzst zazhzbo zazsg zzzhzs zzzhzp zzzhzpa zzzhzst zzzhzbo zzzsg).length = 260 := by simp [psC, psP, cellsB_length, hzazhzpa, hzazhzst, hzazhzbo, hzazsg, hzzzhzpa, hzzzhzst, hzzzhzbo, hzzzsg, shC_length zazhzs zazhzp zazhzpa zazhzst zazhzbo zazsg hzazhzpa hzazhzst hzazhzbo hzazsg, shC_length zzzhzs zzzhzp zzzhzpa zzzhzst zzzhzbo zzzsg hzzzhzpa hzzzhzst hzzzhzbo hzzzsg]
def psR (zazhzs : Nat) (zazhzp : Nat) (zazhzpa : List Nat) (zazhzst : List Nat) (zazhzbo : List Nat) (zazsg : List Nat) (zzzhzs : Nat) (zzzhzp : Nat) (zzzhzpa : List Nat) (zzzhzst : List Nat) (zzzhzbo : List Nat) (zzzsg : List Nat) : List Nat := fullR (depth (([shR zazhzs zazhzp zazhzpa zazhzst zazhzbo zazsg, shR zzzhzs zzzhzp zzzhzpa zzzhzst zzzhzbo zzzsg] : List (List Nat)).length : Nat)) [shR zazhzs zazhzp zazhzpa zazhzst zazhzbo zazsg, shR zzzhzs zzzhzp zzzhzpa zzzhzst zzzhzbo zzzsg]
theorem psR_rt (zazhzs : Nat) (zazhzp : Nat) (zazhzpa : List Nat) (zazhzst : List Nat) (zazhzbo : List Nat) (zazsg : List Nat) (zzzhzs : Nat) (zzzhzp : Nat) (zzzhzpa : List Nat) (zzzhzst : List Nat) (zzzhzbo : List Nat) (zzzsg : List Nat) (hzazhzpa : Rt zazhzpa) (hzazhzst : Rt zazhzst) (hzazhzbo : Rt zazhzbo) (hzazsg : Rt zazsg) (hzzzhzpa : Rt zzzhzpa) (hzzzhzst : Rt zzzhzst) (hzzzhzbo : Rt zzzhzbo) (hzzzsg : Rt zzzsg) : Rt (psR zazhzs zazhzp zazhzpa zazhzst zazhzbo zazsg zzzhzs zzzhzp zzzhzpa zzzhzst zzzhzbo zzzsg) := full_rt _ _ (Rts.more (shR_rt zazhzs zazhzp zazhzpa zazhzst zazhzbo zazsg hzazhzpa hzazhzst hzazhzbo hzazsg) (Rts.more (shR_rt zzzhzs zzzhzp zzzhzpa zzzhzst zzzhzbo zzzsg hzzzhzpa hzzzhzst hzzzhzbo hzzzsg) Rts.nil))
set_option maxHeartbeats 2000000 in
theorem psR_any (zazhzs : Nat) (zazhzp : Nat) (zazhzpa : List Nat) (zazhzst : List Nat) (zazhzbo : List Nat) (zazsg : List Nat) (zzzhzs : Nat) (zzzhzp : Nat) (zzzhzpa : List Nat) (zzzhzst : List Nat) (zzzhzbo : List Nat) (zzzsg : List Nat) (hzazhzs : zazhzs < 18446744073709551616) (hzazhzp : zazhzp < 18446744073709551616) (hzazhzpa : Rt zazhzpa) (hzazhzst : Rt zazhzst) (hzazhzbo : Rt zazhzbo) (hzazsg : Rt zazsg) (hzzzhzs : zzzhzs < 18446744073709551616) (hzzzhzp : zzzhzp < 18446744073709551616) (hzzzhzpa : Rt zzzhzpa) (hzzzhzst : Rt zzzhzst) (hzzzhzbo : Rt zzzhzbo) (hzzzsg : Rt zzzsg) (w : World) (hT : Tabs w) :
    Calls Tryz.prog 22 #[.agg (psC zazhzs zazhzp zazhzpa zazhzst zazhzbo zazsg zzzhzs zzzhzp zzzhzpa zzzhzst zzzhzbo zzzsg).toArray] w fun x w' => x = .returned (.agg (nums .u8 (psR zazhzs zazhzp zazhzpa zazhzst zazhzbo zazsg zzzhzs zzzhzp zzzhzpa zzzhzst zzzhzbo zzzsg))) ∧ Below w.heap.size w w' := by
  have hfr := psR_rt zazhzs zazhzp zazhzpa zazhzst zazhzbo zazsg zzzhzs zzzhzp zzzhzpa zzzhzst zzzhzbo zzzsg hzazhzpa hzazhzst hzazhzbo hzazsg hzzzhzpa hzzzhzst hzzzhzbo hzzzsg
  obtain ⟨W, HW⟩ : ∃ W, Hid (psR zazhzs zazhzp zazhzpa zazhzst zazhzbo zazsg zzzhzs zzzhzp zzzhzpa zzzhzst zzzhzbo zzzsg = W) := ⟨_, hid rfl⟩
  rw [HW.out] at hfr ⊢
  go_enter Tryz.func22, Tryz.ntmps22
  go_wp2_with ((with_reducible refine at_list' ?_); first
    | (refine wpList_box_c rfl 1 rfl (.tmp 0) rfl (psC zazhzs zazhzp zazhzpa zazhzst zazhzbo zazsg zzzhzs zzzhzp zzzhzpa zzzhzst zzzhzbo zzzsg) rfl ?_; intro w1 H1 B1 S1)
    | (refine wpList_alloc_has rfl 2 rfl 23 rfl .u8 32 Tryz.zero23 ?_; intro w2 H2 B2 S2; rw [S1] at H2 S2; rw [S1]))
  have HX := hid (H1.keep B2)
  have HY := hid H2
  have HB := hid (B1.trans (B2.mono (by omega)))
  have HT := hid (hT.keep HB.out)
  have s2 : w2.heap.size = w.heap.size + 2 := by omega
  clear H1 B1 S1 H2 B2 S2
  try simp only [Act.put, List.setIfInBounds_toArray, List.set_cons_succ, List.set_cons_zero]
  refine wp_region_flow 8 8 (fun i v wq => match i with
    | 0 => v = .pointer (some ⟨w.heap.size, 0, none⟩)
    | 1 => v = .agg (shC zazhzs zazhzp zazhzpa zazhzst zazhzbo zazsg).toArray
    | 2 => v = .agg (nums .u8 (shR zazhzs zazhzp zazhzpa zazhzst zazhzbo zazsg))
    | 3 => v = .pointer (some ⟨w.heap.size, 130, none⟩)
    | 4 => v = .agg (shC zzzhzs zzzhzp zzzhzpa zzzhzst zzzhzbo zzzsg).toArray
    | 5 => v = .agg (nums .u8 (shR zzzhzs zzzhzp zzzhzpa zzzhzst zzzhzbo zzzsg))
    | 6 => ∃ b, v = .slice (some ⟨b, 0, none⟩) 2 2 ∧ RootsAt wq (some ⟨b, 0, none⟩) [shR zazhzs zazhzp zazhzpa zazhzst zazhzbo zazsg, shR zzzhzs zzzhzp zzzhzpa zzzhzst zzzhzbo zzzsg]
    | _ => v = .agg (nums .u8 W)) (by kernel_rfl) (by kernel_rfl) (fun _ d _ _ _ h => by cases d <;> exact h) ?_ ?_ ?_ ?_
  · intro i v wq wq' hi hv hb
    match i, hi with
    | 0, _ => exact hv
    | 1, _ => exact hv
    | 2, _ => exact hv
    | 3, _ => exact hv
    | 4, _ => exact hv
    | 5, _ => exact hv
    | 6, _ => obtain ⟨b, h1, h2⟩ := hv; exact ⟨b, h1, h2.keep hb⟩
    | 7, _ => exact hv
    | (k + 8), hk => exact absurd hk (by omega)
  · intro i o hi ho aq wq hc hk hdep
    match i, hi with
    | 0, _ =>
      cases ho
      have e1 : aq.tmps.getD 1 undef = .pointer (some ⟨w.heap.size, 0, none⟩) := hk 1 (by decide)
      exact flow_value _ (run_fieldAt 74 (.tmp 1) 0 rfl _ _ e1 (by kernel_rfl)) rfl
    | 1, _ =>
      cases ho
      have e0 : aq.tmps.getD 3 undef = .pointer (some ⟨w.heap.size, 0, none⟩) := hdep 0 3 rfl (by kernel_rfl)
      exact flow_value _ (run_mid 72 (.tmp 3) rfl w.heap.size 0 e0 (shC zazhzs zazhzp zazhzpa zazhzst zazhzbo zazsg) ((HX.out.keep (hcB hc)).range 0 (shC zazhzs zazhzp zazhzpa zazhzst zazhzbo zazsg) (seg (ps := psP zazhzs zazhzp zazhzpa zazhzst zazhzbo zazsg zzzhzs zzzhzp zzzhzpa zzzhzst zzzhzbo zzzsg) (i := 0) (off := 0) rfl (by simp [psP, cellsB_length, hzazhzpa.len, hzazhzst.len, hzazhzbo.len, hzazsg.len, hzzzhzpa.len, hzzzhzst.len, hzzzhzbo.len, hzzzsg.len, shC_length zazhzs zazhzp zazhzpa zazhzst zazhzbo zazsg hzazhzpa.len hzazhzst.len hzazhzbo.len hzazsg.len, shC_length zzzhzs zzzhzp zzzhzpa zzzhzst zzzhzbo zzzsg hzzzhzpa.len hzzzhzst.len hzzzhzbo.len hzzzsg.len]))) _ Tryz.underlying72 rfl (by rw [shC_length zazhzs zazhzp zazhzpa zazhzst zazhzbo zazsg hzazhzpa.len hzazhzst.len hzazhzbo.len hzazsg.len]; kernel_rfl)) rfl
    | 2, _ =>
      cases ho
      have e0 : aq.tmps.getD 4 undef = .agg (shC zazhzs zazhzp zazhzpa zazhzst zazhzbo zazsg).toArray := hdep 1 4 rfl (by kernel_rfl)
      refine flow_fun 65 _ _ rfl (fun _ _ => by simp [go_sem]) #[.agg (shC zazhzs zazhzp zazhzpa zazhzst zazhzbo zazsg).toArray] (by rw [show (#[Operand.tmp 4] : Array Operand).map aq.eval = #[aq.tmps.getD 4 undef] from by simp [Act.eval], e0]) ?_
      refine (shR_any zazhzs zazhzp zazhzpa zazhzst zazhzbo zazsg hzazhzs hzazhzp hzazhzpa hzazhzst hzazhzbo hzazsg wq (HT.out.keep (hcB hc))).mono ?_
      rintro x w' ⟨rfl, q⟩
      exact ⟨_, rfl, rfl, q⟩
    | 3, _ =>
      cases ho
      have e1 : aq.tmps.getD 1 undef = .pointer (some ⟨w.heap.size, 0, none⟩) := hk 1 (by decide)
      exact flow_value _ (run_fieldAt 74 (.tmp 1) 1 rfl _ _ e1 (by kernel_rfl)) rfl
    | 4, _ =>
      cases ho
      have e0 : aq.tmps.getD 6 undef = .pointer (some ⟨w.heap.size, 130, none⟩) := hdep 3 6 rfl (by kernel_rfl)
      exact flow_value _ (run_mid 72 (.tmp 6) rfl w.heap.size 130 e0 (shC zzzhzs zzzhzp zzzhzpa zzzhzst zzzhzbo zzzsg) ((HX.out.keep (hcB hc)).range 130 (shC zzzhzs zzzhzp zzzhzpa zzzhzst zzzhzbo zzzsg) (seg (ps := psP zazhzs zazhzp zazhzpa zazhzst zazhzbo zazsg zzzhzs zzzhzp zzzhzpa zzzhzst zzzhzbo zzzsg) (i := 1) (off := 130) rfl (by simp [psP, cellsB_length, hzazhzpa.len, hzazhzst.len, hzazhzbo.len, hzazsg.len, hzzzhzpa.len, hzzzhzst.len, hzzzhzbo.len, hzzzsg.len, shC_length zazhzs zazhzp zazhzpa zazhzst zazhzbo zazsg hzazhzpa.len hzazhzst.len hzazhzbo.len hzazsg.len, shC_length zzzhzs zzzhzp zzzhzpa zzzhzst zzzhzbo zzzsg hzzzhzpa.len hzzzhzst.len hzzzhzbo.len hzzzsg.len]))) _ Tryz.underlying72 rfl (by rw [shC_length zzzhzs zzzhzp zzzhzpa zzzhzst zzzhzbo zzzsg hzzzhzpa.len hzzzhzst.len hzzzhzbo.len hzzzsg.len]; kernel_rfl)) rfl
    | 5, _ =>
      cases ho
      have e0 : aq.tmps.getD 7 undef = .agg (shC zzzhzs zzzhzp zzzhzpa zzzhzst zzzhzbo zzzsg).toArray := hdep 4 7 rfl (by kernel_rfl)
      refine flow_fun 65 _ _ rfl (fun _ _ => by simp [go_sem]) #[.agg (shC zzzhzs zzzhzp zzzhzpa zzzhzst zzzhzbo zzzsg).toArray] (by rw [show (#[Operand.tmp 7] : Array Operand).map aq.eval = #[aq.tmps.getD 7 undef] from by simp [Act.eval], e0]) ?_
      refine (shR_any zzzhzs zzzhzp zzzhzpa zzzhzst zzzhzbo zzzsg hzzzhzs hzzzhzp hzzzhzpa hzzzhzst hzzzhzbo hzzzsg wq (HT.out.keep (hcB hc))).mono ?_
      rintro x w' ⟨rfl, q⟩
      exact ⟨_, rfl, rfl, q⟩
    | 6, _ =>
      cases ho
      have e0 : aq.tmps.getD 5 undef = .agg (nums .u8 (shR zazhzs zazhzp zazhzpa zazhzst zazhzbo zazsg)) := hdep 2 5 rfl (by kernel_rfl)
      have e1 : aq.tmps.getD 8 undef = .agg (nums .u8 (shR zzzhzs zzzhzp zzzhzpa zzzhzst zzzhzbo zzzsg)) := hdep 5 8 rfl (by kernel_rfl)
      exact flow_rows 122 23 2 32 _ rfl Tryz.underlying122 rootInfo6 [cellsB (shR zazhzs zazhzp zazhzpa zazhzst zazhzbo zazsg), cellsB (shR zzzhzs zzzhzp zzzhzpa zzzhzst zzzhzbo zzzsg)] [.tmp 5, .tmp 8] rfl (by rw [show [Operand.tmp 5, Operand.tmp 8].map aq.eval = [aq.tmps.getD 5 undef, aq.tmps.getD 8 undef] from rfl, e0, e1]; rfl) (by simp [cellsB_length, ((shR_rt zazhzs zazhzp zazhzpa zazhzst zazhzbo zazsg hzazhzpa hzazhzst hzazhzbo hzazsg)).len, ((shR_rt zzzhzs zzzhzp zzzhzpa zzzhzst zzzhzbo zzzsg hzzzhzpa hzzzhzst hzzzhzbo hzzzsg)).len]) rfl (by decide) (by decide) (by decide) (fun w' h => ⟨_, rfl, hasC_roots (rs := [shR zazhzs zazhzp zazhzpa zazhzst zazhzbo zazsg, shR zzzhzs zzzhzp zzzhzpa zzzhzst zzzhzbo zzzsg]) h (Rts.more (shR_rt zazhzs zazhzp zazhzpa zazhzst zazhzbo zazsg hzazhzpa hzazhzst hzazhzbo hzazsg) (Rts.more (shR_rt zzzhzs zzzhzp zzzhzpa zzzhzst zzzhzbo zzzsg hzzzhzpa hzzzhzst hzzzhzbo hzzzsg) Rts.nil))⟩)
    | 7, _ =>
      cases ho
      obtain ⟨b, e6, h6⟩ := hdep 6 9 rfl (by kernel_rfl)
      refine flow_fun 19 _ _ rfl (fun _ _ => by simp [go_sem]) #[.slice (some ⟨b, 0, none⟩) 2 2] (by rw [show (#[Operand.tmp 9] : Array Operand).map aq.eval = #[aq.tmps.getD 9 undef] from by simp [Act.eval], e6]) ?_
      refine (cont_any (some ⟨b, 0, none⟩) 2 [shR zazhzs zazhzp zazhzpa zazhzst zazhzbo zazsg, shR zzzhzs zzzhzp zzzhzpa zzzhzst zzzhzbo zzzsg] wq (HT.out.keep (hcB hc)) (Nat.le_refl _) (by decide) (by show 2 ≤ 1048576; decide) h6).mono ?_
      rintro x w' ⟨rfl, q⟩
      exact ⟨_, rfl, (by rw [← HW.out]; rfl), q⟩
    | (k + 8), hk => exact absurd hk (by omega)
  · intro o h8 ho
    omega
  intro vf w8 hc hv
  have e7 : vf 7 = _ := hv 7 10 (by decide) rfl
  have B8 := HB.out.trans ((hcB hc).mono (by omega))
  have H8v := HY.out.keep (hcB hc)
  have s8 := (hcB hc).size
  clear hv hc
  simp only [List.take_succ_cons, List.take_zero, List.drop_succ_cons, List.drop_zero, putAll, Act.put, List.setIfInBounds_toArray, List.set_cons_succ, List.set_cons_zero]
  rw [e7]
  have HB8 := hid B8
  clear B8 e7 HB
  go_wp2_with ((with_reducible refine at_list' ?_); first
    | (refine wpList_store_has rfl 23 (.tmp 2) (.tmp 10) rfl (w.heap.size + 1) .u8 W (zeros 32) rfl rfl 23 H8v (hfr.size _ Tryz.size23) (by rw [hfr.len, zeros_length]) ?_; intro w9 H9 O9))
  refine bodyPost_ret (results_has rfl _ _ (w.heap.size + 1) 23 .u8 W _ _ rfl H9 Tryz.und23 (hfr.size _ Tryz.size23)) rfl ?_
  exact ⟨rfl, below_only HB8.out O9 (by omega)⟩
end Go.Proofs.YtbmcmabimfoknaaGreatDoor

/- The root of a struct (Exit), by the program. -/
namespace Go.Proofs.YtbmcmabimfoknaaGreatDoor
open Go.RowKit Go.Shelf
set_option linter.unusedVariables false
set_option linter.unusedSimpArgs false
set_option maxRecDepth 100000

def exP (ze : Nat) (zi : Nat) : List (List Value) := [[.int .u64 (ze : Nat)], [.int .u64 (zi : Nat)]]
def exC (ze : Nat) (zi : Nat) : List Value := (exP ze zi).flatten
theorem exC_length (ze : Nat) (zi : Nat)  : (exC ze zi).length = 2 := by simp [exC, exP, cellsB_length]
def exR (ze : Nat) (zi : Nat) : List Nat := fullR (depth (([wUp ze 8, wUp zi 8] : List (List Nat)).length : Nat)) [wUp ze 8, wUp zi 8]
theorem exR_rt (ze : Nat) (zi : Nat)  : Rt (exR ze zi) := full_rt _ _ (Rts.more (wUp_rt ze 8) (Rts.more (wUp_rt zi 8) Rts.nil))
set_option maxHeartbeats 2000000 in
theorem exR_any (ze : Nat) (zi : Nat) (hze : ze < 18446744073709551616) (hzi : zi < 18446744073709551616) (w : World) (hT : Tabs w) :
    Calls Tryz.prog 74 #[.agg (exC ze zi).toArray] w fun x w' => x = .returned (.agg (nums .u8 (exR ze zi))) ∧ Below w.heap.size w w' := by
  have hfr := exR_rt ze zi 
  obtain ⟨W, HW⟩ : ∃ W, Hid (exR ze zi = W) := ⟨_, hid rfl⟩
  rw [HW.out] at hfr ⊢
  go_enter Tryz.func74, Tryz.ntmps74
  go_wp2_with ((with_reducible refine at_list' ?_); first
    | (refine wpList_box_c rfl 1 rfl (.tmp 0) rfl (exC ze zi) rfl ?_; intro w1 H1 B1 S1)
    | (refine wpList_alloc_has rfl 2 rfl 23 rfl .u8 32 Tryz.zero23 ?_; intro w2 H2 B2 S2; rw [S1] at H2 S2; rw [S1]))
  have HX := hid (H1.keep B2)
  have HY := hid H2
  have HB := hid (B1.trans (B2.mono (by omega)))
  have HT := hid (hT.keep HB.out)
  have s2 : w2.heap.size = w.heap.size + 2 := by omega
  clear H1 B1 S1 H2 B2 S2
  try simp only [Act.put, List.setIfInBounds_toArray, List.set_cons_succ, List.set_cons_zero]
  refine wp_region_flow 8 8 (fun i v wq => match i with
    | 0 => v = .pointer (some ⟨w.heap.size, 0, none⟩)
    | 1 => v = .int .u64 (ze : Nat)
    | 2 => v = .agg (nums .u8 (wUp ze 8))
    | 3 => v = .pointer (some ⟨w.heap.size, 1, none⟩)
    | 4 => v = .int .u64 (zi : Nat)
    | 5 => v = .agg (nums .u8 (wUp zi 8))
    | 6 => ∃ b, v = .slice (some ⟨b, 0, none⟩) 2 2 ∧ RootsAt wq (some ⟨b, 0, none⟩) [wUp ze 8, wUp zi 8]
    | _ => v = .agg (nums .u8 W)) (by kernel_rfl) (by kernel_rfl) (fun _ d _ _ _ h => by cases d <;> exact h) ?_ ?_ ?_ ?_
  · intro i v wq wq' hi hv hb
    match i, hi with
    | 0, _ => exact hv
    | 1, _ => exact hv
    | 2, _ => exact hv
    | 3, _ => exact hv
    | 4, _ => exact hv
    | 5, _ => exact hv
    | 6, _ => obtain ⟨b, h1, h2⟩ := hv; exact ⟨b, h1, h2.keep hb⟩
    | 7, _ => exact hv
    | (k + 8), hk => exact absurd hk (by omega)
  · intro i o hi ho aq wq hc hk hdep
    match i, hi with
    | 0, _ =>
      cases ho
      have e1 : aq.tmps.getD 1 undef = .pointer (some ⟨w.heap.size, 0, none⟩) := hk 1 (by decide)
      exact flow_value _ (run_fieldAt 89 (.tmp 1) 0 rfl _ _ e1 (by kernel_rfl)) rfl
    | 1, _ =>
      cases ho
      have e0 : aq.tmps.getD 3 undef = .pointer (some ⟨w.heap.size, 0, none⟩) := hdep 0 3 rfl (by kernel_rfl)
      exact flow_value _ (run_cell 24 (.tmp 3) rfl _ e0 _ ((HX.out.keep (hcB hc)).cell (seg (ps := exP ze zi) (i := 0) (off := 0) rfl (by simp [exP, cellsB_length]) 0 _ rfl)) _ Tryz.underlying24 rfl) rfl
    | 2, _ =>
      cases ho
      have e0 : aq.tmps.getD 4 undef = .int .u64 (ze : Nat) := hdep 1 4 rfl (by kernel_rfl)
      refine flow_fun 59 _ _ rfl (fun _ _ => by simp [go_sem]) #[.int .u64 (ze : Nat)] (by rw [show (#[Operand.tmp 4] : Array Operand).map aq.eval = #[aq.tmps.getD 4 undef] from by simp [Act.eval], e0]) ?_
      refine (number_any ze hze wq).mono ?_
      rintro x w' ⟨rfl, q⟩
      exact ⟨_, rfl, rfl, q⟩
    | 3, _ =>
      cases ho
      have e1 : aq.tmps.getD 1 undef = .pointer (some ⟨w.heap.size, 0, none⟩) := hk 1 (by decide)
      exact flow_value _ (run_fieldAt 89 (.tmp 1) 1 rfl _ _ e1 (by kernel_rfl)) rfl
    | 4, _ =>
      cases ho
      have e0 : aq.tmps.getD 6 undef = .pointer (some ⟨w.heap.size, 1, none⟩) := hdep 3 6 rfl (by kernel_rfl)
      exact flow_value _ (run_cell 24 (.tmp 6) rfl _ e0 _ ((HX.out.keep (hcB hc)).cell (seg (ps := exP ze zi) (i := 1) (off := 1) rfl (by simp [exP, cellsB_length]) 0 _ rfl)) _ Tryz.underlying24 rfl) rfl
    | 5, _ =>
      cases ho
      have e0 : aq.tmps.getD 7 undef = .int .u64 (zi : Nat) := hdep 4 7 rfl (by kernel_rfl)
      refine flow_fun 59 _ _ rfl (fun _ _ => by simp [go_sem]) #[.int .u64 (zi : Nat)] (by rw [show (#[Operand.tmp 7] : Array Operand).map aq.eval = #[aq.tmps.getD 7 undef] from by simp [Act.eval], e0]) ?_
      refine (number_any zi hzi wq).mono ?_
      rintro x w' ⟨rfl, q⟩
      exact ⟨_, rfl, rfl, q⟩
    | 6, _ =>
      cases ho
      have e0 : aq.tmps.getD 5 undef = .agg (nums .u8 (wUp ze 8)) := hdep 2 5 rfl (by kernel_rfl)
      have e1 : aq.tmps.getD 8 undef = .agg (nums .u8 (wUp zi 8)) := hdep 5 8 rfl (by kernel_rfl)
      exact flow_rows 122 23 2 32 _ rfl Tryz.underlying122 rootInfo6 [cellsB (wUp ze 8), cellsB (wUp zi 8)] [.tmp 5, .tmp 8] rfl (by rw [show [Operand.tmp 5, Operand.tmp 8].map aq.eval = [aq.tmps.getD 5 undef, aq.tmps.getD 8 undef] from rfl, e0, e1]; rfl) (by simp [cellsB_length, ((wUp_rt ze 8)).len, ((wUp_rt zi 8)).len]) rfl (by decide) (by decide) (by decide) (fun w' h => ⟨_, rfl, hasC_roots (rs := [wUp ze 8, wUp zi 8]) h (Rts.more (wUp_rt ze 8) (Rts.more (wUp_rt zi 8) Rts.nil))⟩)
    | 7, _ =>
      cases ho
      obtain ⟨b, e6, h6⟩ := hdep 6 9 rfl (by kernel_rfl)
      refine flow_fun 19 _ _ rfl (fun _ _ => by simp [go_sem]) #[.slice (some ⟨b, 0, none⟩) 2 2] (by rw [show (#[Operand.tmp 9] : Array Operand).map aq.eval = #[aq.tmps.getD 9 undef] from by simp [Act.eval], e6]) ?_
      refine (cont_any (some ⟨b, 0, none⟩) 2 [wUp ze 8, wUp zi 8] wq (HT.out.keep (hcB hc)) (Nat.le_refl _) (by decide) (by show 2 ≤ 1048576; decide) h6).mono ?_
      rintro x w' ⟨rfl, q⟩
      exact ⟨_, rfl, (by rw [← HW.out]; rfl), q⟩
    | (k + 8), hk => exact absurd hk (by omega)
  · intro o h8 ho
    omega
  intro vf w8 hc hv
  have e7 : vf 7 = _ := hv 7 10 (by decide) rfl
  have B8 := HB.out.trans ((hcB hc).mono (by omega))
  have H8v := HY.out.keep (hcB hc)
  have s8 := (hcB hc).size
  clear hv hc
  simp only [List.take_succ_cons, List.take_zero, List.drop_succ_cons, List.drop_zero, putAll, Act.put, List.setIfInBounds_toArray, List.set_cons_succ, List.set_cons_zero]
  rw [e7]
  have HB8 := hid B8
  clear B8 e7 HB
  go_wp2_with ((with_reducible refine at_list' ?_); first
    | (refine wpList_store_has rfl 23 (.tmp 2) (.tmp 10) rfl (w.heap.size + 1) .u8 W (zeros 32) rfl rfl 23 H8v (hfr.size _ Tryz.size23) (by rw [hfr.len, zeros_length]) ?_; intro w9 H9 O9))
  refine bodyPost_ret (results_has rfl _ _ (w.heap.size + 1) 23 .u8 W _ _ rfl H9 Tryz.und23 (hfr.size _ Tryz.size23)) rfl ?_
  exact ⟨rfl, below_only HB8.out O9 (by omega)⟩
end Go.Proofs.YtbmcmabimfoknaaGreatDoor

/- The root of a struct (SignedExit), by the program. -/
namespace Go.Proofs.YtbmcmabimfoknaaGreatDoor
open Go.RowKit Go.Shelf
set_option linter.unusedVariables false
set_option linter.unusedSimpArgs false
set_option maxRecDepth 100000

def sxP (zxze : Nat) (zxzi : Nat) (zsg : List Nat) : List (List Value) := [exC zxze zxzi, cellsB zsg]
def sxC (zxze : Nat) (zxzi : Nat) (zsg : List Nat) : List Value := (sxP zxze zxzi zsg).flatten
theorem sxC_length (zxze : Nat) (zxzi : Nat) (zsg : List Nat) (hzsg : zsg.length = 32) : (sxC zxze zxzi zsg).length = 34 := by simp [sxC, sxP, cellsB_length, hzsg, exC_length zxze zxzi ]
def sxR (zxze : Nat) (zxzi : Nat) (zsg : List Nat) : List Nat := fullR (depth (([exR zxze zxzi, zsg] : List (List Nat)).length : Nat)) [exR zxze zxzi, zsg]
theorem sxR_rt (zxze : Nat) (zxzi : Nat) (zsg : List Nat) (hzsg : Rt zsg) : Rt (sxR zxze zxzi zsg) := full_rt _ _ (Rts.more (exR_rt zxze zxzi ) (Rts.more hzsg Rts.nil))
set_option maxHeartbeats 2000000 in
theorem sxR_any (zxze : Nat) (zxzi : Nat) (zsg : List Nat) (hzxze : zxze < 18446744073709551616) (hzxzi : zxzi < 18446744073709551616) (hzsg : Rt zsg) (w : World) (hT : Tabs w) :
    Calls Tryz.prog 30 #[.agg (sxC zxze zxzi zsg).toArray] w fun x w' => x = .returned (.agg (nums .u8 (sxR zxze zxzi zsg))) ∧ Below w.heap.size w w' := by
  have hfr := sxR_rt zxze zxzi zsg hzsg
  obtain ⟨W, HW⟩ : ∃ W, Hid (sxR zxze zxzi zsg = W) := ⟨_, hid rfl⟩
  rw [HW.out] at hfr ⊢
  go_enter Tryz.func30, Tryz.ntmps30
  go_wp2_with ((with_reducible refine at_list' ?_); first
    | (refine wpList_box_c rfl 1 rfl (.tmp 0) rfl (sxC zxze zxzi zsg) rfl ?_; intro w1 H1 B1 S1)
    | (refine wpList_alloc_has rfl 2 rfl 23 rfl .u8 32 Tryz.zero23 ?_; intro w2 H2 B2 S2; rw [S1] at H2 S2; rw [S1]))
  have HX := hid (H1.keep B2)
  have HY := hid H2
  have HB := hid (B1.trans (B2.mono (by omega)))
  have HT := hid (hT.keep HB.out)
  have s2 : w2.heap.size = w.heap.size + 2 := by omega
  clear H1 B1 S1 H2 B2 S2
  try simp only [Act.put, List.setIfInBounds_toArray, List.set_cons_succ, List.set_cons_zero]
  refine wp_region_flow 7 7 (fun i v wq => match i with
    | 0 => v = .pointer (some ⟨w.heap.size, 0, none⟩)
    | 1 => v = .agg (exC zxze zxzi).toArray
    | 2 => v = .agg (nums .u8 (exR zxze zxzi))
    | 3 => v = .pointer (some ⟨w.heap.size, 2, none⟩)
    | 4 => v = .agg (nums .u8 zsg)
    | 5 => ∃ b, v = .slice (some ⟨b, 0, none⟩) 2 2 ∧ RootsAt wq (some ⟨b, 0, none⟩) [exR zxze zxzi, zsg]
    | _ => v = .agg (nums .u8 W)) (by kernel_rfl) (by kernel_rfl) (fun _ d _ _ _ h => by cases d <;> exact h) ?_ ?_ ?_ ?_
  · intro i v wq wq' hi hv hb
    match i, hi with
    | 0, _ => exact hv
    | 1, _ => exact hv
    | 2, _ => exact hv
    | 3, _ => exact hv
    | 4, _ => exact hv
    | 5, _ => obtain ⟨b, h1, h2⟩ := hv; exact ⟨b, h1, h2.keep hb⟩
    | 6, _ => exact hv
    | (k + 7), hk => exact absurd hk (by omega)
  · intro i o hi ho aq wq hc hk hdep
    match i, hi with
    | 0, _ =>
      cases ho
      have e1 : aq.tmps.getD 1 undef = .pointer (some ⟨w.heap.size, 0, none⟩) := hk 1 (by decide)
      exact flow_value _ (run_fieldAt 91 (.tmp 1) 0 rfl _ _ e1 (by kernel_rfl)) rfl
    | 1, _ =>
      cases ho
      have e0 : aq.tmps.getD 3 undef = .pointer (some ⟨w.heap.size, 0, none⟩) := hdep 0 3 rfl (by kernel_rfl)
      exact flow_value _ (run_mid 89 (.tmp 3) rfl w.heap.size 0 e0 (exC zxze zxzi) ((HX.out.keep (hcB hc)).range 0 (exC zxze zxzi) (seg (ps := sxP zxze zxzi zsg) (i := 0) (off := 0) rfl (by simp [sxP, cellsB_length, hzsg.len, exC_length zxze zxzi ]))) _ Tryz.underlying89 rfl (by rw [exC_length zxze zxzi ]; kernel_rfl)) rfl
    | 2, _ =>
      cases ho
      have e0 : aq.tmps.getD 4 undef = .agg (exC zxze zxzi).toArray := hdep 1 4 rfl (by kernel_rfl)
      refine flow_fun 74 _ _ rfl (fun _ _ => by simp [go_sem]) #[.agg (exC zxze zxzi).toArray] (by rw [show (#[Operand.tmp 4] : Array Operand).map aq.eval = #[aq.tmps.getD 4 undef] from by simp [Act.eval], e0]) ?_
      refine (exR_any zxze zxzi hzxze hzxzi wq (HT.out.keep (hcB hc))).mono ?_
      rintro x w' ⟨rfl, q⟩
      exact ⟨_, rfl, rfl, q⟩
    | 3, _ =>
      cases ho
      have e1 : aq.tmps.getD 1 undef = .pointer (some ⟨w.heap.size, 0, none⟩) := hk 1 (by decide)
      exact flow_value _ (run_fieldAt 91 (.tmp 1) 1 rfl _ _ e1 (by kernel_rfl)) rfl
    | 4, _ =>
      cases ho
      have e0 : aq.tmps.getD 6 undef = .pointer (some ⟨w.heap.size, 2, none⟩) := hdep 3 6 rfl (by kernel_rfl)
      exact flow_value _ (run_mid 23 (.tmp 6) rfl w.heap.size 2 e0 (cellsB zsg) ((HX.out.keep (hcB hc)).range 2 (cellsB zsg) (seg (ps := sxP zxze zxzi zsg) (i := 1) (off := 2) rfl (by simp [sxP, cellsB_length, hzsg.len, exC_length zxze zxzi ]))) _ Tryz.und23 rfl (by rw [cellsB_length, hzsg.len]; exact Tryz.size23)) rfl
    | 5, _ =>
      cases ho
      have e0 : aq.tmps.getD 5 undef = .agg (nums .u8 (exR zxze zxzi)) := hdep 2 5 rfl (by kernel_rfl)
      have e1 : aq.tmps.getD 7 undef = .agg (nums .u8 zsg) := hdep 4 7 rfl (by kernel_rfl)
      exact flow_rows 122 23 2 32 _ rfl Tryz.underlying122 rootInfo6 [cellsB (exR zxze zxzi), cellsB (zsg)] [.tmp 5, .tmp 7] rfl (by rw [show [Operand.tmp 5, Operand.tmp 7].map aq.eval = [aq.tmps.getD 5 undef, aq.tmps.getD 7 undef] from rfl, e0, e1]; rfl) (by simp [cellsB_length, ((exR_rt zxze zxzi )).len, (hzsg).len]) rfl (by decide) (by decide) (by decide) (fun w' h => ⟨_, rfl, hasC_roots (rs := [exR zxze zxzi, zsg]) h (Rts.more (exR_rt zxze zxzi ) (Rts.more hzsg Rts.nil))⟩)
    | 6, _ =>
      cases ho
      obtain ⟨b, e6, h6⟩ := hdep 5 8 rfl (by kernel_rfl)
      refine flow_fun 19 _ _ rfl (fun _ _ => by simp [go_sem]) #[.slice (some ⟨b, 0, none⟩) 2 2] (by rw [show (#[Operand.tmp 8] : Array Operand).map aq.eval = #[aq.tmps.getD 8 undef] from by simp [Act.eval], e6]) ?_
      refine (cont_any (some ⟨b, 0, none⟩) 2 [exR zxze zxzi, zsg] wq (HT.out.keep (hcB hc)) (Nat.le_refl _) (by decide) (by show 2 ≤ 1048576; decide) h6).mono ?_
      rintro x w' ⟨rfl, q⟩
      exact ⟨_, rfl, (by rw [← HW.out]; rfl), q⟩
    | (k + 7), hk => exact absurd hk (by omega)
  · intro o h7 ho
    omega
  intro vf w8 hc hv
  have e7 : vf 6 = _ := hv 6 9 (by decide) rfl
  have B8 := HB.out.trans ((hcB hc).mono (by omega))
  have H8v := HY.out.keep (hcB hc)
  have s8 := (hcB hc).size
  clear hv hc
  simp only [List.take_succ_cons, List.take_zero, List.drop_succ_cons, List.drop_zero, putAll, Act.put, List.setIfInBounds_toArray, List.set_cons_succ, List.set_cons_zero]
  rw [e7]
  have HB8 := hid B8
  clear B8 e7 HB
  go_wp2_with ((with_reducible refine at_list' ?_); first
    | (refine wpList_store_has rfl 23 (.tmp 2) (.tmp 9) rfl (w.heap.size + 1) .u8 W (zeros 32) rfl rfl 23 H8v (hfr.size _ Tryz.size23) (by rw [hfr.len, zeros_length]) ?_; intro w9 H9 O9))
  refine bodyPost_ret (results_has rfl _ _ (w.heap.size + 1) 23 .u8 W _ _ rfl H9 Tryz.und23 (hfr.size _ Tryz.size23)) rfl ?_
  exact ⟨rfl, below_only HB8.out O9 (by omega)⟩
end Go.Proofs.YtbmcmabimfoknaaGreatDoor

/- The root of a struct (Eth), by the program. -/
namespace Go.Proofs.YtbmcmabimfoknaaGreatDoor
open Go.RowKit Go.Shelf
set_option linter.unusedVariables false
set_option linter.unusedSimpArgs false
set_option maxRecDepth 100000

def etP (zd : List Nat) (zc : Nat) : List (List Value) := [cellsB zd, [.int .u64 (zc : Nat)]]
def etC (zd : List Nat) (zc : Nat) : List Value := (etP zd zc).flatten
theorem etC_length (zd : List Nat) (zc : Nat) (hzd : zd.length = 32) : (etC zd zc).length = 33 := by simp [etC, etP, cellsB_length, hzd]
def etR (zd : List Nat) (zc : Nat) : List Nat := fullR (depth (([zd, wUp zc 8] : List (List Nat)).length : Nat)) [zd, wUp zc 8]
theorem etR_rt (zd : List Nat) (zc : Nat) (hzd : Rt zd) : Rt (etR zd zc) := full_rt _ _ (Rts.more hzd (Rts.more (wUp_rt zc 8) Rts.nil))
set_option maxHeartbeats 2000000 in
theorem etR_any (zd : List Nat) (zc : Nat) (hzd : Rt zd) (hzc : zc < 18446744073709551616) (w : World) (hT : Tabs w) :
    Calls Tryz.prog 20 #[.agg (etC zd zc).toArray] w fun x w' => x = .returned (.agg (nums .u8 (etR zd zc))) ∧ Below w.heap.size w w' := by
  have hfr := etR_rt zd zc hzd
  obtain ⟨W, HW⟩ : ∃ W, Same (etR zd zc) W := ⟨_, ⟨rfl⟩⟩
  rw [HW.out] at hfr ⊢
  go_enter Tryz.func20, Tryz.ntmps20
  go_wp2_with ((with_reducible refine at_list' ?_); first
    | (refine wpList_box_c rfl 1 rfl (.tmp 0) rfl (etC zd zc) rfl ?_; intro w1 H1 B1 S1)
    | (refine wpList_alloc_has rfl 2 rfl 23 rfl .u8 32 Tryz.zero23 ?_; intro w2 H2 B2 S2; rw [S1] at H2 S2; rw [S1]))
  have HX := hid (H1.keep B2)
  have HY := hid H2
  have HB := hid (B1.trans (B2.mono (by omega)))
  have HT := hid (hT.keep HB.out)
  have s2 : w2.heap.size = w.heap.size + 2 := by omega
  clear H1 B1 S1 H2 B2 S2
  try simp only [Act.put, List.setIfInBounds_toArray, List.set_cons_succ, List.set_cons_zero]
  refine wp_region_flow 7 7 (fun i v wq => match i with
    | 0 => v = .pointer (some ⟨w.heap.size, 0, none⟩)
    | 1 => v = .agg (nums .u8 zd)
    | 2 => v = .pointer (some ⟨w.heap.size, 32, none⟩)
    | 3 => v = .int .u64 (zc : Nat)
    | 4 => v = .agg (nums .u8 (wUp zc 8))
    | 5 => ∃ b, v = .slice (some ⟨b, 0, none⟩) 2 2 ∧ RootsAt wq (some ⟨b, 0, none⟩) [zd, wUp zc 8]
    | _ => v = .agg (nums .u8 W)) (by kernel_rfl) (by kernel_rfl) (fun _ d _ _ _ h => by cases d <;> exact h) ?_ ?_ ?_ ?_
  · intro i v wq wq' hi hv hb
    match i, hi with
    | 0, _ => exact hv
    | 1, _ => exact hv
    | 2, _ => exact hv
    | 3, _ => exact hv
    | 4, _ => exact hv
    | 5, _ => obtain ⟨b, h1, h2⟩ := hv; exact ⟨b, h1, h2.keep hb⟩
    | 6, _ => exact hv
    | (k + 7), hk => exact absurd hk (by omega)
  · intro i o hi ho aq wq hc hk hdep
    match i, hi with
    | 0, _ =>
      cases ho
      have e1 : aq.tmps.getD 1 undef = .pointer (some ⟨w.heap.size, 0, none⟩) := hk 1 (by decide)
      exact flow_value _ (run_fieldAt 26 (.tmp 1) 0 rfl _ _ e1 (by kernel_rfl)) rfl
    | 1, _ =>
      cases ho
      have e0 : aq.tmps.getD 3 undef = .pointer (some ⟨w.heap.size, 0, none⟩) := hdep 0 3 rfl (by kernel_rfl)
      exact flow_value _ (run_mid 23 (.tmp 3) rfl w.heap.size 0 e0 (cellsB zd) ((HX.out.keep (hcB hc)).range 0 (cellsB zd) (seg (ps := etP zd zc) (i := 0) (off := 0) rfl (by simp [etP, cellsB_length, hzd.len]))) _ Tryz.und23 rfl (by rw [cellsB_length, hzd.len]; exact Tryz.size23)) rfl
    | 2, _ =>
      cases ho
      have e1 : aq.tmps.getD 1 undef = .pointer (some ⟨w.heap.size, 0, none⟩) := hk 1 (by decide)
      exact flow_value _ (run_fieldAt 26 (.tmp 1) 1 rfl _ _ e1 (by kernel_rfl)) rfl
    | 3, _ =>
      cases ho
      have e0 : aq.tmps.getD 5 undef = .pointer (some ⟨w.heap.size, 32, none⟩) := hdep 2 5 rfl (by kernel_rfl)
      exact flow_value _ (run_cell 24 (.tmp 5) rfl _ e0 _ ((HX.out.keep (hcB hc)).cell (seg (ps := etP zd zc) (i := 1) (off := 32) rfl (by simp [etP, cellsB_length, hzd.len]) 0 _ rfl)) _ Tryz.underlying24 rfl) rfl
    | 4, _ =>
      cases ho
      have e0 : aq.tmps.getD 6 undef = .int .u64 (zc : Nat) := hdep 3 6 rfl (by kernel_rfl)
      refine flow_fun 59 _ _ rfl (fun _ _ => by simp [go_sem]) #[.int .u64 (zc : Nat)] (by rw [show (#[Operand.tmp 6] : Array Operand).map aq.eval = #[aq.tmps.getD 6 undef] from by simp [Act.eval], e0]) ?_
      refine (number_any zc hzc wq).mono ?_
      rintro x w' ⟨rfl, q⟩
      exact ⟨_, rfl, rfl, q⟩
    | 5, _ =>
      cases ho
      have e0 : aq.tmps.getD 4 undef = .agg (nums .u8 zd) := hdep 1 4 rfl (by kernel_rfl)
      have e1 : aq.tmps.getD 7 undef = .agg (nums .u8 (wUp zc 8)) := hdep 4 7 rfl (by kernel_rfl)
      exact flow_rows 122 23 2 32 _ rfl Tryz.underlying122 rootInfo6 [cellsB (zd), cellsB (wUp zc 8)] [.tmp 4, .tmp 7] rfl (by rw [show [Operand.tmp 4, Operand.tmp 7].map aq.eval = [aq.tmps.getD 4 undef, aq.tmps.getD 7 undef] from rfl, e0, e1]; rfl) (by simp [cellsB_length, (hzd).len, ((wUp_rt zc 8)).len]) rfl (by decide) (by decide) (by decide) (fun w' h => ⟨_, rfl, hasC_roots (rs := [zd, wUp zc 8]) h (Rts.more hzd (Rts.more (wUp_rt zc 8) Rts.nil))⟩)
    | 6, _ =>
      cases ho
      obtain ⟨b, e6, h6⟩ := hdep 5 8 rfl (by kernel_rfl)
      refine flow_fun 19 _ _ rfl (fun _ _ => by simp [go_sem]) #[.slice (some ⟨b, 0, none⟩) 2 2] (by rw [show (#[Operand.tmp 8] : Array Operand).map aq.eval = #[aq.tmps.getD 8 undef] from by simp [Act.eval], e6]) ?_
      refine (cont_any (some ⟨b, 0, none⟩) 2 [zd, wUp zc 8] wq (HT.out.keep (hcB hc)) (Nat.le_refl _) (by decide) (by show 2 ≤ 1048576; decide) h6).mono ?_
      rintro x w' ⟨rfl, q⟩
      exact ⟨_, rfl, (by rw [← HW.out]; rfl), q⟩
    | (k + 7), hk => exact absurd hk (by omega)
  · intro o h7 ho
    omega
  intro vf w8 hc hv
  have e7 : vf 6 = _ := hv 6 9 (by decide) rfl
  have B8 := HB.out.trans ((hcB hc).mono (by omega))
  have H8v := HY.out.keep (hcB hc)
  have s8 := (hcB hc).size
  clear hv hc
  simp only [List.take_succ_cons, List.take_zero, List.drop_succ_cons, List.drop_zero, putAll, Act.put, List.setIfInBounds_toArray, List.set_cons_succ, List.set_cons_zero]
  rw [e7]
  have HB8 := hid B8
  clear B8 e7 HB
  go_wp2_with ((with_reducible refine at_list' ?_); first
    | (refine wpList_store_has rfl 23 (.tmp 2) (.tmp 9) rfl (w.heap.size + 1) .u8 W (zeros 32) rfl rfl 23 H8v (hfr.size _ Tryz.size23) (by rw [hfr.len, zeros_length]) ?_; intro w9 H9 O9))
  refine bodyPost_ret (results_has rfl _ _ (w.heap.size + 1) 23 .u8 W _ _ rfl H9 Tryz.und23 (hfr.size _ Tryz.size23)) rfl ?_
  exact ⟨rfl, below_only HB8.out O9 (by omega)⟩
end Go.Proofs.YtbmcmabimfoknaaGreatDoor

/- Structs that came in by value. -/
namespace Go.Proofs.YtbmcmabimfoknaaGreatDoor
open Go.RowKit Go.Deep Go.WideShapes
set_option linter.unusedVariables false
set_option linter.unusedSimpArgs false
set_option maxRecDepth 100000

theorem cellsRt : Tryz.prog.cellsOf 23 = 32 := by kernel_rfl
theorem cellsU8 : Tryz.prog.cellsOf 5 = 1 := by kernel_rfl
theorem cellsU64 : Tryz.prog.cellsOf 24 = 1 := by kernel_rfl
theorem cellsBo : Tryz.prog.cellsOf 4 = 1 := by kernel_rfl
/-- Parts of a list, one behind the other. -/
def cutAt {α : Type} (cs : List α) : Nat → List Nat → List (List α)
  | _, [] => []
  | o, k :: ks => (cs.drop o).take k :: cutAt cs (o + k) ks
theorem cut_flat {α : Type} (cs : List α) : ∀ (ks : List Nat) (o : Nat), o + ks.sum = cs.length → cs.drop o = (cutAt cs o ks).flatten := by
  intro ks
  induction ks with
  | nil => intro o h; simp at h; rw [h, List.drop_length]; rfl
  | cons k ks ih =>
    intro o h
    rw [cutAt, List.flatten_cons, ← ih (o + k) (by simp at h; omega), ← List.drop_drop, List.take_append_drop]
section
variable {H : Type} {enc : TypeId × Value → H} {W : World} {b0 : Nat} {sp : Nat → Bool} {held : Bool}
theorem bulk_one (d : DataW H) : 1 ≤ Rows.uptoBulk d := by
  cases d with
  | lit l => cases l <;> simp [Rows.uptoBulk]
  | nil => simp [Rows.uptoBulk]
  | ptr d => simp [Rows.uptoBulk]
  | slice elems spare => simp [Rows.uptoBulk]
  | agg parts => simp [Rows.uptoBulk]
  | iface t d => simp [Rows.uptoBulk]
  | map entries => simp [Rows.uptoBulk]
  | held h => simp [Rows.uptoBulk]
theorem bulk_mem {d : DataW H} : ∀ {l : List (DataW H)}, d ∈ l → Rows.uptoBulk d ≤ Rows.uptoBulkAll l
  | [], h => by cases h
  | x :: r, h => by
    simp only [Rows.uptoBulkAll]
    rcases List.mem_cons.1 h with e | e
    · subst e; omega
    · have := bulk_mem (l := r) e; omega
theorem bulk_length : ∀ (l : List (DataW H)), l.length ≤ Rows.uptoBulkAll l
  | [] => by simp [Rows.uptoBulkAll]
  | x :: r => by have := bulk_one x; have := bulk_length r; simp only [Rows.uptoBulkAll, List.length_cons]; omega
theorem bulk_part {xs : List (DataW H × List MemPlace)} {k : Nat} {y : DataW H × List MemPlace} (hy : xs[k]? = some y) {B : Nat} (hr : Rows.uptoBulk (DataW.agg (xs.map (·.1))) ≤ B) : Rows.uptoBulk y.1 ≤ B := by
  have h1 : y.1 ∈ xs.map (·.1) := List.mem_map.2 ⟨y, List.mem_of_getElem? hy, rfl⟩
  have h2 := bulk_mem h1
  simp only [Rows.uptoBulk] at hr
  omega
theorem bulk_elem {es sp0 : List (DataW H)} {d : DataW H} (hd : d ∈ es) {B : Nat} (hr : Rows.uptoBulk (DataW.slice es sp0) ≤ B) : Rows.uptoBulk d ≤ B := by
  have h2 := bulk_mem hd
  simp only [Rows.uptoBulk] at hr
  omega
theorem bulk_len {es sp0 : List (DataW H)} {B : Nat} (hr : Rows.uptoBulk (DataW.slice es sp0) ≤ B) : es.length ≤ B := by
  have h2 := bulk_length es
  simp only [Rows.uptoBulk] at hr
  omega
theorem len_of_trod {t e : TypeId} (hu : Tryz.prog.underlying t = some (.slice e)) {by_ : Nat} (hby : Tryz.prog.bytesOf e = by_) {fuel : Nat} {ao : Option Addr} {len cap : Nat} {x : DataW H × List MemPlace} (h : DataW.trod enc Tryz.prog W b0 sp held fuel t [.slice ao len cap] = some x) (hr : Rows.uptoBulk x.1 ≤ 1048576) : len ≤ 1048576 := by
  rcases open_slice hu h with ⟨hcs, _⟩ | ⟨a, len', cap', m, n, D, Pl, hcs, _, hl, hm, hmm, hd, hx⟩
  · simp at hcs
    omega
  · simp at hcs
    obtain ⟨rfl, rfl, rfl⟩ := hcs
    have hd' : x.1 = .slice ((List.range len).map D) ((List.range (m - len)).map fun j => D (len + j)) := by rw [hd]
    rw [hd'] at hr
    have := bulk_len hr
    simpa using this
theorem root_of_trod {fuel : Nat} {cs : List Value} {x : DataW H × List MemPlace} (h : DataW.trod enc Tryz.prog W b0 sp held fuel 23 cs = some x) : ∃ r : List Nat, cs = (nums .u8 r).toList ∧ Rt r := by
  obtain ⟨xs, m, _, _, hl, hxs, hel⟩ := DataW.trod_array Tryz.und23 h
  rw [cellsRt] at hl
  have key : ∀ i (hi : i < cs.length), ∃ n : Nat, cs[i] = .int .u8 (n : Int) ∧ n < 256 := by
    intro i hi
    have h1 := hel i (by omega)
    rw [cellsU8, Nat.mul_one, List.getElem?_eq_getElem (by omega)] at h1
    obtain ⟨n, e1, _, hw⟩ := DataW.trod_int Tryz.underlying5 h1
    have hb := bounds_u8 hw
    have e2 : (cs.drop i).take 1 = [cs[i]] := by
      rw [List.drop_eq_getElem_cons hi, List.take_succ_cons, List.take_zero]
    have e3 : [cs[i]] = [Value.int .u8 n] := e2.symm.trans e1
    refine ⟨n.toNat, ?_, by omega⟩
    have e4 : cs[i] = Value.int .u8 n := by simpa using e3
    rw [e4]
    congr 1
    omega
  refine ⟨cs.map fun v => (intOf v).toNat, ?_, by simp [hl], ?_⟩
  · unfold nums
    apply List.ext_getElem
    · simp
    · intro i h1 h2
      obtain ⟨n, e, hn⟩ := key i h1
      simp [e, intOf]
  · intro z hz
    obtain ⟨v, hv, rfl⟩ := List.mem_map.1 hz
    obtain ⟨i, hi, rfl⟩ := List.mem_iff_getElem.1 hv
    obtain ⟨n, e, hn⟩ := key i hi
    simp [e, intOf, hn]
theorem num_of_trod {fuel : Nat} {cs : List Value} {x : DataW H × List MemPlace} (h : DataW.trod enc Tryz.prog W b0 sp held fuel 24 cs = some x) : ∃ n : Nat, cs = [.int .u64 (n : Nat)] ∧ n < 18446744073709551616 := by
  obtain ⟨i, e, _, hw⟩ := DataW.trod_int Tryz.underlying24 h
  have hb := bounds_u64 hw
  refine ⟨i.toNat, ?_, by omega⟩
  rw [e, Int.toNat_of_nonneg hb.1]
theorem bool_of_trod {fuel : Nat} {cs : List Value} {x : DataW H × List MemPlace} (h : DataW.trod enc Tryz.prog W b0 sp held fuel 4 cs = some x) : ∃ b : Bool, cs = [.bool b] := by
  obtain ⟨b, e, _⟩ := DataW.trod_bool Tryz.underlying4 h
  exact ⟨b, e⟩
theorem bits_of_trod {fuel : Nat} {cs : List Value} {x : DataW H × List MemPlace} (h : DataW.trod enc Tryz.prog W b0 (fun _ => true) held fuel 40 cs = some x) : ∃ (ao : Option Addr) (c : Nat) (l : List Bool), cs = [.slice ao l.length c] ∧ IsT W (.slice ao l.length c) l := by
  rcases open_bools Tryz.underlying40 Tryz.underlying4 cellsBo h with ⟨hcs, _⟩ | ⟨a, len, cap, B, hcs, _, hl, hm, _, hcell⟩
  · exact ⟨none, 0, [], hcs, none, 0, rfl, Nat.le_refl _, by decide, .inl rfl⟩
  · refine ⟨some a, cap, (List.range len).map B, by simpa using hcs, some a, cap, rfl, by simpa using hl, hm, ?_⟩
    by_cases h0 : len = 0
    · exact .inl (by simpa using h0)
    · obtain ⟨b, off, spot⟩ := a
      obtain rfl : spot = none := by
        have := hcell 0 (by omega)
        simpa [Addr.add] using World.cell?_spot this
      refine .inr ⟨b, off, rfl, fun i hi => ?_⟩
      have hi' : i < len := by simpa using hi
      have := hcell i (by omega)
      rw [Addr.add_lit] at this
      rw [this]
      simp [hi']
theorem cellsNs : Tryz.prog.cellsOf 59 = 1 := by kernel_rfl
theorem nums_of_trod {fuel : Nat} {cs : List Value} {x : DataW H × List MemPlace} (h : DataW.trod enc Tryz.prog W b0 (fun _ => true) held fuel 59 cs = some x) : ∃ (ao : Option Addr) (c : Nat) (l : List Nat), cs = [.slice ao l.length c] ∧ IsN W (.slice ao l.length c) l := by
  rcases Go.ChangeShapes.open_ints Tryz.underlying59 Tryz.underlying24 cellsU64 h with ⟨hcs, _⟩ | ⟨a, len, cap, zs, hcs, _, hl, hm, hzl, _, hcell, hwf⟩
  · exact ⟨none, 0, [], hcs, ⟨none, 0, rfl, Nat.le_refl _, by decide, .inl rfl⟩, fun _ h => absurd h List.not_mem_nil⟩
  · simp only [if_true] at hzl
    have hln : ((zs.take len).map Int.toNat).length = len := by rw [List.length_map, List.length_take, hzl, Nat.min_eq_left hl]
    refine ⟨some a, cap, (zs.take len).map Int.toNat, by rw [hln]; exact hcs, ⟨some a, cap, rfl, by rw [hln]; exact hl, hm, ?_⟩, ?_⟩
    · by_cases h0 : len = 0
      · exact .inl (by rw [hln]; exact h0)
      · obtain ⟨b, off, spot⟩ := a
        obtain rfl : spot = none := by
          have := hcell 0 (by omega)
          simpa [Addr.add] using World.cell?_spot this
        refine .inr ⟨b, off, rfl, fun i hi => ?_⟩
        rw [hln] at hi
        have hiz : i < zs.length := by omega
        have h1 := hcell i hiz
        rw [Addr.add_lit] at h1
        have hb := bounds_u64 (hwf (zs.getD i 0) (by rw [List.getD_eq_getElem?_getD, List.getElem?_eq_getElem hiz]; exact List.getElem_mem hiz))
        rw [h1]
        have e1 : ((zs.take len).map Int.toNat).getD i 0 = (zs.getD i 0).toNat := by
          rw [List.getD_eq_getElem?_getD, List.getElem?_map, List.getElem?_take, if_pos hi, List.getD_eq_getElem?_getD, List.getElem?_eq_getElem hiz]
          rfl
        rw [e1, Int.toNat_of_nonneg hb.1]
    · intro n hn
      obtain ⟨z, hz, rfl⟩ := List.mem_map.1 hn
      have hb := bounds_u64 (hwf z (List.mem_of_mem_take hz))
      omega
theorem cellsBs : Tryz.prog.cellsOf 40 = 1 := by kernel_rfl
theorem cells_cp : Tryz.prog.cellsOf 55 = 33 := by kernel_rfl
theorem cp_of_trod {fuel : Nat} {cs : List Value} {x : DataW H × List MemPlace} (h : DataW.trod enc Tryz.prog W b0 sp held fuel 55 cs = some x) : ∃ (ze : Nat) (zr : List Nat), cs = cpC ze zr ∧ ze < 18446744073709551616 ∧ Rt zr := by
  obtain ⟨xs, n, _, _, hl, hlen, hf⟩ := DataW.trod_struct Tryz.underlying55 h
  rw [cells_cp] at hl
  have hx : xs.length = 2 := hlen
  have f0 : ∃ y, DataW.trod enc Tryz.prog W b0 sp held n 24 ((cs.drop 0).take 1) = some y := by
    have := hf 0 _ rfl
    change DataW.trod enc Tryz.prog W b0 sp held n 24 (List.take (Tryz.prog.cellsOf 24) (List.drop 0 cs)) = xs[0]? at this
    rw [cellsU64, List.getElem?_eq_getElem (by omega)] at this
    exact ⟨_, this⟩
  obtain ⟨y0, f0⟩ := f0
  obtain ⟨ze, e0, hze⟩ := num_of_trod f0
  have f1 : ∃ y, DataW.trod enc Tryz.prog W b0 sp held n 23 ((cs.drop 1).take 32) = some y := by
    have := hf 1 _ rfl
    change DataW.trod enc Tryz.prog W b0 sp held n 23 (List.take (Tryz.prog.cellsOf 23) (List.drop 1 cs)) = xs[1]? at this
    rw [cellsRt, List.getElem?_eq_getElem (by omega)] at this
    exact ⟨_, this⟩
  obtain ⟨y1, f1⟩ := f1
  obtain ⟨zr, e1, hzr⟩ := root_of_trod f1
  have hc := cut_flat cs [1, 32] 0 (by rw [hl]; rfl)
  rw [List.drop_zero] at e0
  simp only [cutAt, List.drop_zero, Nat.zero_add, Nat.reduceAdd, e0, e1] at hc
  refine ⟨ze, zr, hc, hze, hzr⟩
theorem cells_vt : Tryz.prog.cellsOf 61 = 100 := by kernel_rfl
theorem vt_of_trod {fuel : Nat} {cs : List Value} {x : DataW H × List MemPlace} (h : DataW.trod enc Tryz.prog W b0 sp held fuel 61 cs = some x) : ∃ (zs : Nat) (zi : Nat) (zb : List Nat) (zcze : Nat) (zczr : List Nat) (ztze : Nat) (ztzr : List Nat), cs = vtC zs zi zb zcze zczr ztze ztzr ∧ zs < 18446744073709551616 ∧ zi < 18446744073709551616 ∧ Rt zb ∧ zcze < 18446744073709551616 ∧ Rt zczr ∧ ztze < 18446744073709551616 ∧ Rt ztzr := by
  obtain ⟨xs, n, _, _, hl, hlen, hf⟩ := DataW.trod_struct Tryz.underlying61 h
  rw [cells_vt] at hl
  have hx : xs.length = 5 := hlen
  have f0 : ∃ y, DataW.trod enc Tryz.prog W b0 sp held n 24 ((cs.drop 0).take 1) = some y := by
    have := hf 0 _ rfl
    change DataW.trod enc Tryz.prog W b0 sp held n 24 (List.take (Tryz.prog.cellsOf 24) (List.drop 0 cs)) = xs[0]? at this
    rw [cellsU64, List.getElem?_eq_getElem (by omega)] at this
    exact ⟨_, this⟩
  obtain ⟨y0, f0⟩ := f0
  obtain ⟨zs, e0, hzs⟩ := num_of_trod f0
  have f1 : ∃ y, DataW.trod enc Tryz.prog W b0 sp held n 24 ((cs.drop 1).take 1) = some y := by
    have := hf 1 _ rfl
    change DataW.trod enc Tryz.prog W b0 sp held n 24 (List.take (Tryz.prog.cellsOf 24) (List.drop 1 cs)) = xs[1]? at this
    rw [cellsU64, List.getElem?_eq_getElem (by omega)] at this
    exact ⟨_, this⟩
  obtain ⟨y1, f1⟩ := f1
  obtain ⟨zi, e1, hzi⟩ := num_of_trod f1
  have f2 : ∃ y, DataW.trod enc Tryz.prog W b0 sp held n 23 ((cs.drop 2).take 32) = some y := by
    have := hf 2 _ rfl
    change DataW.trod enc Tryz.prog W b0 sp held n 23 (List.take (Tryz.prog.cellsOf 23) (List.drop 2 cs)) = xs[2]? at this
    rw [cellsRt, List.getElem?_eq_getElem (by omega)] at this
    exact ⟨_, this⟩
  obtain ⟨y2, f2⟩ := f2
  obtain ⟨zb, e2, hzb⟩ := root_of_trod f2
  have f3 : ∃ y, DataW.trod enc Tryz.prog W b0 sp held n 55 ((cs.drop 34).take 33) = some y := by
    have := hf 3 _ rfl
    change DataW.trod enc Tryz.prog W b0 sp held n 55 (List.take (Tryz.prog.cellsOf 55) (List.drop 34 cs)) = xs[3]? at this
    rw [cells_cp, List.getElem?_eq_getElem (by omega)] at this
    exact ⟨_, this⟩
  obtain ⟨y3, f3⟩ := f3
  obtain ⟨zcze, zczr, e3, hzcze, hzczr⟩ := cp_of_trod f3
  have f4 : ∃ y, DataW.trod enc Tryz.prog W b0 sp held n 55 ((cs.drop 67).take 33) = some y := by
    have := hf 4 _ rfl
    change DataW.trod enc Tryz.prog W b0 sp held n 55 (List.take (Tryz.prog.cellsOf 55) (List.drop 67 cs)) = xs[4]? at this
    rw [cells_cp, List.getElem?_eq_getElem (by omega)] at this
    exact ⟨_, this⟩
  obtain ⟨y4, f4⟩ := f4
  obtain ⟨ztze, ztzr, e4, hztze, hztzr⟩ := cp_of_trod f4
  have hc := cut_flat cs [1, 1, 32, 33, 33] 0 (by rw [hl]; rfl)
  rw [List.drop_zero] at e0
  simp only [cutAt, List.drop_zero, Nat.zero_add, Nat.reduceAdd, e0, e1, e2, e3, e4] at hc
  refine ⟨zs, zi, zb, zcze, zczr, ztze, ztzr, hc, hzs, hzi, hzb, hzcze, hzczr, hztze, hztzr⟩
theorem cells_ix : Tryz.prog.cellsOf 63 = 133 := by kernel_rfl
theorem ix_of_trod {fuel : Nat} {cs : List Value} {x : DataW H × List MemPlace} (h : DataW.trod enc Tryz.prog W b0 (fun _ => true) held fuel 63 cs = some x) (hr : Rows.uptoBulk x.1 ≤ 1048576) : ∃ (zno : Option Addr) (znc : Nat) (znl : List Nat) (zdzs : Nat) (zdzi : Nat) (zdzb : List Nat) (zdzcze : Nat) (zdzczr : List Nat) (zdztze : Nat) (zdztzr : List Nat) (zsg : List Nat), cs = ixC zno znc znl zdzs zdzi zdzb zdzcze zdzczr zdztze zdztzr zsg ∧ zdzs < 18446744073709551616 ∧ zdzi < 18446744073709551616 ∧ Rt zdzb ∧ zdzcze < 18446744073709551616 ∧ Rt zdzczr ∧ zdztze < 18446744073709551616 ∧ Rt zdztzr ∧ Rt zsg ∧ IsN W (.slice zno znl.length znc) znl ∧ znl.length ≤ 1048576 := by
  obtain ⟨xs, n, _, rfl, hl, hlen, hf⟩ := DataW.trod_struct Tryz.underlying63 h
  rw [cells_ix] at hl
  have hx : xs.length = 3 := hlen
  have f0 : ∃ y, xs[0]? = some y ∧ DataW.trod enc Tryz.prog W b0 (fun _ => true) held n 59 ((cs.drop 0).take 1) = some y := by
    have := hf 0 _ rfl
    change DataW.trod enc Tryz.prog W b0 (fun _ => true) held n 59 (List.take (Tryz.prog.cellsOf 59) (List.drop 0 cs)) = xs[0]? at this
    rw [cellsNs, List.getElem?_eq_getElem (by omega)] at this
    exact ⟨_, List.getElem?_eq_getElem (by omega), this⟩
  obtain ⟨y0, g0, f0⟩ := f0
  obtain ⟨zno, znc, znl, e0, hzn⟩ := nums_of_trod f0
  have q0 := len_of_trod Tryz.underlying59 (show Tryz.prog.bytesOf 24 = 8 by kernel_rfl) (by rw [← e0]; exact f0) (bulk_part g0 hr)
  have hznn : znl.length ≤ 1048576 := by omega
  have f1 : ∃ y, xs[1]? = some y ∧ DataW.trod enc Tryz.prog W b0 (fun _ => true) held n 61 ((cs.drop 1).take 100) = some y := by
    have := hf 1 _ rfl
    change DataW.trod enc Tryz.prog W b0 (fun _ => true) held n 61 (List.take (Tryz.prog.cellsOf 61) (List.drop 1 cs)) = xs[1]? at this
    rw [cells_vt, List.getElem?_eq_getElem (by omega)] at this
    exact ⟨_, List.getElem?_eq_getElem (by omega), this⟩
  obtain ⟨y1, g1, f1⟩ := f1
  obtain ⟨zdzs, zdzi, zdzb, zdzcze, zdzczr, zdztze, zdztzr, e1, hzdzs, hzdzi, hzdzb, hzdzcze, hzdzczr, hzdztze, hzdztzr⟩ := vt_of_trod f1
  have f2 : ∃ y, xs[2]? = some y ∧ DataW.trod enc Tryz.prog W b0 (fun _ => true) held n 23 ((cs.drop 101).take 32) = some y := by
    have := hf 2 _ rfl
    change DataW.trod enc Tryz.prog W b0 (fun _ => true) held n 23 (List.take (Tryz.prog.cellsOf 23) (List.drop 101 cs)) = xs[2]? at this
    rw [cellsRt, List.getElem?_eq_getElem (by omega)] at this
    exact ⟨_, List.getElem?_eq_getElem (by omega), this⟩
  obtain ⟨y2, g2, f2⟩ := f2
  obtain ⟨zsg, e2, hzsg⟩ := root_of_trod f2
  have hc := cut_flat cs [1, 100, 32] 0 (by rw [hl]; rfl)
  rw [List.drop_zero] at e0
  simp only [cutAt, List.drop_zero, Nat.zero_add, Nat.reduceAdd, e0, e1, e2] at hc
  refine ⟨zno, znc, znl, zdzs, zdzi, zdzb, zdzcze, zdzczr, zdztze, zdztzr, zsg, hc, hzdzs, hzdzi, hzdzb, hzdzcze, hzdzczr, hzdztze, hzdztzr, hzsg, hzn, hznn⟩
theorem cells_as : Tryz.prog.cellsOf 65 = 266 := by kernel_rfl
theorem as_of_trod {fuel : Nat} {cs : List Value} {x : DataW H × List MemPlace} (h : DataW.trod enc Tryz.prog W b0 (fun _ => true) held fuel 65 cs = some x) (hr : Rows.uptoBulk x.1 ≤ 1048576) : ∃ (zazno : Option Addr) (zaznc : Nat) (zaznl : List Nat) (zazdzs : Nat) (zazdzi : Nat) (zazdzb : List Nat) (zazdzcze : Nat) (zazdzczr : List Nat) (zazdztze : Nat) (zazdztzr : List Nat) (zazsg : List Nat) (zzzno : Option Addr) (zzznc : Nat) (zzznl : List Nat) (zzzdzs : Nat) (zzzdzi : Nat) (zzzdzb : List Nat) (zzzdzcze : Nat) (zzzdzczr : List Nat) (zzzdztze : Nat) (zzzdztzr : List Nat) (zzzsg : List Nat), cs = asC zazno zaznc zaznl zazdzs zazdzi zazdzb zazdzcze zazdzczr zazdztze zazdztzr zazsg zzzno zzznc zzznl zzzdzs zzzdzi zzzdzb zzzdzcze zzzdzczr zzzdztze zzzdztzr zzzsg ∧ zazdzs < 18446744073709551616 ∧ zazdzi < 18446744073709551616 ∧ Rt zazdzb ∧ zazdzcze < 18446744073709551616 ∧ Rt zazdzczr ∧ zazdztze < 18446744073709551616 ∧ Rt zazdztzr ∧ Rt zazsg ∧ zzzdzs < 18446744073709551616 ∧ zzzdzi < 18446744073709551616 ∧ Rt zzzdzb ∧ zzzdzcze < 18446744073709551616 ∧ Rt zzzdzczr ∧ zzzdztze < 18446744073709551616 ∧ Rt zzzdztzr ∧ Rt zzzsg ∧ IsN W (.slice zazno zaznl.length zaznc) zaznl ∧ IsN W (.slice zzzno zzznl.length zzznc) zzznl ∧ zaznl.length ≤ 1048576 ∧ zzznl.length ≤ 1048576 := by
  obtain ⟨xs, n, _, rfl, hl, hlen, hf⟩ := DataW.trod_struct Tryz.underlying65 h
  rw [cells_as] at hl
  have hx : xs.length = 2 := hlen
  have f0 : ∃ y, xs[0]? = some y ∧ DataW.trod enc Tryz.prog W b0 (fun _ => true) held n 63 ((cs.drop 0).take 133) = some y := by
    have := hf 0 _ rfl
    change DataW.trod enc Tryz.prog W b0 (fun _ => true) held n 63 (List.take (Tryz.prog.cellsOf 63) (List.drop 0 cs)) = xs[0]? at this
    rw [cells_ix, List.getElem?_eq_getElem (by omega)] at this
    exact ⟨_, List.getElem?_eq_getElem (by omega), this⟩
  obtain ⟨y0, g0, f0⟩ := f0
  obtain ⟨zazno, zaznc, zaznl, zazdzs, zazdzi, zazdzb, zazdzcze, zazdzczr, zazdztze, zazdztzr, zazsg, e0, hzazdzs, hzazdzi, hzazdzb, hzazdzcze, hzazdzczr, hzazdztze, hzazdztzr, hzazsg, hzazn, hzaznn⟩ := ix_of_trod f0 (bulk_part g0 hr)
  have f1 : ∃ y, xs[1]? = some y ∧ DataW.trod enc Tryz.prog W b0 (fun _ => true) held n 63 ((cs.drop 133).take 133) = some y := by
    have := hf 1 _ rfl
    change DataW.trod enc Tryz.prog W b0 (fun _ => true) held n 63 (List.take (Tryz.prog.cellsOf 63) (List.drop 133 cs)) = xs[1]? at this
    rw [cells_ix, List.getElem?_eq_getElem (by omega)] at this
    exact ⟨_, List.getElem?_eq_getElem (by omega), this⟩
  obtain ⟨y1, g1, f1⟩ := f1
  obtain ⟨zzzno, zzznc, zzznl, zzzdzs, zzzdzi, zzzdzb, zzzdzcze, zzzdzczr, zzzdztze, zzzdztzr, zzzsg, e1, hzzzdzs, hzzzdzi, hzzzdzb, hzzzdzcze, hzzzdzczr, hzzzdztze, hzzzdztzr, hzzzsg, hzzzn, hzzznn⟩ := ix_of_trod f1 (bulk_part g1 hr)
  have hc := cut_flat cs [133, 133] 0 (by rw [hl]; rfl)
  rw [List.drop_zero] at e0
  simp only [cutAt, List.drop_zero, Nat.zero_add, Nat.reduceAdd, e0, e1] at hc
  refine ⟨zazno, zaznc, zaznl, zazdzs, zazdzi, zazdzb, zazdzcze, zazdzczr, zazdztze, zazdztzr, zazsg, zzzno, zzznc, zzznl, zzzdzs, zzzdzi, zzzdzb, zzzdzcze, zzzdzczr, zzzdztze, zzzdztzr, zzzsg, hc, hzazdzs, hzazdzi, hzazdzb, hzazdzcze, hzazdzczr, hzazdztze, hzazdztzr, hzazsg, hzzzdzs, hzzzdzi, hzzzdzb, hzzzdzcze, hzzzdzczr, hzzzdztze, hzzzdztzr, hzzzsg, hzazn, hzzzn, hzaznn, hzzznn⟩
theorem cells_at : Tryz.prog.cellsOf 67 = 133 := by kernel_rfl
theorem at_of_trod {fuel : Nat} {cs : List Value} {x : DataW H × List MemPlace} (h : DataW.trod enc Tryz.prog W b0 (fun _ => true) held fuel 67 cs = some x) (hr : Rows.uptoBulk x.1 ≤ 1048576) : ∃ (zbo : Option Addr) (zbc : Nat) (zbl : List Bool) (zdzs : Nat) (zdzi : Nat) (zdzb : List Nat) (zdzcze : Nat) (zdzczr : List Nat) (zdztze : Nat) (zdztzr : List Nat) (zsg : List Nat), cs = atC zbo zbc zbl zdzs zdzi zdzb zdzcze zdzczr zdztze zdztzr zsg ∧ zdzs < 18446744073709551616 ∧ zdzi < 18446744073709551616 ∧ Rt zdzb ∧ zdzcze < 18446744073709551616 ∧ Rt zdzczr ∧ zdztze < 18446744073709551616 ∧ Rt zdztzr ∧ Rt zsg ∧ IsT W (.slice zbo zbl.length zbc) zbl ∧ zbl.length ≤ 1048576 := by
  obtain ⟨xs, n, _, rfl, hl, hlen, hf⟩ := DataW.trod_struct Tryz.underlying67 h
  rw [cells_at] at hl
  have hx : xs.length = 3 := hlen
  have f0 : ∃ y, xs[0]? = some y ∧ DataW.trod enc Tryz.prog W b0 (fun _ => true) held n 40 ((cs.drop 0).take 1) = some y := by
    have := hf 0 _ rfl
    change DataW.trod enc Tryz.prog W b0 (fun _ => true) held n 40 (List.take (Tryz.prog.cellsOf 40) (List.drop 0 cs)) = xs[0]? at this
    rw [cellsBs, List.getElem?_eq_getElem (by omega)] at this
    exact ⟨_, List.getElem?_eq_getElem (by omega), this⟩
  obtain ⟨y0, g0, f0⟩ := f0
  obtain ⟨zbo, zbc, zbl, e0, hzb⟩ := bits_of_trod f0
  have q0 := len_of_trod Tryz.underlying40 (show Tryz.prog.bytesOf 4 = 1 by kernel_rfl) (by rw [← e0]; exact f0) (bulk_part g0 hr)
  have hzbn : zbl.length ≤ 1048576 := by omega
  have f1 : ∃ y, xs[1]? = some y ∧ DataW.trod enc Tryz.prog W b0 (fun _ => true) held n 61 ((cs.drop 1).take 100) = some y := by
    have := hf 1 _ rfl
    change DataW.trod enc Tryz.prog W b0 (fun _ => true) held n 61 (List.take (Tryz.prog.cellsOf 61) (List.drop 1 cs)) = xs[1]? at this
    rw [cells_vt, List.getElem?_eq_getElem (by omega)] at this
    exact ⟨_, List.getElem?_eq_getElem (by omega), this⟩
  obtain ⟨y1, g1, f1⟩ := f1
  obtain ⟨zdzs, zdzi, zdzb, zdzcze, zdzczr, zdztze, zdztzr, e1, hzdzs, hzdzi, hzdzb, hzdzcze, hzdzczr, hzdztze, hzdztzr⟩ := vt_of_trod f1
  have f2 : ∃ y, xs[2]? = some y ∧ DataW.trod enc Tryz.prog W b0 (fun _ => true) held n 23 ((cs.drop 101).take 32) = some y := by
    have := hf 2 _ rfl
    change DataW.trod enc Tryz.prog W b0 (fun _ => true) held n 23 (List.take (Tryz.prog.cellsOf 23) (List.drop 101 cs)) = xs[2]? at this
    rw [cellsRt, List.getElem?_eq_getElem (by omega)] at this
    exact ⟨_, List.getElem?_eq_getElem (by omega), this⟩
  obtain ⟨y2, g2, f2⟩ := f2
  obtain ⟨zsg, e2, hzsg⟩ := root_of_trod f2
  have hc := cut_flat cs [1, 100, 32] 0 (by rw [hl]; rfl)
  rw [List.drop_zero] at e0
  simp only [cutAt, List.drop_zero, Nat.zero_add, Nat.reduceAdd, e0, e1, e2] at hc
  refine ⟨zbo, zbc, zbl, zdzs, zdzi, zdzb, zdzcze, zdzczr, zdztze, zdztzr, zsg, hc, hzdzs, hzdzi, hzdzb, hzdzcze, hzdzczr, hzdztze, hzdztzr, hzsg, hzb, hzbn⟩
theorem cells_hd : Tryz.prog.cellsOf 52 = 98 := by kernel_rfl
theorem hd_of_trod {fuel : Nat} {cs : List Value} {x : DataW H × List MemPlace} (h : DataW.trod enc Tryz.prog W b0 sp held fuel 52 cs = some x) : ∃ (zs : Nat) (zp : Nat) (zpa : List Nat) (zst : List Nat) (zbo : List Nat), cs = hdC zs zp zpa zst zbo ∧ zs < 18446744073709551616 ∧ zp < 18446744073709551616 ∧ Rt zpa ∧ Rt zst ∧ Rt zbo := by
  obtain ⟨xs, n, _, _, hl, hlen, hf⟩ := DataW.trod_struct Tryz.underlying52 h
  rw [cells_hd] at hl
  have hx : xs.length = 5 := hlen
  have f0 : ∃ y, DataW.trod enc Tryz.prog W b0 sp held n 24 ((cs.drop 0).take 1) = some y := by
    have := hf 0 _ rfl
    change DataW.trod enc Tryz.prog W b0 sp held n 24 (List.take (Tryz.prog.cellsOf 24) (List.drop 0 cs)) = xs[0]? at this
    rw [cellsU64, List.getElem?_eq_getElem (by omega)] at this
    exact ⟨_, this⟩
  obtain ⟨y0, f0⟩ := f0
  obtain ⟨zs, e0, hzs⟩ := num_of_trod f0
  have f1 : ∃ y, DataW.trod enc Tryz.prog W b0 sp held n 24 ((cs.drop 1).take 1) = some y := by
    have := hf 1 _ rfl
    change DataW.trod enc Tryz.prog W b0 sp held n 24 (List.take (Tryz.prog.cellsOf 24) (List.drop 1 cs)) = xs[1]? at this
    rw [cellsU64, List.getElem?_eq_getElem (by omega)] at this
    exact ⟨_, this⟩
  obtain ⟨y1, f1⟩ := f1
  obtain ⟨zp, e1, hzp⟩ := num_of_trod f1
  have f2 : ∃ y, DataW.trod enc Tryz.prog W b0 sp held n 23 ((cs.drop 2).take 32) = some y := by
    have := hf 2 _ rfl
    change DataW.trod enc Tryz.prog W b0 sp held n 23 (List.take (Tryz.prog.cellsOf 23) (List.drop 2 cs)) = xs[2]? at this
    rw [cellsRt, List.getElem?_eq_getElem (by omega)] at this
    exact ⟨_, this⟩
  obtain ⟨y2, f2⟩ := f2
  obtain ⟨zpa, e2, hzpa⟩ := root_of_trod f2
  have f3 : ∃ y, DataW.trod enc Tryz.prog W b0 sp held n 23 ((cs.drop 34).take 32) = some y := by
    have := hf 3 _ rfl
    change DataW.trod enc Tryz.prog W b0 sp held n 23 (List.take (Tryz.prog.cellsOf 23) (List.drop 34 cs)) = xs[3]? at this
    rw [cellsRt, List.getElem?_eq_getElem (by omega)] at this
    exact ⟨_, this⟩
  obtain ⟨y3, f3⟩ := f3
  obtain ⟨zst, e3, hzst⟩ := root_of_trod f3
  have f4 : ∃ y, DataW.trod enc Tryz.prog W b0 sp held n 23 ((cs.drop 66).take 32) = some y := by
    have := hf 4 _ rfl
    change DataW.trod enc Tryz.prog W b0 sp held n 23 (List.take (Tryz.prog.cellsOf 23) (List.drop 66 cs)) = xs[4]? at this
    rw [cellsRt, List.getElem?_eq_getElem (by omega)] at this
    exact ⟨_, this⟩
  obtain ⟨y4, f4⟩ := f4
  obtain ⟨zbo, e4, hzbo⟩ := root_of_trod f4
  have hc := cut_flat cs [1, 1, 32, 32, 32] 0 (by rw [hl]; rfl)
  rw [List.drop_zero] at e0
  simp only [cutAt, List.drop_zero, Nat.zero_add, Nat.reduceAdd, e0, e1, e2, e3, e4] at hc
  refine ⟨zs, zp, zpa, zst, zbo, hc, hzs, hzp, hzpa, hzst, hzbo⟩
theorem cells_sh : Tryz.prog.cellsOf 72 = 130 := by kernel_rfl
theorem sh_of_trod {fuel : Nat} {cs : List Value} {x : DataW H × List MemPlace} (h : DataW.trod enc Tryz.prog W b0 sp held fuel 72 cs = some x) : ∃ (zhzs : Nat) (zhzp : Nat) (zhzpa : List Nat) (zhzst : List Nat) (zhzbo : List Nat) (zsg : List Nat), cs = shC zhzs zhzp zhzpa zhzst zhzbo zsg ∧ zhzs < 18446744073709551616 ∧ zhzp < 18446744073709551616 ∧ Rt zhzpa ∧ Rt zhzst ∧ Rt zhzbo ∧ Rt zsg := by
  obtain ⟨xs, n, _, _, hl, hlen, hf⟩ := DataW.trod_struct Tryz.underlying72 h
  rw [cells_sh] at hl
  have hx : xs.length = 2 := hlen
  have f0 : ∃ y, DataW.trod enc Tryz.prog W b0 sp held n 52 ((cs.drop 0).take 98) = some y := by
    have := hf 0 _ rfl
    change DataW.trod enc Tryz.prog W b0 sp held n 52 (List.take (Tryz.prog.cellsOf 52) (List.drop 0 cs)) = xs[0]? at this
    rw [cells_hd, List.getElem?_eq_getElem (by omega)] at this
    exact ⟨_, this⟩
  obtain ⟨y0, f0⟩ := f0
  obtain ⟨zhzs, zhzp, zhzpa, zhzst, zhzbo, e0, hzhzs, hzhzp, hzhzpa, hzhzst, hzhzbo⟩ := hd_of_trod f0
  have f1 : ∃ y, DataW.trod enc Tryz.prog W b0 sp held n 23 ((cs.drop 98).take 32) = some y := by
    have := hf 1 _ rfl
    change DataW.trod enc Tryz.prog W b0 sp held n 23 (List.take (Tryz.prog.cellsOf 23) (List.drop 98 cs)) = xs[1]? at this
    rw [cellsRt, List.getElem?_eq_getElem (by omega)] at this
    exact ⟨_, this⟩
  obtain ⟨y1, f1⟩ := f1
  obtain ⟨zsg, e1, hzsg⟩ := root_of_trod f1
  have hc := cut_flat cs [98, 32] 0 (by rw [hl]; rfl)
  rw [List.drop_zero] at e0
  simp only [cutAt, List.drop_zero, Nat.zero_add, Nat.reduceAdd, e0, e1] at hc
  refine ⟨zhzs, zhzp, zhzpa, zhzst, zhzbo, zsg, hc, hzhzs, hzhzp, hzhzpa, hzhzst, hzhzbo, hzsg⟩
theorem cells_ps : Tryz.prog.cellsOf 74 = 260 := by kernel_rfl
theorem ps_of_trod {fuel : Nat} {cs : List Value} {x : DataW H × List MemPlace} (h : DataW.trod enc Tryz.prog W b0 sp held fuel 74 cs = some x) : ∃ (zazhzs : Nat) (zazhzp : Nat) (zazhzpa : List Nat) (zazhzst : List Nat) (zazhzbo : List Nat) (zazsg : List Nat) (zzzhzs : Nat) (zzzhzp : Nat) (zzzhzpa : List Nat) (zzzhzst : List Nat) (zzzhzbo : List Nat) (zzzsg : List Nat), cs = psC zazhzs zazhzp zazhzpa zazhzst zazhzbo zazsg zzzhzs zzzhzp zzzhzpa zzzhzst zzzhzbo zzzsg ∧ zazhzs < 18446744073709551616 ∧ zazhzp < 18446744073709551616 ∧ Rt zazhzpa ∧ Rt zazhzst ∧ Rt zazhzbo ∧ Rt zazsg ∧ zzzhzs < 18446744073709551616 ∧ zzzhzp < 18446744073709551616 ∧ Rt zzzhzpa ∧ Rt zzzhzst ∧ Rt zzzhzbo ∧ Rt zzzsg := by
  obtain ⟨xs, n, _, _, hl, hlen, hf⟩ := DataW.trod_struct Tryz.underlying74 h
  rw [cells_ps] at hl
  have hx : xs.length = 2 := hlen
  have f0 : ∃ y, DataW.trod enc Tryz.prog W b0 sp held n 72 ((cs.drop 0).take 130) = some y := by
    have := hf 0 _ rfl
    change DataW.trod enc Tryz.prog W b0 sp held n 72 (List.take (Tryz.prog.cellsOf 72) (List.drop 0 cs)) = xs[0]? at this
    rw [cells_sh, List.getElem?_eq_getElem (by omega)] at this
    exact ⟨_, this⟩
  obtain ⟨y0, f0⟩ := f0
  obtain ⟨zazhzs, zazhzp, zazhzpa, zazhzst, zazhzbo, zazsg, e0, hzazhzs, hzazhzp, hzazhzpa, hzazhzst, hzazhzbo, hzazsg⟩ := sh_of_trod f0
  have f1 : ∃ y, DataW.trod enc Tryz.prog W b0 sp held n 72 ((cs.drop 130).take 130) = some y := by
    have := hf 1 _ rfl
    change DataW.trod enc Tryz.prog W b0 sp held n 72 (List.take (Tryz.prog.cellsOf 72) (List.drop 130 cs)) = xs[1]? at this
    rw [cells_sh, List.getElem?_eq_getElem (by omega)] at this
    exact ⟨_, this⟩
  obtain ⟨y1, f1⟩ := f1
  obtain ⟨zzzhzs, zzzhzp, zzzhzpa, zzzhzst, zzzhzbo, zzzsg, e1, hzzzhzs, hzzzhzp, hzzzhzpa, hzzzhzst, hzzzhzbo, hzzzsg⟩ := sh_of_trod f1
  have hc := cut_flat cs [130, 130] 0 (by rw [hl]; rfl)
  rw [List.drop_zero] at e0
  simp only [cutAt, List.drop_zero, Nat.zero_add, Nat.reduceAdd, e0, e1] at hc
  refine ⟨zazhzs, zazhzp, zazhzpa, zazhzst, zazhzbo, zazsg, zzzhzs, zzzhzp, zzzhzpa, zzzhzst, zzzhzbo, zzzsg, hc, hzazhzs, hzazhzp, hzazhzpa, hzazhzst, hzazhzbo, hzazsg, hzzzhzs, hzzzhzp, hzzzhzpa, hzzzhzst, hzzzhzbo, hzzzsg⟩
theorem cells_ex : Tryz.prog.cellsOf 89 = 2 := by kernel_rfl
theorem ex_of_trod {fuel : Nat} {cs : List Value} {x : DataW H × List MemPlace} (h : DataW.trod enc Tryz.prog W b0 sp held fuel 89 cs = some x) : ∃ (ze : Nat) (zi : Nat), cs = exC ze zi ∧ ze < 18446744073709551616 ∧ zi < 18446744073709551616 := by
  obtain ⟨xs, n, _, _, hl, hlen, hf⟩ := DataW.trod_struct Tryz.underlying89 h
  rw [cells_ex] at hl
  have hx : xs.length = 2 := hlen
  have f0 : ∃ y, DataW.trod enc Tryz.prog W b0 sp held n 24 ((cs.drop 0).take 1) = some y := by
    have := hf 0 _ rfl
    change DataW.trod enc Tryz.prog W b0 sp held n 24 (List.take (Tryz.prog.cellsOf 24) (List.drop 0 cs)) = xs[0]? at this
    rw [cellsU64, List.getElem?_eq_getElem (by omega)] at this
    exact ⟨_, this⟩
  obtain ⟨y0, f0⟩ := f0
  obtain ⟨ze, e0, hze⟩ := num_of_trod f0
  have f1 : ∃ y, DataW.trod enc Tryz.prog W b0 sp held n 24 ((cs.drop 1).take 1) = some y := by
    have := hf 1 _ rfl
    change DataW.trod enc Tryz.prog W b0 sp held n 24 (List.take (Tryz.prog.cellsOf 24) (List.drop 1 cs)) = xs[1]? at this
    rw [cellsU64, List.getElem?_eq_getElem (by omega)] at this
    exact ⟨_, this⟩
  obtain ⟨y1, f1⟩ := f1
  obtain ⟨zi, e1, hzi⟩ := num_of_trod f1
  have hc := cut_flat cs [1, 1] 0 (by rw [hl]; rfl)
  rw [List.drop_zero] at e0
  simp only [cutAt, List.drop_zero, Nat.zero_add, Nat.reduceAdd, e0, e1] at hc
  refine ⟨ze, zi, hc, hze, hzi⟩
theorem cells_sx : Tryz.prog.cellsOf 91 = 34 := by kernel_rfl
theorem sx_of_trod {fuel : Nat} {cs : List Value} {x : DataW H × List MemPlace} (h : DataW.trod enc Tryz.prog W b0 sp held fuel 91 cs = some x) : ∃ (zxze : Nat) (zxzi : Nat) (zsg : List Nat), cs = sxC zxze zxzi zsg ∧ zxze < 18446744073709551616 ∧ zxzi < 18446744073709551616 ∧ Rt zsg := by
  obtain ⟨xs, n, _, _, hl, hlen, hf⟩ := DataW.trod_struct Tryz.underlying91 h
  rw [cells_sx] at hl
  have hx : xs.length = 2 := hlen
  have f0 : ∃ y, DataW.trod enc Tryz.prog W b0 sp held n 89 ((cs.drop 0).take 2) = some y := by
    have := hf 0 _ rfl
    change DataW.trod enc Tryz.prog W b0 sp held n 89 (List.take (Tryz.prog.cellsOf 89) (List.drop 0 cs)) = xs[0]? at this
    rw [cells_ex, List.getElem?_eq_getElem (by omega)] at this
    exact ⟨_, this⟩
  obtain ⟨y0, f0⟩ := f0
  obtain ⟨zxze, zxzi, e0, hzxze, hzxzi⟩ := ex_of_trod f0
  have f1 : ∃ y, DataW.trod enc Tryz.prog W b0 sp held n 23 ((cs.drop 2).take 32) = some y := by
    have := hf 1 _ rfl
    change DataW.trod enc Tryz.prog W b0 sp held n 23 (List.take (Tryz.prog.cellsOf 23) (List.drop 2 cs)) = xs[1]? at this
    rw [cellsRt, List.getElem?_eq_getElem (by omega)] at this
    exact ⟨_, this⟩
  obtain ⟨y1, f1⟩ := f1
  obtain ⟨zsg, e1, hzsg⟩ := root_of_trod f1
  have hc := cut_flat cs [2, 32] 0 (by rw [hl]; rfl)
  rw [List.drop_zero] at e0
  simp only [cutAt, List.drop_zero, Nat.zero_add, Nat.reduceAdd, e0, e1] at hc
  refine ⟨zxze, zxzi, zsg, hc, hzxze, hzxzi, hzsg⟩
theorem cells_et : Tryz.prog.cellsOf 26 = 33 := by kernel_rfl
theorem et_of_trod {fuel : Nat} {cs : List Value} {x : DataW H × List MemPlace} (h : DataW.trod enc Tryz.prog W b0 sp held fuel 26 cs = some x) : ∃ (zd : List Nat) (zc : Nat), cs = etC zd zc ∧ Rt zd ∧ zc < 18446744073709551616 := by
  obtain ⟨xs, n, _, _, hl, hlen, hf⟩ := DataW.trod_struct Tryz.underlying26 h
  rw [cells_et] at hl
  have hx : xs.length = 2 := hlen
  have f0 : ∃ y, DataW.trod enc Tryz.prog W b0 sp held n 23 ((cs.drop 0).take 32) = some y := by
    have := hf 0 _ rfl
    change DataW.trod enc Tryz.prog W b0 sp held n 23 (List.take (Tryz.prog.cellsOf 23) (List.drop 0 cs)) = xs[0]? at this
    rw [cellsRt, List.getElem?_eq_getElem (by omega)] at this
    exact ⟨_, this⟩
  obtain ⟨y0, f0⟩ := f0
  obtain ⟨zd, e0, hzd⟩ := root_of_trod f0
  have f1 : ∃ y, DataW.trod enc Tryz.prog W b0 sp held n 24 ((cs.drop 32).take 1) = some y := by
    have := hf 1 _ rfl
    change DataW.trod enc Tryz.prog W b0 sp held n 24 (List.take (Tryz.prog.cellsOf 24) (List.drop 32 cs)) = xs[1]? at this
    rw [cellsU64, List.getElem?_eq_getElem (by omega)] at this
    exact ⟨_, this⟩
  obtain ⟨y1, f1⟩ := f1
  obtain ⟨zc, e1, hzc⟩ := num_of_trod f1
  have hc := cut_flat cs [32, 1] 0 (by rw [hl]; rfl)
  rw [List.drop_zero] at e0
  simp only [cutAt, List.drop_zero, Nat.zero_add, Nat.reduceAdd, e0, e1] at hc
  refine ⟨zd, zc, hc, hzd, hzc⟩
theorem cells_dd : Tryz.prog.cellsOf 83 = 97 := by kernel_rfl
theorem dd_of_trod {fuel : Nat} {cs : List Value} {x : DataW H × List MemPlace} (h : DataW.trod enc Tryz.prog W b0 sp held fuel 83 cs = some x) : ∃ (zk : List Nat) (zcr : List Nat) (zam : Nat) (zsg : List Nat), cs = ddC zk zcr zam zsg ∧ Rt zk ∧ Rt zcr ∧ zam < 18446744073709551616 ∧ Rt zsg := by
  obtain ⟨xs, n, _, _, hl, hlen, hf⟩ := DataW.trod_struct Tryz.underlying83 h
  rw [cells_dd] at hl
  have hx : xs.length = 4 := hlen
  have f0 : ∃ y, DataW.trod enc Tryz.prog W b0 sp held n 23 ((cs.drop 0).take 32) = some y := by
    have := hf 0 _ rfl
    change DataW.trod enc Tryz.prog W b0 sp held n 23 (List.take (Tryz.prog.cellsOf 23) (List.drop 0 cs)) = xs[0]? at this
    rw [cellsRt, List.getElem?_eq_getElem (by omega)] at this
    exact ⟨_, this⟩
  obtain ⟨y0, f0⟩ := f0
  obtain ⟨zk, e0, hzk⟩ := root_of_trod f0
  have f1 : ∃ y, DataW.trod enc Tryz.prog W b0 sp held n 23 ((cs.drop 32).take 32) = some y := by
    have := hf 1 _ rfl
    change DataW.trod enc Tryz.prog W b0 sp held n 23 (List.take (Tryz.prog.cellsOf 23) (List.drop 32 cs)) = xs[1]? at this
    rw [cellsRt, List.getElem?_eq_getElem (by omega)] at this
    exact ⟨_, this⟩
  obtain ⟨y1, f1⟩ := f1
  obtain ⟨zcr, e1, hzcr⟩ := root_of_trod f1
  have f2 : ∃ y, DataW.trod enc Tryz.prog W b0 sp held n 24 ((cs.drop 64).take 1) = some y := by
    have := hf 2 _ rfl
    change DataW.trod enc Tryz.prog W b0 sp held n 24 (List.take (Tryz.prog.cellsOf 24) (List.drop 64 cs)) = xs[2]? at this
    rw [cellsU64, List.getElem?_eq_getElem (by omega)] at this
    exact ⟨_, this⟩
  obtain ⟨y2, f2⟩ := f2
  obtain ⟨zam, e2, hzam⟩ := num_of_trod f2
  have f3 : ∃ y, DataW.trod enc Tryz.prog W b0 sp held n 23 ((cs.drop 65).take 32) = some y := by
    have := hf 3 _ rfl
    change DataW.trod enc Tryz.prog W b0 sp held n 23 (List.take (Tryz.prog.cellsOf 23) (List.drop 65 cs)) = xs[3]? at this
    rw [cellsRt, List.getElem?_eq_getElem (by omega)] at this
    exact ⟨_, this⟩
  obtain ⟨y3, f3⟩ := f3
  obtain ⟨zsg, e3, hzsg⟩ := root_of_trod f3
  have hc := cut_flat cs [32, 32, 1, 32] 0 (by rw [hl]; rfl)
  rw [List.drop_zero] at e0
  simp only [cutAt, List.drop_zero, Nat.zero_add, Nat.reduceAdd, e0, e1, e2, e3] at hc
  refine ⟨zk, zcr, zam, zsg, hc, hzk, hzcr, hzam, hzsg⟩
theorem cells_v6 : Tryz.prog.cellsOf 81 = 192 := by kernel_rfl
theorem cells_dp : Tryz.prog.cellsOf 85 = 289 := by kernel_rfl
theorem und_v6 : Tryz.prog.underlying 81 = some (.array 6 23) := by kernel_rfl
theorem v6_of_trod {fuel : Nat} {cs : List Value} {x : DataW H × List MemPlace} (h : DataW.trod enc Tryz.prog W b0 sp held fuel 81 cs = some x) : ∃ rs : List (List Nat), cs = cellsOf rs ∧ Rts rs ∧ rs.length = 6 := by
  obtain ⟨xs, m, _, _, hl, hxs, hel⟩ := DataW.trod_array und_v6 h
  rw [cells_v6] at hl
  have each : ∀ i, i < 6 → ∃ r : List Nat, (cs.drop (i * 32)).take 32 = (nums .u8 r).toList ∧ Rt r := by
    intro i hi
    have h1 := hel i (by omega)
    rw [cellsRt, List.getElem?_eq_getElem (by omega)] at h1
    exact root_of_trod h1
  have hf : ∃ f : Nat → List Nat, ∀ i, i < 6 → (cs.drop (i * 32)).take 32 = (nums .u8 (f i)).toList ∧ Rt (f i) :=
    ⟨fun i => if h : i < 6 then Classical.choose (each i h) else [], fun i hi => by simp only [hi, dif_pos]; exact Classical.choose_spec (each i hi)⟩
  obtain ⟨f, hf⟩ := hf
  have hc := cut_flat cs [32, 32, 32, 32, 32, 32] 0 (by rw [hl]; rfl)
  have e0 := (hf 0 (by decide)).1
  have e1 := (hf 1 (by decide)).1
  have e2 := (hf 2 (by decide)).1
  have e3 := (hf 3 (by decide)).1
  have e4 := (hf 4 (by decide)).1
  have e5 := (hf 5 (by decide)).1
  simp only [Nat.zero_mul, Nat.one_mul, Nat.reduceMul, List.drop_zero] at e0 e1 e2 e3 e4 e5
  simp only [cutAt, List.drop_zero, Nat.zero_add, Nat.reduceAdd, e0, e1, e2, e3, e4, e5] at hc
  refine ⟨[f 0, f 1, f 2, f 3, f 4, f 5], ?_, ⟨fun r hr => ?_, fun r hr => ?_⟩, rfl⟩
  · rw [hc]
    simp [cellsOf, nums]
  · simp only [List.mem_cons, List.not_mem_nil, or_false] at hr
    rcases hr with rfl | rfl | rfl | rfl | rfl | rfl <;> exact (hf _ (by decide)).2.len
  · simp only [List.mem_cons, List.not_mem_nil, or_false] at hr
    rcases hr with rfl | rfl | rfl | rfl | rfl | rfl <;> exact (hf _ (by decide)).2.byte
theorem dp_of_trod {fuel : Nat} {cs : List Value} {x : DataW H × List MemPlace} (h : DataW.trod enc Tryz.prog W b0 sp held fuel 85 cs = some x) : ∃ (zp : List (List Nat)) (zdzk : List Nat) (zdzcr : List Nat) (zdzam : Nat) (zdzsg : List Nat), cs = dpC zp zdzk zdzcr zdzam zdzsg ∧ Rts zp ∧ zp.length = 6 ∧ Rt zdzk ∧ Rt zdzcr ∧ zdzam < 18446744073709551616 ∧ Rt zdzsg := by
  obtain ⟨xs, n, _, _, hl, hlen, hf⟩ := DataW.trod_struct Tryz.underlying85 h
  rw [cells_dp] at hl
  have hx : xs.length = 2 := hlen
  have f0 : ∃ y, DataW.trod enc Tryz.prog W b0 sp held n 81 ((cs.drop 0).take 192) = some y := by
    have := hf 0 _ rfl
    change DataW.trod enc Tryz.prog W b0 sp held n 81 (List.take (Tryz.prog.cellsOf 81) (List.drop 0 cs)) = xs[0]? at this
    rw [cells_v6, List.getElem?_eq_getElem (by omega)] at this
    exact ⟨_, this⟩
  obtain ⟨y0, f0⟩ := f0
  obtain ⟨zp, e0, hzp, hzpl⟩ := v6_of_trod f0
  have f1 : ∃ y, DataW.trod enc Tryz.prog W b0 sp held n 83 ((cs.drop 192).take 97) = some y := by
    have := hf 1 _ rfl
    change DataW.trod enc Tryz.prog W b0 sp held n 83 (List.take (Tryz.prog.cellsOf 83) (List.drop 192 cs)) = xs[1]? at this
    rw [cells_dd, List.getElem?_eq_getElem (by omega)] at this
    exact ⟨_, this⟩
  obtain ⟨y1, f1⟩ := f1
  obtain ⟨zdzk, zdzcr, zdzam, zdzsg, e1, h1, h2, h3, h4⟩ := dd_of_trod f1
  have hc := cut_flat cs [192, 97] 0 (by rw [hl]; rfl)
  rw [List.drop_zero] at e0
  simp only [cutAt, List.drop_zero, Nat.zero_add, Nat.reduceAdd, e0, e1] at hc
  exact ⟨zp, zdzk, zdzcr, zdzam, zdzsg, hc, hzp, hzpl, h1, h2, h3, h4⟩
end
end Go.Proofs.YtbmcmabimfoknaaGreatDoor

/- The flow of a region whose operations hang together in long chains. -/
namespace Go.Proofs.YtbmcmabimfoknaaGreatDoor
open Go.RowKit
set_option linter.unusedVariables false
set_option maxRecDepth 100000

def flowB9 (ops : Array Oper) (n late sz : Nat) : Bool :=
  decide (n < ops.size) && Region.noSelect ops && ((List.range ops.size).all fun t => decide (t < n) || (List.range n).all fun i => decide (i = late) || reachB ops 9 t i) &&
  ((List.range n).all fun i => match ops[i]? with
    | some o => o.guard.isNone && (o.after.all fun e => !Region.binds .any e || decide (e.on < i)) && (match o.dst with
      | none => true
      | some d => decide (d < sz) && (List.range n).all fun j => decide (j = i) || decide (dstOf ops j ≠ some d))
    | none => false) && (decide (n ≤ late) || (Region.free .any ops (doneBut ops n late) late && (Region.ready .any ops (doneBut ops n late)).contains late)) &&
  Region.seqB .any ops (ops.size - n) n ((List.range ops.size).map fun i => decide (i < n)).toArray

section
variable {P : Program}
theorem flow_any9 {ops : Array Oper} {n late : Nat} {I : Nat → Value → World → Prop} {w0 : World} {a0 : Act} {Q : Exit → Act → World → Prop} (hB : flowB9 ops n late a0.tmps.size = true)
    (hQ : ∀ c d v a w, Q (.panic c) (a.put d v) w → Q (.panic c) a w)
    (hI : ∀ i v w w', i < n → I i v w → Below w.heap.size w w' → I i v w')
    (hop : ∀ i o, i < n → ops[i]? = some o → ∀ a w, Cls w0 w → (∀ s, (∀ j, j < n → dstOf ops j ≠ some s) → a.tmps.getD s undef = a0.tmps.getD s undef) →
      (∀ j d, dstOf ops j = some d → (o.after.any fun e => Region.binds .any e && e.on == j) = true → I j (a.tmps.getD d undef) w) →
      o.wp P a w (fun a' w' => ∃ v, a' = a.put o.dst v ∧ I i v w' ∧ Below w.heap.size w w') Q)
    (hlate : ∀ o, late < n → ops[late]? = some o → ∀ (a : Act) w, Cls w0 w → (∀ s, (∀ j, j < n → dstOf ops j ≠ some s) → a.tmps.getD s undef = a0.tmps.getD s undef) →
      (∀ j d, dstOf ops j = some d → (o.after.any fun e => Region.binds .any e && e.on == j) = true → I j (a.tmps.getD d undef) w) → ∃ v, (∀ w, (execOp a.eval o).run P w = .ok (.value v) w) ∧ I late v w)
    (htail : ∀ v w, Cls w0 w → (∀ i d, i < n → dstOf ops i = some d → I i (v i) w) → wpAny P .any ops Q (ops.size - n) ((List.range ops.size).map fun i => decide (i < n)).toArray (putAll v (ops.toList.take n) 0 a0) w) :
    ∀ f (done : Array Bool) (a : Act) (w : World), (List.range n).countP (fun i => !done.getD i true) = f → FlowInv ops n I w0 a0 done a w → wpAny P .any ops Q (f + (ops.size - n)) done a w := by
  simp only [flowB9, Bool.and_eq_true, decide_eq_true_eq, List.all_eq_true, List.mem_range, Bool.or_eq_true] at hB
  obtain ⟨⟨⟨⟨⟨hn, hsel⟩, hdir⟩, hall⟩, hlt8⟩, hseq⟩ := hB
  have hat : ∀ i, i < n → ∃ o, ops[i]? = some o := fun i hi => ⟨_, Array.getElem?_eq_getElem (by omega)⟩
  have hgd : ∀ i o, i < n → ops[i]? = some o → o.guard = none ∧ (∀ e ∈ o.after, Region.binds .any e = true → e.on < i) ∧ ∀ d, o.dst = some d → d < a0.tmps.size ∧ ∀ j, j < n → j ≠ i → dstOf ops j ≠ some d := by
    intro i o hi ho
    have := hall i hi
    rw [ho] at this
    simp only [Bool.and_eq_true, Option.isNone_iff_eq_none, Array.all_eq_true_iff_forall_mem, Bool.or_eq_true, Bool.not_eq_true', decide_eq_true_eq] at this
    obtain ⟨⟨h1, h2⟩, h3⟩ := this
    refine ⟨h1, fun e he hb => (h2 e he).resolve_left (by rw [hb]; decide), fun d hd => ?_⟩
    rw [hd] at h3
    simp only [Bool.and_eq_true, decide_eq_true_eq, List.all_eq_true, List.mem_range, Bool.or_eq_true] at h3
    exact ⟨h3.1, fun j hj hne => (h3.2 j hj).resolve_left hne⟩
  intro f
  induction f with
  | zero =>
    intro done a w hcount inv
    have hdone : ∀ i, i < n → done.getD i true = true := fun i hi => by
      have := List.countP_eq_zero.1 hcount i (List.mem_range.2 hi)
      simpa using this
    have hdn : done = ((List.range ops.size).map fun i => decide (i < n)).toArray := by
      apply Array.ext_getElem?
      intro i
      by_cases hi : i < ops.size
      · have hi' : i < done.size := by rw [inv.head.size]; exact hi
        have h1 : (((List.range ops.size).map fun i => decide (i < n)).toArray)[i]? = some (decide (i < n)) := by simp [hi]
        rw [h1, Array.getElem?_eq_getElem hi']
        by_cases hin : i < n
        · have := hdone i hin
          simp [hi'] at this
          simp [hin, this]
        · have := inv.head.tail i (by omega) hi
          simp [hi'] at this
          simp [hin, this]
      · rw [Array.getElem?_eq_none (by rw [inv.head.size]; omega), Array.getElem?_eq_none (by simp; omega)]
    have hk : ∀ i, i < n → done.getD i false = true := fun i hi => by
      have h1 := hdone i hi
      have hi' : i < done.size := by rw [inv.head.size]; omega
      simp [hi'] at h1 ⊢
      exact h1
    have ha : a = putAll (fun i => match dstOf ops i with | some d => a.tmps.getD d undef | none => undef) (ops.toList.take n) 0 a0 := by
      have hd1 := putAll_defers (fun i => match dstOf ops i with | some d => a.tmps.getD d undef | none => undef) (ops.toList.take n) 0 a0
      have hs1 := putAll_size (fun i => match dstOf ops i with | some d => a.tmps.getD d undef | none => undef) (ops.toList.take n) 0 a0
      have ht1 : ∀ s, a.tmps[s]? = (putAll (fun i => match dstOf ops i with | some d => a.tmps.getD d undef | none => undef) (ops.toList.take n) 0 a0).tmps[s]? := fun s => by
        rw [putAll_get _ s (a.tmps.getD s undef) _ 0 a0 (fun j o hj ho => by
          rw [List.getElem?_take] at hj
          split at hj
          · have : dstOf ops j = some s := by unfold dstOf; rw [Array.getElem?_toList] at hj; rw [hj]; exact ho
            rw [Nat.zero_add, this]
          · cases hj)]
        split
        · rename_i h
          rw [Array.getElem?_eq_getElem (by rw [inv.size]; exact h.2)]
          simp [inv.size, h.2]
        · rename_i h
          by_cases hsz : s < a0.tmps.size
          · refine inv.keep s fun i hi e => h ⟨?_, hsz⟩
            obtain ⟨o, ho⟩ := hat i hi
            refine ⟨o, ?_, by unfold dstOf at e; rw [ho] at e; exact e⟩
            rw [List.mem_take_iff_getElem]
            have := Array.getElem?_eq_some_iff.1 ho
            exact ⟨i, by simp; omega, by simpa using this.2⟩
          · rw [Array.getElem?_eq_none (by rw [inv.size]; omega), Array.getElem?_eq_none (by omega)]
      generalize putAll (fun i => match dstOf ops i with | some d => a.tmps.getD d undef | none => undef) (ops.toList.take n) 0 a0 = b at *
      obtain ⟨ta, da⟩ := a
      obtain ⟨tb, db⟩ := b
      have e1 : ta = tb := Array.ext_getElem? ht1
      have e2 : da = db := inv.defers.trans hd1.symm
      rw [e1, e2]
    rw [Nat.zero_add, ha, hdn]
    refine htail _ w inv.cls fun i d hi hd => ?_
    have := inv.known i hi (hk i hi) d hd
    simpa [hd] using this
  | succ f ih =>
    intro done a w hcount inv
    have hex : ∃ i, i < n ∧ done.getD i true = false := by
      have : 0 < (List.range n).countP (fun i => !done.getD i true) := by omega
      obtain ⟨i, hi, hd⟩ := List.countP_pos_iff.1 this
      exact ⟨i, List.mem_range.1 hi, by simpa using hd⟩
    have hready : ∃ i, i < n ∧ i ∈ Region.ready .any ops done := by
      obtain ⟨i0, hi0, hd0⟩ := hex
      have key : ∀ m, m < n → done.getD m true = false → ∃ i, i < n ∧ i ∈ Region.ready .any ops done := by
        intro m
        induction m using Nat.strongRecOn with
        | _ m ihm =>
          intro hm hd
          obtain ⟨o, ho⟩ := hat m hm
          by_cases hw : ∀ e ∈ o.after, Region.binds .any e = true → done.getD e.on false = true
          · exact ⟨m, hm, mem_ready.2 ⟨hd, o, ho, hw⟩⟩
          · simp only [Classical.not_forall] at hw
            obtain ⟨e, he, hb, hnd⟩ := hw
            have hlt := (hgd m o hm ho).2.1 e he hb
            refine ihm e.on hlt (by omega) ?_
            have hi' : e.on < done.size := by rw [inv.head.size]; omega
            simp [hi'] at hnd ⊢
            exact hnd
      exact key i0 hi0 hd0
    obtain ⟨r, hr, hrr⟩ := hready
    rw [Nat.succ_add]
    have hstep : ∀ i o v w', i < n → i ∈ Region.ready .any ops done → ops[i]? = some o → I i v w' → Below w.heap.size w w' →
        (List.range n).countP (fun j => !(done.setIfInBounds i true).getD j true) = f ∧ FlowInv ops n I w0 a0 (done.setIfInBounds i true) (a.put o.dst v) w' := by
      intro i o v w' hin hi ho hv hB
      obtain ⟨hun, o', ho', hwait⟩ := mem_ready.1 hi
      obtain ⟨g1, g2, g3⟩ := hgd i o hin ho
      refine ⟨?_, inv.head.set hi hin, inv.cls.more hB, by rw [put_defers]; exact inv.defers, by rw [put_size]; exact inv.size, fun s hs' => ?_, fun j hj hdj d hd => ?_⟩
      · have hii : i < done.size := by rw [inv.head.size]; omega
        have hcp := count_step done i hii hun n hin
        omega
      · rw [put_get, if_neg (fun h => hs' i hin (by unfold dstOf; rw [ho]; exact h.1))]
        exact inv.keep s hs'
      · by_cases e : j = i
        · subst e
          have hd' : o.dst = some d := by unfold dstOf at hd; rw [ho] at hd; exact hd
          have : (a.put o.dst v).tmps.getD d undef = v := by
            rw [Array.getD_eq_getD_getElem?, put_get, if_pos ⟨hd', by rw [inv.size]; exact (g3 d hd').1⟩]; rfl
          rw [this]; exact hv
        · have hdj' : done.getD j false = true := by rwa [getD_set_ne false (Ne.symm e)] at hdj
          have : (a.put o.dst v).tmps.getD d undef = a.tmps.getD d undef := by
            rw [Array.getD_eq_getD_getElem?, put_get, if_neg (fun h => (g3 d h.1).2 j hj e hd), ← Array.getD_eq_getD_getElem?]
          rw [this]
          exact hI j _ w w' hj (inv.known j hj hdj' d hd) hB
    have hdeps : ∀ i o, i < n → i ∈ Region.ready .any ops done → ops[i]? = some o → ∀ j d, dstOf ops j = some d → (o.after.any fun e => Region.binds .any e && e.on == j) = true → I j (a.tmps.getD d undef) w := by
      intro i o hin hi ho j d hd hj
      obtain ⟨hun, o', ho', hwait⟩ := mem_ready.1 hi
      obtain rfl : o' = o := Option.some.inj (ho'.symm.trans ho)
      obtain ⟨g1, g2, g3⟩ := hgd i o' hin ho
      obtain ⟨k, hk, hk2⟩ := Array.any_eq_true.1 hj
      simp only [Bool.and_eq_true, beq_iff_eq] at hk2
      have hmem := Array.getElem_mem hk
      have hl := hwait _ hmem hk2.1
      have hlt := g2 _ hmem hk2.1
      rw [hk2.2] at hl hlt
      exact inv.known j (by omega) hl d hd
    have hkeep : ∀ s, (∀ j, j < n → dstOf ops j ≠ some s) → a.tmps.getD s undef = a0.tmps.getD s undef := fun s hs' => by rw [Array.getD_eq_getD_getElem?, inv.keep s hs', ← Array.getD_eq_getD_getElem?]
    by_cases hbut : ∀ i, i < n → i ≠ late → done.getD i true = true
    · have hrl : r = late := Classical.byContradiction fun h => by
        have h1 := hbut r hr h
        rw [(mem_ready.1 hrr).1] at h1; cases h1
      subst hrl
      have hdn : done = doneBut ops n r := by
        apply Array.ext_getElem?
        intro i
        by_cases hi : i < ops.size
        · have hi' : i < done.size := by rw [inv.head.size]; exact hi
          have h1 : (doneBut ops n r)[i]? = some (decide (i < n) && decide (i ≠ r)) := by simp [doneBut, hi]
          rw [h1, Array.getElem?_eq_getElem hi']
          by_cases hin : i < n
          · by_cases hir : i = r
            · subst hir
              have := (mem_ready.1 hrr).1
              simp [hi'] at this
              simp [this]
            · have := hbut i hin hir
              simp [hi'] at this
              simp [hin, hir, this]
          · have := inv.head.tail i (by omega) hi
            simp [hi'] at this
            simp [hin, this]
        · rw [Array.getElem?_eq_none (by rw [inv.head.size]; omega), Array.getElem?_eq_none (by simp [doneBut]; omega)]
      obtain ⟨o, ho⟩ := hat r hr
      obtain ⟨v, hrun, hv⟩ := hlate o hr ho a w inv.cls hkeep (hdeps r o hr hrr ho)
      obtain ⟨q1, q2⟩ := hstep r o v w hr hrr ho hv (Below.refl _ w)
      have hw : Region.wanted o (yielded ops a.tmps) = true := by simp [Region.wanted, (hgd r o hr ho).1]
      have hfr := hlt8.resolve_left (by omega)
      rw [← hdn] at hfr
      exact wpAny_take ho hsel hfr.1 hfr.2 (fun c a w h => hQ c _ _ a w h) (.inl ⟨hw, hrun⟩) (ih _ _ _ q1 q2)
    · simp only [Classical.not_forall] at hbut
      obtain ⟨u, hu, hul, hud⟩ := hbut
      have hud' : done.getD u false = false := by
        have hi' : u < done.size := by rw [inv.head.size]; omega
        simp [hi'] at hud ⊢
        exact hud
      refine ⟨fun e => (by rw [e] at hrr; cases hrr), fun i hi => ?_⟩
      obtain ⟨hun, o, ho, hwait⟩ := mem_ready.1 hi
      have hin : i < n := Nat.lt_of_not_le fun h => by
        have his : i < ops.size := (Array.getElem?_eq_some_iff.1 ho).1
        have hw := ((hdir i his).resolve_left (by omega) u hu).resolve_left hul
        have := reach_done inv.head.closed u 9 i o ho hwait hw
        rw [hud'] at this
        cases this
      unfold wpOp
      rw [ho]
      have hw : Region.wanted o (yielded ops a.tmps) = true := by simp [Region.wanted, (hgd i o hin ho).1]
      simp only [hw, if_true]
      refine .inl (Oper.wp_mono ?_ (hop i o hin ho a w inv.cls hkeep (hdeps i o hin hi ho)))
      rintro a' w' ⟨v, rfl, hv, hB⟩
      obtain ⟨q1, q2⟩ := hstep i o v w' hin hi ho hv hB
      exact ih _ _ _ q1 q2

/-- The region, told as a flow. -/
theorem wp_region_flow9 {id : Nat} {Q : Exit → Act → World → Prop} {a : Act} {w : World} {l : List Oper} (n late : Nat) (I : Nat → Value → World → Prop) (hm : P.follows .mixedOrders = true) (hB : flowB9 l.toArray n late a.tmps.size = true)
    (hQ : ∀ c d v a w, Q (.panic c) (a.put d v) w → Q (.panic c) a w)
    (hI : ∀ i v w w', i < n → I i v w → Below w.heap.size w w' → I i v w')
    (hop : ∀ i o, i < n → l.toArray[i]? = some o → ∀ a' w', Cls w w' → (∀ s, (∀ j, j < n → dstOf l.toArray j ≠ some s) → a'.tmps.getD s undef = a.tmps.getD s undef) →
      (∀ j d, dstOf l.toArray j = some d → (o.after.any fun e => Region.binds .any e && e.on == j) = true → I j (a'.tmps.getD d undef) w') →
      o.wp P a' w' (fun a'' w'' => ∃ v, a'' = a'.put o.dst v ∧ I i v w'' ∧ Below w'.heap.size w' w'') Q)
    (hlate : ∀ o, late < n → l.toArray[late]? = some o → ∀ (a' : Act) w', Cls w w' → (∀ s, (∀ j, j < n → dstOf l.toArray j ≠ some s) → a'.tmps.getD s undef = a.tmps.getD s undef) →
      (∀ j d, dstOf l.toArray j = some d → (o.after.any fun e => Region.binds .any e && e.on == j) = true → I j (a'.tmps.getD d undef) w') → ∃ v, (∀ w, (execOp a'.eval o).run P w = .ok (.value v) w) ∧ I late v w')
    (htail : ∀ v w', Cls w w' → (∀ i d, i < n → dstOf l.toArray i = some d → I i (v i) w') → wpList P l.toArray Q (l.drop n) (putAll v (l.take n) 0 a) w') : (Code.region id l.toArray true).wp P Q a w := by
  have hB' := hB
  simp only [flowB9, Bool.and_eq_true, decide_eq_true_eq] at hB'
  have hn : n < l.length := by simpa using hB'.1.1.1.1.1
  have h3 : (l.drop n).length = l.toArray.size - n := by simp
  refine wp_region_any hm ?_
  have hc0 : (List.range n).countP (fun i => !(Array.replicate l.toArray.size false).getD i true) = n := by
    have : (List.range n).countP (fun i => !(Array.replicate l.toArray.size false).getD i true) = (List.range n).length := List.countP_eq_length.2 fun i hi => by
      have := List.mem_range.1 hi
      simp [show i < l.length by omega]
    rw [this, List.length_range]
  have K := flow_any9 (P := P) (Q := Q) (w0 := w) (a0 := a) hB hQ hI hop hlate (fun v w' hc hv => by
    have := wpAny_of_seq (P := P) (md := .any) (Q' := Q) (l.drop n) n _ _ w' (fun j => by simp [List.getElem?_drop]) (by rw [h3]; exact hB'.2) (htail v w' hc hv)
    rw [h3] at this
    simpa using this) n (Array.replicate l.toArray.size false) a { w with drawn := w.drawn + 1 } hc0
    ⟨⟨by simp, fun j oj _ hx => (by rw [getD_replicate_false] at hx; cases hx), fun t _ ht => getD_in (by simpa using ht) (getD_replicate_false _ _)⟩, ⟨(Below.refl _ w).drew⟩, rfl, rfl, fun _ _ => rfl, fun i _ hx => (by rw [getD_replicate_false] at hx; cases hx)⟩
  rwa [show n + (l.toArray.size - n) = l.toArray.size by simp; omega] at K
end
end Go.Proofs.YtbmcmabimfoknaaGreatDoor

/- The document's Root at lists of bits. -/
namespace Go.Proofs.YtbmcmabimfoknaaGreatDoor
open Go.RowKit Go.Shelf
set_option linter.unusedVariables false
set_option maxRecDepth 100000

theorem run_addc {P : Program} {o : Oper} {a : Act} {w : World} (t : TypeId) (x : Operand) (c : Nat) (ho : o.op = .binOp .add t x (.const (.int .i64 (c : Nat))) t) (n : Nat) (hx : a.eval x = .int .i64 (n : Nat)) (hn : n + c < 4611686018427387904) :
    (execOp a.eval o).run P w = .ok (.value (.int .i64 ((n + c : Nat) : Int))) w := by
  have hw : IntKind.i64.wrap ((n : Int) + (c : Int)) = (n : Int) + (c : Int) := by rw [IntKind.wrap_i64]; omega
  unfold execOp
  simp only [ho, hx, show a.eval (.const (.int .i64 (c : Nat))) = .int .i64 (c : Nat) from rfl]
  simp [go_sem, hw]
theorem run_quoc {P : Program} {o : Oper} {a : Act} {w : World} (t : TypeId) (x : Operand) (c : Nat) (ho : o.op = .binOp .quo t x (.const (.int .i64 (c : Nat))) t) (n : Nat) (hx : a.eval x = .int .i64 (n : Nat)) (hn : n < 4611686018427387904) (hc : 0 < c) :
    (execOp a.eval o).run P w = .ok (.value (.int .i64 ((n / c : Nat) : Int))) w := by
  have hq : n / c ≤ n := Nat.div_le_self _ _
  have hw : IntKind.i64.wrap (((n / c : Nat) : Int)) = ((n / c : Nat) : Int) := by generalize n / c = q at hq ⊢; rw [IntKind.wrap_i64]; omega
  have hc0 : ¬ c = 0 := by omega
  rw [Int.natCast_ediv] at hw
  unfold execOp
  simp only [ho, hx, show a.eval (.const (.int .i64 (c : Nat))) = .int .i64 (c : Nat) from rfl]
  simp [go_sem, hc0, hw]
set_option maxHeartbeats 1000000 in
theorem root_bits (n num : Nat) (ds : List Dt) (bs : List Bool) (r : List Nat) (sb sk : Value) (p : Nat) (w : World) (hD0 : DAt w (.mk 7 n ds) p) (hn : n ≤ 1048576) (hr : r.length = 32) (hI : IsT w sb bs) (hbl : bs.length ≤ 20000) :
    Calls Tryz.prog 8 #[.pointer (some ⟨p, 0, none⟩), .agg (valL num r sb sk).toArray] w fun e w' => e = .returned (.agg (nums .u8 (bitsR n bs))) ∧ Below w.heap.size w w' := by
  rw [DAt] at hD0
  obtain ⟨hd0, hd1, _⟩ := hD0
  have hTr := treeZ_rt ((n + 255) / 256) (chunks (putB bs false)) (chunks_rts _ (putB_byte bs false))
  obtain ⟨m, HM⟩ : ∃ m, Hid ((n + 255) / 256 = m) := ⟨_, hid rfl⟩
  obtain ⟨C, HC⟩ : ∃ C, Hid (chunks (putB bs false) = C) := ⟨_, hid rfl⟩
  have hmb : m ≤ 4096 := by rw [← HM.out]; omega
  have HT := hid (fun ao cap wq (h1 : C.length ≤ cap) (h2 : cap ≤ maxLen) (h3 : RootsAt wq ao C) => (show Calls Tryz.prog 36 #[.slice ao C.length cap, .int .i64 ((m : Nat) : Int)] wq fun e w' => e = .returned (.tuple #[.agg (nums .u8 (treeZ m C)), .bool (decide (C.length ≤ m))]) ∧ Below wq.heap.size wq w' by
    by_cases hle : C.length ≤ m
    · rw [treeZ, if_pos hle, decide_eq_true hle]
      exact rtree_any ao cap C (m : Nat) wq h1 h2 h3 (by omega) (by omega)
    · rw [treeZ, if_neg hle, decide_eq_false hle]
      exact rtree_bad ao cap C (m : Nat) wq h1 h2 (by omega) (by omega) (.inr (by omega))))
  unfold bitsR
  rw [HM.out, HC.out] at hTr ⊢
  obtain ⟨T, HTT⟩ : ∃ T, Hid (treeZ m C = T) := ⟨_, hid rfl⟩
  obtain ⟨ok, HOK⟩ : ∃ b, Hid (decide (C.length ≤ m) = b) := ⟨_, hid rfl⟩
  rw [HTT.out] at hTr ⊢
  rw [HTT.out, HOK.out] at HT
  have hpr := pr_rt T (wUp bs.length 8)
  have HMX := hid (fun w => rmix_any T bs.length hTr (by omega) w)
  obtain ⟨Z, HZ⟩ : ∃ Z, Hid (pr T (wUp bs.length 8) = Z) := ⟨_, hid rfl⟩
  rw [HZ.out] at hpr HMX ⊢
  obtain ⟨bao, bcap, hsb, hbc1, hbc2, _⟩ := hI.ex
  have HI := hid hI
  have HSB := hid hsb
  clear hI hsb hbc1 hbc2
  go_enter Tryz.func8, Tryz.ntmps8
  go_wp2_with ((with_reducible refine at_list' ?_); first
    | (refine wpList_box_c rfl 3 rfl (.tmp 1) rfl (valL num r sb sk) rfl ?_; intro w1 H1 B1 S1)
    | (refine wpList_alloc_has rfl 4 rfl 22 rfl .u8 32 Tryz.zero22 ?_; intro w2 H2 B2 S2; rw [S1] at H2 S2; rw [S1]; have hd02 := cell_keep B2 (cell_keep B1 hd0)))
  have L2 := hid (below_more B1 B2 (Nat.le_refl _))
  have HF := hid (And.intro (H1.keep B2) (And.intro hr (And.intro (HI.out.keep L2.out) (And.intro H2 hbl))))
  have HD := hid (cell_keep B2 (cell_keep B1 hd1))
  have s2 : w2.heap.size = w.heap.size + 2 := by omega
  clear H1 B1 B2 S1 S2 H2 hd0 hd1 hd02
  try simp only [Act.put, List.setIfInBounds_toArray, List.set_cons_succ, List.set_cons_zero]
  refine wp_region_flow 15 13 (fun i v wq => match i with
    | 0 => v = .pointer (some ⟨w.heap.size, 33, none⟩)
    | 1 => v = sb
    | 2 => IsB wq v (putB bs false)
    | 3 => ∃ ao cap, v = .slice ao C.length cap ∧ C.length ≤ cap ∧ cap ≤ maxLen ∧ RootsAt wq ao C
    | 4 => v = .pointer (some ⟨p, 0, none⟩)
    | 5 => v = .pointer (some ⟨p, 0, none⟩)
    | 6 => v = .pointer (some ⟨p, 1, none⟩)
    | 7 => v = .int .i64 (n : Nat)
    | 8 => v = .int .i64 ((n + 255 : Nat) : Int)
    | 9 => v = .int .i64 ((m : Nat) : Int)
    | 10 => v = .tuple #[.agg (nums .u8 T), .bool ok]
    | 11 => v = .tuple #[.agg (nums .u8 T), .bool ok]
    | 12 => v = .agg (nums .u8 T)
    | 13 => v = .bool ok
    | _ => ∃ g, w2.heap.size ≤ g ∧ v = .pointer (some ⟨g, 0, none⟩) ∧ Has wq g 22 .u8 (zeros 32)) (by kernel_rfl) (by kernel_rfl) (fun _ d _ _ _ h => by cases d <;> exact h) ?_ ?_ ?_ ?_
  · intro i v wq wq' hi hv hb
    match i, hi with
    | 0, _ => exact hv
    | 1, _ => exact hv
    | 2, _ => exact hv.keep hb
    | 3, _ => obtain ⟨ao, cap, h1, h2, h3, h4⟩ := hv; exact ⟨ao, cap, h1, h2, h3, h4.keep hb⟩
    | 4, _ => exact hv
    | 5, _ => exact hv
    | 6, _ => exact hv
    | 7, _ => exact hv
    | 8, _ => exact hv
    | 9, _ => exact hv
    | 10, _ => exact hv
    | 11, _ => exact hv
    | 12, _ => exact hv
    | 13, _ => exact hv
    | 14, _ => obtain ⟨g, h1, h2, h3⟩ := hv; exact ⟨g, h1, h2, h3.keep hb⟩
    | (k + 15), hk => exact absurd hk (by omega)
  · intro i o hi ho aq wq hc hk hdep
    match i, hi with
    | 0, _ =>
      cases ho
      have e1 : aq.tmps.getD 3 undef = .pointer (some ⟨w.heap.size, 0, none⟩) := hk 3 (by decide)
      exact flow_value _ (run_fieldAt 43 (.tmp 3) 2 rfl _ _ e1 (by kernel_rfl)) rfl
    | 1, _ =>
      cases ho
      have e0 : aq.tmps.getD 48 undef = .pointer (some ⟨w.heap.size, 33, none⟩) := hdep 0 48 rfl (by kernel_rfl)
      exact flow_value _ (run_cell 40 (.tmp 48) rfl _ e0 _ ((HF.out.1.keep (hcB hc)).cell (valL_33 num r sb sk HF.out.2.1)) _ Tryz.underlying40 rfl) rfl
    | 2, _ =>
      cases ho
      have e0 : aq.tmps.getD 49 undef = sb := hdep 1 49 rfl (by kernel_rfl)
      refine flow_fun 33 _ _ rfl (fun _ _ => by simp [go_sem]) #[sb, .bool false] (by rw [show (#[Operand.tmp 49, Operand.const (.bool false)] : Array Operand).map aq.eval = #[aq.tmps.getD 49 undef, .bool false] from by simp [Act.eval], e0]) ?_
      refine (rputBits_any sb bs false wq (HF.out.2.2.1.keep (hcB hc)) (by have := HF.out.2.2.2.2; omega)).mono ?_
      rintro x w' ⟨v, rfl, h1, q⟩
      exact ⟨v, rfl, h1.isB (putB_byte bs false), q⟩
    | 3, _ =>
      cases ho
      have hB : IsB wq (aq.tmps.getD 50 undef) (putB bs false) := hdep 2 50 rfl (by kernel_rfl)
      obtain ⟨⟨ao, cap, e0, h1, h2, h3, h4⟩, h5⟩ := hB
      refine flow_fun 32 _ _ rfl (fun _ _ => by simp [go_sem]) #[.slice ao (putB bs false).length cap] (by rw [show (#[Operand.tmp 50] : Array Operand).map aq.eval = #[aq.tmps.getD 50 undef] from by simp [Act.eval], e0]) ?_
      refine (rchunks_any ao cap (putB bs false) wq h1 h2 (by have := HF.out.2.2.2.2; rw [putB_length]; simp; omega) h5 h4).mono ?_
      rintro x w' ⟨v, rfl, h6, q⟩
      obtain ⟨_, ao2, cap2, e2, h7, h8, h9⟩ := RootsAt.own (chunks_rts _ h5) h6
      rw [HC.out] at e2 h7 h9
      exact ⟨v, rfl, ⟨ao2, cap2, e2, h7, h8, h9⟩, q⟩
    | 4, _ =>
      cases ho
      exact flow_move (.tmp 0) rfl (hk 0 (by decide))
    | 5, _ =>
      cases ho
      have e0 : aq.tmps.getD 52 undef = .pointer (some ⟨p, 0, none⟩) := hdep 4 52 rfl (by kernel_rfl)
      exact flow_value _ (run_nilOk (.tmp 52) rfl _ e0) rfl
    | 6, _ =>
      cases ho
      have e0 : aq.tmps.getD 53 undef = .pointer (some ⟨p, 0, none⟩) := hdep 5 53 rfl (by kernel_rfl)
      exact flow_value _ (run_fieldAt 95 (.tmp 53) 1 rfl _ _ e0 (by kernel_rfl)) rfl
    | 7, _ =>
      cases ho
      have e0 : aq.tmps.getD 54 undef = .pointer (some ⟨p, 1, none⟩) := hdep 6 54 rfl (by kernel_rfl)
      exact flow_value _ (run_cell 3 (.tmp 54) rfl _ e0 _ (cell_keep (hcB hc) HD.out) _ Tryz.underlying3 rfl) rfl
    | 8, _ =>
      cases ho
      have e0 : aq.tmps.getD 55 undef = .int .i64 (n : Nat) := hdep 7 55 rfl (by kernel_rfl)
      exact flow_value _ (run_addc 3 (.tmp 55) 255 rfl n e0 (by omega)) rfl
    | 9, _ =>
      cases ho
      have e0 : aq.tmps.getD 56 undef = .int .i64 ((n + 255 : Nat) : Int) := hdep 8 56 rfl (by kernel_rfl)
      refine flow_value _ (run_quoc 3 (.tmp 56) 256 rfl (n + 255) e0 (by omega) (by decide)) ?_
      rw [HM.out]
      rfl
    | 10, _ =>
      cases ho
      obtain ⟨ao, cap, e0, h1, h2, h3⟩ := hdep 3 51 rfl (by kernel_rfl)
      have e1 : aq.tmps.getD 57 undef = .int .i64 ((m : Nat) : Int) := hdep 9 57 rfl (by kernel_rfl)
      refine flow_fun 36 _ _ rfl (fun _ _ => by simp [go_sem]) #[.slice ao C.length cap, .int .i64 ((m : Nat) : Int)] (by rw [show (#[Operand.tmp 51, Operand.tmp 57] : Array Operand).map aq.eval = #[aq.tmps.getD 51 undef, aq.tmps.getD 57 undef] from by simp [Act.eval], e0, e1]) ?_
      refine (HT.out ao cap wq h1 h2 h3).mono ?_
      rintro x w' ⟨rfl, q⟩
      exact ⟨_, rfl, rfl, q⟩
    | 11, _ =>
      cases ho
      have e0 : aq.tmps.getD 58 undef = .tuple #[.agg (nums .u8 T), .bool ok] := hdep 10 58 rfl (by kernel_rfl)
      exact flow_move (.tmp 58) rfl e0
    | 12, _ =>
      cases ho
      have e0 : aq.tmps.getD 47 undef = .tuple #[.agg (nums .u8 T), .bool ok] := hdep 11 47 rfl (by kernel_rfl)
      exact flow_extract (.tmp 47) 0 _ _ rfl e0 rfl rfl
    | 13, _ =>
      cases ho
      have e0 : aq.tmps.getD 47 undef = .tuple #[.agg (nums .u8 T), .bool ok] := hdep 11 47 rfl (by kernel_rfl)
      exact flow_extract (.tmp 47) 1 _ _ rfl e0 rfl rfl
    | 14, _ =>
      cases ho
      exact flow_alloc 22 rfl .u8 32 Tryz.zero22 (fun w' h1 h2 => ⟨wq.heap.size, (hcB hc).size, rfl, h1⟩)
    | (k + 15), hk => exact absurd hk (by omega)
  · intro o _ ho a' w' hc hk hdep
    cases ho
    have e0 : a'.tmps.getD 47 undef = .tuple #[.agg (nums .u8 T), .bool ok] := hdep 11 47 rfl (by kernel_rfl)
    exact ⟨.bool ok, fun w => run_extract (.tmp 47) 1 _ _ rfl e0 rfl, rfl⟩
  intro vf w8 hc hv
  have e12 : vf 12 = _ := hv 12 59 (by decide) rfl
  have e13 : vf 13 = _ := hv 13 60 (by decide) rfl
  obtain ⟨g, hg, e14, hG⟩ : ∃ g, w2.heap.size ≤ g ∧ vf 14 = .pointer (some ⟨g, 0, none⟩) ∧ Has w8 g 22 .u8 (zeros 32) := hv 14 6 (by decide) rfl
  have B8 := hcB hc
  have hX8 := HF.out.1.keep B8
  have hA8 := HF.out.2.2.2.1.keep B8
  have L8 := L2.out.trans (B8.mono L2.out.size)
  have hL8 := B8.size
  clear hv hc
  simp only [List.take_succ_cons, List.take_zero, List.drop_succ_cons, List.drop_zero, putAll, Act.put, List.setIfInBounds_toArray, List.set_cons_succ, List.set_cons_zero]
  rw [e12, e13, e14]
  have hgne : ¬ w.heap.size = g := by omega
  clear e12 e13 e14 B8
  go_wp2_with ((with_reducible refine at_list' ?_); first
    | (refine wpList_store_has rfl 22 (.tmp 6) (.tmp 59) rfl g .u8 T (zeros 32) rfl rfl 22 hG (hTr.size _ Tryz.size22) (by rw [hTr.len, zeros_length]) ?_; intro w9 H9 O9; have hk33 := (hX8.only O9 hgne).cell (valL_33 num r sb sk hr); rw [HSB.out] at hk33)
    | (refine wpList_load_has rfl 22 (.tmp 6) rfl g .u8 T rfl 22 H9 _ _ Tryz.underlying22 (hTr.size _ Tryz.size22) ?_))
  refine (HMX.out w9).mono ?_
  rintro e w10 ⟨rfl, B10⟩
  have hA10 := (hA8.only O9 (by omega)).keep B10
  have L9 := below_only L8 O9 (by omega)
  have L10 := hid (L9.trans (B10.mono L9.size))
  clear hX8 hA8 L8 L9 B10 O9 H9 hG hk33
  go_wp2_with ((with_reducible refine at_list' ?_); first
    | (refine wpList_store_has rfl 22 (.tmp 4) (.tmp 66) rfl (w.heap.size + 1) .u8 Z (zeros 32) rfl rfl 22 hA10 (hpr.size _ Tryz.size22) (by rw [hpr.len, zeros_length]) ?_; intro w11 H11 O11))
  refine bodyPost_ret (results_has rfl _ _ (w.heap.size + 1) 22 .u8 Z _ _ rfl H11 Tryz.underlying22 (hpr.size _ Tryz.size22)) rfl ?_
  exact ⟨rfl, below_only L10.out O11 (by omega)⟩
end Go.Proofs.YtbmcmabimfoknaaGreatDoor

