/- Own texts of the proof, joined: Big10 RunEq LwBlockHeader Laid CoDepositData CoDeposit CoVote CollG ChunkG Pack6 CoIndexed. -/
import Derived.Test.YtpkelkipmldfeaaDoorH3
import Derived.LaidMore
import Derived.MakeChecks
import Derived.Lib.LaidTab
import Derived.Lib.LaidU8
import Derived.FnData
/- Big answers, whatever a body holds. -/
namespace Go.Proofs.YtpkelkipmldfeaaDoor
open Go.RowKit Go.Shelf
set_option linter.unusedVariables false
set_option linter.unusedSimpArgs false
set_option maxRecDepth 100000

theorem run_addW {o : Oper} {a : Act} {w : World} (x y : Operand) (ho : o.op = .binOp .add 3 x y 3) (m n : Int) (hx : a.eval x = .int .i64 m) (hy : a.eval y = .int .i64 n) : (execOp a.eval o).run Tryd.prog w = .ok (.value (.int .i64 (IntKind.i64.wrap (m + n)))) w := by
  unfold execOp
  simp only [ho, hx, hy]
  simp [go_sem]
/-- Structs of sz cells, each with a slice at this place. -/
def Hds (w : World) (ao : Option Addr) (n sz k : Nat) : Prop := n = 0 ∨ ∃ b off, ao = some ⟨b, off, none⟩ ∧ ∀ i, i < n → ∃ o m c, w.cell? ⟨b, off + i * sz + k, none⟩ = some (.slice o m c)
set_option maxHeartbeats 4000000 in
theorem big_any (ra : List Nat) (ed : List Nat) (ec : Nat) (gr : List Nat) (a1 a2 a3 a4 a5 : Option Addr) (n1 n2 n3 n4 n5 c1 c2 c3 c4 c5 : Nat) (hra : Rt ra) (hed : Rt ed) (hgr : Rt gr) (w : World) (h1 : n1 ≤ 4398046511104) (h2 : n2 ≤ 4398046511104) (h3 : n3 ≤ 4398046511104) (h4 : n4 ≤ 4398046511104) (h5 : n5 ≤ 4398046511104)
    (hA : Hds w a2 n2 266 0) (hB : Hds w a2 n2 266 133) (hC : Hds w a3 n3 133 0) :
    Calls Tryd.prog 5 #[.agg (bdC ra ed ec gr (.slice a1 n1 c1) (.slice a2 n2 c2) (.slice a3 n3 c3) (.slice a4 n4 c4) (.slice a5 n5 c5)).toArray] w fun e w' => (∃ b, e = .returned (.bool b)) ∧ Below w.heap.size w w' := by
  have sgs : ∀ (i off : Nat) (v : Value), (bdP ra ed ec gr (.slice a1 n1 c1) (.slice a2 n2 c2) (.slice a3 n3 c3) (.slice a4 n4 c4) (.slice a5 n5 c5))[i]? = some [v] → ((bdP ra ed ec gr (.slice a1 n1 c1) (.slice a2 n2 c2) (.slice a3 n3 c3) (.slice a4 n4 c4) (.slice a5 n5 c5)).take i).flatten.length = off → (bdC ra ed ec gr (.slice a1 n1 c1) (.slice a2 n2 c2) (.slice a3 n3 c3) (.slice a4 n4 c4) (.slice a5 n5 c5))[off]? = some v := fun i off v h1 h2 => seg (ps := bdP ra ed ec gr (.slice a1 n1 c1) (.slice a2 n2 c2) (.slice a3 n3 c3) (.slice a4 n4 c4) (.slice a5 n5 c5)) (i := i) (off := off) h1 h2 0 v rfl
  have q1 := sgs 3 97 _ rfl (by simp [bdP, cellsB_length, hra.len, hgr.len, etC_length ed ec hed.len])
  have q2 := sgs 4 98 _ rfl (by simp [bdP, cellsB_length, hra.len, hgr.len, etC_length ed ec hed.len])
  have q3 := sgs 5 99 _ rfl (by simp [bdP, cellsB_length, hra.len, hgr.len, etC_length ed ec hed.len])
  have q4 := sgs 6 100 _ rfl (by simp [bdP, cellsB_length, hra.len, hgr.len, etC_length ed ec hed.len])
  have q5 := sgs 7 101 _ rfl (by simp [bdP, cellsB_length, hra.len, hgr.len, etC_length ed ec hed.len])
  obtain ⟨C, HCC⟩ : ∃ C, Same (bdC ra ed ec gr (.slice a1 n1 c1) (.slice a2 n2 c2) (.slice a3 n3 c3) (.slice a4 n4 c4) (.slice a5 n5 c5)) C := ⟨_, ⟨rfl⟩⟩
  rw [HCC.out] at q1 q2 q3 q4 q5 ⊢
  clear sgs HCC
  go_enter Tryd.func5, Tryd.ntmps5
  go_wp2_with ((with_reducible refine at_list' ?_); first
    | (refine wpList_box_c rfl 1 rfl (.tmp 0) rfl C rfl ?_; intro w1 H1 B1 S1; have k1 := H1.cell q1; have k2 := H1.cell q2; have k3 := H1.cell q3; have k4 := H1.cell q4; have k5 := H1.cell q5))
  have HK := hid (And.intro k2 k3)
  have L1 := hid B1
  have HHA := hid hA
  have HHB := hid hB
  have HHC := hid hC
  clear H1 k1 k2 k3 k4 k5 q1 q2 q3 q4 q5 B1 hA hB hC
  go_loopw [3, 4, 28] (fun n _ i wr => ∃ (z : Int) (t : Nat), n = .int .i64 z ∧ t ≤ n2 ∧ i = .int .i64 (t : Nat) ∧ Below w1.heap.size w1 wr) (fun _ _ i _ => n2 - (intOf i).toNat)
  case atStart => exact ⟨_, 0, rfl, Nat.zero_le _, rfl, Below.refl _ _⟩
  case round =>
    obtain ⟨z, t, rfl, ht, rfl, HW⟩ := hrel
    by_cases hlt : t < n2
    · obtain ⟨b, off, rfl, hma⟩ := HHA.out.resolve_left (by omega)
      obtain ⟨b', off', e', hmb⟩ := HHB.out.resolve_left (by omega)
      cases e'
      obtain ⟨oa, ma, ka, ha⟩ := hma t hlt
      obtain ⟨ob, mb, kb, hb⟩ := hmb t hlt
      have HC2 := hid (cell_keep HW HK.out.1)
      have HEa := hid (cell_keep HW (cell_keep L1.out ha))
      have HEb := hid (cell_keep HW (cell_keep L1.out hb))
      have HHW := hid HW
      clear hma hmb ha hb HW
      go_wp2_with fail
      try simp only [Act.put, List.setIfInBounds_toArray, List.set_cons_succ, List.set_cons_zero]
      refine wp_region_flowM 19 19 (fun i v wq => match i with
        | 0 => v = .int .i64 z
        | 1 => v = .pointer (some ⟨w.heap.size, 98, none⟩)
        | 2 => v = .slice (some ⟨b, off, none⟩) n2 c2
        | 3 => v = .int .i64 (t : Nat)
        | 4 => v = .pointer (some ⟨b, off + t * 266, none⟩)
        | 5 => v = .pointer (some ⟨b, off + t * 266, none⟩)
        | 6 => v = .pointer (some ⟨b, off + t * 266, none⟩)
        | 7 => v = .slice oa ma ka
        | 8 => v = .int .i64 (ma : Nat)
        | 9 => v = .pointer (some ⟨w.heap.size, 98, none⟩)
        | 10 => v = .slice (some ⟨b, off, none⟩) n2 c2
        | 11 => v = .int .i64 (t : Nat)
        | 12 => v = .pointer (some ⟨b, off + t * 266, none⟩)
        | 13 => v = .pointer (some ⟨b, off + t * 266 + 133, none⟩)
        | 14 => v = .pointer (some ⟨b, off + t * 266 + 133, none⟩)
        | 15 => v = .slice ob mb kb
        | 16 => v = .int .i64 (mb : Nat)
        | 17 => ∃ z, v = .int .i64 z
        | _ => ∃ z, v = .int .i64 z) (by kernel_rfl) (by kernel_rfl) (fun _ d _ _ _ h => by cases d <;> exact h) ?_ ?_ ?_ ?_ ?_
      · intro i o g b hi ho hg v wq hv
        match i, hi with
        | 0, _ => cases ho; cases hg
        | 1, _ => cases ho; cases hg
        | 2, _ => cases ho; cases hg
        | 3, _ => cases ho; cases hg
        | 4, _ => cases ho; cases hg
        | 5, _ => cases ho; cases hg
        | 6, _ => cases ho; cases hg
        | 7, _ => cases ho; cases hg
        | 8, _ => cases ho; cases hg
        | 9, _ => cases ho; cases hg
        | 10, _ => cases ho; cases hg
        | 11, _ => cases ho; cases hg
        | 12, _ => cases ho; cases hg
        | 13, _ => cases ho; cases hg
        | 14, _ => cases ho; cases hg
        | 15, _ => cases ho; cases hg
        | 16, _ => cases ho; cases hg
        | 17, _ => cases ho; cases hg
        | 18, _ => cases ho; cases hg
        | (k + 19), hk => exact absurd hk (by omega)
      · intro i v wq wq' hi hv hb
        match i, hi with
        | 0, _ => exact hv
        | 1, _ => exact hv
        | 2, _ => exact hv
        | 3, _ => exact hv
        | 4, _ => exact hv
        | 5, _ => exact hv
        | 6, _ => exact hv
        | 7, _ => exact hv
        | 8, _ => exact hv
        | 9, _ => exact hv
        | 10, _ => exact hv
        | 11, _ => exact hv
        | 12, _ => exact hv
        | 13, _ => exact hv
        | 14, _ => exact hv
        | 15, _ => exact hv
        | 16, _ => exact hv
        | 17, _ => exact hv
        | 18, _ => exact hv
        | (k + 19), hk => exact absurd hk (by omega)
      · intro i o hi ho aq wq hc hk hdep
        match i, hi with
        | 0, _ =>
          cases ho
          exact flow_move (.tmp 3) rfl (hk 3 (by decide))
        | 1, _ =>
          cases ho
          have e1 : aq.tmps.getD 1 undef = .pointer (some ⟨w.heap.size, 0, none⟩) := hk 1 (by decide)
          exact flow_value _ (run_fieldAt 33 (.tmp 1) 4 rfl _ _ e1 (by kernel_rfl)) rfl
        | 2, _ =>
          cases ho
          have e0 : aq.tmps.getD 32 undef = .pointer (some ⟨w.heap.size, 98, none⟩) := hdep 1 32 rfl (by kernel_rfl)
          exact flow_value _ (run_cell 28 (.tmp 32) rfl _ e0 _ (cell_keep (hcB hc) HC2.out) _ Tryd.underlying28 rfl) rfl
        | 3, _ =>
          cases ho
          exact flow_move (.tmp 4) rfl (hk 4 (by decide))
        | 4, _ =>
          cases ho
          have e0 : aq.tmps.getD 33 undef = .slice (some ⟨b, off, none⟩) n2 c2 := hdep 2 33 rfl (by kernel_rfl)
          have e1 : aq.tmps.getD 34 undef = .int .i64 (t : Nat) := hdep 3 34 rfl (by kernel_rfl)
          exact flow_value _ (run_atG 28 57 266 (.tmp 33) (.tmp 34) rfl Tryd.underlying28 (by kernel_rfl) b off n2 c2 t e0 e1 hlt) rfl
        | 5, _ =>
          cases ho
          have e0 : aq.tmps.getD 35 undef = .pointer (some ⟨b, off + t * 266, none⟩) := hdep 4 35 rfl (by kernel_rfl)
          exact flow_value _ (run_fieldAt 57 (.tmp 35) 0 rfl _ _ e0 (by kernel_rfl)) rfl
        | 6, _ =>
          cases ho
          have e0 : aq.tmps.getD 36 undef = .pointer (some ⟨b, off + t * 266, none⟩) := hdep 5 36 rfl (by kernel_rfl)
          exact flow_value _ (run_fieldAt 55 (.tmp 36) 0 rfl _ _ e0 (by kernel_rfl)) rfl
        | 7, _ =>
          cases ho
          have e0 : aq.tmps.getD 37 undef = .pointer (some ⟨b, off + t * 266, none⟩) := hdep 6 37 rfl (by kernel_rfl)
          exact flow_value _ (run_cell 51 (.tmp 37) rfl _ e0 _ (cell_keep (hcB hc) HEa.out) _ Tryd.underlying51 rfl) rfl
        | 8, _ =>
          cases ho
          have e0 : aq.tmps.getD 38 undef = .slice oa ma ka := hdep 7 38 rfl (by kernel_rfl)
          exact flow_value _ (run_len (.tmp 38) 51 rfl oa ma ka e0 _ Tryd.underlying51) rfl
        | 9, _ =>
          cases ho
          have e1 : aq.tmps.getD 1 undef = .pointer (some ⟨w.heap.size, 0, none⟩) := hk 1 (by decide)
          exact flow_value _ (run_fieldAt 33 (.tmp 1) 4 rfl _ _ e1 (by kernel_rfl)) rfl
        | 10, _ =>
          cases ho
          have e0 : aq.tmps.getD 40 undef = .pointer (some ⟨w.heap.size, 98, none⟩) := hdep 9 40 rfl (by kernel_rfl)
          exact flow_value _ (run_cell 28 (.tmp 40) rfl _ e0 _ (cell_keep (hcB hc) HC2.out) _ Tryd.underlying28 rfl) rfl
        | 11, _ =>
          cases ho
          exact flow_move (.tmp 4) rfl (hk 4 (by decide))
        | 12, _ =>
          cases ho
          have e0 : aq.tmps.getD 41 undef = .slice (some ⟨b, off, none⟩) n2 c2 := hdep 10 41 rfl (by kernel_rfl)
          have e1 : aq.tmps.getD 42 undef = .int .i64 (t : Nat) := hdep 11 42 rfl (by kernel_rfl)
          exact flow_value _ (run_atG 28 57 266 (.tmp 41) (.tmp 42) rfl Tryd.underlying28 (by kernel_rfl) b off n2 c2 t e0 e1 hlt) rfl
        | 13, _ =>
          cases ho
          have e0 : aq.tmps.getD 43 undef = .pointer (some ⟨b, off + t * 266, none⟩) := hdep 12 43 rfl (by kernel_rfl)
          exact flow_value _ (run_fieldAt 57 (.tmp 43) 1 rfl _ _ e0 (by kernel_rfl)) rfl
        | 14, _ =>
          cases ho
          have e0 : aq.tmps.getD 44 undef = .pointer (some ⟨b, off + t * 266 + 133, none⟩) := hdep 13 44 rfl (by kernel_rfl)
          exact flow_value _ (run_fieldAt 55 (.tmp 44) 0 rfl _ _ e0 (by kernel_rfl)) rfl
        | 15, _ =>
          cases ho
          have e0 : aq.tmps.getD 45 undef = .pointer (some ⟨b, off + t * 266 + 133, none⟩) := hdep 14 45 rfl (by kernel_rfl)
          exact flow_value _ (run_cell 51 (.tmp 45) rfl _ e0 _ (cell_keep (hcB hc) HEb.out) _ Tryd.underlying51 rfl) rfl
        | 16, _ =>
          cases ho
          have e0 : aq.tmps.getD 46 undef = .slice ob mb kb := hdep 15 46 rfl (by kernel_rfl)
          exact flow_value _ (run_len (.tmp 46) 51 rfl ob mb kb e0 _ Tryd.underlying51) rfl
        | 17, _ =>
          cases ho
          have e0 : aq.tmps.getD 39 undef = .int .i64 (ma : Nat) := hdep 8 39 rfl (by kernel_rfl)
          have e1 : aq.tmps.getD 47 undef = .int .i64 (mb : Nat) := hdep 16 47 rfl (by kernel_rfl)
          exact flow_value _ (run_addW (.tmp 39) (.tmp 47) rfl _ _ e0 e1) ⟨_, rfl⟩
        | 18, _ =>
          cases ho
          have e0 : aq.tmps.getD 31 undef = .int .i64 z := hdep 0 31 rfl (by kernel_rfl)
          obtain ⟨z1, e1⟩ := hdep 17 48 rfl (by kernel_rfl)
          exact flow_value _ (run_addW (.tmp 31) (.tmp 48) rfl _ _ e0 e1) ⟨_, rfl⟩
        | (k + 19), hk => exact absurd hk (by omega)
      · intro o h19 ho
        omega
      intro vf w9 hc hv
      obtain ⟨z9, e9⟩ : ∃ z, vf 18 = .int .i64 z := hv 18 49 (by decide) rfl
      have B9 := hid (HHW.out.trans ((hcB hc).mono HHW.out.size))
      clear hv hc
      simp only [List.take_succ_cons, List.take_zero, List.drop_succ_cons, List.drop_zero, putAll, Act.put, List.setIfInBounds_toArray, List.set_cons_succ, List.set_cons_zero]
      rw [e9]
      clear e9 HC2 HEa HEb
      go_wp2_with fail
      go_roundw
      case rel => exact ⟨z9, t + 1, rfl, by omega, by go_num, B9.out⟩
      case measure => simp [intOf]; omega
    · have ht2 : t = n2 := by omega
      subst ht2
      have k3' := cell_keep HW HK.out.2
      have HHW := hid HW
      clear HW
      go_wp2_with fail
      go_loopw [3, 5, 54] (fun n _ i wr => ∃ (z : Int) (t : Nat), n = .int .i64 z ∧ t ≤ n3 ∧ i = .int .i64 (t : Nat) ∧ Below w1.heap.size w1 wr) (fun _ _ i _ => n3 - (intOf i).toNat)
      case atStart => exact ⟨_, 0, rfl, Nat.zero_le _, rfl, HHW.out⟩
      case round =>
        clear k3'
        obtain ⟨z3, t3, rfl, ht3, rfl, HW3⟩ := hrel
        by_cases hlt3 : t3 < n3
        · obtain ⟨b, off, rfl, hma⟩ := HHC.out.resolve_left (by omega)
          obtain ⟨oa, ma, ka, ha⟩ := hma t3 hlt3
          have k3' := cell_keep HW3 HK.out.2
          have k3a := cell_keep HW3 (cell_keep L1.out ha)
          rw [Nat.add_zero] at k3a
          have HHW3 := hid HW3
          clear hma ha HW3
          go_wp2_with fail
          go_roundw
          case rel => exact ⟨_, t3 + 1, rfl, by omega, by go_num, HHW3.out⟩
          case measure => simp [intOf]; omega
        · have ht4 : t3 = n3 := by omega
          subst ht4
          have HHW3 := hid HW3
          clear HW3
          go_wp2
          go_ret
          exact ⟨⟨_, rfl⟩, L1.out.trans (HHW3.out.mono L1.out.size)⟩
end Go.Proofs.YtpkelkipmldfeaaDoor

/- Two roots compared. -/
namespace Go.Proofs.YtpkelkipmldfeaaDoor
open Go.RowKit
set_option linter.unusedVariables false
set_option linter.unusedSimpArgs false
set_option maxRecDepth 100000

theorem run_same_root {o : Oper} {a : Act} {w : World} (x y : Operand) (ho : o.op = .binOp .eql 24 x y 24) (r : List Nat) (hr : Rt r) (hx : a.eval x = .agg (nums .u8 r)) (hy : a.eval y = .agg (nums .u8 r)) : (execOp a.eval o).run Tryd.prog w = .ok (.value (.bool true)) w := by
  have h := eql_api r r hr.len hr.len hr.byte hr.byte w
  simp only [decide_true] at h
  unfold execOp
  simp only [ho, hx, hy]
  simp [go_sem, h]
end Go.Proofs.YtpkelkipmldfeaaDoor

/- RootBlockHeader answers true, over what Body and Big answer. -/
namespace Go.Proofs.YtpkelkipmldfeaaDoor
open Go.RowKit Go.Shelf
set_option linter.unusedVariables false
set_option linter.unusedSimpArgs false
set_option maxRecDepth 100000

theorem run_same_num {o : Oper} {a : Act} {w : World} (x y : Operand) (ho : o.op = .binOp .eql 22 x y 22) (n : Int) (hx : a.eval x = .int .u64 n) (hy : a.eval y = .int .u64 n) : (execOp a.eval o).run Tryd.prog w = .ok (.value (.bool true)) w := by
  unfold execOp
  simp only [ho, hx, hy]
  simp [go_sem]
set_option maxHeartbeats 40000000 in
theorem bh_walk (sl pr0 : Nat) (pa st : List Nat) (bc : List Value) (R : List Nat) (hsl : sl < 18446744073709551616) (hpr : pr0 < 18446744073709551616) (hpa : Rt pa) (hst : Rt st) (hbl : bc.length = 102) (w : World) (hT : Tabs w) (hB : RootOf 7 w bc R)
    (hBig : ∀ w', Below w.heap.size w w' → Calls Tryd.prog 5 #[.agg bc.toArray] w' fun e w'' => (∃ b, e = .returned (.bool b)) ∧ Below w'.heap.size w' w'') :
    Calls Tryd.prog 3 #[.agg (bkC sl pr0 pa st bc).toArray] w fun e w' => e = .returned (.bool true) ∧ Below w.heap.size w w' := by
  have hR := hB.rt
  have hW := hdR_rt sl pr0 pa st R hpa hst hR
  have hHl : (hdC sl pr0 pa st R).length = 98 := hdC_length sl pr0 pa st R hpa.len hst.len hR.len
  have hCl := bkC_length sl pr0 pa st bc hpa.len hst.len hbl
  have hH1 := hdC_one sl pr0 pa st R
  have HHD := hid (fun w (hT : Tabs w) => hdR_any sl pr0 pa st R hsl hpr hpa hst hR w hT)
  have HTH := hid (fun w1 (hb : Below w.heap.size w w1) => toHeader_any sl pr0 pa st bc R hpa hst hbl w1 (hB.keep hb))
  have HBK := hid (fun w1 (hb : Below w.heap.size w w1) => block_any sl pr0 pa st bc R hsl hpr hpa hst hbl w1 (hT.keep hb) (hB.keep hb))
  obtain ⟨W, HW⟩ : ∃ W, Same (hdR sl pr0 pa st R) W := ⟨_, ⟨rfl⟩⟩
  rw [HW.out] at hW HHD HBK
  have HR := hid hB
  have HBG := hid hBig
  have HTT := hid hT
  clear hB hBig
  go_enter Tryd.func3, Tryd.ntmps3
  go_wp2_with ((with_reducible refine at_list' ?_); first
    | (refine wpList_box_c rfl 1 rfl (.tmp 0) rfl (bkC sl pr0 pa st bc) rfl ?_; intro w1 H1 B1 S1))
  refine (awake_any w1 (hT.keep B1)).mono ?_
  rintro e w2 ⟨rfl, B2⟩
  have H2 := H1.keep B2
  have L2 := below_more B1 B2 (Nat.le_refl _)
  have hrg := hid (H2.range 66 bc (seg (ps := bkP sl pr0 pa st bc) (i := 4) (off := 66) rfl (by simp [bkP, cellsB_length, hpa.len, hst.len])))
  clear H1 B1 S1 B2 hT
  go_wp2_with ((with_reducible refine at_list' ?_); first
    | (refine wpList_run rfl (.agg bc.toArray) (run_mid 33 (.tmp 6) rfl w.heap.size 66 rfl bc hrg.out _ Tryd.underlying33 rfl (by rw [hbl]; kernel_rfl)) ?_))
  refine (HBG.out w2 L2).mono ?_
  rintro e w3 ⟨⟨big, rfl⟩, B3⟩
  have H3 := H2.keep B3
  have L3 := below_more L2 B3 (Nat.le_refl _)
  clear H2 L2 B3 hrg HBG
  cases big
  case true =>
    go_wp2_with fail
    go_ret
    exact ⟨rfl, L3⟩
  case false =>
  have HX := hid H3
  obtain ⟨C, HC⟩ : ∃ C, Same (bkC sl pr0 pa st bc) C := ⟨_, ⟨rfl⟩⟩
  rw [HC.out] at hCl HTH HBK H3 ⊢
  obtain ⟨H, HH⟩ : ∃ H, Same (hdC sl pr0 pa st R) H := ⟨_, ⟨rfl⟩⟩
  rw [HH.out] at hHl hH1 HTH HHD
  have HTW := hid (HTH.out w3 L3)
  have HXC3 := hid H3
  have HL3 := hid L3
  clear HTH L3
  go_wp2_with ((with_reducible refine at_list' ?_); first
    | (refine wpList_load_c tyBlock rfl (.tmp 1) rfl w.heap.size C rfl (by rw [hCl, zsBlock]) H3 ?_))
  refine HTW.out.mono ?_
  rintro e w4 ⟨rfl, B4⟩
  have HXC4 := hid (HXC3.out.keep B4)
  have HX4 := hid (HX.out.keep B4)
  have L4 := hid (below_more HL3.out B4 (Nat.le_refl _))
  clear HTW H3 HXC3 HX HL3 B4
  go_wp2_with ((with_reducible refine at_list' ?_); first
    | (refine wpList_alloc_c tyHeader rfl 3 rfl rfl ?_; intro w5 H5 B5 S5)
    | (refine wpList_store_c tyHeader rfl (.tmp 3) (.tmp 10) rfl w4.heap.size H rfl rfl (by rw [hHl, zsHeader]) hH1 _ H5 rfl ?_; intro w6 H6 O6))
  have B6 : Below w4.heap.size w4 w6 := below_only B5 O6 (Nat.le_refl _)
  have HXC := hid (HXC4.out.keep B6)
  have HX := hid (HX4.out.keep B6)
  have HYH := hid H6
  have hY := H6
  rw [← HH.out] at hY
  have HY := hid hY
  have HB := hid (below_more L4.out B6 (Nat.le_refl _))
  have HT := HTT
  clear HXC4 HX4 H5 B5 S5 H6 O6 hY L4 B6 HTT
  generalize w4.heap.size = g at *
  try simp only [Act.put, List.setIfInBounds_toArray, List.set_cons_succ, List.set_cons_zero]
  refine wp_region_flowM 41 41 (fun i v wq => match i with
    | 0 => v = .pointer (some ⟨g, 0, none⟩)
    | 1 => v = .int .u64 (sl : Nat)
    | 2 => v = .pointer (some ⟨w.heap.size, 0, none⟩)
    | 3 => v = .int .u64 (sl : Nat)
    | 4 => v = .bool true
    | 5 => v = .bool true
    | 6 => v = .pointer (some ⟨g, 1, none⟩)
    | 7 => v = .int .u64 (pr0 : Nat)
    | 8 => v = .pointer (some ⟨w.heap.size, 1, none⟩)
    | 9 => v = .int .u64 (pr0 : Nat)
    | 10 => v = .bool true
    | 11 => v = .bool true
    | 12 => v = .bool true
    | 13 => v = .pointer (some ⟨g, 2, none⟩)
    | 14 => v = .agg (nums .u8 pa)
    | 15 => v = .pointer (some ⟨w.heap.size, 2, none⟩)
    | 16 => v = .agg (nums .u8 pa)
    | 17 => v = .bool true
    | 18 => v = .bool true
    | 19 => v = .bool true
    | 20 => v = .pointer (some ⟨g, 34, none⟩)
    | 21 => v = .agg (nums .u8 st)
    | 22 => v = .pointer (some ⟨w.heap.size, 34, none⟩)
    | 23 => v = .agg (nums .u8 st)
    | 24 => v = .bool true
    | 25 => v = .bool true
    | 26 => v = .bool true
    | 27 => v = .pointer (some ⟨g, 66, none⟩)
    | 28 => v = .agg (nums .u8 R)
    | 29 => v = .pointer (some ⟨w.heap.size, 66, none⟩)
    | 30 => v = .agg bc.toArray
    | 31 => v = .agg (nums .u8 R)
    | 32 => v = .bool true
    | 33 => v = .bool true
    | 34 => v = .bool true
    | 35 => v = .agg H.toArray
    | 36 => v = .agg (nums .u8 W)
    | 37 => v = .agg C.toArray
    | 38 => v = .agg (nums .u8 W)
    | 39 => v = .bool true
    | _ => v = .bool true) (by kernel_rfl) (by kernel_rfl) (fun _ d _ _ _ h => by cases d <;> exact h) ?_ ?_ ?_ ?_ ?_
  · intro i o g b hi ho hg v wq hv
    match i, hi with
    | 0, _ => cases ho; cases hg
    | 1, _ => cases ho; cases hg
    | 2, _ => cases ho; cases hg
    | 3, _ => cases ho; cases hg
    | 4, _ => cases ho; cases hg
    | 5, _ => cases ho; cases hg
    | 6, _ => cases ho; cases hg; exact hv
    | 7, _ => cases ho; cases hg; exact hv
    | 8, _ => cases ho; cases hg; exact hv
    | 9, _ => cases ho; cases hg; exact hv
    | 10, _ => cases ho; cases hg; exact hv
    | 11, _ => cases ho; cases hg
    | 12, _ => cases ho; cases hg
    | 13, _ => cases ho; cases hg; exact hv
    | 14, _ => cases ho; cases hg; exact hv
    | 15, _ => cases ho; cases hg; exact hv
    | 16, _ => cases ho; cases hg; exact hv
    | 17, _ => cases ho; cases hg; exact hv
    | 18, _ => cases ho; cases hg
    | 19, _ => cases ho; cases hg
    | 20, _ => cases ho; cases hg; exact hv
    | 21, _ => cases ho; cases hg; exact hv
    | 22, _ => cases ho; cases hg; exact hv
    | 23, _ => cases ho; cases hg; exact hv
    | 24, _ => cases ho; cases hg; exact hv
    | 25, _ => cases ho; cases hg
    | 26, _ => cases ho; cases hg
    | 27, _ => cases ho; cases hg; exact hv
    | 28, _ => cases ho; cases hg; exact hv
    | 29, _ => cases ho; cases hg; exact hv
    | 30, _ => cases ho; cases hg; exact hv
    | 31, _ => cases ho; cases hg; exact hv
    | 32, _ => cases ho; cases hg; exact hv
    | 33, _ => cases ho; cases hg
    | 34, _ => cases ho; cases hg
    | 35, _ => cases ho; cases hg; exact hv
    | 36, _ => cases ho; cases hg; exact hv
    | 37, _ => cases ho; cases hg; exact hv
    | 38, _ => cases ho; cases hg; exact hv
    | 39, _ => cases ho; cases hg; exact hv
    | 40, _ => cases ho; cases hg
    | (k + 41), hk => exact absurd hk (by omega)
  · intro i v wq wq' hi hv hb
    match i, hi with
    | 0, _ => exact hv
    | 1, _ => exact hv
    | 2, _ => exact hv
    | 3, _ => exact hv
    | 4, _ => exact hv
    | 5, _ => exact hv
    | 6, _ => exact hv
    | 7, _ => exact hv
    | 8, _ => exact hv
    | 9, _ => exact hv
    | 10, _ => exact hv
    | 11, _ => exact hv
    | 12, _ => exact hv
    | 13, _ => exact hv
    | 14, _ => exact hv
    | 15, _ => exact hv
    | 16, _ => exact hv
    | 17, _ => exact hv
    | 18, _ => exact hv
    | 19, _ => exact hv
    | 20, _ => exact hv
    | 21, _ => exact hv
    | 22, _ => exact hv
    | 23, _ => exact hv
    | 24, _ => exact hv
    | 25, _ => exact hv
    | 26, _ => exact hv
    | 27, _ => exact hv
    | 28, _ => exact hv
    | 29, _ => exact hv
    | 30, _ => exact hv
    | 31, _ => exact hv
    | 32, _ => exact hv
    | 33, _ => exact hv
    | 34, _ => exact hv
    | 35, _ => exact hv
    | 36, _ => exact hv
    | 37, _ => exact hv
    | 38, _ => exact hv
    | 39, _ => exact hv
    | 40, _ => exact hv
    | (k + 41), hk => exact absurd hk (by omega)
  · intro i o hi ho aq wq hc hk hdep
    match i, hi with
    | 0, _ =>
      cases ho
      have e1 : aq.tmps.getD 3 undef = .pointer (some ⟨g, 0, none⟩) := hk 3 (by decide)
      exact flow_value _ (run_fieldAt 39 (.tmp 3) 0 rfl _ _ e1 (by kernel_rfl)) rfl
    | 1, _ =>
      cases ho
      have e0 : aq.tmps.getD 11 undef = .pointer (some ⟨g, 0, none⟩) := hdep 0 11 rfl (by kernel_rfl)
      exact flow_value _ (run_cell 22 (.tmp 11) rfl _ e0 _ ((HY.out.keep (hcB hc)).cell (seg (ps := hdP sl pr0 pa st R) (i := 0) (off := 0) rfl (by simp [hdP, cellsB_length, hpa.len, hst.len]) 0 _ rfl)) _ Tryd.underlying22 rfl) rfl
    | 2, _ =>
      cases ho
      have e1 : aq.tmps.getD 1 undef = .pointer (some ⟨w.heap.size, 0, none⟩) := hk 1 (by decide)
      exact flow_value _ (run_fieldAt 35 (.tmp 1) 0 rfl _ _ e1 (by kernel_rfl)) rfl
    | 3, _ =>
      cases ho
      have e0 : aq.tmps.getD 13 undef = .pointer (some ⟨w.heap.size, 0, none⟩) := hdep 2 13 rfl (by kernel_rfl)
      exact flow_value _ (run_cell 22 (.tmp 13) rfl _ e0 _ ((HX.out.keep (hcB hc)).cell (seg (ps := bkP sl pr0 pa st bc) (i := 0) (off := 0) rfl (by simp [bkP, cellsB_length, hpa.len, hst.len]) 0 _ rfl)) _ Tryd.underlying22 rfl) rfl
    | 4, _ =>
      cases ho
      have e0 : aq.tmps.getD 12 undef = .int .u64 (sl : Nat) := hdep 1 12 rfl (by kernel_rfl)
      have e1 : aq.tmps.getD 14 undef = .int .u64 (sl : Nat) := hdep 3 14 rfl (by kernel_rfl)
      exact flow_value _ (run_same_num (.tmp 12) (.tmp 14) rfl _ e0 e1) rfl
    | 5, _ =>
      cases ho
      exact flow_move (.tmp 15) rfl (hdep 4 15 rfl (by kernel_rfl))
    | 6, _ =>
      cases ho
      have e1 : aq.tmps.getD 3 undef = .pointer (some ⟨g, 0, none⟩) := hk 3 (by decide)
      exact flow_value _ (run_fieldAt 39 (.tmp 3) 1 rfl _ _ e1 (by kernel_rfl)) rfl
    | 7, _ =>
      cases ho
      have e0 : aq.tmps.getD 17 undef = .pointer (some ⟨g, 1, none⟩) := hdep 6 17 rfl (by kernel_rfl)
      exact flow_value _ (run_cell 22 (.tmp 17) rfl _ e0 _ ((HY.out.keep (hcB hc)).cell (seg (ps := hdP sl pr0 pa st R) (i := 1) (off := 1) rfl (by simp [hdP, cellsB_length, hpa.len, hst.len]) 0 _ rfl)) _ Tryd.underlying22 rfl) rfl
    | 8, _ =>
      cases ho
      have e1 : aq.tmps.getD 1 undef = .pointer (some ⟨w.heap.size, 0, none⟩) := hk 1 (by decide)
      exact flow_value _ (run_fieldAt 35 (.tmp 1) 1 rfl _ _ e1 (by kernel_rfl)) rfl
    | 9, _ =>
      cases ho
      have e0 : aq.tmps.getD 19 undef = .pointer (some ⟨w.heap.size, 1, none⟩) := hdep 8 19 rfl (by kernel_rfl)
      exact flow_value _ (run_cell 22 (.tmp 19) rfl _ e0 _ ((HX.out.keep (hcB hc)).cell (seg (ps := bkP sl pr0 pa st bc) (i := 1) (off := 1) rfl (by simp [bkP, cellsB_length, hpa.len, hst.len]) 0 _ rfl)) _ Tryd.underlying22 rfl) rfl
    | 10, _ =>
      cases ho
      have e0 : aq.tmps.getD 18 undef = .int .u64 (pr0 : Nat) := hdep 7 18 rfl (by kernel_rfl)
      have e1 : aq.tmps.getD 20 undef = .int .u64 (pr0 : Nat) := hdep 9 20 rfl (by kernel_rfl)
      exact flow_value _ (run_same_num (.tmp 18) (.tmp 20) rfl _ e0 e1) rfl
    | 11, _ =>
      cases ho
      have e0 : aq.tmps.getD 16 undef = .bool true := hdep 5 16 rfl (by kernel_rfl)
      have e1 : aq.tmps.getD 21 undef = .bool true := hdep 10 21 rfl (by kernel_rfl)
      have e0' : aq.tmps[16]?.getD undef = .bool true := by simpa using e0
      have e1' : aq.tmps[21]?.getD undef = .bool true := by simpa using e1
      refine flow_value (.bool true) ?_ rfl
      unfold execOp
      simp [e0', e1', go_sem, Act.eval]
    | 12, _ =>
      cases ho
      exact flow_move (.tmp 22) rfl (hdep 11 22 rfl (by kernel_rfl))
    | 13, _ =>
      cases ho
      have e1 : aq.tmps.getD 3 undef = .pointer (some ⟨g, 0, none⟩) := hk 3 (by decide)
      exact flow_value _ (run_fieldAt 39 (.tmp 3) 2 rfl _ _ e1 (by kernel_rfl)) rfl
    | 14, _ =>
      cases ho
      have e0 : aq.tmps.getD 24 undef = .pointer (some ⟨g, 2, none⟩) := hdep 13 24 rfl (by kernel_rfl)
      exact flow_value _ (run_mid 24 (.tmp 24) rfl g 2 e0 (cellsB pa) ((HY.out.keep (hcB hc)).range 2 (cellsB pa) (seg (ps := hdP sl pr0 pa st R) (i := 2) (off := 2) rfl (by simp [hdP, cellsB_length, hpa.len, hst.len]))) _ Tryd.und24 rfl (by rw [cellsB_length, hpa.len]; exact Tryd.size24)) rfl
    | 15, _ =>
      cases ho
      have e1 : aq.tmps.getD 1 undef = .pointer (some ⟨w.heap.size, 0, none⟩) := hk 1 (by decide)
      exact flow_value _ (run_fieldAt 35 (.tmp 1) 2 rfl _ _ e1 (by kernel_rfl)) rfl
    | 16, _ =>
      cases ho
      have e0 : aq.tmps.getD 26 undef = .pointer (some ⟨w.heap.size, 2, none⟩) := hdep 15 26 rfl (by kernel_rfl)
      exact flow_value _ (run_mid 24 (.tmp 26) rfl w.heap.size 2 e0 (cellsB pa) ((HX.out.keep (hcB hc)).range 2 (cellsB pa) (seg (ps := bkP sl pr0 pa st bc) (i := 2) (off := 2) rfl (by simp [bkP, cellsB_length, hpa.len, hst.len]))) _ Tryd.und24 rfl (by rw [cellsB_length, hpa.len]; exact Tryd.size24)) rfl
    | 17, _ =>
      cases ho
      have e0 : aq.tmps.getD 25 undef = .agg (nums .u8 pa) := hdep 14 25 rfl (by kernel_rfl)
      have e1 : aq.tmps.getD 27 undef = .agg (nums .u8 pa) := hdep 16 27 rfl (by kernel_rfl)
      exact flow_value _ (run_same_root (.tmp 25) (.tmp 27) rfl pa hpa e0 e1) rfl
    | 18, _ =>
      cases ho
      have e0 : aq.tmps.getD 23 undef = .bool true := hdep 12 23 rfl (by kernel_rfl)
      have e1 : aq.tmps.getD 28 undef = .bool true := hdep 17 28 rfl (by kernel_rfl)
      have e0' : aq.tmps[23]?.getD undef = .bool true := by simpa using e0
      have e1' : aq.tmps[28]?.getD undef = .bool true := by simpa using e1
      refine flow_value (.bool true) ?_ rfl
      unfold execOp
      simp [e0', e1', go_sem, Act.eval]
    | 19, _ =>
      cases ho
      exact flow_move (.tmp 29) rfl (hdep 18 29 rfl (by kernel_rfl))
    | 20, _ =>
      cases ho
      have e1 : aq.tmps.getD 3 undef = .pointer (some ⟨g, 0, none⟩) := hk 3 (by decide)
      exact flow_value _ (run_fieldAt 39 (.tmp 3) 3 rfl _ _ e1 (by kernel_rfl)) rfl
    | 21, _ =>
      cases ho
      have e0 : aq.tmps.getD 31 undef = .pointer (some ⟨g, 34, none⟩) := hdep 20 31 rfl (by kernel_rfl)
      exact flow_value _ (run_mid 24 (.tmp 31) rfl g 34 e0 (cellsB st) ((HY.out.keep (hcB hc)).range 34 (cellsB st) (seg (ps := hdP sl pr0 pa st R) (i := 3) (off := 34) rfl (by simp [hdP, cellsB_length, hpa.len, hst.len]))) _ Tryd.und24 rfl (by rw [cellsB_length, hst.len]; exact Tryd.size24)) rfl
    | 22, _ =>
      cases ho
      have e1 : aq.tmps.getD 1 undef = .pointer (some ⟨w.heap.size, 0, none⟩) := hk 1 (by decide)
      exact flow_value _ (run_fieldAt 35 (.tmp 1) 3 rfl _ _ e1 (by kernel_rfl)) rfl
    | 23, _ =>
      cases ho
      have e0 : aq.tmps.getD 33 undef = .pointer (some ⟨w.heap.size, 34, none⟩) := hdep 22 33 rfl (by kernel_rfl)
      exact flow_value _ (run_mid 24 (.tmp 33) rfl w.heap.size 34 e0 (cellsB st) ((HX.out.keep (hcB hc)).range 34 (cellsB st) (seg (ps := bkP sl pr0 pa st bc) (i := 3) (off := 34) rfl (by simp [bkP, cellsB_length, hpa.len, hst.len]))) _ Tryd.und24 rfl (by rw [cellsB_length, hst.len]; exact Tryd.size24)) rfl
    | 24, _ =>
      cases ho
      have e0 : aq.tmps.getD 32 undef = .agg (nums .u8 st) := hdep 21 32 rfl (by kernel_rfl)
      have e1 : aq.tmps.getD 34 undef = .agg (nums .u8 st) := hdep 23 34 rfl (by kernel_rfl)
      exact flow_value _ (run_same_root (.tmp 32) (.tmp 34) rfl st hst e0 e1) rfl
    | 25, _ =>
      cases ho
      have e0 : aq.tmps.getD 30 undef = .bool true := hdep 19 30 rfl (by kernel_rfl)
      have e1 : aq.tmps.getD 35 undef = .bool true := hdep 24 35 rfl (by kernel_rfl)
      have e0' : aq.tmps[30]?.getD undef = .bool true := by simpa using e0
      have e1' : aq.tmps[35]?.getD undef = .bool true := by simpa using e1
      refine flow_value (.bool true) ?_ rfl
      unfold execOp
      simp [e0', e1', go_sem, Act.eval]
    | 26, _ =>
      cases ho
      exact flow_move (.tmp 36) rfl (hdep 25 36 rfl (by kernel_rfl))
    | 27, _ =>
      cases ho
      have e1 : aq.tmps.getD 3 undef = .pointer (some ⟨g, 0, none⟩) := hk 3 (by decide)
      exact flow_value _ (run_fieldAt 39 (.tmp 3) 4 rfl _ _ e1 (by kernel_rfl)) rfl
    | 28, _ =>
      cases ho
      have e0 : aq.tmps.getD 38 undef = .pointer (some ⟨g, 66, none⟩) := hdep 27 38 rfl (by kernel_rfl)
      exact flow_value _ (run_mid 24 (.tmp 38) rfl g 66 e0 (cellsB R) ((HY.out.keep (hcB hc)).range 66 (cellsB R) (seg (ps := hdP sl pr0 pa st R) (i := 4) (off := 66) rfl (by simp [hdP, cellsB_length, hpa.len, hst.len]))) _ Tryd.und24 rfl (by rw [cellsB_length, hR.len]; exact Tryd.size24)) rfl
    | 29, _ =>
      cases ho
      have e1 : aq.tmps.getD 1 undef = .pointer (some ⟨w.heap.size, 0, none⟩) := hk 1 (by decide)
      exact flow_value _ (run_fieldAt 35 (.tmp 1) 4 rfl _ _ e1 (by kernel_rfl)) rfl
    | 30, _ =>
      cases ho
      have e0 : aq.tmps.getD 40 undef = .pointer (some ⟨w.heap.size, 66, none⟩) := hdep 29 40 rfl (by kernel_rfl)
      exact flow_value _ (run_mid 33 (.tmp 40) rfl w.heap.size 66 e0 bc ((HX.out.keep (hcB hc)).range 66 bc (seg (ps := bkP sl pr0 pa st bc) (i := 4) (off := 66) rfl (by simp [bkP, cellsB_length, hpa.len, hst.len]))) _ Tryd.underlying33 rfl (by rw [hbl]; kernel_rfl)) rfl
    | 31, _ =>
      cases ho
      have e0 : aq.tmps.getD 41 undef = .agg bc.toArray := hdep 30 41 rfl (by kernel_rfl)
      refine flow_fun 7 _ _ rfl (fun _ _ => by simp [go_sem]) #[.agg bc.toArray] (by rw [show (#[Operand.tmp 41] : Array Operand).map aq.eval = #[aq.tmps.getD 41 undef] from by simp [Act.eval], e0]) ?_
      refine (HR.out.call wq (HB.out.trans ((hcB hc).mono HB.out.size))).mono ?_
      rintro x w' ⟨rfl, q⟩
      exact ⟨_, rfl, rfl, q⟩
    | 32, _ =>
      cases ho
      have e0 : aq.tmps.getD 39 undef = .agg (nums .u8 R) := hdep 28 39 rfl (by kernel_rfl)
      have e1 : aq.tmps.getD 42 undef = .agg (nums .u8 R) := hdep 31 42 rfl (by kernel_rfl)
      exact flow_value _ (run_same_root (.tmp 39) (.tmp 42) rfl R hR e0 e1) rfl
    | 33, _ =>
      cases ho
      have e0 : aq.tmps.getD 37 undef = .bool true := hdep 26 37 rfl (by kernel_rfl)
      have e1 : aq.tmps.getD 43 undef = .bool true := hdep 32 43 rfl (by kernel_rfl)
      have e0' : aq.tmps[37]?.getD undef = .bool true := by simpa using e0
      have e1' : aq.tmps[43]?.getD undef = .bool true := by simpa using e1
      refine flow_value (.bool true) ?_ rfl
      unfold execOp
      simp [e0', e1', go_sem, Act.eval]
    | 34, _ =>
      cases ho
      exact flow_move (.tmp 44) rfl (hdep 33 44 rfl (by kernel_rfl))
    | 35, _ =>
      cases ho
      have e0 : aq.tmps.getD 3 undef = .pointer (some ⟨g, 0, none⟩) := hk 3 (by decide)
      exact flow_value _ (run_mid 39 (.tmp 3) rfl g 0 e0 H ((HYH.out.keep (hcB hc)).range 0 H (fun j v hv => by rw [Nat.zero_add]; exact hv)) _ Tryd.underlying39 rfl (by rw [hHl]; kernel_rfl)) rfl
    | 36, _ =>
      cases ho
      have e0 : aq.tmps.getD 46 undef = .agg H.toArray := hdep 35 46 rfl (by kernel_rfl)
      refine flow_fun 8 _ _ rfl (fun _ _ => by simp [go_sem]) #[.agg H.toArray] (by rw [show (#[Operand.tmp 46] : Array Operand).map aq.eval = #[aq.tmps.getD 46 undef] from by simp [Act.eval], e0]) ?_
      refine (HHD.out wq (HT.out.keep (HB.out.trans ((hcB hc).mono HB.out.size)))).mono ?_
      rintro x w' ⟨rfl, q⟩
      exact ⟨_, rfl, rfl, q⟩
    | 37, _ =>
      cases ho
      have e0 : aq.tmps.getD 1 undef = .pointer (some ⟨w.heap.size, 0, none⟩) := hk 1 (by decide)
      exact flow_value _ (run_mid 35 (.tmp 1) rfl w.heap.size 0 e0 C ((HXC.out.keep (hcB hc)).range 0 C (fun j v hv => by rw [Nat.zero_add]; exact hv)) _ Tryd.underlying35 rfl (by rw [hCl]; kernel_rfl)) rfl
    | 38, _ =>
      cases ho
      have e0 : aq.tmps.getD 48 undef = .agg C.toArray := hdep 37 48 rfl (by kernel_rfl)
      refine flow_fun 9 _ _ rfl (fun _ _ => by simp [go_sem]) #[.agg C.toArray] (by rw [show (#[Operand.tmp 48] : Array Operand).map aq.eval = #[aq.tmps.getD 48 undef] from by simp [Act.eval], e0]) ?_
      refine (HBK.out wq (HB.out.trans ((hcB hc).mono HB.out.size))).mono ?_
      rintro x w' ⟨rfl, q⟩
      exact ⟨_, rfl, rfl, q⟩
    | 39, _ =>
      cases ho
      have e0 : aq.tmps.getD 47 undef = .agg (nums .u8 W) := hdep 36 47 rfl (by kernel_rfl)
      have e1 : aq.tmps.getD 49 undef = .agg (nums .u8 W) := hdep 38 49 rfl (by kernel_rfl)
      exact flow_value _ (run_same_root (.tmp 47) (.tmp 49) rfl W hW e0 e1) rfl
    | 40, _ =>
      cases ho
      have e0 : aq.tmps.getD 45 undef = .bool true := hdep 34 45 rfl (by kernel_rfl)
      have e1 : aq.tmps.getD 50 undef = .bool true := hdep 39 50 rfl (by kernel_rfl)
      have e0' : aq.tmps[45]?.getD undef = .bool true := by simpa using e0
      have e1' : aq.tmps[50]?.getD undef = .bool true := by simpa using e1
      refine flow_value (.bool true) ?_ rfl
      unfold execOp
      simp [e0', e1', go_sem, Act.eval]
    | (k + 41), hk => exact absurd hk (by omega)
  · intro o h41 ho
    omega
  intro vf w9 hc hv
  have e40 : vf 40 = .bool true := hv 40 51 (by decide) rfl
  have B9 := HB.out.trans ((hcB hc).mono HB.out.size)
  clear hv hc
  simp only [List.take_succ_cons, List.take_zero, List.drop_succ_cons, List.drop_zero, putAll, Act.put, List.setIfInBounds_toArray, List.set_cons_succ, List.set_cons_zero]
  rw [e40]
  have HB9 := hid B9
  clear B9 e40 HB HX HXC HY HYH HT HHD HBK HR
  go_wp2_with fail
  go_ret
  exact ⟨rfl, HB9.out⟩
end Go.Proofs.YtpkelkipmldfeaaDoor

/- From the rows' condition on the two tables to what the contracts ask of them. -/
namespace Go.Proofs.YtpkelkipmldfeaaDoor
open Go.RowKit
set_option linter.unusedVariables false
set_option maxRecDepth 100000

def laidTwo : List (String × DataW Unit) := [("keystone/digest.starts", Rows.laid_keystone_digest_starts), ("keystone/digest.rounds", Rows.laid_keystone_digest_rounds)]
theorem gStarts : Tryd.prog.globalNamed "keystone/digest.starts" = some 0 := by kernel_rfl
theorem gRounds : Tryd.prog.globalNamed "keystone/digest.rounds" = some 1 := by kernel_rfl
theorem tStarts : (Tryd.prog.globals[0]?).map (·.type) = some 112 := by kernel_rfl
theorem tRounds : (Tryd.prog.globals[1]?).map (·.type) = some 125 := by kernel_rfl
theorem dStarts {H : Type} : (Rows.laid_keystone_digest_starts : DataW H) = Lib.tabData .u32 (startNums.map fun n : Nat => (n : Int)) := rfl
theorem dRounds {H : Type} : (Rows.laid_keystone_digest_rounds : DataW H) = Lib.tabData .u32 (kNums.map fun n : Nat => (n : Int)) := rfl

theorem tabs_of_laid {W : World} (h : laidMetH Tryd.prog laidTwo W) : Tabs W := by
  rw [MakeChecks.laidMetH_plain _ _ _ (by kernel_rfl)] at h
  have h1 := Lib.laidMet.reads h (n := "keystone/digest.starts") (d := Rows.laid_keystone_digest_starts) (.head _)
  have h2 := Lib.laidMet.reads h (n := "keystone/digest.rounds") (d := Rows.laid_keystone_digest_rounds) (.tail _ (.head _))
  refine ⟨fun i hi => ?_, fun i hi => ?_⟩
  · obtain ⟨g, t, cs, fuel, p, hg, hty, hvar, hd⟩ := h1
    obtain rfl := Option.some.inj (gStarts.symm.trans hg)
    obtain rfl := Option.some.inj (tStarts.symm.trans hty)
    rw [dStarts] at hd
    have hcs := Lib.cells_of_tab Tryd.underlying112 Tryd.underlying111 (by kernel_rfl) (by kernel_rfl) hd
    rw [World.var?_cell hg hvar i, ← Array.getElem?_toList, hcs, List.map_map, List.getElem?_map]
    have hl : i < startNums.length := hi
    rw [List.getElem?_eq_getElem hl]
    simp [hl]
  · obtain ⟨g, t, cs, fuel, p, hg, hty, hvar, hd⟩ := h2
    obtain rfl := Option.some.inj (gRounds.symm.trans hg)
    obtain rfl := Option.some.inj (tRounds.symm.trans hty)
    rw [dRounds] at hd
    have hcs := Lib.cells_of_tab Tryd.underlying125 Tryd.underlying111 (by kernel_rfl) (by kernel_rfl) hd
    rw [World.var?_cell hg hvar i, ← Array.getElem?_toList, hcs, List.map_map, List.getElem?_map]
    have hl : i < kNums.length := hi
    rw [List.getElem?_eq_getElem hl]
    simp [hl]
end Go.Proofs.YtpkelkipmldfeaaDoor

/- The root of a struct (DepositData), by the program. -/
namespace Go.Proofs.YtpkelkipmldfeaaDoor
open Go.RowKit Go.Shelf
set_option linter.unusedVariables false
set_option linter.unusedSimpArgs false
set_option maxRecDepth 100000

def ddP (zk : List Nat) (zcr : List Nat) (zam : Nat) (zsg : List Nat) : List (List Value) := [cellsB zk, cellsB zcr, [.int .u64 (zam : Nat)], cellsB zsg]
def ddC (zk : List Nat) (zcr : List Nat) (zam : Nat) (zsg : List Nat) : List Value := (ddP zk zcr zam zsg).flatten
theorem ddC_length (zk : List Nat) (zcr : List Nat) (zam : Nat) (zsg : List Nat) (hzk : zk.length = 32) (hzcr : zcr.length = 32) (hzsg : zsg.length = 32) : (ddC zk zcr zam zsg).length = 97 := by simp [ddC, ddP, cellsB_length, hzk, hzcr, hzsg]
def ddR (zk : List Nat) (zcr : List Nat) (zam : Nat) (zsg : List Nat) : List Nat := fullR (depth (([zk, zcr, wUp zam 8, zsg] : List (List Nat)).length : Nat)) [zk, zcr, wUp zam 8, zsg]
theorem ddR_rt (zk : List Nat) (zcr : List Nat) (zam : Nat) (zsg : List Nat) (hzk : Rt zk) (hzcr : Rt zcr) (hzsg : Rt zsg) : Rt (ddR zk zcr zam zsg) := full_rt _ _ (Rts.more hzk (Rts.more hzcr (Rts.more (wUp_rt zam 8) (Rts.more hzsg Rts.nil))))
set_option maxHeartbeats 2000000 in
theorem ddR_any (zk : List Nat) (zcr : List Nat) (zam : Nat) (zsg : List Nat) (hzk : Rt zk) (hzcr : Rt zcr) (hzam : zam < 18446744073709551616) (hzsg : Rt zsg) (w : World) (hT : Tabs w) :
    Calls Tryd.prog 39 #[.agg (ddC zk zcr zam zsg).toArray] w fun x w' => x = .returned (.agg (nums .u8 (ddR zk zcr zam zsg))) ∧ Below w.heap.size w w' := by
  have hfr := ddR_rt zk zcr zam zsg hzk hzcr hzsg
  obtain ⟨W, HW⟩ : ∃ W, Hid (ddR zk zcr zam zsg = W) := ⟨_, hid rfl⟩
  rw [HW.out] at hfr ⊢
  go_enter Tryd.func39, Tryd.ntmps39
  go_wp2_with ((with_reducible refine at_list' ?_); first
    | (refine wpList_box_c rfl 1 rfl (.tmp 0) rfl (ddC zk zcr zam zsg) rfl ?_; intro w1 H1 B1 S1)
    | (refine wpList_alloc_has rfl 2 rfl 24 rfl .u8 32 Tryd.zero24 ?_; intro w2 H2 B2 S2; rw [S1] at H2 S2; rw [S1]))
  have HX := hid (H1.keep B2)
  have HY := hid H2
  have HB := hid (B1.trans (B2.mono (by omega)))
  have HT := hid (hT.keep HB.out)
  have s2 : w2.heap.size = w.heap.size + 2 := by omega
  clear H1 B1 S1 H2 B2 S2
  try simp only [Act.put, List.setIfInBounds_toArray, List.set_cons_succ, List.set_cons_zero]
  refine wp_region_flow 11 11 (fun i v wq => match i with
    | 0 => v = .pointer (some ⟨w.heap.size, 0, none⟩)
    | 1 => v = .agg (nums .u8 zk)
    | 2 => v = .pointer (some ⟨w.heap.size, 32, none⟩)
    | 3 => v = .agg (nums .u8 zcr)
    | 4 => v = .pointer (some ⟨w.heap.size, 64, none⟩)
    | 5 => v = .int .u64 (zam : Nat)
    | 6 => v = .agg (nums .u8 (wUp zam 8))
    | 7 => v = .pointer (some ⟨w.heap.size, 65, none⟩)
    | 8 => v = .agg (nums .u8 zsg)
    | 9 => ∃ b, v = .slice (some ⟨b, 0, none⟩) 4 4 ∧ RootsAt wq (some ⟨b, 0, none⟩) [zk, zcr, wUp zam 8, zsg]
    | _ => v = .agg (nums .u8 W)) (by kernel_rfl) (by kernel_rfl) (fun _ d _ _ _ h => by cases d <;> exact h) ?_ ?_ ?_ ?_
  · intro i v wq wq' hi hv hb
    match i, hi with
    | 0, _ => exact hv
    | 1, _ => exact hv
    | 2, _ => exact hv
    | 3, _ => exact hv
    | 4, _ => exact hv
    | 5, _ => exact hv
    | 6, _ => exact hv
    | 7, _ => exact hv
    | 8, _ => exact hv
    | 9, _ => obtain ⟨b, h1, h2⟩ := hv; exact ⟨b, h1, h2.keep hb⟩
    | 10, _ => exact hv
    | (k + 11), hk => exact absurd hk (by omega)
  · intro i o hi ho aq wq hc hk hdep
    match i, hi with
    | 0, _ =>
      cases ho
      have e1 : aq.tmps.getD 1 undef = .pointer (some ⟨w.heap.size, 0, none⟩) := hk 1 (by decide)
      exact flow_value _ (run_fieldAt 76 (.tmp 1) 0 rfl _ _ e1 (by kernel_rfl)) rfl
    | 1, _ =>
      cases ho
      have e0 : aq.tmps.getD 3 undef = .pointer (some ⟨w.heap.size, 0, none⟩) := hdep 0 3 rfl (by kernel_rfl)
      exact flow_value _ (run_mid 24 (.tmp 3) rfl w.heap.size 0 e0 (cellsB zk) ((HX.out.keep (hcB hc)).range 0 (cellsB zk) (seg (ps := ddP zk zcr zam zsg) (i := 0) (off := 0) rfl (by simp [ddP, cellsB_length, hzk.len, hzcr.len, hzsg.len]))) _ Tryd.und24 rfl (by rw [cellsB_length, hzk.len]; exact Tryd.size24)) rfl
    | 2, _ =>
      cases ho
      have e1 : aq.tmps.getD 1 undef = .pointer (some ⟨w.heap.size, 0, none⟩) := hk 1 (by decide)
      exact flow_value _ (run_fieldAt 76 (.tmp 1) 1 rfl _ _ e1 (by kernel_rfl)) rfl
    | 3, _ =>
      cases ho
      have e0 : aq.tmps.getD 5 undef = .pointer (some ⟨w.heap.size, 32, none⟩) := hdep 2 5 rfl (by kernel_rfl)
      exact flow_value _ (run_mid 24 (.tmp 5) rfl w.heap.size 32 e0 (cellsB zcr) ((HX.out.keep (hcB hc)).range 32 (cellsB zcr) (seg (ps := ddP zk zcr zam zsg) (i := 1) (off := 32) rfl (by simp [ddP, cellsB_length, hzk.len, hzcr.len, hzsg.len]))) _ Tryd.und24 rfl (by rw [cellsB_length, hzcr.len]; exact Tryd.size24)) rfl
    | 4, _ =>
      cases ho
      have e1 : aq.tmps.getD 1 undef = .pointer (some ⟨w.heap.size, 0, none⟩) := hk 1 (by decide)
      exact flow_value _ (run_fieldAt 76 (.tmp 1) 2 rfl _ _ e1 (by kernel_rfl)) rfl
    | 5, _ =>
      cases ho
      have e0 : aq.tmps.getD 7 undef = .pointer (some ⟨w.heap.size, 64, none⟩) := hdep 4 7 rfl (by kernel_rfl)
      exact flow_value _ (run_cell 22 (.tmp 7) rfl _ e0 _ ((HX.out.keep (hcB hc)).cell (seg (ps := ddP zk zcr zam zsg) (i := 2) (off := 64) rfl (by simp [ddP, cellsB_length, hzk.len, hzcr.len, hzsg.len]) 0 _ rfl)) _ Tryd.underlying22 rfl) rfl
    | 6, _ =>
      cases ho
      have e0 : aq.tmps.getD 8 undef = .int .u64 (zam : Nat) := hdep 5 8 rfl (by kernel_rfl)
      refine flow_fun 26 _ _ rfl (fun _ _ => by simp [go_sem]) #[.int .u64 (zam : Nat)] (by rw [show (#[Operand.tmp 8] : Array Operand).map aq.eval = #[aq.tmps.getD 8 undef] from by simp [Act.eval], e0]) ?_
      refine (number_any zam hzam wq).mono ?_
      rintro x w' ⟨rfl, q⟩
      exact ⟨_, rfl, rfl, q⟩
    | 7, _ =>
      cases ho
      have e1 : aq.tmps.getD 1 undef = .pointer (some ⟨w.heap.size, 0, none⟩) := hk 1 (by decide)
      exact flow_value _ (run_fieldAt 76 (.tmp 1) 3 rfl _ _ e1 (by kernel_rfl)) rfl
    | 8, _ =>
      cases ho
      have e0 : aq.tmps.getD 10 undef = .pointer (some ⟨w.heap.size, 65, none⟩) := hdep 7 10 rfl (by kernel_rfl)
      exact flow_value _ (run_mid 24 (.tmp 10) rfl w.heap.size 65 e0 (cellsB zsg) ((HX.out.keep (hcB hc)).range 65 (cellsB zsg) (seg (ps := ddP zk zcr zam zsg) (i := 3) (off := 65) rfl (by simp [ddP, cellsB_length, hzk.len, hzcr.len, hzsg.len]))) _ Tryd.und24 rfl (by rw [cellsB_length, hzsg.len]; exact Tryd.size24)) rfl
    | 9, _ =>
      cases ho
      have e0 : aq.tmps.getD 4 undef = .agg (nums .u8 zk) := hdep 1 4 rfl (by kernel_rfl)
      have e1 : aq.tmps.getD 6 undef = .agg (nums .u8 zcr) := hdep 3 6 rfl (by kernel_rfl)
      have e2 : aq.tmps.getD 9 undef = .agg (nums .u8 (wUp zam 8)) := hdep 6 9 rfl (by kernel_rfl)
      have e3 : aq.tmps.getD 11 undef = .agg (nums .u8 zsg) := hdep 8 11 rfl (by kernel_rfl)
      exact flow_rows 89 24 4 32 _ rfl Tryd.underlying89 rootInfo6 [cellsB (zk), cellsB (zcr), cellsB (wUp zam 8), cellsB (zsg)] [.tmp 4, .tmp 6, .tmp 9, .tmp 11] rfl (by rw [show [Operand.tmp 4, Operand.tmp 6, Operand.tmp 9, Operand.tmp 11].map aq.eval = [aq.tmps.getD 4 undef, aq.tmps.getD 6 undef, aq.tmps.getD 9 undef, aq.tmps.getD 11 undef] from rfl, e0, e1, e2, e3]; rfl) (by simp [cellsB_length, (hzk).len, (hzcr).len, ((wUp_rt zam 8)).len, (hzsg).len]) rfl (by decide) (by decide) (by decide) (fun w' h => ⟨_, rfl, hasC_roots (rs := [zk, zcr, wUp zam 8, zsg]) h (Rts.more hzk (Rts.more hzcr (Rts.more (wUp_rt zam 8) (Rts.more hzsg Rts.nil))))⟩)
    | 10, _ =>
      cases ho
      obtain ⟨b, e6, h6⟩ := hdep 9 12 rfl (by kernel_rfl)
      refine flow_fun 14 _ _ rfl (fun _ _ => by simp [go_sem]) #[.slice (some ⟨b, 0, none⟩) 4 4] (by rw [show (#[Operand.tmp 12] : Array Operand).map aq.eval = #[aq.tmps.getD 12 undef] from by simp [Act.eval], e6]) ?_
      refine (cont_any (some ⟨b, 0, none⟩) 4 [zk, zcr, wUp zam 8, zsg] wq (HT.out.keep (hcB hc)) (Nat.le_refl _) (by decide) (by show 4 ≤ 1048576; decide) h6).mono ?_
      rintro x w' ⟨rfl, q⟩
      exact ⟨_, rfl, (by rw [← HW.out]; rfl), q⟩
    | (k + 11), hk => exact absurd hk (by omega)
  · intro o h11 ho
    omega
  intro vf w8 hc hv
  have e7 : vf 10 = _ := hv 10 13 (by decide) rfl
  have B8 := HB.out.trans ((hcB hc).mono (by omega))
  have H8v := HY.out.keep (hcB hc)
  have s8 := (hcB hc).size
  clear hv hc
  simp only [List.take_succ_cons, List.take_zero, List.drop_succ_cons, List.drop_zero, putAll, Act.put, List.setIfInBounds_toArray, List.set_cons_succ, List.set_cons_zero]
  rw [e7]
  have HB8 := hid B8
  clear B8 e7 HB
  go_wp2_with ((with_reducible refine at_list' ?_); first
    | (refine wpList_store_has rfl 24 (.tmp 2) (.tmp 13) rfl (w.heap.size + 1) .u8 W (zeros 32) rfl rfl 24 H8v (hfr.size _ Tryd.size24) (by rw [hfr.len, zeros_length]) ?_; intro w9 H9 O9))
  refine bodyPost_ret (results_has rfl _ _ (w.heap.size + 1) 24 .u8 W _ _ rfl H9 Tryd.und24 (hfr.size _ Tryd.size24)) rfl ?_
  exact ⟨rfl, below_only HB8.out O9 (by omega)⟩
end Go.Proofs.YtpkelkipmldfeaaDoor

/- The root of a Deposit, by the program. -/
namespace Go.Proofs.YtpkelkipmldfeaaDoor
open Go.RowKit Go.Shelf
set_option linter.unusedVariables false
set_option linter.unusedSimpArgs false
set_option maxRecDepth 100000

def dpP (zp : List (List Nat)) (zdzk : List Nat) (zdzcr : List Nat) (zdzam : Nat) (zdzsg : List Nat) : List (List Value) := [cellsOf zp, ddC zdzk zdzcr zdzam zdzsg]
def dpC (zp : List (List Nat)) (zdzk : List Nat) (zdzcr : List Nat) (zdzam : Nat) (zdzsg : List Nat) : List Value := (dpP zp zdzk zdzcr zdzam zdzsg).flatten
theorem dpC_length (zp : List (List Nat)) (zdzk : List Nat) (zdzcr : List Nat) (zdzam : Nat) (zdzsg : List Nat) (hzp : Rts zp) (hzpl : zp.length = 6) (h1 : zdzk.length = 32) (h2 : zdzcr.length = 32) (h3 : zdzsg.length = 32) : (dpC zp zdzk zdzcr zdzam zdzsg).length = 289 := by simp [dpC, dpP, cellsOf_length zp hzp, hzpl, ddC_length zdzk zdzcr zdzam zdzsg h1 h2 h3]
def dpR (zp : List (List Nat)) (zdzk : List Nat) (zdzcr : List Nat) (zdzam : Nat) (zdzsg : List Nat) : List Nat := fullR (depth (([(fullR (depth ((6 : Nat) : Int)) zp), ddR zdzk zdzcr zdzam zdzsg] : List (List Nat)).length : Nat)) [(fullR (depth ((6 : Nat) : Int)) zp), ddR zdzk zdzcr zdzam zdzsg]
theorem dpR_rt (zp : List (List Nat)) (zdzk : List Nat) (zdzcr : List Nat) (zdzam : Nat) (zdzsg : List Nat) (hzp : Rts zp) (h1 : Rt zdzk) (h2 : Rt zdzcr) (h3 : Rt zdzsg) : Rt (dpR zp zdzk zdzcr zdzam zdzsg) := full_rt _ _ (Rts.more (full_rt _ _ hzp) (Rts.more (ddR_rt zdzk zdzcr zdzam zdzsg h1 h2 h3) Rts.nil))
theorem dp_roots {w : World} {g : Nat} {t : TypeId} (zp : List (List Nat)) (zdzk : List Nat) (zdzcr : List Nat) (zdzam : Nat) (zdzsg : List Nat) (hzp : Rts zp) (h : HasC w g t (dpC zp zdzk zdzcr zdzam zdzsg)) : RootsAt w (some ⟨g, 0, none⟩) zp :=
  ⟨hzp, .inr ⟨g, 0, rfl, fun i hi => by
    rw [Nat.zero_add]
    refine h.cell ?_
    rw [dpC, dpP, List.flatten_cons, List.getElem?_append_left (by rw [cellsOf, List.length_map]; exact hi), cellsOf, List.getElem?_map, List.getElem?_eq_getElem hi, List.getD_eq_getElem?_getD, List.getElem?_eq_getElem hi]
    rfl⟩⟩
theorem run_slice6 {o : Oper} {a : Act} {w : World} (x : Operand) (ho : o.op = .slice 74 x none none none) (g : Nat) (hx : a.eval x = .pointer (some ⟨g, 0, none⟩)) : (execOp a.eval o).run Tryd.prog w = .ok (.value (.slice (some ⟨g, 0, none⟩) 6 6)) w := by
  unfold execOp
  simp only [ho, hx, Option.map]
  go_simp
set_option maxHeartbeats 2000000 in
theorem dpR_any (zp : List (List Nat)) (zdzk : List Nat) (zdzcr : List Nat) (zdzam : Nat) (zdzsg : List Nat) (hzp : Rts zp) (hzpl : zp.length = 6) (hzdzk : Rt zdzk) (hzdzcr : Rt zdzcr) (hzdzam : zdzam < 18446744073709551616) (hzdzsg : Rt zdzsg) (w : World) (hT : Tabs w) :
    Calls Tryd.prog 23 #[.agg (dpC zp zdzk zdzcr zdzam zdzsg).toArray] w fun x w' => x = .returned (.agg (nums .u8 (dpR zp zdzk zdzcr zdzam zdzsg))) ∧ Below w.heap.size w w' := by
  have hfr := dpR_rt zp zdzk zdzcr zdzam zdzsg hzp hzdzk hzdzcr hzdzsg
  unfold dpR at hfr ⊢
  have hX6 : Rt (fullR (depth ((6 : Nat) : Int)) zp) := full_rt _ _ hzp
  have hD6 := ddR_rt zdzk zdzcr zdzam zdzsg hzdzk hzdzcr hzdzsg
  obtain ⟨X6, HX6⟩ : ∃ X, Same (fullR (depth ((6 : Nat) : Int)) zp) X := ⟨_, ⟨rfl⟩⟩
  obtain ⟨D6, HD6⟩ : ∃ X, Same (ddR zdzk zdzcr zdzam zdzsg) X := ⟨_, ⟨rfl⟩⟩
  rw [HX6.out] at hfr hX6 ⊢
  rw [HD6.out] at hfr hD6 ⊢
  obtain ⟨W, HW⟩ : ∃ W, Same (fullR (depth (([X6, D6] : List (List Nat)).length : Nat)) [X6, D6]) W := ⟨_, ⟨rfl⟩⟩
  rw [HW.out] at hfr ⊢
  go_enter Tryd.func23, Tryd.ntmps23
  go_wp2_with ((with_reducible refine at_list' ?_); first
    | (refine wpList_box_c rfl 1 rfl (.tmp 0) rfl (dpC zp zdzk zdzcr zdzam zdzsg) rfl ?_; intro w1 H1 B1 S1)
    | (refine wpList_alloc_has rfl 2 rfl 24 rfl .u8 32 Tryd.zero24 ?_; intro w2 H2 B2 S2; rw [S1] at H2 S2; rw [S1]))
  have HX := hid (H1.keep B2)
  have HY := hid H2
  have HB := hid (B1.trans (B2.mono (by omega)))
  have HT := hid (hT.keep HB.out)
  have s2 : w2.heap.size = w.heap.size + 2 := by omega
  clear H1 B1 S1 H2 B2 S2
  try simp only [Act.put, List.setIfInBounds_toArray, List.set_cons_succ, List.set_cons_zero]
  refine wp_region_flow 8 8 (fun i v wq => match i with
    | 0 => v = .pointer (some ⟨w.heap.size, 0, none⟩)
    | 1 => v = .slice (some ⟨w.heap.size, 0, none⟩) 6 6
    | 2 => v = .agg (nums .u8 X6)
    | 3 => v = .pointer (some ⟨w.heap.size, 192, none⟩)
    | 4 => v = .agg (ddC zdzk zdzcr zdzam zdzsg).toArray
    | 5 => v = .agg (nums .u8 D6)
    | 6 => ∃ b, v = .slice (some ⟨b, 0, none⟩) 2 2 ∧ RootsAt wq (some ⟨b, 0, none⟩) [X6, D6]
    | _ => v = .agg (nums .u8 W)) (by kernel_rfl) (by kernel_rfl) (fun _ d _ _ _ h => by cases d <;> exact h) ?_ ?_ ?_ ?_
  · intro i v wq wq' hi hv hb
    match i, hi with
    | 0, _ => exact hv
    | 1, _ => exact hv
    | 2, _ => exact hv
    | 3, _ => exact hv
    | 4, _ => exact hv
    | 5, _ => exact hv
    | 6, _ => obtain ⟨b, h1, h2⟩ := hv; exact ⟨b, h1, h2.keep hb⟩
    | 7, _ => exact hv
    | (k + 8), hk => exact absurd hk (by omega)
  · intro i o hi ho aq wq hc hk hdep
    match i, hi with
    | 0, _ =>
      cases ho
      have e1 : aq.tmps.getD 1 undef = .pointer (some ⟨w.heap.size, 0, none⟩) := hk 1 (by decide)
      exact flow_value _ (run_fieldAt 78 (.tmp 1) 0 rfl _ _ e1 (by kernel_rfl)) rfl
    | 1, _ =>
      cases ho
      have e0 : aq.tmps.getD 3 undef = .pointer (some ⟨w.heap.size, 0, none⟩) := hdep 0 3 rfl (by kernel_rfl)
      exact flow_value _ (run_slice6 (.tmp 3) rfl w.heap.size e0) rfl
    | 2, _ =>
      cases ho
      have e0 : aq.tmps.getD 4 undef = .slice (some ⟨w.heap.size, 0, none⟩) 6 6 := hdep 1 4 rfl (by kernel_rfl)
      refine flow_fun 14 _ _ rfl (fun _ _ => by simp [go_sem]) #[.slice (some ⟨w.heap.size, 0, none⟩) 6 6] (by rw [show (#[Operand.tmp 4] : Array Operand).map aq.eval = #[aq.tmps.getD 4 undef] from by simp [Act.eval], e0]) ?_
      have hcc := cont_any (some ⟨w.heap.size, 0, none⟩) 6 zp wq (HT.out.keep (hcB hc)) (by omega) (by decide) (by omega) (dp_roots zp zdzk zdzcr zdzam zdzsg hzp (HX.out.keep (hcB hc)))
      rw [hzpl] at hcc
      refine hcc.mono ?_
      rintro x w' ⟨rfl, q⟩
      exact ⟨_, rfl, (by rw [← HX6.out]; rfl), q⟩
    | 3, _ =>
      cases ho
      have e1 : aq.tmps.getD 1 undef = .pointer (some ⟨w.heap.size, 0, none⟩) := hk 1 (by decide)
      exact flow_value _ (run_fieldAt 78 (.tmp 1) 1 rfl _ _ e1 (by kernel_rfl)) rfl
    | 4, _ =>
      cases ho
      have e0 : aq.tmps.getD 6 undef = .pointer (some ⟨w.heap.size, 192, none⟩) := hdep 3 6 rfl (by kernel_rfl)
      exact flow_value _ (run_mid 76 (.tmp 6) rfl w.heap.size 192 e0 (ddC zdzk zdzcr zdzam zdzsg) ((HX.out.keep (hcB hc)).range 192 (ddC zdzk zdzcr zdzam zdzsg) (seg (ps := dpP zp zdzk zdzcr zdzam zdzsg) (i := 1) (off := 192) rfl (by simp [dpP, cellsOf_length zp hzp, hzpl]))) _ Tryd.underlying76 rfl (by rw [ddC_length zdzk zdzcr zdzam zdzsg hzdzk.len hzdzcr.len hzdzsg.len]; kernel_rfl)) rfl
    | 5, _ =>
      cases ho
      have e0 : aq.tmps.getD 7 undef = .agg (ddC zdzk zdzcr zdzam zdzsg).toArray := hdep 4 7 rfl (by kernel_rfl)
      refine flow_fun 39 _ _ rfl (fun _ _ => by simp [go_sem]) #[.agg (ddC zdzk zdzcr zdzam zdzsg).toArray] (by rw [show (#[Operand.tmp 7] : Array Operand).map aq.eval = #[aq.tmps.getD 7 undef] from by simp [Act.eval], e0]) ?_
      refine (ddR_any zdzk zdzcr zdzam zdzsg hzdzk hzdzcr hzdzam hzdzsg wq (HT.out.keep (hcB hc))).mono ?_
      rintro x w' ⟨rfl, q⟩
      exact ⟨_, rfl, (by rw [← HD6.out]; rfl), q⟩
    | 6, _ =>
      cases ho
      have e0 : aq.tmps.getD 5 undef = .agg (nums .u8 X6) := hdep 2 5 rfl (by kernel_rfl)
      have e1 : aq.tmps.getD 8 undef = .agg (nums .u8 D6) := hdep 5 8 rfl (by kernel_rfl)
      exact flow_rows 89 24 2 32 _ rfl Tryd.underlying89 rootInfo6 [cellsB X6, cellsB D6] [.tmp 5, .tmp 8] rfl (by rw [show [Operand.tmp 5, Operand.tmp 8].map aq.eval = [aq.tmps.getD 5 undef, aq.tmps.getD 8 undef] from rfl, e0, e1]; rfl) (by simp [cellsB_length, hX6.len, hD6.len]) rfl (by decide) (by decide) (by decide) (fun w' h => ⟨_, rfl, hasC_roots (rs := [X6, D6]) h (Rts.more hX6 (Rts.more hD6 Rts.nil))⟩)
    | 7, _ =>
      cases ho
      obtain ⟨b, e6, h6⟩ := hdep 6 9 rfl (by kernel_rfl)
      refine flow_fun 14 _ _ rfl (fun _ _ => by simp [go_sem]) #[.slice (some ⟨b, 0, none⟩) 2 2] (by rw [show (#[Operand.tmp 9] : Array Operand).map aq.eval = #[aq.tmps.getD 9 undef] from by simp [Act.eval], e6]) ?_
      refine (cont_any (some ⟨b, 0, none⟩) 2 [X6, D6] wq (HT.out.keep (hcB hc)) (Nat.le_refl _) (by decide) (by show 2 ≤ 1048576; decide) h6).mono ?_
      rintro x w' ⟨rfl, q⟩
      exact ⟨_, rfl, (by rw [← HW.out]; rfl), q⟩
    | (k + 8), hk => exact absurd hk (by omega)
  · intro o h8 ho
    omega
  intro vf w8 hc hv
  have e7 : vf 7 = _ := hv 7 10 (by decide) rfl
  have B8 := HB.out.trans ((hcB hc).mono (by omega))
  have H8v := HY.out.keep (hcB hc)
  have s8 := (hcB hc).size
  clear hv hc
  simp only [List.take_succ_cons, List.take_zero, List.drop_succ_cons, List.drop_zero, putAll, Act.put, List.setIfInBounds_toArray, List.set_cons_succ, List.set_cons_zero]
  rw [e7]
  have HB8 := hid B8
  clear B8 e7 HB
  go_wp2_with ((with_reducible refine at_list' ?_); first
    | (refine wpList_store_has rfl 24 (.tmp 2) (.tmp 10) rfl (w.heap.size + 1) .u8 W (zeros 32) rfl rfl 24 H8v (hfr.size _ Tryd.size24) (by rw [hfr.len, zeros_length]) ?_; intro w9 H9 O9))
  refine bodyPost_ret (results_has rfl _ _ (w.heap.size + 1) 24 .u8 W _ _ rfl H9 Tryd.und24 (hfr.size _ Tryd.size24)) rfl ?_
  exact ⟨rfl, below_only HB8.out O9 (by omega)⟩
end Go.Proofs.YtpkelkipmldfeaaDoor

/- The root of a struct (Vote), by the program. -/
namespace Go.Proofs.YtpkelkipmldfeaaDoor
open Go.RowKit Go.Shelf
set_option linter.unusedVariables false
set_option linter.unusedSimpArgs false
set_option maxRecDepth 100000

def vtP (zs : Nat) (zi : Nat) (zb : List Nat) (zcze : Nat) (zczr : List Nat) (ztze : Nat) (ztzr : List Nat) : List (List Value) := [[.int .u64 (zs : Nat)], [.int .u64 (zi : Nat)], cellsB zb, cpC zcze zczr, cpC ztze ztzr]
def vtC (zs : Nat) (zi : Nat) (zb : List Nat) (zcze : Nat) (zczr : List Nat) (ztze : Nat) (ztzr : List Nat) : List Value := (vtP zs zi zb zcze zczr ztze ztzr).flatten
theorem vtC_length (zs : Nat) (zi : Nat) (zb : List Nat) (zcze : Nat) (zczr : List Nat) (ztze : Nat) (ztzr : List Nat) (hzb : zb.length = 32) (hzczr : zczr.length = 32) (hztzr : ztzr.length = 32) : (vtC zs zi zb zcze zczr ztze ztzr).length = 100 := by simp [vtC, vtP, cellsB_length, hzb, hzczr, hztzr, cpC_length zcze zczr hzczr, cpC_length ztze ztzr hztzr]
def vtR (zs : Nat) (zi : Nat) (zb : List Nat) (zcze : Nat) (zczr : List Nat) (ztze : Nat) (ztzr : List Nat) : List Nat := fullR (depth (([wUp zs 8, wUp zi 8, zb, cpR zcze zczr, cpR ztze ztzr] : List (List Nat)).length : Nat)) [wUp zs 8, wUp zi 8, zb, cpR zcze zczr, cpR ztze ztzr]
theorem vtR_rt (zs : Nat) (zi : Nat) (zb : List Nat) (zcze : Nat) (zczr : List Nat) (ztze : Nat) (ztzr : List Nat) (hzb : Rt zb) (hzczr : Rt zczr) (hztzr : Rt ztzr) : Rt (vtR zs zi zb zcze zczr ztze ztzr) := full_rt _ _ (Rts.more (wUp_rt zs 8) (Rts.more (wUp_rt zi 8) (Rts.more hzb (Rts.more (cpR_rt zcze zczr hzczr) (Rts.more (cpR_rt ztze ztzr hztzr) Rts.nil)))))
set_option maxHeartbeats 2000000 in
theorem vtR_any (zs : Nat) (zi : Nat) (zb : List Nat) (zcze : Nat) (zczr : List Nat) (ztze : Nat) (ztzr : List Nat) (hzs : zs < 18446744073709551616) (hzi : zi < 18446744073709551616) (hzb : Rt zb) (hzcze : zcze < 18446744073709551616) (hzczr : Rt zczr) (hztze : ztze < 18446744073709551616) (hztzr : Rt ztzr) (w : World) (hT : Tabs w) :
    Calls Tryd.prog 37 #[.agg (vtC zs zi zb zcze zczr ztze ztzr).toArray] w fun x w' => x = .returned (.agg (nums .u8 (vtR zs zi zb zcze zczr ztze ztzr))) ∧ Below w.heap.size w w' := by
  have hfr := vtR_rt zs zi zb zcze zczr ztze ztzr hzb hzczr hztzr
  obtain ⟨W, HW⟩ : ∃ W, Hid (vtR zs zi zb zcze zczr ztze ztzr = W) := ⟨_, hid rfl⟩
  rw [HW.out] at hfr ⊢
  go_enter Tryd.func37, Tryd.ntmps37
  go_wp2_with ((with_reducible refine at_list' ?_); first
    | (refine wpList_box_c rfl 1 rfl (.tmp 0) rfl (vtC zs zi zb zcze zczr ztze ztzr) rfl ?_; intro w1 H1 B1 S1)
    | (refine wpList_alloc_has rfl 2 rfl 24 rfl .u8 32 Tryd.zero24 ?_; intro w2 H2 B2 S2; rw [S1] at H2 S2; rw [S1]))
  have HX := hid (H1.keep B2)
  have HY := hid H2
  have HB := hid (B1.trans (B2.mono (by omega)))
  have HT := hid (hT.keep HB.out)
  have s2 : w2.heap.size = w.heap.size + 2 := by omega
  clear H1 B1 S1 H2 B2 S2
  try simp only [Act.put, List.setIfInBounds_toArray, List.set_cons_succ, List.set_cons_zero]
  refine wp_region_flow 16 16 (fun i v wq => match i with
    | 0 => v = .pointer (some ⟨w.heap.size, 0, none⟩)
    | 1 => v = .int .u64 (zs : Nat)
    | 2 => v = .agg (nums .u8 (wUp zs 8))
    | 3 => v = .pointer (some ⟨w.heap.size, 1, none⟩)
    | 4 => v = .int .u64 (zi : Nat)
    | 5 => v = .agg (nums .u8 (wUp zi 8))
    | 6 => v = .pointer (some ⟨w.heap.size, 2, none⟩)
    | 7 => v = .agg (nums .u8 zb)
    | 8 => v = .pointer (some ⟨w.heap.size, 34, none⟩)
    | 9 => v = .agg (cpC zcze zczr).toArray
    | 10 => v = .agg (nums .u8 (cpR zcze zczr))
    | 11 => v = .pointer (some ⟨w.heap.size, 67, none⟩)
    | 12 => v = .agg (cpC ztze ztzr).toArray
    | 13 => v = .agg (nums .u8 (cpR ztze ztzr))
    | 14 => ∃ b, v = .slice (some ⟨b, 0, none⟩) 5 5 ∧ RootsAt wq (some ⟨b, 0, none⟩) [wUp zs 8, wUp zi 8, zb, cpR zcze zczr, cpR ztze ztzr]
    | _ => v = .agg (nums .u8 W)) (by kernel_rfl) (by kernel_rfl) (fun _ d _ _ _ h => by cases d <;> exact h) ?_ ?_ ?_ ?_
  · intro i v wq wq' hi hv hb
    match i, hi with
    | 0, _ => exact hv
    | 1, _ => exact hv
    | 2, _ => exact hv
    | 3, _ => exact hv
    | 4, _ => exact hv
    | 5, _ => exact hv
    | 6, _ => exact hv
    | 7, _ => exact hv
    | 8, _ => exact hv
    | 9, _ => exact hv
    | 10, _ => exact hv
    | 11, _ => exact hv
    | 12, _ => exact hv
    | 13, _ => exact hv
    | 14, _ => obtain ⟨b, h1, h2⟩ := hv; exact ⟨b, h1, h2.keep hb⟩
    | 15, _ => exact hv
    | (k + 16), hk => exact absurd hk (by omega)
  · intro i o hi ho aq wq hc hk hdep
    match i, hi with
    | 0, _ =>
      cases ho
      have e1 : aq.tmps.getD 1 undef = .pointer (some ⟨w.heap.size, 0, none⟩) := hk 1 (by decide)
      exact flow_value _ (run_fieldAt 53 (.tmp 1) 0 rfl _ _ e1 (by kernel_rfl)) rfl
    | 1, _ =>
      cases ho
      have e0 : aq.tmps.getD 3 undef = .pointer (some ⟨w.heap.size, 0, none⟩) := hdep 0 3 rfl (by kernel_rfl)
      exact flow_value _ (run_cell 22 (.tmp 3) rfl _ e0 _ ((HX.out.keep (hcB hc)).cell (seg (ps := vtP zs zi zb zcze zczr ztze ztzr) (i := 0) (off := 0) rfl (by simp [vtP, cellsB_length, hzb.len, hzczr.len, hztzr.len, cpC_length zcze zczr hzczr.len, cpC_length ztze ztzr hztzr.len]) 0 _ rfl)) _ Tryd.underlying22 rfl) rfl
    | 2, _ =>
      cases ho
      have e0 : aq.tmps.getD 4 undef = .int .u64 (zs : Nat) := hdep 1 4 rfl (by kernel_rfl)
      refine flow_fun 26 _ _ rfl (fun _ _ => by simp [go_sem]) #[.int .u64 (zs : Nat)] (by rw [show (#[Operand.tmp 4] : Array Operand).map aq.eval = #[aq.tmps.getD 4 undef] from by simp [Act.eval], e0]) ?_
      refine (number_any zs hzs wq).mono ?_
      rintro x w' ⟨rfl, q⟩
      exact ⟨_, rfl, rfl, q⟩
    | 3, _ =>
      cases ho
      have e1 : aq.tmps.getD 1 undef = .pointer (some ⟨w.heap.size, 0, none⟩) := hk 1 (by decide)
      exact flow_value _ (run_fieldAt 53 (.tmp 1) 1 rfl _ _ e1 (by kernel_rfl)) rfl
    | 4, _ =>
      cases ho
      have e0 : aq.tmps.getD 6 undef = .pointer (some ⟨w.heap.size, 1, none⟩) := hdep 3 6 rfl (by kernel_rfl)
      exact flow_value _ (run_cell 22 (.tmp 6) rfl _ e0 _ ((HX.out.keep (hcB hc)).cell (seg (ps := vtP zs zi zb zcze zczr ztze ztzr) (i := 1) (off := 1) rfl (by simp [vtP, cellsB_length, hzb.len, hzczr.len, hztzr.len, cpC_length zcze zczr hzczr.len, cpC_length ztze ztzr hztzr.len]) 0 _ rfl)) _ Tryd.underlying22 rfl) rfl
    | 5, _ =>
      cases ho
      have e0 : aq.tmps.getD 7 undef = .int .u64 (zi : Nat) := hdep 4 7 rfl (by kernel_rfl)
      refine flow_fun 26 _ _ rfl (fun _ _ => by simp [go_sem]) #[.int .u64 (zi : Nat)] (by rw [show (#[Operand.tmp 7] : Array Operand).map aq.eval = #[aq.tmps.getD 7 undef] from by simp [Act.eval], e0]) ?_
      refine (number_any zi hzi wq).mono ?_
      rintro x w' ⟨rfl, q⟩
      exact ⟨_, rfl, rfl, q⟩
    | 6, _ =>
      cases ho
      have e1 : aq.tmps.getD 1 undef = .pointer (some ⟨w.heap.size, 0, none⟩) := hk 1 (by decide)
      exact flow_value _ (run_fieldAt 53 (.tmp 1) 2 rfl _ _ e1 (by kernel_rfl)) rfl
    | 7, _ =>
      cases ho
      have e0 : aq.tmps.getD 9 undef = .pointer (some ⟨w.heap.size, 2, none⟩) := hdep 6 9 rfl (by kernel_rfl)
      exact flow_value _ (run_mid 24 (.tmp 9) rfl w.heap.size 2 e0 (cellsB zb) ((HX.out.keep (hcB hc)).range 2 (cellsB zb) (seg (ps := vtP zs zi zb zcze zczr ztze ztzr) (i := 2) (off := 2) rfl (by simp [vtP, cellsB_length, hzb.len, hzczr.len, hztzr.len, cpC_length zcze zczr hzczr.len, cpC_length ztze ztzr hztzr.len]))) _ Tryd.und24 rfl (by rw [cellsB_length, hzb.len]; exact Tryd.size24)) rfl
    | 8, _ =>
      cases ho
      have e1 : aq.tmps.getD 1 undef = .pointer (some ⟨w.heap.size, 0, none⟩) := hk 1 (by decide)
      exact flow_value _ (run_fieldAt 53 (.tmp 1) 3 rfl _ _ e1 (by kernel_rfl)) rfl
    | 9, _ =>
      cases ho
      have e0 : aq.tmps.getD 11 undef = .pointer (some ⟨w.heap.size, 34, none⟩) := hdep 8 11 rfl (by kernel_rfl)
      exact flow_value _ (run_mid 47 (.tmp 11) rfl w.heap.size 34 e0 (cpC zcze zczr) ((HX.out.keep (hcB hc)).range 34 (cpC zcze zczr) (seg (ps := vtP zs zi zb zcze zczr ztze ztzr) (i := 3) (off := 34) rfl (by simp [vtP, cellsB_length, hzb.len, hzczr.len, hztzr.len, cpC_length zcze zczr hzczr.len, cpC_length ztze ztzr hztzr.len]))) _ Tryd.underlying47 rfl (by rw [cpC_length zcze zczr hzczr.len]; kernel_rfl)) rfl
    | 10, _ =>
      cases ho
      have e0 : aq.tmps.getD 12 undef = .agg (cpC zcze zczr).toArray := hdep 9 12 rfl (by kernel_rfl)
      refine flow_fun 10 _ _ rfl (fun _ _ => by simp [go_sem]) #[.agg (cpC zcze zczr).toArray] (by rw [show (#[Operand.tmp 12] : Array Operand).map aq.eval = #[aq.tmps.getD 12 undef] from by simp [Act.eval], e0]) ?_
      refine (cpR_any zcze zczr hzcze hzczr wq (HT.out.keep (hcB hc))).mono ?_
      rintro x w' ⟨rfl, q⟩
      exact ⟨_, rfl, rfl, q⟩
    | 11, _ =>
      cases ho
      have e1 : aq.tmps.getD 1 undef = .pointer (some ⟨w.heap.size, 0, none⟩) := hk 1 (by decide)
      exact flow_value _ (run_fieldAt 53 (.tmp 1) 4 rfl _ _ e1 (by kernel_rfl)) rfl
    | 12, _ =>
      cases ho
      have e0 : aq.tmps.getD 14 undef = .pointer (some ⟨w.heap.size, 67, none⟩) := hdep 11 14 rfl (by kernel_rfl)
      exact flow_value _ (run_mid 47 (.tmp 14) rfl w.heap.size 67 e0 (cpC ztze ztzr) ((HX.out.keep (hcB hc)).range 67 (cpC ztze ztzr) (seg (ps := vtP zs zi zb zcze zczr ztze ztzr) (i := 4) (off := 67) rfl (by simp [vtP, cellsB_length, hzb.len, hzczr.len, hztzr.len, cpC_length zcze zczr hzczr.len, cpC_length ztze ztzr hztzr.len]))) _ Tryd.underlying47 rfl (by rw [cpC_length ztze ztzr hztzr.len]; kernel_rfl)) rfl
    | 13, _ =>
      cases ho
      have e0 : aq.tmps.getD 15 undef = .agg (cpC ztze ztzr).toArray := hdep 12 15 rfl (by kernel_rfl)
      refine flow_fun 10 _ _ rfl (fun _ _ => by simp [go_sem]) #[.agg (cpC ztze ztzr).toArray] (by rw [show (#[Operand.tmp 15] : Array Operand).map aq.eval = #[aq.tmps.getD 15 undef] from by simp [Act.eval], e0]) ?_
      refine (cpR_any ztze ztzr hztze hztzr wq (HT.out.keep (hcB hc))).mono ?_
      rintro x w' ⟨rfl, q⟩
      exact ⟨_, rfl, rfl, q⟩
    | 14, _ =>
      cases ho
      have e0 : aq.tmps.getD 5 undef = .agg (nums .u8 (wUp zs 8)) := hdep 2 5 rfl (by kernel_rfl)
      have e1 : aq.tmps.getD 8 undef = .agg (nums .u8 (wUp zi 8)) := hdep 5 8 rfl (by kernel_rfl)
      have e2 : aq.tmps.getD 10 undef = .agg (nums .u8 zb) := hdep 7 10 rfl (by kernel_rfl)
      have e3 : aq.tmps.getD 13 undef = .agg (nums .u8 (cpR zcze zczr)) := hdep 10 13 rfl (by kernel_rfl)
      have e4 : aq.tmps.getD 16 undef = .agg (nums .u8 (cpR ztze ztzr)) := hdep 13 16 rfl (by kernel_rfl)
      exact flow_rows 89 24 5 32 _ rfl Tryd.underlying89 rootInfo6 [cellsB (wUp zs 8), cellsB (wUp zi 8), cellsB (zb), cellsB (cpR zcze zczr), cellsB (cpR ztze ztzr)] [.tmp 5, .tmp 8, .tmp 10, .tmp 13, .tmp 16] rfl (by rw [show [Operand.tmp 5, Operand.tmp 8, Operand.tmp 10, Operand.tmp 13, Operand.tmp 16].map aq.eval = [aq.tmps.getD 5 undef, aq.tmps.getD 8 undef, aq.tmps.getD 10 undef, aq.tmps.getD 13 undef, aq.tmps.getD 16 undef] from rfl, e0, e1, e2, e3, e4]; rfl) (by simp [cellsB_length, ((wUp_rt zs 8)).len, ((wUp_rt zi 8)).len, (hzb).len, ((cpR_rt zcze zczr hzczr)).len, ((cpR_rt ztze ztzr hztzr)).len]) rfl (by decide) (by decide) (by decide) (fun w' h => ⟨_, rfl, hasC_roots (rs := [wUp zs 8, wUp zi 8, zb, cpR zcze zczr, cpR ztze ztzr]) h (Rts.more (wUp_rt zs 8) (Rts.more (wUp_rt zi 8) (Rts.more hzb (Rts.more (cpR_rt zcze zczr hzczr) (Rts.more (cpR_rt ztze ztzr hztzr) Rts.nil)))))⟩)
    | 15, _ =>
      cases ho
      obtain ⟨b, e6, h6⟩ := hdep 14 17 rfl (by kernel_rfl)
      refine flow_fun 14 _ _ rfl (fun _ _ => by simp [go_sem]) #[.slice (some ⟨b, 0, none⟩) 5 5] (by rw [show (#[Operand.tmp 17] : Array Operand).map aq.eval = #[aq.tmps.getD 17 undef] from by simp [Act.eval], e6]) ?_
      refine (cont_any (some ⟨b, 0, none⟩) 5 [wUp zs 8, wUp zi 8, zb, cpR zcze zczr, cpR ztze ztzr] wq (HT.out.keep (hcB hc)) (Nat.le_refl _) (by decide) (by show 5 ≤ 1048576; decide) h6).mono ?_
      rintro x w' ⟨rfl, q⟩
      exact ⟨_, rfl, (by rw [← HW.out]; rfl), q⟩
    | (k + 16), hk => exact absurd hk (by omega)
  · intro o h16 ho
    omega
  intro vf w8 hc hv
  have e7 : vf 15 = _ := hv 15 18 (by decide) rfl
  have B8 := HB.out.trans ((hcB hc).mono (by omega))
  have H8v := HY.out.keep (hcB hc)
  have s8 := (hcB hc).size
  clear hv hc
  simp only [List.take_succ_cons, List.take_zero, List.drop_succ_cons, List.drop_zero, putAll, Act.put, List.setIfInBounds_toArray, List.set_cons_succ, List.set_cons_zero]
  rw [e7]
  have HB8 := hid B8
  clear B8 e7 HB
  go_wp2_with ((with_reducible refine at_list' ?_); first
    | (refine wpList_store_has rfl 24 (.tmp 2) (.tmp 18) rfl (w.heap.size + 1) .u8 W (zeros 32) rfl rfl 24 H8v (hfr.size _ Tryd.size24) (by rw [hfr.len, zeros_length]) ?_; intro w9 H9 O9))
  refine bodyPost_ret (results_has rfl _ _ (w.heap.size + 1) 24 .u8 W _ _ rfl H9 Tryd.und24 (hfr.size _ Tryd.size24)) rfl ?_
  exact ⟨rfl, below_only HB8.out O9 (by omega)⟩
end Go.Proofs.YtpkelkipmldfeaaDoor

/- slices.Collect of the chunks of any bytes; the chunks of bytes, by the program. -/
namespace Go.Proofs.YtpkelkipmldfeaaDoor
open Go.RowKit Go.Shelf
set_option linter.unusedVariables false
set_option maxRecDepth 100000
attribute [local go_sem] Oper.semAt_some

theorem run_one_root {P : Program} {w : World} {o : Oper} {a : Act} (t e : TypeId) (x : Operand) (ho : o.op = .buildSlice t 1 #[(0, x)]) (hu : P.underlying t = some (.slice e))
    (hi : (P.info? e).map (fun i => (i.zero, i.size, i.bytes)) = some (some (.agg (nums .u8 (zeros 32))), 32, 32)) (r : List Nat) (hx : a.eval x = .agg (nums .u8 r)) (hr : r.length = 32) :
    (execOp a.eval o).run P w = .ok (.value (.slice (some ⟨w.heap.size, 0, none⟩) 1 1)) (w.alloc (.cells (nums .u8 r) e)) := by
  obtain ⟨i0, hi0, hz0, hz1, hz2⟩ : ∃ i, P.info? e = some i ∧ i.zero = some (.agg (nums .u8 (zeros 32))) ∧ i.size = 32 ∧ i.bytes = 32 := by
    cases hq : P.info? e with
    | none => simp [hq] at hi
    | some i => simp [hq] at hi; exact ⟨i, rfl, hi.1, hi.2.1, hi.2.2⟩
  have h := run_buildSlice (P := P) w t e 1 ((#[(0, x)] : Array (Nat × Operand)).map fun (i, x) => (i, a.eval x)) (nums .u8 r) i0 (.agg (nums .u8 (zeros 32))) hu hi0 hz0 (by rw [hz1]; omega) (by rw [hz1]; omega) ?_
  · unfold execOp
    simp only [ho]
    simp only [Sem.run_bind, h, Result.andThen_ok, Sem.run_pure]
  rw [hz1]
  have e1 : ((Array.range (1 * 32)).map ((Value.agg (nums .u8 (zeros 32))).cells[· % (Value.agg (nums .u8 (zeros 32))).cells.size]!)) = nums .u8 (zeros 32) := by
    apply Array.toList_inj.1
    have := madeZ 1
    unfold madeCells at this
    rw [this]
    simp [nums]
  rw [e1]
  have e2 : (#[(0, x)] : Array (Nat × Operand)).map (fun (i, x) => (i, a.eval x)) = #[(0, .agg (nums .u8 r))] := by simp [hx]
  rw [e2]
  have hc : (Value.agg (nums .u8 r)).cells = nums .u8 r := rfl
  simp only [Instr.fill, hc, nums_size, hr, zeros_length]
  rw [if_neg (by simp)]
  congr 1
  rw [← Array.foldl_toList, Array.toList_zipIdx]
  have h3 := fold_setV (nums .u8 r).toList 0 (nums .u8 (zeros 32))
  have h4 := setV_nums .u8 (zeros 32) r 0 (by rw [zeros_length, hr]; omega)
  rw [over_all _ _ (by rw [zeros_length, hr])] at h4
  refine Eq.trans ?_ (h3.trans h4)
  simp
theorem run_call_append {P : Program} {w w' : World} {o : Oper} {a : Act} (x y : Operand) (t tx : TypeId) (ho : o.op = .call { callee := .builtin .append, args := #[x, y], argTypes := #[t, tx] }) (u v v' : Value) (hx : a.eval x = u) (hy : a.eval y = v)
    (hr : (Builtin.append_ #[t, tx] o.type #[u, v]).run P w = .ok v' w') : (execOp a.eval o).run P w = .ok (.value v') w' := by
  unfold execOp
  simp only [ho, resolve, invoke, builtin, Sem.run_bind, Sem.run_pure, Result.andThen_ok, List.map_toArray, List.map_cons, List.map_nil, hx, hy, hr]
theorem root_src {w : World} {g : Nat} {x : List Nat} (h : Has w g 24 .u8 x) (hx : x.length = 32) : Src Tryd.prog 32 89 (.slice (some ⟨g, 0, none⟩) 1 1) 1 (cellsOf [x]) w := by
  refine Src.ofSlice w Tryd.underlying89 ⟨g, 0, none⟩ 1 1 _ (by simp [cellsOf, hx]) (fun j u hj => ?_) (cellsOf_one [x])
  have hjl : j < x.length := by
    by_cases hjl : j < x.length
    · exact hjl
    · rw [List.getElem?_eq_none (by simp [cellsOf]; omega)] at hj; cases hj
  rw [Addr.add_lit, Nat.zero_add, h.cell j hjl]
  simpa [cellsOf, hjl] using hj

theorem not_cells {W : World} {p : Addr} {v : Value} {o : Obj} (h : W.cell? p = some v) (ho : W.heap[p.block]? = some o) (hc : o.isCells = false) : False := by
  simp only [World.cell?, ho] at h
  cases o <;> simp [Obj.isCells] at hc h
theorem Reads.kept {W W' : World} {row : Option Nat} {ao : Option Addr} {zs : List Nat} (h : Reads W ao zs) (hg : W.grownBy W' row) (hr : ∀ r, row = some r → ∃ o : Obj, W.heap[r]? = some o ∧ o.isCells = false) : Reads W' ao zs := by
  rcases h with h | ⟨b, off, rfl, hc⟩
  · exact .inl h
  · refine .inr ⟨b, off, rfl, fun i hi => hg.cell (hc i hi) (fun e => ?_)⟩
    obtain ⟨o, ho, hk⟩ := hr b e.symm
    exact not_cells (hc i hi) ho hk
set_option maxHeartbeats 1000000 in
theorem appSeq_any (c cap : Nat) (ao : Option Addr) (bs : List Nat) (w : World) (h8 : ∀ z ∈ bs, z < 256) (hlen : bs.length ≤ 140737488351232) (hcap : bs.length ≤ cap) (hm : cap ≤ maxLen) (hc : w.cell? ⟨c, 0, none⟩ = some (.slice ao bs.length cap)) (hR : Reads w ao bs) :
    CallsIn Fence.wide 5 Tryd.prog 60 #[.slice none 0 0, .func (.func 62) #[] #[.pointer (some ⟨c, 0, none⟩)]] w fun e w' => ∃ v, e = .returned v ∧ w'.ownsRow w.heap.size 24 32 v (chunks bs).length (cellsOf (chunks bs)) ∧ Below w.heap.size w w' := by
  refine callsIn_of_wp_marks Tryd.func60 rfl trivial ?_ rfl
  simp only [Tryd.ntmps60, List.size_toArray, List.length_cons, List.length_nil, Nat.reduceAdd, Nat.reduceSub, Array.replicate_succ, Array.replicate_zero, List.push_toArray, List.append_toArray, List.nil_append, List.cons_append]
  gi_wp2_with fail
  have BA : Below w.heap.size w (w.alloc (.cells #[.slice none 0 0] 89)) := (Below.refl _ w).alloc (Nat.le_refl _) _
  have X0 : Go.Boxed (w.alloc (.cells #[.slice none 0 0] 89)) w.heap.size 89 (.slice none 0 0) := Go.Boxed.new w _ _
  have S0 : (w.alloc (.cells #[.slice none 0 0] 89)).heap.size = w.heap.size + 1 := by simp
  have C0 := (BA.cell (p := ⟨c, 0, none⟩) (block_lt_of_cell hc)).trans hc
  have R0 := hR.keep BA
  have hcl : c < w.heap.size := block_lt_of_cell hc
  have hchl := chunks_length bs
  generalize w.alloc (.cells #[.slice none 0 0] 89) = w0 at *
  refine wpIn_rangeFunc_ownH rfl (by decide) (gf := 62) (lb := #[.pointer (some ⟨c, 0, none⟩)]) rfl trivial (enters_of Tryd.func62 (by kernel_rfl) rfl)
    (encs := fun x : RtV => #[.agg (nums .u8 x.1)]) (Kp := KeepsOwn c ao bs) (S := fun ys => ys.map Subtype.val = chunks bs) (Sp := fun pre => pre.map Subtype.val = (chunks bs).take pre.length) (N := (chunks bs).length) (w0 := w0)
    (fun l J Jx W hW hJ _ hY h0 => chunkI_in Fence.wide _ trivial rfl (by decide) l c cap ao bs h8 (by omega) hcap hm W J Jx hJ hY ((hW.cell (p := ⟨c, 0, none⟩) (block_lt_of_cell C0)).trans C0) (R0.keep hW) h0)
    KeepsOwn.trans ?kb (Below.refl _ _) (fun _ => rfl)
    (fun pre W => (∃ v, Go.Boxed W w.heap.size 89 v ∧ W.ownsRow w.heap.size 24 32 v pre.length (cellsOf (pre.map Subtype.val)) ∧ True) ∧ Below w.heap.size w W)
    (fun _ _ _ => False)
    (OwnFrom.and (Own.from (holdsRow_own w.heap.size w.heap.size 89 24 32 (fun s : List RtV => s.length) (fun s => cellsOf (s.map Subtype.val)) (fun _ _ => True)) _) (ownFrom_below (Nat.le_refl _) (by omega)))
    (fun _ _ _ _ _ hs _ _ => hs) ⟨⟨_, X0, World.ownsRow_nil _ _ _ _, trivial⟩, BA⟩
    (fun x a' W => ∃ g, w.heap.size ≤ g ∧ Has W g 24 .u8 x.1 ∧ a' = { tmps := #[.slice none 0 0, .func (.func 62) #[] #[.pointer (some ⟨c, 0, none⟩)], .pointer (some ⟨w.heap.size, 0, none⟩), undef, .slice none 0 0, .pointer (some ⟨g, 0, none⟩), .func (.func 62) #[] #[.pointer (some ⟨c, 0, none⟩)], .agg (nums .u8 x.1), undef, undef, undef, undef, undef], defers := [] })
    (fun x a' => Own.from (fun s A B row ⟨g, h1, h2, h3⟩ hg hr => ⟨g, h1, heap_kept h2 hg hr, h3⟩) _) ?assign ?body ?done ?stop
  case kb =>
    intro W l o o' hl h hk _
    exact ⟨World.cell?_of_block (World.putObj_heap_other (fun e => by simp at e; omega)), fun hh => hh.kept (grownBy_putObj' W l o') (fun r e => by cases e; exact ⟨o, h, hk⟩)⟩
  case assign =>
    rintro l pre x W K ⟨⟨v, hX, hown, _⟩, hB⟩ hK
    have hrt := x.2
    have B1 : Below W.heap.size W (W.alloc (.cells (nums .u8 (zeros 32)) 24)) := (Below.refl _ _).alloc (Nat.le_refl _) _
    have H1 : Has (W.alloc (.cells (nums .u8 (zeros 32)) 24)) W.heap.size 24 .u8 (zeros 32) := heap_alloc_new W _
    have hs32 : (nums .u8 x.1).size = 32 := by rw [nums_size, hrt.len]
    have ksc := run_storeCells_from (P := Tryd.prog) W.heap.size 24 (nums .u8 x.1).toList 0 (nums .u8 (zeros 32)) (W.alloc (.cells (nums .u8 (zeros 32)) 24)) H1 (by rw [Array.length_toList, hs32, nums_size, zeros_length]) (fun v hv => (Array.all_eq_true_iff_forall_mem.1 (nums_one .u8 x.1)) v (by simpa using hv))
    rw [List.take_zero, List.nil_append, Array.toArray_toList] at ksc
    have B2 : Below W.heap.size W ((W.alloc (.cells (nums .u8 (zeros 32)) 24)).setRow W.heap.size (nums .u8 x.1)) := below_only B1 (Only.setRow _ _ _) (Nat.le_refl _)
    have H2 : Has ((W.alloc (.cells (nums .u8 (zeros 32)) 24)).setRow W.heap.size (nums .u8 x.1)) W.heap.size 24 .u8 x.1 := setRow_heap _ _ _ _ _ _ H1
    gi_wp2
    rename_i K2 hK2
    erw [ksc]
    simp only [Result.andThen_ok, Oper.uponIn_skip]
    refine hK2 _ _ ?_
    gi_wp2
    have hBB := hB.trans (B2.mono hB.size)
    exact hK _ _ ⟨B2.size, fun k o _ hk ho => (B2.block k (Array.getElem?_eq_some_iff.1 hk).1).trans hk⟩ ⟨B2.cell (p := ⟨c, 0, none⟩) (by show c < W.heap.size; have := hB.size; omega), fun h => h.keep B2⟩ ⟨⟨v, (B2.block _ hX.lt).trans hX, own_keep hown B2, trivial⟩, hBB⟩ ⟨W.heap.size, hB.size, H2, rfl⟩
  case body =>
    rintro l pre x a' W hl ⟨r, hr⟩ ⟨⟨v, hX, hown, _⟩, hB⟩ ⟨g, hg, hH, rfl⟩ hlt
    have hvc := hX.cell
    have hrt := x.2
    have HB1 : Has (W.alloc (.cells (nums .u8 x.1) 24)) W.heap.size 24 .u8 x.1 := heap_alloc_new W _
    have hown1 := hown.alloc (.cells (nums .u8 x.1) 24)
    obtain ⟨i0, hi, hz0, hz1, hz2⟩ := info_parts Tryd.rootInfo
    obtain ⟨v', w1, hrun, hown', hgrow, hmov⟩ := run_append_any (P := Tryd.prog) (W.alloc (.cells (nums .u8 x.1) 24)) w.heap.size 89 89 89 24 i0 (.agg (nums .u8 (zeros 32))) 32 32 Tryd.underlying89 hi hz0 hz1 hz2 (by rw [show (Value.agg (nums .u8 (zeros 32))).cells = nums .u8 (zeros 32) from rfl, nums_size, zeros_length]) (by decide) v pre.length _ hown1 (.slice (some ⟨W.heap.size, 0, none⟩) 1 1) 1 (cellsOf [x.1]) (root_src HB1 hrt.len) (by unfold maxLen; omega) (by omega) (by have := hB.size; simp; omega)
    obtain ⟨q1, q2, q3, q4, q5⟩ := Go.Boxed.appended hX (by decide) hown hB.size (Nat.le_refl _) hown' hgrow
    obtain ⟨g1, cap1, rfl⟩ := ownsRow_succ hown'
    have h1c := q1.cell
    have h1f := q1.frozen
    have hLL := hB.trans q5
    have hcs : cellsOf (pre.map Subtype.val) ++ cellsOf [x.1] = cellsOf ((pre ++ [x]).map Subtype.val) := by rw [← cellsOf_append, List.map_append]; rfl
    rw [hcs] at q3
    have hln : (pre ++ [x]).length = pre.length + 1 := by simp
    have HQ := hid (And.intro q2 (And.intro q3 (And.intro q4 (And.intro q5 (And.intro hLL hln)))))
    have HRN := hid hrun
    clear q2 q3 q4 q5 hLL hcs hln hgrow hown' hown1 hown hmov
    gi_wp2_with (first
      | (refine wpListIn_run rfl rfl (fun _ h => by cases h) _ _ (run_load_has 24 (.tmp 5) rfl g .u8 x.1 rfl 24 hH _ _ Tryd.und24 (by rw [hrt.len]; exact Tryd.size24)) ?_)
      | (refine wpListIn_run rfl rfl (fun _ h => by cases h) _ _ (run_one_root 89 24 (.tmp 9) rfl Tryd.underlying89 Tryd.rootInfo x.1 rfl hrt.len) ?_)
      | (refine wpListIn_run rfl rfl (fun _ h => by cases h) _ _ (run_call_append (.tmp 8) (.tmp 10) 89 89 rfl _ _ _ rfl rfl HRN.out) ?_))
    refine ⟨HQ.out.2.2.1.from _, ⟨HQ.out.2.2.2.1.cell (p := ⟨c, 0, none⟩) hcl, fun _ => hR.keep HQ.out.2.2.2.2.1⟩, ⟨⟨_, HQ.out.1, ?_, trivial⟩, HQ.out.2.2.2.2.1⟩⟩
    rw [HQ.out.2.2.2.2.2]
    exact HQ.out.2.1
  case done =>
    rintro D ys W hD hdn ⟨⟨v, hX, hown, _⟩, hB⟩ hK
    have hvc := hX.cell
    gi_wp2
    refine ⟨by simp, .inl ⟨_, _, rfl, run_takeDeferred hK, ?_⟩⟩
    refine ⟨_, results_tmp rfl _ _ _, v, rfl, ?_, hB.trans (belowK_b (w := w) (Nat.le_refl _) W D _ _ (by omega) hK rfl rfl)⟩
    have h := ownsRow_putObj hown (.deferred none) hK rfl
    rw [hdn] at h
    rw [← hdn, List.length_map]
    rw [← hdn] at h
    exact h
  case stop =>
    rintro D c pre W _ _ h _
    exact h.elim
end Go.Proofs.YtpkelkipmldfeaaDoor

/- Bytes as roots, by the program: Collect, chunks. -/
namespace Go.Proofs.YtpkelkipmldfeaaDoor
open Go.RowKit
set_option linter.unusedVariables false
set_option maxRecDepth 100000

set_option maxHeartbeats 1000000 in
theorem collect_any (c cap : Nat) (ao : Option Addr) (bs : List Nat) (w : World) (h8 : ∀ z ∈ bs, z < 256) (hlen : bs.length ≤ 140737488351232) (hcap : bs.length ≤ cap) (hm : cap ≤ maxLen) (hc : w.cell? ⟨c, 0, none⟩ = some (.slice ao bs.length cap)) (hR : Reads w ao bs) :
    Calls Tryd.prog 53 #[.func (.func 62) #[] #[.pointer (some ⟨c, 0, none⟩)]] w fun e w' => ∃ v, e = .returned v ∧ w'.ownsRow w.heap.size 24 32 v (chunks bs).length (cellsOf (chunks bs)) ∧ Below w.heap.size w w' := by
  have HC := hid (callsIn_wide.1 (appSeq_any c cap ao bs w h8 hlen hcap hm hc hR))
  clear hm hc hR h8 hcap hlen
  go_enter Tryd.func53, Tryd.ntmps53
  go_wp2_with fail
  refine HC.out.mono ?_
  rintro e w1 ⟨v, rfl, h1, B1⟩
  have X := hid (And.intro h1 B1)
  clear h1 B1
  go_wp2
  go_ret
  exact ⟨_, rfl, X.out.1, X.out.2⟩
set_option maxHeartbeats 1000000 in
theorem chunksR_any (v : Value) (bs : List Nat) (w : World) (hB : IsB w v bs) (hlen : bs.length ≤ 140737488351232) : Calls Tryd.prog 45 #[v] w fun e w' => ∃ v', e = .returned v' ∧ w'.ownsRow w.heap.size 24 32 v' (chunks bs).length (cellsOf (chunks bs)) ∧ Below w.heap.size w w' := by
  obtain ⟨⟨ao, cap, rfl, hcap, hmx, hnil, hR⟩, h8⟩ := hB
  have HC := hid (chunks_any ao cap bs w hnil hcap (by omega) hR)
  have H8 := hid h8
  have HL := hid hlen
  clear hR h8 hlen
  go_enter Tryd.func45, Tryd.ntmps45
  go_wp2_with fail
  refine HC.out.mono ?_
  rintro e w1 ⟨c, v, hc, rfl, hv, ⟨ao1, cap1, rfl, h1, h2, h3⟩, B1⟩
  have HD := hid (collect_any c cap1 ao1 bs w1 H8.out HL.out h1 h2 hv h3)
  clear HC hv h1 h2 h3
  go_wp2_with fail
  refine HD.out.mono ?_
  rintro e w2 ⟨v2, rfl, h4, B2⟩
  have X := hid (And.intro h4 (B1.trans (B2.mono B1.size)))
  have hs := B1.size
  clear h4 B2 HD
  go_wp2
  go_ret
  refine ⟨_, rfl, ⟨X.out.1.1, ?_⟩, X.out.2⟩
  rcases X.out.1.2 with h | ⟨g, cap, cur, e, hb, rest⟩
  · exact .inl h
  · exact .inr ⟨g, cap, cur, e, Nat.le_trans hs hb, rest⟩
end Go.Proofs.YtpkelkipmldfeaaDoor

/- The root of a list of numbers, by the program. -/
namespace Go.Proofs.YtpkelkipmldfeaaDoor
open Go.RowKit
set_option linter.unusedVariables false
set_option maxRecDepth 100000

/-- A slice of numbers. -/
structure IsN (w : World) (v : Value) (ns : List Nat) : Prop where
  ex : ∃ ao cap, v = .slice ao ns.length cap ∧ ns.length ≤ cap ∧ cap ≤ maxLen ∧ (ns.length = 0 ∨ ∃ b off, ao = some ⟨b, off, none⟩ ∧ ∀ i, i < ns.length → w.cell? ⟨b, off + i, none⟩ = some (.int .u64 (ns.getD i 0 : Nat)))
  by64 : ∀ n ∈ ns, n < 18446744073709551616
theorem IsN.keep {w w' : World} {v : Value} {ns : List Nat} (h : IsN w v ns) (hb : Below w.heap.size w w') : IsN w' v ns := by
  obtain ⟨⟨ao, cap, e, h1, h2, h3⟩, h4⟩ := h
  refine ⟨⟨ao, cap, e, h1, h2, ?_⟩, h4⟩
  rcases h3 with h3 | ⟨b, off, e2, hc⟩
  · exact .inl h3
  · exact .inr ⟨b, off, e2, fun i hi => cell_keep hb (hc i hi)⟩
set_option maxHeartbeats 1000000 in
theorem packed_any (v : Value) (ns : List Nat) (w : World) (hN : IsN w v ns) (hl : ns.length ≤ 17592186043904) :
    Calls Tryd.prog 29 #[v] w fun e w' => ∃ v', e = .returned v' ∧ w'.ownsRow w.heap.size 24 32 v' (chunks (numB ns)).length (cellsOf (chunks (numB ns))) ∧ Below w.heap.size w w' := by
  obtain ⟨⟨ao, cap, rfl, hcap, hmx, hc⟩, h64⟩ := hN
  have HC := hid hc
  have H64 := hid h64
  clear hc h64
  go_enter Tryd.func29, Tryd.ntmps29
  go_wp2_with fail
  go_loopw [3, 5, 8] (fun b _ i wr => ∃ t : Nat, t ≤ ns.length ∧ i = .int .i64 t ∧ Row wr w.heap.size b (numB (ns.take t)) ∧ Below w.heap.size w wr) (fun _ _ i _ => ns.length - (intOf i).toNat)
  case atStart => exact ⟨0, Nat.zero_le _, rfl, Row.nil _ _, Below.refl _ _⟩
  case round =>
    obtain ⟨t, ht, rfl, hown, HL⟩ := hrel
    by_cases hlt : t < ns.length
    · obtain ⟨b, off, rfl, hcc⟩ := HC.out.resolve_left (by omega)
      have hct := cell_keep HL (hcc t hlt)
      have hn64 : ns.getD t 0 < 18446744073709551616 := by
        rw [List.getD_eq_getElem?_getD, List.getElem?_eq_getElem hlt]
        exact H64.out _ (List.getElem_mem hlt)
      have hnx := numB_succ ns t hlt
      have hlB := numB_length (ns.take t)
      rw [List.length_take, Nat.min_eq_left (by omega)] at hlB
      obtain ⟨x, HX⟩ : ∃ x, Hid (ns.getD t 0 = x) := ⟨_, hid rfl⟩
      rw [HX.out] at hct hn64 hnx
      have HP := hid (put_any x 8 hn64 (by decide) (by decide) wr)
      have HO := hid (And.intro hown (And.intro HL hnx))
      have hsz := HL.size
      have hlB' := hid hlB
      clear hcc hown HL hnx hn64 hlB
      go_wp2_with fail
      refine HP.out.mono ?_
      rintro e w2 ⟨cap2, rfl, own2, B2⟩
      have hI := hid (put8_isB' own2)
      have R2 := hid (Row.below HO.out.1 B2)
      have L2 := hid (HO.out.2.1.trans (B2.mono HO.out.2.1.size))
      have s2 := B2.size
      clear own2 B2 HP hct
      go_wp2_with ((with_reducible refine at_list' ?_); first
        | (refine wpList_append_b rfl (.tmp 12) (.tmp 14) 91 rfl w.heap.size _ (numB (ns.take t)) rfl R2.out _ (byte8 x) rfl hI.out.src (by rw [hlB'.out, byte8_length]; omega) (by omega) ?_; intro v4 w4 r1 r2 r3))
      have L4 := below_grownR L2.out R2.out (Nat.le_refl _) r2
      rw [HO.out.2.2] at r1
      have X4 := hid (And.intro r1 L4)
      clear r1 r2 r3 L4
      go_roundw
      case rel => exact ⟨t + 1, by omega, by go_num, X4.out.1, X4.out.2⟩
      case measure => simp [intOf]; omega
    · have ht2 : t = ns.length := by omega
      subst ht2
      rw [List.take_of_length_le (Nat.le_refl _)] at hown
      have HD := hid (chunksR_any _ (numB ns) wr (hown.isB (numB_byte ns)) (by rw [numB_length]; omega))
      have HLL := hid HL
      clear hown HL
      go_wp2_with fail
      refine HD.out.mono ?_
      rintro e w2 ⟨v2, rfl, h2, B2⟩
      have X := hid (And.intro h2 (HLL.out.trans (B2.mono HLL.out.size)))
      have hs := HLL.out.size
      clear h2 B2 HD
      go_wp2
      go_ret
      refine ⟨_, rfl, ⟨X.out.1.1, ?_⟩, X.out.2⟩
      rcases X.out.1.2 with h | ⟨g, cap, cur, e, hb, rest⟩
      · exact .inl h
      · exact .inr ⟨g, cap, cur, e, Nat.le_trans hs hb, rest⟩
/-- The root of a list of numbers. -/
def numR (ns : List Nat) : List Nat := pr (treeZ 8 (chunks (numB ns))) (wUp ns.length 8)
theorem numR_rt (ns : List Nat) : Rt (numR ns) := pr_rt _ _
set_option maxHeartbeats 1000000 in
theorem numbersR_any (v : Value) (ns : List Nat) (w : World) (hT : Tabs w) (hN : IsN w v ns) (hl : ns.length ≤ 17592186043904) :
    Calls Tryd.prog 12 #[v] w fun e w' => e = .returned (.agg (nums .u8 (numR ns))) ∧ Below w.heap.size w w' := by
  obtain ⟨T, HTT⟩ : ∃ T, Hid (treeZ 8 (chunks (numB ns)) = T) := ⟨_, hid rfl⟩
  have hTr := treeZ_rt 8 (chunks (numB ns)) (chunks_rts _ (numB_byte ns))
  rw [HTT.out] at hTr
  have hpr := pr_rt T (wUp ns.length 8)
  obtain ⟨Z, HZ⟩ : ∃ Z, Hid (pr T (wUp ns.length 8) = Z) := ⟨_, hid rfl⟩
  rw [show numR ns = pr (treeZ 8 (chunks (numB ns))) (wUp ns.length 8) from rfl, HTT.out, HZ.out]
  have HMX := hid (fun w (hT : Tabs w) => mix_any' T ns.length hTr (by omega) w hT)
  rw [HZ.out] at hpr HMX
  have HP := hid (fun w1 (hb : Below w.heap.size w w1) => packed_any v ns w1 (hN.keep hb) hl)
  have hcl : (chunks (numB ns)).length ≤ 4398046511104 := by rw [chunks_length, numB_length]; omega
  have HTz := hid (fun ao cap w1 (hT : Tabs w1) (h1 : (chunks (numB ns)).length ≤ cap) (h2 : cap ≤ maxLen) (h3 : RootsAt w1 ao (chunks (numB ns))) => treZ_any ao cap (chunks (numB ns)) 8 w1 hT h1 h2 hcl (by decide) h3)
  rw [HTT.out] at HTz
  obtain ⟨C, HC⟩ : ∃ C, Hid (chunks (numB ns) = C) := ⟨_, hid rfl⟩
  have hCr := chunks_rts _ (numB_byte ns)
  rw [HC.out] at HTz HP hCr
  obtain ⟨bao, bcap, rfl, _, _, _⟩ := hN.ex
  have HT := hid hT
  clear hN hT hcl
  go_enter Tryd.func12, Tryd.ntmps12
  go_wp2_with ((with_reducible refine at_list' ?_); first
    | (refine wpList_alloc_has rfl 2 rfl 24 rfl .u8 32 Tryd.zero24 ?_; intro w1 H1 B1 S1))
  refine (HP.out w1 B1).mono ?_
  rintro e w3 ⟨v3, rfl, h3, B3⟩
  obtain ⟨_, ao3, cap3, rfl, k1, k2, k3⟩ := RootsAt.own hCr h3
  have L3 := hid (below_more B1 B3 (Nat.le_refl _))
  have H3 := H1.keep B3
  have HT3 := hid (HTz.out ao3 cap3 w3 (HT.out.keep L3.out) k1 k2 k3)
  clear HP h3 k1 k2 k3 H1 B1 S1 B3 HTz
  go_wp2_with fail
  refine HT3.out.mono ?_
  rintro e w4 ⟨rfl, B4⟩
  have L4 := hid (below_more L3.out B4 (Nat.le_refl _))
  have H4 := H3.keep B4
  clear HT3 L3 H3 B4
  go_wp2_with fail
  refine (HMX.out w4 (HT.out.keep L4.out)).mono ?_
  rintro e w5 ⟨rfl, B5⟩
  have L5 := hid (below_more L4.out B5 (Nat.le_refl _))
  have H5 := H4.keep B5
  clear L4 H4 B5 HMX
  go_wp2_with ((with_reducible refine at_list' ?_); first
    | (refine wpList_store_has rfl 24 (.tmp 2) (.tmp 9) rfl w.heap.size .u8 Z (zeros 32) rfl rfl 24 H5 (hpr.size _ Tryd.size24) (by rw [hpr.len, zeros_length]) ?_; intro w6 H6 O6))
  refine bodyPost_ret (results_has rfl _ _ w.heap.size 24 .u8 Z _ _ rfl H6 Tryd.und24 (hpr.size _ Tryd.size24)) rfl ?_
  exact ⟨rfl, below_only L5.out O6 (Nat.le_refl _)⟩
end Go.Proofs.YtpkelkipmldfeaaDoor

/- The root of a struct (Indexed), by the program. -/
namespace Go.Proofs.YtpkelkipmldfeaaDoor
open Go.RowKit Go.Shelf
set_option linter.unusedVariables false
set_option linter.unusedSimpArgs false
set_option maxRecDepth 100000

def ixP (zno : Option Addr) (znc : Nat) (znl : List Nat) (zdzs : Nat) (zdzi : Nat) (zdzb : List Nat) (zdzcze : Nat) (zdzczr : List Nat) (zdztze : Nat) (zdztzr : List Nat) (zsg : List Nat) : List (List Value) := [[.slice zno znl.length znc], vtC zdzs zdzi zdzb zdzcze zdzczr zdztze zdztzr, cellsB zsg]
def ixC (zno : Option Addr) (znc : Nat) (znl : List Nat) (zdzs : Nat) (zdzi : Nat) (zdzb : List Nat) (zdzcze : Nat) (zdzczr : List Nat) (zdztze : Nat) (zdztzr : List Nat) (zsg : List Nat) : List Value := (ixP zno znc znl zdzs zdzi zdzb zdzcze zdzczr zdztze zdztzr zsg).flatten
theorem ixC_length (zno : Option Addr) (znc : Nat) (znl : List Nat) (zdzs : Nat) (zdzi : Nat) (zdzb : List Nat) (zdzcze : Nat) (zdzczr : List Nat) (zdztze : Nat) (zdztzr : List Nat) (zsg : List Nat) (hzdzb : zdzb.length = 32) (hzdzczr : zdzczr.length = 32) (hzdztzr : zdztzr.length = 32) (hzsg : zsg.length = 32) : (ixC zno znc znl zdzs zdzi zdzb zdzcze zdzczr zdztze zdztzr zsg).length = 133 := by simp [ixC, ixP, cellsB_length, hzdzb, hzdzczr, hzdztzr, hzsg, vtC_length zdzs zdzi zdzb zdzcze zdzczr zdztze zdztzr hzdzb hzdzczr hzdztzr]
def ixR (zno : Option Addr) (znc : Nat) (znl : List Nat) (zdzs : Nat) (zdzi : Nat) (zdzb : List Nat) (zdzcze : Nat) (zdzczr : List Nat) (zdztze : Nat) (zdztzr : List Nat) (zsg : List Nat) : List Nat := fullR (depth (([numR znl, vtR zdzs zdzi zdzb zdzcze zdzczr zdztze zdztzr, zsg] : List (List Nat)).length : Nat)) [numR znl, vtR zdzs zdzi zdzb zdzcze zdzczr zdztze zdztzr, zsg]
theorem ixR_rt (zno : Option Addr) (znc : Nat) (znl : List Nat) (zdzs : Nat) (zdzi : Nat) (zdzb : List Nat) (zdzcze : Nat) (zdzczr : List Nat) (zdztze : Nat) (zdztzr : List Nat) (zsg : List Nat) (hzdzb : Rt zdzb) (hzdzczr : Rt zdzczr) (hzdztzr : Rt zdztzr) (hzsg : Rt zsg) : Rt (ixR zno znc znl zdzs zdzi zdzb zdzcze zdzczr zdztze zdztzr zsg) := full_rt _ _ (Rts.more (numR_rt znl) (Rts.more (vtR_rt zdzs zdzi zdzb zdzcze zdzczr zdztze zdztzr hzdzb hzdzczr hzdztzr) (Rts.more hzsg Rts.nil)))
set_option maxHeartbeats 2000000 in
theorem ixR_any (zno : Option Addr) (znc : Nat) (znl : List Nat) (zdzs : Nat) (zdzi : Nat) (zdzb : List Nat) (zdzcze : Nat) (zdzczr : List Nat) (zdztze : Nat) (zdztzr : List Nat) (zsg : List Nat) (hzdzs : zdzs < 18446744073709551616) (hzdzi : zdzi < 18446744073709551616) (hzdzb : Rt zdzb) (hzdzcze : zdzcze < 18446744073709551616) (hzdzczr : Rt zdzczr) (hzdztze : zdztze < 18446744073709551616) (hzdztzr : Rt zdztzr) (hzsg : Rt zsg) (w : World) (hT : Tabs w) (hzn : IsN w (.slice zno znl.length znc) znl) (hznn : znl.length ≤ 17592186043904) :
    Calls Tryd.prog 34 #[.agg (ixC zno znc znl zdzs zdzi zdzb zdzcze zdzczr zdztze zdztzr zsg).toArray] w fun x w' => x = .returned (.agg (nums .u8 (ixR zno znc znl zdzs zdzi zdzb zdzcze zdzczr zdztze zdztzr zsg))) ∧ Below w.heap.size w w' := by
  have hfr := ixR_rt zno znc znl zdzs zdzi zdzb zdzcze zdzczr zdztze zdztzr zsg hzdzb hzdzczr hzdztzr hzsg
  obtain ⟨W, HW⟩ : ∃ W, Same (ixR zno znc znl zdzs zdzi zdzb zdzcze zdzczr zdztze zdztzr zsg) W := ⟨_, ⟨rfl⟩⟩
  rw [HW.out] at hfr ⊢
  go_enter Tryd.func34, Tryd.ntmps34
  go_wp2_with ((with_reducible refine at_list' ?_); first
    | (refine wpList_box_c rfl 1 rfl (.tmp 0) rfl (ixC zno znc znl zdzs zdzi zdzb zdzcze zdzczr zdztze zdztzr zsg) rfl ?_; intro w1 H1 B1 S1)
    | (refine wpList_alloc_has rfl 2 rfl 24 rfl .u8 32 Tryd.zero24 ?_; intro w2 H2 B2 S2; rw [S1] at H2 S2; rw [S1]))
  have HX := hid (H1.keep B2)
  have HY := hid H2
  have HB := hid (B1.trans (B2.mono (by omega)))
  have HT := hid (hT.keep HB.out)
  have s2 : w2.heap.size = w.heap.size + 2 := by omega
  clear H1 B1 S1 H2 B2 S2
  try simp only [Act.put, List.setIfInBounds_toArray, List.set_cons_succ, List.set_cons_zero]
  refine wp_region_flow 10 10 (fun i v wq => match i with
    | 0 => v = .pointer (some ⟨w.heap.size, 0, none⟩)
    | 1 => v = .slice zno znl.length znc
    | 2 => v = .agg (nums .u8 (numR znl))
    | 3 => v = .pointer (some ⟨w.heap.size, 1, none⟩)
    | 4 => v = .agg (vtC zdzs zdzi zdzb zdzcze zdzczr zdztze zdztzr).toArray
    | 5 => v = .agg (nums .u8 (vtR zdzs zdzi zdzb zdzcze zdzczr zdztze zdztzr))
    | 6 => v = .pointer (some ⟨w.heap.size, 101, none⟩)
    | 7 => v = .agg (nums .u8 zsg)
    | 8 => ∃ b, v = .slice (some ⟨b, 0, none⟩) 3 3 ∧ RootsAt wq (some ⟨b, 0, none⟩) [numR znl, vtR zdzs zdzi zdzb zdzcze zdzczr zdztze zdztzr, zsg]
    | _ => v = .agg (nums .u8 W)) (by kernel_rfl) (by kernel_rfl) (fun _ d _ _ _ h => by cases d <;> exact h) ?_ ?_ ?_ ?_
  · intro i v wq wq' hi hv hb
    match i, hi with
    | 0, _ => exact hv
    | 1, _ => exact hv
    | 2, _ => exact hv
    | 3, _ => exact hv
    | 4, _ => exact hv
    | 5, _ => exact hv
    | 6, _ => exact hv
    | 7, _ => exact hv
    | 8, _ => obtain ⟨b, h1, h2⟩ := hv; exact ⟨b, h1, h2.keep hb⟩
    | 9, _ => exact hv
    | (k + 10), hk => exact absurd hk (by omega)
  · intro i o hi ho aq wq hc hk hdep
    match i, hi with
    | 0, _ =>
      cases ho
      have e1 : aq.tmps.getD 1 undef = .pointer (some ⟨w.heap.size, 0, none⟩) := hk 1 (by decide)
      exact flow_value _ (run_fieldAt 55 (.tmp 1) 0 rfl _ _ e1 (by kernel_rfl)) rfl
    | 1, _ =>
      cases ho
      have e0 : aq.tmps.getD 3 undef = .pointer (some ⟨w.heap.size, 0, none⟩) := hdep 0 3 rfl (by kernel_rfl)
      exact flow_value _ (run_cell 51 (.tmp 3) rfl _ e0 _ ((HX.out.keep (hcB hc)).cell (seg (ps := ixP zno znc znl zdzs zdzi zdzb zdzcze zdzczr zdztze zdztzr zsg) (i := 0) (off := 0) rfl (by simp [ixP, cellsB_length, hzdzb.len, hzdzczr.len, hzdztzr.len, hzsg.len, vtC_length zdzs zdzi zdzb zdzcze zdzczr zdztze zdztzr hzdzb.len hzdzczr.len hzdztzr.len]) 0 _ rfl)) _ Tryd.underlying51 rfl) rfl
    | 2, _ =>
      cases ho
      have e0 : aq.tmps.getD 4 undef = .slice zno znl.length znc := hdep 1 4 rfl (by kernel_rfl)
      refine flow_fun 12 _ _ rfl (fun _ _ => by simp [go_sem]) #[.slice zno znl.length znc] (by rw [show (#[Operand.tmp 4] : Array Operand).map aq.eval = #[aq.tmps.getD 4 undef] from by simp [Act.eval], e0]) ?_
      refine (numbersR_any (.slice zno znl.length znc) znl wq (HT.out.keep (hcB hc)) (hzn.keep (HB.out.trans ((hcB hc).mono HB.out.size))) (Nat.le_trans hznn (by decide))).mono ?_
      rintro x w' ⟨rfl, q⟩
      exact ⟨_, rfl, rfl, q⟩
    | 3, _ =>
      cases ho
      have e1 : aq.tmps.getD 1 undef = .pointer (some ⟨w.heap.size, 0, none⟩) := hk 1 (by decide)
      exact flow_value _ (run_fieldAt 55 (.tmp 1) 1 rfl _ _ e1 (by kernel_rfl)) rfl
    | 4, _ =>
      cases ho
      have e0 : aq.tmps.getD 6 undef = .pointer (some ⟨w.heap.size, 1, none⟩) := hdep 3 6 rfl (by kernel_rfl)
      exact flow_value _ (run_mid 53 (.tmp 6) rfl w.heap.size 1 e0 (vtC zdzs zdzi zdzb zdzcze zdzczr zdztze zdztzr) ((HX.out.keep (hcB hc)).range 1 (vtC zdzs zdzi zdzb zdzcze zdzczr zdztze zdztzr) (seg (ps := ixP zno znc znl zdzs zdzi zdzb zdzcze zdzczr zdztze zdztzr zsg) (i := 1) (off := 1) rfl (by simp [ixP, cellsB_length, hzdzb.len, hzdzczr.len, hzdztzr.len, hzsg.len, vtC_length zdzs zdzi zdzb zdzcze zdzczr zdztze zdztzr hzdzb.len hzdzczr.len hzdztzr.len]))) _ Tryd.underlying53 rfl (by rw [vtC_length zdzs zdzi zdzb zdzcze zdzczr zdztze zdztzr hzdzb.len hzdzczr.len hzdztzr.len]; kernel_rfl)) rfl
    | 5, _ =>
      cases ho
      have e0 : aq.tmps.getD 7 undef = .agg (vtC zdzs zdzi zdzb zdzcze zdzczr zdztze zdztzr).toArray := hdep 4 7 rfl (by kernel_rfl)
      refine flow_fun 37 _ _ rfl (fun _ _ => by simp [go_sem]) #[.agg (vtC zdzs zdzi zdzb zdzcze zdzczr zdztze zdztzr).toArray] (by rw [show (#[Operand.tmp 7] : Array Operand).map aq.eval = #[aq.tmps.getD 7 undef] from by simp [Act.eval], e0]) ?_
      refine (vtR_any zdzs zdzi zdzb zdzcze zdzczr zdztze zdztzr hzdzs hzdzi hzdzb hzdzcze hzdzczr hzdztze hzdztzr wq (HT.out.keep (hcB hc))).mono ?_
      rintro x w' ⟨rfl, q⟩
      exact ⟨_, rfl, rfl, q⟩
    | 6, _ =>
      cases ho
      have e1 : aq.tmps.getD 1 undef = .pointer (some ⟨w.heap.size, 0, none⟩) := hk 1 (by decide)
      exact flow_value _ (run_fieldAt 55 (.tmp 1) 2 rfl _ _ e1 (by kernel_rfl)) rfl
    | 7, _ =>
      cases ho
      have e0 : aq.tmps.getD 9 undef = .pointer (some ⟨w.heap.size, 101, none⟩) := hdep 6 9 rfl (by kernel_rfl)
      exact flow_value _ (run_mid 24 (.tmp 9) rfl w.heap.size 101 e0 (cellsB zsg) ((HX.out.keep (hcB hc)).range 101 (cellsB zsg) (seg (ps := ixP zno znc znl zdzs zdzi zdzb zdzcze zdzczr zdztze zdztzr zsg) (i := 2) (off := 101) rfl (by simp [ixP, cellsB_length, hzdzb.len, hzdzczr.len, hzdztzr.len, hzsg.len, vtC_length zdzs zdzi zdzb zdzcze zdzczr zdztze zdztzr hzdzb.len hzdzczr.len hzdztzr.len]))) _ Tryd.und24 rfl (by rw [cellsB_length, hzsg.len]; exact Tryd.size24)) rfl
    | 8, _ =>
      cases ho
      have e0 : aq.tmps.getD 5 undef = .agg (nums .u8 (numR znl)) := hdep 2 5 rfl (by kernel_rfl)
      have e1 : aq.tmps.getD 8 undef = .agg (nums .u8 (vtR zdzs zdzi zdzb zdzcze zdzczr zdztze zdztzr)) := hdep 5 8 rfl (by kernel_rfl)
      have e2 : aq.tmps.getD 10 undef = .agg (nums .u8 zsg) := hdep 7 10 rfl (by kernel_rfl)
      exact flow_rows 89 24 3 32 _ rfl Tryd.underlying89 rootInfo6 [cellsB (numR znl), cellsB (vtR zdzs zdzi zdzb zdzcze zdzczr zdztze zdztzr), cellsB (zsg)] [.tmp 5, .tmp 8, .tmp 10] rfl (by rw [show [Operand.tmp 5, Operand.tmp 8, Operand.tmp 10].map aq.eval = [aq.tmps.getD 5 undef, aq.tmps.getD 8 undef, aq.tmps.getD 10 undef] from rfl, e0, e1, e2]; rfl) (by simp [cellsB_length, ((numR_rt znl)).len, ((vtR_rt zdzs zdzi zdzb zdzcze zdzczr zdztze zdztzr hzdzb hzdzczr hzdztzr)).len, (hzsg).len]) rfl (by decide) (by decide) (by decide) (fun w' h => ⟨_, rfl, hasC_roots (rs := [numR znl, vtR zdzs zdzi zdzb zdzcze zdzczr zdztze zdztzr, zsg]) h (Rts.more (numR_rt znl) (Rts.more (vtR_rt zdzs zdzi zdzb zdzcze zdzczr zdztze zdztzr hzdzb hzdzczr hzdztzr) (Rts.more hzsg Rts.nil)))⟩)
    | 9, _ =>
      cases ho
      obtain ⟨b, e6, h6⟩ := hdep 8 11 rfl (by kernel_rfl)
      refine flow_fun 14 _ _ rfl (fun _ _ => by simp [go_sem]) #[.slice (some ⟨b, 0, none⟩) 3 3] (by rw [show (#[Operand.tmp 11] : Array Operand).map aq.eval = #[aq.tmps.getD 11 undef] from by simp [Act.eval], e6]) ?_
      refine (cont_any (some ⟨b, 0, none⟩) 3 [numR znl, vtR zdzs zdzi zdzb zdzcze zdzczr zdztze zdztzr, zsg] wq (HT.out.keep (hcB hc)) (Nat.le_refl _) (by decide) (by show 3 ≤ 1048576; decide) h6).mono ?_
      rintro x w' ⟨rfl, q⟩
      exact ⟨_, rfl, (by rw [← HW.out]; rfl), q⟩
    | (k + 10), hk => exact absurd hk (by omega)
  · intro o h10 ho
    omega
  intro vf w8 hc hv
  have e7 : vf 9 = _ := hv 9 12 (by decide) rfl
  have B8 := HB.out.trans ((hcB hc).mono (by omega))
  have H8v := HY.out.keep (hcB hc)
  have s8 := (hcB hc).size
  clear hv hc
  simp only [List.take_succ_cons, List.take_zero, List.drop_succ_cons, List.drop_zero, putAll, Act.put, List.setIfInBounds_toArray, List.set_cons_succ, List.set_cons_zero]
  rw [e7]
  have HB8 := hid B8
  clear B8 e7 HB
  go_wp2_with ((with_reducible refine at_list' ?_); first
    | (refine wpList_store_has rfl 24 (.tmp 2) (.tmp 12) rfl (w.heap.size + 1) .u8 W (zeros 32) rfl rfl 24 H8v (hfr.size _ Tryd.size24) (by rw [hfr.len, zeros_length]) ?_; intro w9 H9 O9))
  refine bodyPost_ret (results_has rfl _ _ (w.heap.size + 1) 24 .u8 W _ _ rfl H9 Tryd.und24 (hfr.size _ Tryd.size24)) rfl ?_
  exact ⟨rfl, below_only HB8.out O9 (by omega)⟩
end Go.Proofs.YtpkelkipmldfeaaDoor

