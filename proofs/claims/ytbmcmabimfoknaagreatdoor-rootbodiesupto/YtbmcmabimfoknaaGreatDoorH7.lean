/- Own texts of the proof, joined: KDDeposit KDEth KDAttesterSlashing KDBody FlowV FlowR AppV RowsB RefNum NumsV VIn RowVI FlowO DocE. -/
import Derived.Test.YtbmcmabimfoknaaGreatDoorH6
/- The document's kind of a Deposit. -/
namespace Go.Proofs.YtbmcmabimfoknaaGreatDoor
open Go.RowKit Go.Shelf
set_option linter.unusedVariables false
set_option linter.unusedSimpArgs false
set_option maxRecDepth 100000

set_option maxHeartbeats 1000000 in
theorem just_any (p n : Nat) (d : Dt) (w : World) (hD : DAt w d p) : Calls Tryz.prog 80 #[.pointer (some ⟨p, 0, none⟩), .int .i64 (n : Nat)] w fun x w' => ∃ q, x = .returned (.pointer (some ⟨q, 0, none⟩)) ∧ DAt w' (.mk 4 n [d]) q ∧ Below w.heap.size w w' := by
  have HD := hid hD
  clear hD
  go_enter Tryz.func80, Tryz.ntmps80
  go_wp2
  go_ret
  have B1 : Below w.heap.size w (w.alloc (.cells #[.pointer (some ⟨p, 0, none⟩)] 38)) := (Below.refl _ w).alloc (Nat.le_refl _) _
  have h1 := heap_alloc_new w (.cells #[.pointer (some ⟨p, 0, none⟩)] 38)
  have s1 : (w.alloc (.cells #[.pointer (some ⟨p, 0, none⟩)] 38)).heap.size = w.heap.size + 1 := by simp
  generalize w.alloc (.cells #[.pointer (some ⟨p, 0, none⟩)] 38) = w1 at *
  have B2 : Below w1.heap.size w1 (w1.alloc (.cells #[.int .i64 4, .int .i64 (n : Nat), .slice (some ⟨w.heap.size, 0, none⟩) 1 1] 95)) := (Below.refl _ w1).alloc (Nat.le_refl _) _
  have h2 := heap_alloc_new w1 (.cells #[.int .i64 4, .int .i64 (n : Nat), .slice (some ⟨w.heap.size, 0, none⟩) 1 1] 95)
  refine ⟨w.heap.size + 1, rfl, ?_, B1.trans (B2.mono B1.size)⟩
  rw [s1] at h2
  rw [DAt]
  refine ⟨cell_of_row _ _ 0 _ _ (0, 0) h2, cell_of_row _ _ 1 _ _ (0, 0) h2, some ⟨w.heap.size, 0, none⟩, 1, cell_of_row _ _ 2 _ _ (0, 0) h2, Nat.le_refl _, by decide, .inr ⟨w.heap.size, 0, rfl, ?_⟩⟩
  rw [DsAt, DsAt]
  exact ⟨⟨p, cell_keep B2 (cell_of_row _ _ 0 _ _ (0, 0) h1), DAt.keep B2 _ (DAt.keep B1 _ HD.out)⟩, trivial⟩
def dVec : Dt := .mk 4 6 [dRoot]
def dpD : Dt := dBox [dVec, ddD]
set_option maxHeartbeats 1000000 in
theorem dpD_any (w : World) : Calls Tryz.prog 46 #[] w fun x w' => ∃ p, x = .returned (.pointer (some ⟨p, 0, none⟩)) ∧ DAt w' dpD p ∧ Below w.heap.size w w' := by
  go_enter Tryz.func46, Tryz.ntmps46
  go_wp2_with fail
  refine (root_any' w).mono ?_
  rintro e w0 ⟨rfl, q1, q2⟩
  have HM := hid (just_any w.heap.size 6 dRoot w0 q1)
  have L0 := hid q2
  clear q1 q2
  go_wp2_with fail
  refine HM.out.mono ?_
  rintro e w1 ⟨p0, rfl, q1, q2⟩
  have K0_0 := hid q1
  have L1 := hid (L0.out.trans (q2.mono L0.out.size))
  clear q1 q2 HM L0
  go_wp2_with fail
  refine (ddD_any w1).mono ?_
  rintro e w2 ⟨p1, rfl, q1, q2⟩
  have K1_0 := hid (DAt.keep q2 _ K0_0.out)
  have K1_1 := hid q1
  have L2 := hid (L1.out.trans (q2.mono L1.out.size))
  clear q1 q2 K0_0 L1
  go_wp2_with fail
  have hB : Below w2.heap.size w2 (w2.alloc (.cells #[.pointer (some ⟨p0, 0, none⟩), .pointer (some ⟨p1, 0, none⟩)] 38)) := (Below.refl _ w2).alloc (Nat.le_refl _) _
  have h := heap_alloc_new w2 (.cells #[.pointer (some ⟨p0, 0, none⟩), .pointer (some ⟨p1, 0, none⟩)] 38)
  generalize w2.alloc (.cells #[.pointer (some ⟨p0, 0, none⟩), .pointer (some ⟨p1, 0, none⟩)] 38) = wz at hB h ⊢
  have hD : DsAt wz [dVec, ddD] w2.heap.size 0 := by
    rw [DsAt, DsAt, DsAt]
    exact ⟨⟨_, cell_of_row _ _ 0 _ _ (0, 0) h, DAt.keep hB _ K1_0.out⟩, ⟨_, cell_of_row _ _ 1 _ _ (0, 0) h, DAt.keep hB _ K1_1.out⟩, trivial⟩
  have HC := hid (box_any w2.heap.size 2 [dVec, ddD] wz rfl (by decide) hD)
  have HZ := hid (L2.out.trans (hB.mono L2.out.size))
  clear hB h hD
  refine HC.out.mono ?_
  rintro e wy ⟨rfl, q1, q2⟩
  have X := hid (And.intro q1 q2)
  clear q1 q2 HC
  go_wp2
  go_ret
  exact ⟨_, rfl, X.out.1, HZ.out.trans (X.out.2.mono HZ.out.size)⟩
end Go.Proofs.YtbmcmabimfoknaaGreatDoor

/- The document's kind of a struct (Eth). -/
namespace Go.Proofs.YtbmcmabimfoknaaGreatDoor
open Go.RowKit Go.Shelf
set_option linter.unusedVariables false
set_option linter.unusedSimpArgs false
set_option maxRecDepth 100000

def etD : Dt := dBox [dRoot, dNum]
set_option maxHeartbeats 1000000 in
theorem etD_any (w : World) : Calls Tryz.prog 41 #[] w fun x w' => ∃ p, x = .returned (.pointer (some ⟨p, 0, none⟩)) ∧ DAt w' etD p ∧ Below w.heap.size w w' := by
  go_enter Tryz.func41, Tryz.ntmps41
  go_wp2_with fail
  refine (root_any' w).mono ?_
  rintro e w1 ⟨rfl, q1, q2⟩
  have K0_0 := hid q1
  have L0 := hid (q2)
  clear q1 q2
  go_wp2_with fail
  refine (num_any' w1).mono ?_
  rintro e w2 ⟨rfl, q1, q2⟩
  have K1_0 := hid (DAt.keep q2 _ K0_0.out)
  have K1_1 := hid q1
  have L1 := hid (L0.out.trans (q2.mono L0.out.size))
  clear q1 q2 K0_0
  clear L0
  go_wp2_with fail
  have hB : Below w2.heap.size w2 (w2.alloc (.cells #[.pointer (some ⟨w.heap.size, 0, none⟩), .pointer (some ⟨w1.heap.size, 0, none⟩)] 38)) := (Below.refl _ w2).alloc (Nat.le_refl _) _
  have h := heap_alloc_new w2 (.cells #[.pointer (some ⟨w.heap.size, 0, none⟩), .pointer (some ⟨w1.heap.size, 0, none⟩)] 38)
  generalize w2.alloc (.cells #[.pointer (some ⟨w.heap.size, 0, none⟩), .pointer (some ⟨w1.heap.size, 0, none⟩)] 38) = wz at hB h ⊢
  have hD : DsAt wz [dRoot, dNum] w2.heap.size 0 := by
    rw [DsAt, DsAt, DsAt]
    exact ⟨⟨_, cell_of_row _ _ 0 _ _ (0, 0) h, DAt.keep hB _ K1_0.out⟩, ⟨_, cell_of_row _ _ 1 _ _ (0, 0) h, DAt.keep hB _ K1_1.out⟩, trivial⟩
  have HC := hid (box_any w2.heap.size 2 [dRoot, dNum] wz rfl (by decide) hD)
  have HZ := hid (L1.out.trans (hB.mono L1.out.size))
  clear hB h hD
  refine HC.out.mono ?_
  rintro e wy ⟨rfl, q1, q2⟩
  have X := hid (And.intro q1 q2)
  clear q1 q2 HC
  go_wp2
  go_ret
  exact ⟨_, rfl, X.out.1, HZ.out.trans (X.out.2.mono HZ.out.size)⟩
end Go.Proofs.YtbmcmabimfoknaaGreatDoor

/- The document's kind of a struct (AttesterSlashing). -/
namespace Go.Proofs.YtbmcmabimfoknaaGreatDoor
open Go.RowKit Go.Shelf
set_option linter.unusedVariables false
set_option linter.unusedSimpArgs false
set_option maxRecDepth 100000

def asD : Dt := dBox [ixD, ixD]
set_option maxHeartbeats 1000000 in
theorem asD_any (w : World) : Calls Tryz.prog 44 #[] w fun x w' => ∃ p, x = .returned (.pointer (some ⟨p, 0, none⟩)) ∧ DAt w' asD p ∧ Below w.heap.size w w' := by
  go_enter Tryz.func44, Tryz.ntmps44
  go_wp2_with fail
  refine (ixD_any w).mono ?_
  rintro e w1 ⟨p0, rfl, q1, q2⟩
  have K0_0 := hid q1
  have L0 := hid (q2)
  clear q1 q2
  go_wp2_with fail
  refine (ixD_any w1).mono ?_
  rintro e w2 ⟨p1, rfl, q1, q2⟩
  have K1_0 := hid (DAt.keep q2 _ K0_0.out)
  have K1_1 := hid q1
  have L1 := hid (L0.out.trans (q2.mono L0.out.size))
  clear q1 q2 K0_0
  clear L0
  go_wp2_with fail
  have hB : Below w2.heap.size w2 (w2.alloc (.cells #[.pointer (some ⟨p0, 0, none⟩), .pointer (some ⟨p1, 0, none⟩)] 38)) := (Below.refl _ w2).alloc (Nat.le_refl _) _
  have h := heap_alloc_new w2 (.cells #[.pointer (some ⟨p0, 0, none⟩), .pointer (some ⟨p1, 0, none⟩)] 38)
  generalize w2.alloc (.cells #[.pointer (some ⟨p0, 0, none⟩), .pointer (some ⟨p1, 0, none⟩)] 38) = wz at hB h ⊢
  have hD : DsAt wz [ixD, ixD] w2.heap.size 0 := by
    rw [DsAt, DsAt, DsAt]
    exact ⟨⟨_, cell_of_row _ _ 0 _ _ (0, 0) h, DAt.keep hB _ K1_0.out⟩, ⟨_, cell_of_row _ _ 1 _ _ (0, 0) h, DAt.keep hB _ K1_1.out⟩, trivial⟩
  have HC := hid (box_any w2.heap.size 2 [ixD, ixD] wz rfl (by decide) hD)
  have HZ := hid (L1.out.trans (hB.mono L1.out.size))
  clear hB h hD
  refine HC.out.mono ?_
  rintro e wy ⟨rfl, q1, q2⟩
  have X := hid (And.intro q1 q2)
  clear q1 q2 HC
  go_wp2
  go_ret
  exact ⟨_, rfl, X.out.1, HZ.out.trans (X.out.2.mono HZ.out.size)⟩
end Go.Proofs.YtbmcmabimfoknaaGreatDoor

/- The document's kinds of a Body and of a Block. -/
namespace Go.Proofs.YtbmcmabimfoknaaGreatDoor
open Go.RowKit Go.Shelf
set_option linter.unusedVariables false
set_option linter.unusedSimpArgs false
set_option maxRecDepth 100000

def bdD : Dt := dBox [dRoot, etD, dRoot, .mk 5 2 [psD], .mk 5 1 [asD], .mk 5 8 [atD], .mk 5 4 [dpD], .mk 5 2 [sxD]]
set_option maxHeartbeats 2000000 in
theorem bdD_any (w : World) : Calls Tryz.prog 9 #[] w fun x w' => ∃ p, x = .returned (.pointer (some ⟨p, 0, none⟩)) ∧ DAt w' bdD p ∧ Below w.heap.size w w' := by
  go_enter Tryz.func9, Tryz.ntmps9
  go_wp2_with fail
  refine (root_any' w).mono ?_
  rintro e w1 ⟨rfl, q1, q2⟩
  have Q0 := hid q1
  have L1 := hid (q2)
  clear q1 q2
  go_wp2_with fail
  refine (etD_any w1).mono ?_
  rintro e w2 ⟨p1, rfl, q1, q2⟩
  have Q0x := hid (DAt.keep q2 _ Q0.out)
  have Q1 := hid q1
  have L2 := hid (L1.out.trans (q2.mono L1.out.size))
  clear q1 q2 Q0 L1
  go_wp2_with fail
  refine (root_any' w2).mono ?_
  rintro e w3 ⟨rfl, q1, q2⟩
  have Q0xx := hid (DAt.keep q2 _ Q0x.out)
  have Q1x := hid (DAt.keep q2 _ Q1.out)
  have Q2 := hid q1
  have L3 := hid (L2.out.trans (q2.mono L2.out.size))
  clear q1 q2 Q0x Q1 L2
  go_wp2_with fail
  refine (psD_any w3).mono ?_
  rintro e w4 ⟨p3, rfl, q1, q2⟩
  have Q0xxx := hid (DAt.keep q2 _ Q0xx.out)
  have Q1xx := hid (DAt.keep q2 _ Q1x.out)
  have Q2x := hid (DAt.keep q2 _ Q2.out)
  have Q3 := hid q1
  have L4 := hid (L3.out.trans (q2.mono L3.out.size))
  clear q1 q2 Q0xx Q1x Q2 L3
  have HM := hid (many_any p3 2 psD w4 Q3.out)
  clear Q3
  go_wp2_with fail
  refine (HM.out).mono ?_
  rintro e w5 ⟨p4, rfl, q1, q2⟩
  have Q0xxxx := hid (DAt.keep q2 _ Q0xxx.out)
  have Q1xxx := hid (DAt.keep q2 _ Q1xx.out)
  have Q2xx := hid (DAt.keep q2 _ Q2x.out)
  have Q4 := hid q1
  have L5 := hid (L4.out.trans (q2.mono L4.out.size))
  clear q1 q2 Q0xxx Q1xx Q2x L4 HM
  go_wp2_with fail
  refine (asD_any w5).mono ?_
  rintro e w6 ⟨p5, rfl, q1, q2⟩
  have Q0xxxxx := hid (DAt.keep q2 _ Q0xxxx.out)
  have Q1xxxx := hid (DAt.keep q2 _ Q1xxx.out)
  have Q2xxx := hid (DAt.keep q2 _ Q2xx.out)
  have Q4x := hid (DAt.keep q2 _ Q4.out)
  have Q5 := hid q1
  have L6 := hid (L5.out.trans (q2.mono L5.out.size))
  clear q1 q2 Q0xxxx Q1xxx Q2xx Q4 L5
  have HM := hid (many_any p5 1 asD w6 Q5.out)
  clear Q5
  go_wp2_with fail
  refine (HM.out).mono ?_
  rintro e w7 ⟨p6, rfl, q1, q2⟩
  have Q0xxxxxx := hid (DAt.keep q2 _ Q0xxxxx.out)
  have Q1xxxxx := hid (DAt.keep q2 _ Q1xxxx.out)
  have Q2xxxx := hid (DAt.keep q2 _ Q2xxx.out)
  have Q4xx := hid (DAt.keep q2 _ Q4x.out)
  have Q6 := hid q1
  have L7 := hid (L6.out.trans (q2.mono L6.out.size))
  clear q1 q2 Q0xxxxx Q1xxxx Q2xxx Q4x L6 HM
  go_wp2_with fail
  refine (atD_any w7).mono ?_
  rintro e w8 ⟨p7, rfl, q1, q2⟩
  have Q0xxxxxxx := hid (DAt.keep q2 _ Q0xxxxxx.out)
  have Q1xxxxxx := hid (DAt.keep q2 _ Q1xxxxx.out)
  have Q2xxxxx := hid (DAt.keep q2 _ Q2xxxx.out)
  have Q4xxx := hid (DAt.keep q2 _ Q4xx.out)
  have Q6x := hid (DAt.keep q2 _ Q6.out)
  have Q7 := hid q1
  have L8 := hid (L7.out.trans (q2.mono L7.out.size))
  clear q1 q2 Q0xxxxxx Q1xxxxx Q2xxxx Q4xx Q6 L7
  have HM := hid (many_any p7 8 atD w8 Q7.out)
  clear Q7
  go_wp2_with fail
  refine (HM.out).mono ?_
  rintro e w9 ⟨p8, rfl, q1, q2⟩
  have Q0xxxxxxxx := hid (DAt.keep q2 _ Q0xxxxxxx.out)
  have Q1xxxxxxx := hid (DAt.keep q2 _ Q1xxxxxx.out)
  have Q2xxxxxx := hid (DAt.keep q2 _ Q2xxxxx.out)
  have Q4xxxx := hid (DAt.keep q2 _ Q4xxx.out)
  have Q6xx := hid (DAt.keep q2 _ Q6x.out)
  have Q8 := hid q1
  have L9 := hid (L8.out.trans (q2.mono L8.out.size))
  clear q1 q2 Q0xxxxxxx Q1xxxxxx Q2xxxxx Q4xxx Q6x L8 HM
  go_wp2_with fail
  refine (dpD_any w9).mono ?_
  rintro e w10 ⟨p9, rfl, q1, q2⟩
  have Q0xxxxxxxxx := hid (DAt.keep q2 _ Q0xxxxxxxx.out)
  have Q1xxxxxxxx := hid (DAt.keep q2 _ Q1xxxxxxx.out)
  have Q2xxxxxxx := hid (DAt.keep q2 _ Q2xxxxxx.out)
  have Q4xxxxx := hid (DAt.keep q2 _ Q4xxxx.out)
  have Q6xxx := hid (DAt.keep q2 _ Q6xx.out)
  have Q8x := hid (DAt.keep q2 _ Q8.out)
  have Q9 := hid q1
  have L10 := hid (L9.out.trans (q2.mono L9.out.size))
  clear q1 q2 Q0xxxxxxxx Q1xxxxxxx Q2xxxxxx Q4xxxx Q6xx Q8 L9
  have HM := hid (many_any p9 4 dpD w10 Q9.out)
  clear Q9
  go_wp2_with fail
  refine (HM.out).mono ?_
  rintro e w11 ⟨p10, rfl, q1, q2⟩
  have Q0xxxxxxxxxx := hid (DAt.keep q2 _ Q0xxxxxxxxx.out)
  have Q1xxxxxxxxx := hid (DAt.keep q2 _ Q1xxxxxxxx.out)
  have Q2xxxxxxxx := hid (DAt.keep q2 _ Q2xxxxxxx.out)
  have Q4xxxxxx := hid (DAt.keep q2 _ Q4xxxxx.out)
  have Q6xxxx := hid (DAt.keep q2 _ Q6xxx.out)
  have Q8xx := hid (DAt.keep q2 _ Q8x.out)
  have Q10 := hid q1
  have L11 := hid (L10.out.trans (q2.mono L10.out.size))
  clear q1 q2 Q0xxxxxxxxx Q1xxxxxxxx Q2xxxxxxx Q4xxxxx Q6xxx Q8x L10 HM
  go_wp2_with fail
  refine (sxD_any w11).mono ?_
  rintro e w12 ⟨p11, rfl, q1, q2⟩
  have Q0xxxxxxxxxxx := hid (DAt.keep q2 _ Q0xxxxxxxxxx.out)
  have Q1xxxxxxxxxx := hid (DAt.keep q2 _ Q1xxxxxxxxx.out)
  have Q2xxxxxxxxx := hid (DAt.keep q2 _ Q2xxxxxxxx.out)
  have Q4xxxxxxx := hid (DAt.keep q2 _ Q4xxxxxx.out)
  have Q6xxxxx := hid (DAt.keep q2 _ Q6xxxx.out)
  have Q8xxx := hid (DAt.keep q2 _ Q8xx.out)
  have Q10x := hid (DAt.keep q2 _ Q10.out)
  have Q11 := hid q1
  have L12 := hid (L11.out.trans (q2.mono L11.out.size))
  clear q1 q2 Q0xxxxxxxxxx Q1xxxxxxxxx Q2xxxxxxxx Q4xxxxxx Q6xxxx Q8xx Q10 L11
  have HM := hid (many_any p11 2 sxD w12 Q11.out)
  clear Q11
  go_wp2_with fail
  refine (HM.out).mono ?_
  rintro e w13 ⟨p12, rfl, q1, q2⟩
  have Q0xxxxxxxxxxxx := hid (DAt.keep q2 _ Q0xxxxxxxxxxx.out)
  have Q1xxxxxxxxxxx := hid (DAt.keep q2 _ Q1xxxxxxxxxx.out)
  have Q2xxxxxxxxxx := hid (DAt.keep q2 _ Q2xxxxxxxxx.out)
  have Q4xxxxxxxx := hid (DAt.keep q2 _ Q4xxxxxxx.out)
  have Q6xxxxxx := hid (DAt.keep q2 _ Q6xxxxx.out)
  have Q8xxxx := hid (DAt.keep q2 _ Q8xxx.out)
  have Q10xx := hid (DAt.keep q2 _ Q10x.out)
  have Q12 := hid q1
  have L13 := hid (L12.out.trans (q2.mono L12.out.size))
  clear q1 q2 Q0xxxxxxxxxxx Q1xxxxxxxxxx Q2xxxxxxxxx Q4xxxxxxx Q6xxxxx Q8xxx Q10x L12 HM
  go_wp2_with fail
  have hB : Below w13.heap.size w13 (w13.alloc (.cells #[.pointer (some ⟨w.heap.size, 0, none⟩), .pointer (some ⟨p1, 0, none⟩), .pointer (some ⟨w2.heap.size, 0, none⟩), .pointer (some ⟨p4, 0, none⟩), .pointer (some ⟨p6, 0, none⟩), .pointer (some ⟨p8, 0, none⟩), .pointer (some ⟨p10, 0, none⟩), .pointer (some ⟨p12, 0, none⟩)] 38)) := (Below.refl _ w13).alloc (Nat.le_refl _) _
  have h := heap_alloc_new w13 (.cells #[.pointer (some ⟨w.heap.size, 0, none⟩), .pointer (some ⟨p1, 0, none⟩), .pointer (some ⟨w2.heap.size, 0, none⟩), .pointer (some ⟨p4, 0, none⟩), .pointer (some ⟨p6, 0, none⟩), .pointer (some ⟨p8, 0, none⟩), .pointer (some ⟨p10, 0, none⟩), .pointer (some ⟨p12, 0, none⟩)] 38)
  generalize w13.alloc (.cells #[.pointer (some ⟨w.heap.size, 0, none⟩), .pointer (some ⟨p1, 0, none⟩), .pointer (some ⟨w2.heap.size, 0, none⟩), .pointer (some ⟨p4, 0, none⟩), .pointer (some ⟨p6, 0, none⟩), .pointer (some ⟨p8, 0, none⟩), .pointer (some ⟨p10, 0, none⟩), .pointer (some ⟨p12, 0, none⟩)] 38) = wz at hB h ⊢
  have hD : DsAt wz [dRoot, etD, dRoot, .mk 5 2 [psD], .mk 5 1 [asD], .mk 5 8 [atD], .mk 5 4 [dpD], .mk 5 2 [sxD]] w13.heap.size 0 := by
    rw [DsAt, DsAt, DsAt, DsAt, DsAt, DsAt, DsAt, DsAt, DsAt]
    exact ⟨⟨_, cell_of_row _ _ 0 _ _ (0, 0) h, DAt.keep hB _ Q0xxxxxxxxxxxx.out⟩, ⟨_, cell_of_row _ _ 1 _ _ (0, 0) h, DAt.keep hB _ Q1xxxxxxxxxxx.out⟩, ⟨_, cell_of_row _ _ 2 _ _ (0, 0) h, DAt.keep hB _ Q2xxxxxxxxxx.out⟩, ⟨_, cell_of_row _ _ 3 _ _ (0, 0) h, DAt.keep hB _ Q4xxxxxxxx.out⟩, ⟨_, cell_of_row _ _ 4 _ _ (0, 0) h, DAt.keep hB _ Q6xxxxxx.out⟩, ⟨_, cell_of_row _ _ 5 _ _ (0, 0) h, DAt.keep hB _ Q8xxxx.out⟩, ⟨_, cell_of_row _ _ 6 _ _ (0, 0) h, DAt.keep hB _ Q10xx.out⟩, ⟨_, cell_of_row _ _ 7 _ _ (0, 0) h, DAt.keep hB _ Q12.out⟩, trivial⟩
  have HC := hid (box_any w13.heap.size 8 [dRoot, etD, dRoot, .mk 5 2 [psD], .mk 5 1 [asD], .mk 5 8 [atD], .mk 5 4 [dpD], .mk 5 2 [sxD]] wz rfl (by decide) hD)
  have HZ := hid (L13.out.trans (hB.mono L13.out.size))
  clear hB h hD
  refine HC.out.mono ?_
  rintro e wy ⟨rfl, q1, q2⟩
  have X := hid (And.intro q1 q2)
  clear q1 q2 HC
  go_wp2
  go_ret
  exact ⟨_, rfl, X.out.1, HZ.out.trans (X.out.2.mono HZ.out.size)⟩
def bkD : Dt := dBox [dNum, dNum, dRoot, dRoot, bdD]
set_option maxHeartbeats 2000000 in
theorem bkD_any (w : World) : Calls Tryz.prog 12 #[] w fun x w' => ∃ p, x = .returned (.pointer (some ⟨p, 0, none⟩)) ∧ DAt w' bkD p ∧ Below w.heap.size w w' := by
  go_enter Tryz.func12, Tryz.ntmps12
  go_wp2_with fail
  refine (num_any' w).mono ?_
  rintro e w1 ⟨rfl, q1, q2⟩
  have Q0 := hid q1
  have L1 := hid (q2)
  clear q1 q2
  go_wp2_with fail
  refine (num_any' w1).mono ?_
  rintro e w2 ⟨rfl, q1, q2⟩
  have Q0x := hid (DAt.keep q2 _ Q0.out)
  have Q1 := hid q1
  have L2 := hid (L1.out.trans (q2.mono L1.out.size))
  clear q1 q2 Q0 L1
  go_wp2_with fail
  refine (root_any' w2).mono ?_
  rintro e w3 ⟨rfl, q1, q2⟩
  have Q0xx := hid (DAt.keep q2 _ Q0x.out)
  have Q1x := hid (DAt.keep q2 _ Q1.out)
  have Q2 := hid q1
  have L3 := hid (L2.out.trans (q2.mono L2.out.size))
  clear q1 q2 Q0x Q1 L2
  go_wp2_with fail
  refine (root_any' w3).mono ?_
  rintro e w4 ⟨rfl, q1, q2⟩
  have Q0xxx := hid (DAt.keep q2 _ Q0xx.out)
  have Q1xx := hid (DAt.keep q2 _ Q1x.out)
  have Q2x := hid (DAt.keep q2 _ Q2.out)
  have Q3 := hid q1
  have L4 := hid (L3.out.trans (q2.mono L3.out.size))
  clear q1 q2 Q0xx Q1x Q2 L3
  go_wp2_with fail
  refine (bdD_any w4).mono ?_
  rintro e w5 ⟨p4, rfl, q1, q2⟩
  have Q0xxxx := hid (DAt.keep q2 _ Q0xxx.out)
  have Q1xxx := hid (DAt.keep q2 _ Q1xx.out)
  have Q2xx := hid (DAt.keep q2 _ Q2x.out)
  have Q3x := hid (DAt.keep q2 _ Q3.out)
  have Q4 := hid q1
  have L5 := hid (L4.out.trans (q2.mono L4.out.size))
  clear q1 q2 Q0xxx Q1xx Q2x Q3 L4
  go_wp2_with fail
  have hB : Below w5.heap.size w5 (w5.alloc (.cells #[.pointer (some ⟨w.heap.size, 0, none⟩), .pointer (some ⟨w1.heap.size, 0, none⟩), .pointer (some ⟨w2.heap.size, 0, none⟩), .pointer (some ⟨w3.heap.size, 0, none⟩), .pointer (some ⟨p4, 0, none⟩)] 38)) := (Below.refl _ w5).alloc (Nat.le_refl _) _
  have h := heap_alloc_new w5 (.cells #[.pointer (some ⟨w.heap.size, 0, none⟩), .pointer (some ⟨w1.heap.size, 0, none⟩), .pointer (some ⟨w2.heap.size, 0, none⟩), .pointer (some ⟨w3.heap.size, 0, none⟩), .pointer (some ⟨p4, 0, none⟩)] 38)
  generalize w5.alloc (.cells #[.pointer (some ⟨w.heap.size, 0, none⟩), .pointer (some ⟨w1.heap.size, 0, none⟩), .pointer (some ⟨w2.heap.size, 0, none⟩), .pointer (some ⟨w3.heap.size, 0, none⟩), .pointer (some ⟨p4, 0, none⟩)] 38) = wz at hB h ⊢
  have hD : DsAt wz [dNum, dNum, dRoot, dRoot, bdD] w5.heap.size 0 := by
    rw [DsAt, DsAt, DsAt, DsAt, DsAt, DsAt]
    exact ⟨⟨_, cell_of_row _ _ 0 _ _ (0, 0) h, DAt.keep hB _ Q0xxxx.out⟩, ⟨_, cell_of_row _ _ 1 _ _ (0, 0) h, DAt.keep hB _ Q1xxx.out⟩, ⟨_, cell_of_row _ _ 2 _ _ (0, 0) h, DAt.keep hB _ Q2xx.out⟩, ⟨_, cell_of_row _ _ 3 _ _ (0, 0) h, DAt.keep hB _ Q3x.out⟩, ⟨_, cell_of_row _ _ 4 _ _ (0, 0) h, DAt.keep hB _ Q4.out⟩, trivial⟩
  have HC := hid (box_any w5.heap.size 5 [dNum, dNum, dRoot, dRoot, bdD] wz rfl (by decide) hD)
  have HZ := hid (L5.out.trans (hB.mono L5.out.size))
  clear hB h hD
  refine HC.out.mono ?_
  rintro e wy ⟨rfl, q1, q2⟩
  have X := hid (And.intro q1 q2)
  clear q1 q2 HC
  go_wp2
  go_ret
  exact ⟨_, rfl, X.out.1, HZ.out.trans (X.out.2.mono HZ.out.size)⟩
end Go.Proofs.YtbmcmabimfoknaaGreatDoor

/- Steps of a flow over the document's values. -/
namespace Go.Proofs.YtbmcmabimfoknaaGreatDoor
open Go.RowKit
set_option linter.unusedVariables false
set_option maxRecDepth 100000
theorem fieldV (k off : Nat) (h : (k = 0 ∧ off = 0) ∨ (k = 1 ∧ off = 1) ∨ (k = 2 ∧ off = 33) ∨ (k = 3 ∧ off = 34)) (g : Nat) (w : World) : (Instr.fieldAt 43 (.pointer (some ⟨g, 0, none⟩)) k).run Tryz.prog w = .ok (.pointer (some ⟨g, off, none⟩)) w := by
  rcases h with ⟨rfl, rfl⟩ | ⟨rfl, rfl⟩ | ⟨rfl, rfl⟩ | ⟨rfl, rfl⟩ <;> kernel_rfl
end Go.Proofs.YtbmcmabimfoknaaGreatDoor

/- Flows whose operations may also store into memory that the others don't read: over any order of worlds R in the place of 'nothing old has turned'. -/
namespace Go.Proofs.YtbmcmabimfoknaaGreatDoor
open Go Go.RowKit
set_option linter.unusedVariables false
section
variable {P : Program}
structure FlowRInv (R : World → World → Prop) (ops : Array Oper) (n : Nat) (I : Nat → Value → World → Prop) (w0 : World) (a0 : Act) (done : Array Bool) (a : Act) (w : World) : Prop where
  head : HeadInv .any ops n done
  cls : R w0 w
  defers : a.defers = a0.defers
  size : a.tmps.size = a0.tmps.size
  keep : ∀ s, (∀ i, i < n → dstOf ops i ≠ some s) → a.tmps[s]? = a0.tmps[s]?
  known : ∀ i, i < n → done.getD i false = true → ∀ d, dstOf ops i = some d → I i (a.tmps.getD d undef) w
  stor : ∀ i, i < n → done.getD i false = true → dstOf ops i = none → ∃ v, I i v w
theorem flowR_any {R : World → World → Prop} {ops : Array Oper} {n late : Nat} {I : Nat → Value → World → Prop} {w0 : World} {a0 : Act} {Q : Exit → Act → World → Prop} (hB : flowGB ops n late a0.tmps.size = true)
    (hRr : ∀ w, R w w) (hRt : ∀ a b c, R a b → R b c → R a c) (hRd : ∀ w : World, R w { w with drawn := w.drawn + 1 })
    (hQ : ∀ c d v a w, Q (.panic c) (a.put d v) w → Q (.panic c) a w)
    (hguard : ∀ i o g b, i < n → ops[i]? = some o → o.guard = some (g, b) → ∀ v w, I g v w → v = .bool b)
    (hI : ∀ i v w w', i < n → I i v w → R w w' → I i v w')
    (hop : ∀ i o, i < n → ops[i]? = some o → ∀ a w, R w0 w → (∀ s, (∀ j, j < n → dstOf ops j ≠ some s) → a.tmps.getD s undef = a0.tmps.getD s undef) →
      (∀ j d, dstOf ops j = some d → (o.after.any fun e => Region.binds .any e && e.on == j) = true → I j (a.tmps.getD d undef) w) →
      o.wp P a w (fun a' w' => ∃ v, a' = a.put o.dst v ∧ I i v w' ∧ R w w') Q)
    (hlate : ∀ o, late < n → ops[late]? = some o → ∀ (a : Act) w, R w0 w → (∀ s, (∀ j, j < n → dstOf ops j ≠ some s) → a.tmps.getD s undef = a0.tmps.getD s undef) →
      (∀ j d, dstOf ops j = some d → (o.after.any fun e => Region.binds .any e && e.on == j) = true → I j (a.tmps.getD d undef) w) → ∃ v, (∀ w, (execOp a.eval o).run P w = .ok (.value v) w) ∧ I late v w)
    (htail : ∀ v w, R w0 w → (∀ i d, i < n → dstOf ops i = some d → I i (v i) w) → (∀ i, i < n → dstOf ops i = none → ∃ v, I i v w) → wpAny P .any ops Q (ops.size - n) ((List.range ops.size).map fun i => decide (i < n)).toArray (putAll v (ops.toList.take n) 0 a0) w) :
    ∀ f (done : Array Bool) (a : Act) (w : World), (List.range n).countP (fun i => !done.getD i true) = f → FlowRInv R ops n I w0 a0 done a w → wpAny P .any ops Q (f + (ops.size - n)) done a w := by
  simp only [flowGB, Bool.and_eq_true, decide_eq_true_eq, List.all_eq_true, List.mem_range, Bool.or_eq_true] at hB
  obtain ⟨⟨⟨⟨⟨hn, hsel⟩, hdir⟩, hall⟩, hlt8⟩, hseq⟩ := hB
  have hat : ∀ i, i < n → ∃ o, ops[i]? = some o := fun i hi => ⟨_, Array.getElem?_eq_getElem (by omega)⟩
  have hgd : ∀ i o, i < n → ops[i]? = some o → (∀ g b, o.guard = some (g, b) → Region.waitsFor .any ops i g = true ∧ ∃ d, dstOf ops g = some d) ∧ (∀ e ∈ o.after, Region.binds .any e = true → e.on < i) ∧ ∀ d, o.dst = some d → d < a0.tmps.size ∧ ∀ j, j < n → j ≠ i → dstOf ops j ≠ some d := by
    intro i o hi ho
    have := hall i hi
    rw [ho] at this
    simp only [Bool.and_eq_true, Array.all_eq_true_iff_forall_mem, Bool.or_eq_true, Bool.not_eq_true', decide_eq_true_eq] at this
    obtain ⟨⟨h1, h2⟩, h3⟩ := this
    refine ⟨fun g b hg => by
      rw [hg] at h1
      simp only [Bool.and_eq_true] at h1
      exact ⟨h1.1.2, Option.isSome_iff_exists.1 h1.2⟩, fun e he hb => (h2 e he).resolve_left (by rw [hb]; decide), fun d hd => ?_⟩
    rw [hd] at h3
    simp only [Bool.and_eq_true, decide_eq_true_eq, List.all_eq_true, List.mem_range, Bool.or_eq_true] at h3
    exact ⟨h3.1, fun j hj hne => (h3.2 j hj).resolve_left hne⟩
  intro f
  induction f with
  | zero =>
    intro done a w hcount inv
    have hdone : ∀ i, i < n → done.getD i true = true := fun i hi => by
      have := List.countP_eq_zero.1 hcount i (List.mem_range.2 hi)
      simpa using this
    have hdn : done = ((List.range ops.size).map fun i => decide (i < n)).toArray := by
      apply Array.ext_getElem?
      intro i
      by_cases hi : i < ops.size
      · have hi' : i < done.size := by rw [inv.head.size]; exact hi
        have h1 : (((List.range ops.size).map fun i => decide (i < n)).toArray)[i]? = some (decide (i < n)) := by simp [hi]
        rw [h1, Array.getElem?_eq_getElem hi']
        by_cases hin : i < n
        · have := hdone i hin
          simp [hi'] at this
          simp [hin, this]
        · have := inv.head.tail i (by omega) hi
          simp [hi'] at this
          simp [hin, this]
      · rw [Array.getElem?_eq_none (by rw [inv.head.size]; omega), Array.getElem?_eq_none (by simp; omega)]
    have hk : ∀ i, i < n → done.getD i false = true := fun i hi => by
      have h1 := hdone i hi
      have hi' : i < done.size := by rw [inv.head.size]; omega
      simp [hi'] at h1 ⊢
      exact h1
    have ha : a = putAll (fun i => match dstOf ops i with | some d => a.tmps.getD d undef | none => undef) (ops.toList.take n) 0 a0 := by
      have hd1 := putAll_defers (fun i => match dstOf ops i with | some d => a.tmps.getD d undef | none => undef) (ops.toList.take n) 0 a0
      have hs1 := putAll_size (fun i => match dstOf ops i with | some d => a.tmps.getD d undef | none => undef) (ops.toList.take n) 0 a0
      have ht1 : ∀ s, a.tmps[s]? = (putAll (fun i => match dstOf ops i with | some d => a.tmps.getD d undef | none => undef) (ops.toList.take n) 0 a0).tmps[s]? := fun s => by
        rw [putAll_get _ s (a.tmps.getD s undef) _ 0 a0 (fun j o hj ho => by
          rw [List.getElem?_take] at hj
          split at hj
          · have : dstOf ops j = some s := by unfold dstOf; rw [Array.getElem?_toList] at hj; rw [hj]; exact ho
            rw [Nat.zero_add, this]
          · cases hj)]
        split
        · rename_i h
          rw [Array.getElem?_eq_getElem (by rw [inv.size]; exact h.2)]
          simp [inv.size, h.2]
        · rename_i h
          by_cases hsz : s < a0.tmps.size
          · refine inv.keep s fun i hi e => h ⟨?_, hsz⟩
            obtain ⟨o, ho⟩ := hat i hi
            refine ⟨o, ?_, by unfold dstOf at e; rw [ho] at e; exact e⟩
            rw [List.mem_take_iff_getElem]
            have := Array.getElem?_eq_some_iff.1 ho
            exact ⟨i, by simp; omega, by simpa using this.2⟩
          · rw [Array.getElem?_eq_none (by rw [inv.size]; omega), Array.getElem?_eq_none (by omega)]
      generalize putAll (fun i => match dstOf ops i with | some d => a.tmps.getD d undef | none => undef) (ops.toList.take n) 0 a0 = b at *
      obtain ⟨ta, da⟩ := a
      obtain ⟨tb, db⟩ := b
      have e1 : ta = tb := Array.ext_getElem? ht1
      have e2 : da = db := inv.defers.trans hd1.symm
      rw [e1, e2]
    rw [Nat.zero_add, ha, hdn]
    refine htail _ w inv.cls (fun i d hi hd => ?_) (fun i hi hd => inv.stor i hi (hk i hi) hd)
    have := inv.known i hi (hk i hi) d hd
    simpa [hd] using this
  | succ f ih =>
    intro done a w hcount inv
    have hex : ∃ i, i < n ∧ done.getD i true = false := by
      have : 0 < (List.range n).countP (fun i => !done.getD i true) := by omega
      obtain ⟨i, hi, hd⟩ := List.countP_pos_iff.1 this
      exact ⟨i, List.mem_range.1 hi, by simpa using hd⟩
    have hready : ∃ i, i < n ∧ i ∈ Region.ready .any ops done := by
      obtain ⟨i0, hi0, hd0⟩ := hex
      have key : ∀ m, m < n → done.getD m true = false → ∃ i, i < n ∧ i ∈ Region.ready .any ops done := by
        intro m
        induction m using Nat.strongRecOn with
        | _ m ihm =>
          intro hm hd
          obtain ⟨o, ho⟩ := hat m hm
          by_cases hw : ∀ e ∈ o.after, Region.binds .any e = true → done.getD e.on false = true
          · exact ⟨m, hm, mem_ready.2 ⟨hd, o, ho, hw⟩⟩
          · simp only [Classical.not_forall] at hw
            obtain ⟨e, he, hb, hnd⟩ := hw
            have hlt := (hgd m o hm ho).2.1 e he hb
            refine ihm e.on hlt (by omega) ?_
            have hi' : e.on < done.size := by rw [inv.head.size]; omega
            simp [hi'] at hnd ⊢
            exact hnd
      exact key i0 hi0 hd0
    obtain ⟨r, hr, hrr⟩ := hready
    rw [Nat.succ_add]
    have hstep : ∀ i o v w', i < n → i ∈ Region.ready .any ops done → ops[i]? = some o → I i v w' → R w w' →
        (List.range n).countP (fun j => !(done.setIfInBounds i true).getD j true) = f ∧ FlowRInv R ops n I w0 a0 (done.setIfInBounds i true) (a.put o.dst v) w' := by
      intro i o v w' hin hi ho hv hB
      obtain ⟨hun, o', ho', hwait⟩ := mem_ready.1 hi
      obtain ⟨g1, g2, g3⟩ := hgd i o hin ho
      refine ⟨?_, inv.head.set hi hin, hRt _ _ _ inv.cls hB, by rw [put_defers]; exact inv.defers, by rw [put_size]; exact inv.size, fun s hs' => ?_, fun j hj hdj d hd => ?_, fun j hj hdj hd => ?_⟩
      · have hii : i < done.size := by rw [inv.head.size]; omega
        have hcp := count_step done i hii hun n hin
        omega
      · rw [put_get, if_neg (fun h => hs' i hin (by unfold dstOf; rw [ho]; exact h.1))]
        exact inv.keep s hs'
      · by_cases e : j = i
        · subst e
          have hd' : o.dst = some d := by unfold dstOf at hd; rw [ho] at hd; exact hd
          have : (a.put o.dst v).tmps.getD d undef = v := by
            rw [Array.getD_eq_getD_getElem?, put_get, if_pos ⟨hd', by rw [inv.size]; exact (g3 d hd').1⟩]; rfl
          rw [this]; exact hv
        · have hdj' : done.getD j false = true := by rwa [getD_set_ne false (Ne.symm e)] at hdj
          have : (a.put o.dst v).tmps.getD d undef = a.tmps.getD d undef := by
            rw [Array.getD_eq_getD_getElem?, put_get, if_neg (fun h => (g3 d h.1).2 j hj e hd), ← Array.getD_eq_getD_getElem?]
          rw [this]
          exact hI j _ w w' hj (inv.known j hj hdj' d hd) hB
      · by_cases e : j = i
        · subst e
          exact ⟨v, hv⟩
        · have hdj' : done.getD j false = true := by rwa [getD_set_ne false (Ne.symm e)] at hdj
          obtain ⟨u, hu⟩ := inv.stor j hj hdj' hd
          exact ⟨u, hI j _ w w' hj hu hB⟩
    have hdeps : ∀ i o, i < n → i ∈ Region.ready .any ops done → ops[i]? = some o → ∀ j d, dstOf ops j = some d → (o.after.any fun e => Region.binds .any e && e.on == j) = true → I j (a.tmps.getD d undef) w := by
      intro i o hin hi ho j d hd hj
      obtain ⟨hun, o', ho', hwait⟩ := mem_ready.1 hi
      obtain rfl : o' = o := Option.some.inj (ho'.symm.trans ho)
      obtain ⟨g1, g2, g3⟩ := hgd i o' hin ho
      obtain ⟨k, hk, hk2⟩ := Array.any_eq_true.1 hj
      simp only [Bool.and_eq_true, beq_iff_eq] at hk2
      have hmem := Array.getElem_mem hk
      have hl := hwait _ hmem hk2.1
      have hlt := g2 _ hmem hk2.1
      rw [hk2.2] at hl hlt
      exact inv.known j (by omega) hl d hd
    have hwant : ∀ i o, i < n → i ∈ Region.ready .any ops done → ops[i]? = some o → Region.wanted o (yielded ops a.tmps) = true := by
      intro i o hin hi ho
      unfold Region.wanted
      cases hg : o.guard with
      | none => rfl
      | some gb =>
        obtain ⟨g, b⟩ := gb
        obtain ⟨q2, d, hd⟩ := (hgd i o hin ho).1 g b hg
        unfold Region.waitsFor at q2
        rw [ho] at q2
        have hv := hguard i o g b hin ho hg _ _ (hdeps i o hin hi ho g d hd q2)
        have hv2 : a.tmps[d]? = some (.bool b) := by
          rw [Array.getD_eq_getD_getElem?] at hv
          cases hq : a.tmps[d]? with
          | none => rw [hq] at hv; cases hv
          | some u => rw [hq] at hv; exact congrArg some hv
        have hy : yielded ops a.tmps g = some b := by
          unfold dstOf at hd
          unfold yielded
          rw [hd]
          simp [hv2]
        simp [hy]
    have hkeep : ∀ s, (∀ j, j < n → dstOf ops j ≠ some s) → a.tmps.getD s undef = a0.tmps.getD s undef := fun s hs' => by rw [Array.getD_eq_getD_getElem?, inv.keep s hs', ← Array.getD_eq_getD_getElem?]
    by_cases hbut : ∀ i, i < n → i ≠ late → done.getD i true = true
    · have hrl : r = late := Classical.byContradiction fun h => by
        have h1 := hbut r hr h
        rw [(mem_ready.1 hrr).1] at h1; cases h1
      subst hrl
      have hdn : done = doneBut ops n r := by
        apply Array.ext_getElem?
        intro i
        by_cases hi : i < ops.size
        · have hi' : i < done.size := by rw [inv.head.size]; exact hi
          have h1 : (doneBut ops n r)[i]? = some (decide (i < n) && decide (i ≠ r)) := by simp [doneBut, hi]
          rw [h1, Array.getElem?_eq_getElem hi']
          by_cases hin : i < n
          · by_cases hir : i = r
            · subst hir
              have := (mem_ready.1 hrr).1
              simp [hi'] at this
              simp [this]
            · have := hbut i hin hir
              simp [hi'] at this
              simp [hin, hir, this]
          · have := inv.head.tail i (by omega) hi
            simp [hi'] at this
            simp [hin, this]
        · rw [Array.getElem?_eq_none (by rw [inv.head.size]; omega), Array.getElem?_eq_none (by simp [doneBut]; omega)]
      obtain ⟨o, ho⟩ := hat r hr
      obtain ⟨v, hrun, hv⟩ := hlate o hr ho a w inv.cls hkeep (hdeps r o hr hrr ho)
      obtain ⟨q1, q2⟩ := hstep r o v w hr hrr ho hv (hRr w)
      have hw := hwant r o hr hrr ho
      have hfr := hlt8.resolve_left (by omega)
      rw [← hdn] at hfr
      exact wpAny_take ho hsel hfr.1 hfr.2 (fun c a w h => hQ c _ _ a w h) (.inl ⟨hw, hrun⟩) (ih _ _ _ q1 q2)
    · simp only [Classical.not_forall] at hbut
      obtain ⟨u, hu, hul, hud⟩ := hbut
      have hud' : done.getD u false = false := by
        have hi' : u < done.size := by rw [inv.head.size]; omega
        simp [hi'] at hud ⊢
        exact hud
      refine ⟨fun e => (by rw [e] at hrr; cases hrr), fun i hi => ?_⟩
      obtain ⟨hun, o, ho, hwait⟩ := mem_ready.1 hi
      have hin : i < n := Nat.lt_of_not_le fun h => by
        have his : i < ops.size := (Array.getElem?_eq_some_iff.1 ho).1
        have hw := ((hdir i his).resolve_left (by omega) u hu).resolve_left hul
        have := reach_done inv.head.closed u 4 i o ho hwait hw
        rw [hud'] at this
        cases this
      unfold wpOp
      rw [ho]
      have hw := hwant i o hin hi ho
      simp only [hw, if_true]
      refine .inl (Oper.wp_mono ?_ (hop i o hin ho a w inv.cls hkeep (hdeps i o hin hi ho)))
      rintro a' w' ⟨v, rfl, hv, hB⟩
      obtain ⟨q1, q2⟩ := hstep i o v w' hin hi ho hv hB
      exact ih _ _ _ q1 q2

/-- The region, told as a flow. -/
theorem wp_region_flowR {id : Nat} {Q : Exit → Act → World → Prop} {a : Act} {w : World} {l : List Oper} (R : World → World → Prop) (n late : Nat) (I : Nat → Value → World → Prop) (hm : P.follows .mixedOrders = true) (hB : flowGB l.toArray n late a.tmps.size = true)
    (hRr : ∀ w, R w w) (hRt : ∀ a b c, R a b → R b c → R a c) (hRd : ∀ w : World, R w { w with drawn := w.drawn + 1 })
    (hQ : ∀ c d v a w, Q (.panic c) (a.put d v) w → Q (.panic c) a w)
    (hguard : ∀ i o g b, i < n → l.toArray[i]? = some o → o.guard = some (g, b) → ∀ v w, I g v w → v = .bool b)
    (hI : ∀ i v w w', i < n → I i v w → R w w' → I i v w')
    (hop : ∀ i o, i < n → l.toArray[i]? = some o → ∀ a' w', R w w' → (∀ s, (∀ j, j < n → dstOf l.toArray j ≠ some s) → a'.tmps.getD s undef = a.tmps.getD s undef) →
      (∀ j d, dstOf l.toArray j = some d → (o.after.any fun e => Region.binds .any e && e.on == j) = true → I j (a'.tmps.getD d undef) w') →
      o.wp P a' w' (fun a'' w'' => ∃ v, a'' = a'.put o.dst v ∧ I i v w'' ∧ R w' w'') Q)
    (hlate : ∀ o, late < n → l.toArray[late]? = some o → ∀ (a' : Act) w', R w w' → (∀ s, (∀ j, j < n → dstOf l.toArray j ≠ some s) → a'.tmps.getD s undef = a.tmps.getD s undef) →
      (∀ j d, dstOf l.toArray j = some d → (o.after.any fun e => Region.binds .any e && e.on == j) = true → I j (a'.tmps.getD d undef) w') → ∃ v, (∀ w, (execOp a'.eval o).run P w = .ok (.value v) w) ∧ I late v w')
    (htail : ∀ v w', R w w' → (∀ i d, i < n → dstOf l.toArray i = some d → I i (v i) w') → (∀ i, i < n → dstOf l.toArray i = none → ∃ v, I i v w') → wpList P l.toArray Q (l.drop n) (putAll v (l.take n) 0 a) w') : (Code.region id l.toArray true).wp P Q a w := by
  have hB' := hB
  simp only [flowGB, Bool.and_eq_true, decide_eq_true_eq] at hB'
  have hn : n < l.length := by simpa using hB'.1.1.1.1.1
  have h3 : (l.drop n).length = l.toArray.size - n := by simp
  refine wp_region_any hm ?_
  have hc0 : (List.range n).countP (fun i => !(Array.replicate l.toArray.size false).getD i true) = n := by
    have : (List.range n).countP (fun i => !(Array.replicate l.toArray.size false).getD i true) = (List.range n).length := List.countP_eq_length.2 fun i hi => by
      have := List.mem_range.1 hi
      simp [show i < l.length by omega]
    rw [this, List.length_range]
  have K := flowR_any (P := P) (Q := Q) (w0 := w) (a0 := a) (R := R) hB hRr hRt hRd hQ hguard hI hop hlate (fun v w' hc hv hs => by
    have := wpAny_of_seq (P := P) (md := .any) (Q' := Q) (l.drop n) n _ _ w' (fun j => by simp [List.getElem?_drop]) (by rw [h3]; exact hB'.2) (htail v w' hc hv hs)
    rw [h3] at this
    simpa using this) n (Array.replicate l.toArray.size false) a { w with drawn := w.drawn + 1 } hc0
    ⟨⟨by simp, fun j oj _ hx => (by rw [getD_replicate_false] at hx; cases hx), fun t _ ht => getD_in (by simpa using ht) (getD_replicate_false _ _)⟩, hRd w, rfl, rfl, fun _ _ => rfl, fun i _ hx => (by rw [getD_replicate_false] at hx; cases hx), fun i _ hx => (by rw [getD_replicate_false] at hx; cases hx)⟩
  rwa [show n + (l.toArray.size - n) = l.toArray.size by simp; omega] at K
end
/-- Nothing has turned but the block g, and that only to hold NEW. -/
structure TurnsTo (g : Nat) (new : Obj) (w w' : World) : Prop where
  os : w'.os = w.os
  tape : w'.tape = w.tape
  output : w'.output = w.output
  size : w.heap.size ≤ w'.heap.size
  block : ∀ k, k < w.heap.size → k ≠ g → w'.heap[k]? = w.heap[k]?
  self : w'.heap[g]? = w.heap[g]? ∨ w'.heap[g]? = some new
theorem TurnsTo.refl (g : Nat) (new : Obj) (w : World) : TurnsTo g new w w := ⟨rfl, rfl, rfl, Nat.le_refl _, fun _ _ _ => rfl, .inl rfl⟩
theorem TurnsTo.trans {g : Nat} {new : Obj} {a b c : World} (h : TurnsTo g new a b) (k : TurnsTo g new b c) : TurnsTo g new a c :=
  ⟨k.os.trans h.os, k.tape.trans h.tape, k.output.trans h.output, Nat.le_trans h.size k.size, fun i hi hg => (k.block i (Nat.lt_of_lt_of_le hi h.size) hg).trans (h.block i hi hg), by
    rcases k.self with e | e
    · rw [e]; exact h.self
    · exact .inr e⟩
theorem TurnsTo.drew (g : Nat) (new : Obj) (w : World) : TurnsTo g new w { w with drawn := w.drawn + 1 } := ⟨rfl, rfl, rfl, Nat.le_refl _, fun _ _ _ => rfl, .inl rfl⟩
theorem TurnsTo.of_below {g : Nat} {new : Obj} {w w' : World} (h : Below w.heap.size w w') (hg : g < w.heap.size) : TurnsTo g new w w' :=
  ⟨h.os, h.tape, h.output, h.size, fun k hk _ => h.block k hk, .inl (h.block g hg)⟩
theorem TurnsTo.below {B g : Nat} {new : Obj} {w w' : World} (h : TurnsTo g new w w') (hg : B ≤ g) (hB : B ≤ w.heap.size) : Below B w w' :=
  ⟨h.os, h.tape, h.output, h.size, fun k hk => h.block k (by omega) (by omega)⟩
theorem TurnsTo.cell {g : Nat} {new : Obj} {w w' : World} (h : TurnsTo g new w w') {p : Addr} (hp : p.block ≠ g) {v : Value} (hc : w.cell? p = some v) : w'.cell? p = some v :=
  (World.cell?_of_block (h.block p.block (block_lt_of_cell hc) hp)).trans hc
theorem TurnsTo.isB {g : Nat} {new : Obj} {w w' : World} (h : TurnsTo g new w w') {v : Value} {bs : List Nat} (hI : IsB w v bs) (hS : inS (fun k => k ≠ g) v) : IsB w' v bs :=
  hI.keepS hS fun k hk hl => h.block k hl hk
theorem IsT.keepS {l : List Bool} {v : Value} {w w' : World} {S : Nat → Prop} (h : IsT w v l) (hS : inS S v) (hk : ∀ k, S k → k < w.heap.size → w'.heap[k]? = w.heap[k]?) : IsT w' v l := by
  obtain ⟨ao, cap, rfl, h1, h2, h3⟩ := h
  refine ⟨ao, cap, rfl, h1, h2, ?_⟩
  rcases h3 with h3 | ⟨b, off, rfl, hc⟩
  · exact .inl h3
  · exact .inr ⟨b, off, rfl, fun i hi => (World.cell?_of_block (a := ⟨b, off + i, none⟩) (hk b hS (block_lt_of_cell (hc i hi)))).trans (hc i hi)⟩
theorem TurnsTo.isT {g : Nat} {new : Obj} {w w' : World} (h : TurnsTo g new w w') {v : Value} {l : List Bool} (hI : IsT w v l) (hS : inS (fun k => k ≠ g) v) : IsT w' v l :=
  hI.keepS hS fun k hk hl => h.block k hl hk
theorem TurnsTo.range {g : Nat} {new : Obj} {w w' : World} (h : TurnsTo g new w w') {b o : Nat} {cs : List Value} (hb : b ≠ g) (hc : w.rangeAt b o cs) : w'.rangeAt b o cs := fun j v hv => h.cell (p := ⟨b, o + j, none⟩) hb (hc j v hv)
section
variable {P : Program} {o : Oper} {a : Act} {w : World} {Q : Exit → Act → World → Prop} {I : Value → World → Prop} {R : World → World → Prop}
theorem flowR_of (hR : ∀ w', Below w.heap.size w w' → R w w') (h : o.wp P a w (fun a' w' => ∃ v, a' = a.put o.dst v ∧ I v w' ∧ Below w.heap.size w w') Q) : o.wp P a w (fun a' w' => ∃ v, a' = a.put o.dst v ∧ I v w' ∧ R w w') Q :=
  Oper.wp_mono (by rintro a' w' ⟨v, h1, h2, h3⟩; exact ⟨v, h1, h2, hR w' h3⟩) h
/-- A store of a whole array or struct over a block. -/
theorem flowR_store (ty : TypeId) (x y : Operand) (ho : o.op = .store ty x y) (g : Nat) (cells : Array Value) (hx : a.eval x = .pointer (some ⟨g, 0, none⟩)) (hy : a.eval y = .agg cells) (t : TypeId) (old : Array Value) (hg : w.heap[g]? = some (.cells old t (0, 0)))
    (hi : (P.info? ty).map (·.size) = some cells.size) (hold : old.size = cells.size) (h1 : cells.all (·.oneCell') = true) (hI : ∀ w', w'.heap[g]? = some (.cells cells t (0, 0)) → I undef w') :
    o.wp P a w (fun a' w' => ∃ v, a' = a.put o.dst v ∧ I v w' ∧ TurnsTo g (.cells cells t (0, 0)) w w') Q := by
  have hO := Only.setRow w g cells
  exact wp_store_row ty x y ho g cells hx hy t old hg hi hold h1 ⟨undef, rfl, hI _ (setRow_heap w g _ _ _ _ hg), ⟨hO.os, hO.tape, hO.output, by rw [hO.size]; exact Nat.le_refl _, fun k _ hk => hO.block k hk, .inr (setRow_heap w g _ _ _ _ hg)⟩⟩
end
theorem TurnsTo.lt {g : Nat} {new : Obj} {w w' : World} (h : TurnsTo g new w w') (hg : g < w.heap.size) : g < w'.heap.size := Nat.lt_of_lt_of_le hg h.size
end Go.Proofs.YtbmcmabimfoknaaGreatDoor

/- append onto a row of the call's own: the row behind, and what rows stay. -/
namespace Go.Proofs.YtbmcmabimfoknaaGreatDoor
open Go.RowKit
set_option linter.unusedVariables false
set_option maxRecDepth 100000

theorem kept_none {w w' : World} {base n s : Nat} {e : TypeId} {v : Value} {xs : List Value} (h : w.ownsRow base e s v n xs) (hg : w.grownBy w' none) : w'.ownsRow base e s v n xs := by
  rcases h.2 with ⟨rfl, _⟩ | ⟨g, cap, cur, rfl, _⟩
  · exact h.kept hg (.inl rfl)
  · exact h.kept hg (.inr (by simp [Value.ownBlock]))
section
variable {P : Program} (w : World)
theorem run_append_kept (base : Nat) (t tx ty e : TypeId) (i : TypeInfo) (z : Value) (size bytes : Nat) (ht : P.underlying t = some (.slice e)) (hi : P.info? e = some i) (hz : i.zero = some z)
    (hsize : i.size = size) (hby : i.bytes = bytes) (hzs : z.cells.size = size) (hsz : 0 < size) (v : Value) (n : Nat) (xs : List Value) (hown : w.ownsRow base e size v n xs)
    (x : Value) (m : Nat) (news : List Value) (hs : Src P size tx x m news w) (h63 : n + m ≤ maxLen) (hbytes : (n + m) * bytes ≤ 140737488355328) (hbase : base ≤ w.heap.size) :
    ∃ v' w', (Builtin.append_ #[t, tx] ty #[v, x]).run P w = .ok v' w' ∧ w'.ownsRow base e size v' (n + m) (xs ++ news) ∧ w.grownBy w' v.ownBlock ∧ Moved w v v' ∧ w'.ownsRow base e size v n xs ∧ ∀ v2, w.ownsRow base e size v2 (n + m) (xs ++ news) → w'.ownsRow base e size v2 (n + m) (xs ++ news) := by
  subst hsize
  subst hby
  have hsmall : n + m ≤ 9223372036854775807 := by simp only [maxLen] at h63; omega
  have hl := hs.newsLen
  have hlen : (xs ++ news).length = (n + m) * i.size := by rw [List.length_append, hown.1, hl, Nat.add_mul]
  have grown : ∀ (old : Nat), old < n + m → ∀ (row : Option Nat),
      (w.drew.alloc (.cells ((xs ++ news).toArray ++ Builtin.zeroCells z.cells (grownCap w (n + m) old e - (n + m))) e)).ownsRow base e i.size
        (.slice (some ⟨w.heap.size, 0, none⟩) (n + m) (grownCap w (n + m) old e)) (n + m) (xs ++ news) ∧
      w.grownBy (w.drew.alloc (.cells ((xs ++ news).toArray ++ Builtin.zeroCells z.cells (grownCap w (n + m) old e - (n + m))) e)) row := by
    intro old ho row
    have hge := grownCap_ge w (n + m) old e
    have hcm : grownCap w (n + m) old e ≤ maxLen := grownCap_le_maxLen w (n + m) old e h63
    refine ⟨⟨hlen, .inr ⟨w.heap.size, _, _, rfl, hbase, heap_alloc_new w.drew _, hge, hcm, ?_, ?_⟩⟩, ⟨rfl, rfl, rfl, by simp, fun k hk _ => Below.heap_alloc w.drew _ k hk⟩⟩
    · simp only [Array.size_append, List.size_toArray, size_zeroCells, hzs, hlen, ← Nat.add_mul]
      congr 1
      omega
    · simp only [Array.toList_append]
      rw [← hlen]
      exact List.take_left
  rcases hown.2 with ⟨rfl, rfl⟩ | ⟨g, cap, cur, rfl, hbg, hg, hnc, hcm, hcs, htake⟩
  · have hx : xs = [] := List.eq_nil_of_length_eq_zero (by simpa using hown.1)
    subst hx
    by_cases hm : m = 0
    · subst hm
      have hn : news = [] := List.eq_nil_of_length_eq_zero (by simpa using hl)
      subst hn
      refine ⟨.slice none 0 0, w, ?_, World.ownsRow_nil w base e i.size, ⟨rfl, rfl, rfl, Nat.le_refl _, fun _ _ _ => rfl⟩, (fun k hk => by cases hk), World.ownsRow_nil w base e i.size, fun _ h => h⟩
      have h0 := hs.len
      have h1 := hs.cells
      rcases hs.kind with ⟨e', hk⟩ | hk <;> simp [Builtin.append_, run_underlying ht, run_underlying hk, sizeOf, typeInfo, hi, h0, h1]
    · have hr := run_append_grow_src (P := P) w t tx ty e i z ht hi hz none 0 0 [] (run_firstCells_none w.drew _ _ _ _) x m news hs (by omega) (by omega) (growslice_fits (by omega) hbytes)
      have hgr := grown 0 (by omega) (Value.ownBlock (.slice none 0 0))
      have hgn := (grown 0 (by omega) none).2
      exact ⟨_, _, hr, hgr.1, hgr.2, (fun k hk => .inr (by cases hk; exact Nat.le_refl _)), World.ownsRow_nil _ base e i.size, fun v2 h2 => kept_none h2 hgn⟩
  · by_cases hroom : n + m ≤ cap
    · have hfit : n * i.size + news.length ≤ cur.size := by rw [hl, hcs, ← Nat.add_mul]; exact Nat.mul_le_mul_right _ hroom
      have hr := run_append_room_src (P := P) w t tx ty e i ht hi g 0 n cap x m news hs hroom (fun j hj => by rw [cell_of_row w g _ _ _ _ hg, Array.getElem?_eq_getElem (by omega)]; rfl) (fun j hj => frozen_of_row w g _ _ _ hg)
      rw [Nat.zero_add] at hr
      obtain ⟨h1, h2⟩ := heap_setCells news w cur (n * i.size) hg
      have htk2 : (setV cur (n * i.size) news).toList.take ((n + m) * i.size) = xs ++ news := by
        apply List.ext_getElem?
        intro q
        rw [List.getElem?_take]
        have hxl := hown.1
        by_cases hq : q < (n + m) * i.size
        · rw [if_pos hq, Array.getElem?_toList, setV_get news cur (n * i.size) hfit q]
          by_cases hq2 : n * i.size ≤ q
          · rw [if_pos ⟨hq2, by rw [hl, ← Nat.add_mul]; exact hq⟩, List.getElem?_append_right (by omega), hxl]
          · rw [if_neg (by omega), List.getElem?_append_left (by omega), ← htake, List.getElem?_take, if_pos (by omega), Array.getElem?_toList]
        · rw [if_neg hq, List.getElem?_eq_none (by omega)]
      have htk1 : (setV cur (n * i.size) news).toList.take (n * i.size) = xs := by
        have h3 := congrArg (List.take (n * i.size)) htk2
        rw [List.take_take, Nat.min_eq_left (Nat.mul_le_mul_right _ (Nat.le_add_right _ _))] at h3
        rw [h3, ← hown.1, List.take_left]
      have hG : w.grownBy _ (some g) := ⟨h2.os, h2.tape, h2.output, by rw [h2.size]; exact Nat.le_refl _, fun k _ hk => h2.block k (fun e => hk (by rw [e]))⟩
      refine ⟨_, _, hr, ⟨hlen, .inr ⟨g, cap, _, rfl, hbg, h1, hroom, hcm, by rw [setV_size]; exact hcs, htk2⟩⟩, hG, (fun k hk => .inl hk), ⟨hown.1, .inr ⟨g, cap, _, rfl, hbg, h1, hnc, hcm, by rw [setV_size]; exact hcs, htk1⟩⟩, fun v2 hv2 => ?_⟩
      rcases hv2.2 with ⟨rfl, h0⟩ | ⟨g2, cap2, cur2, rfl, hb2, hg2, hn2, hc2, hs2, ht2⟩
      · exact hv2.kept hG (.inl rfl)
      · by_cases hgg : g2 = g
        · subst hgg
          rw [hg] at hg2
          cases hg2
          exact ⟨hlen, .inr ⟨g2, cap2, _, rfl, hb2, h1, hn2, hc2, by rw [setV_size]; exact hs2, htk2⟩⟩
        · exact hv2.kept hG (.inr (by simpa [Value.ownBlock] using hgg))
    · have holds : ∀ j u, xs[j]? = some u → w.cell? ((⟨g, 0, none⟩ : Addr).add j) = some u := hown.cells (g := g) rfl
      have hr := run_append_grow_src (P := P) w t tx ty e i z ht hi hz (some ⟨g, 0, none⟩) n cap xs (run_firstCells_some w.drew _ _ _ _ _ xs hown.1 (by simpa using holds)) x m news hs (by omega) (by omega) (growslice_fits (by omega) hbytes)
      have hgr := grown cap (by omega) (Value.ownBlock (.slice (some ⟨g, 0, none⟩) n cap))
      have hgn := (grown cap (by omega) none).2
      exact ⟨_, _, hr, hgr.1, hgr.2, (fun k hk => .inr (by cases hk; exact Nat.le_refl _)), kept_none hown hgn, fun v2 h2 => kept_none h2 hgn⟩
end

end Go.Proofs.YtbmcmabimfoknaaGreatDoor

/- A row of structs made in a flow, with what stayed. -/
namespace Go.Proofs.YtbmcmabimfoknaaGreatDoor
open Go.RowKit Go.Shelf
set_option linter.unusedVariables false
set_option linter.unusedSimpArgs false
set_option maxRecDepth 100000

/-- A slice of structs, made, in a flow. -/
theorem flow_rowsB {P : Program} {o : Oper} {a : Act} {w : World} {Q : Exit → Act → World → Prop} {I : Value → World → Prop} (t e : TypeId) (n sz : Nat) (ps : Array (Nat × Operand)) (ho : o.op = .buildSlice t n ps) (hu : P.underlying t = some (.slice e)) (hi : (P.info? e).map (fun i => (i.zero.isSome, i.size)) = some (true, sz))
    (vs : List (List Value)) (xs : List Operand) (hps : ps.toList = (xs.zipIdx 0).map fun p => (p.2, p.1)) (hx0 : xs.map a.eval = vs.map fun c => Value.agg c.toArray) (hc : ∀ c ∈ vs, c.length = sz) (hn : vs.length = n) (hn0 : 0 < n) (hs0 : 0 < sz) (hn1 : n * sz ≤ 16777216)
    (h : ∀ w', HasC w' w.heap.size e vs.flatten → Below w.heap.size w w' → I (.slice (some ⟨w.heap.size, 0, none⟩) n n) w') : o.wp P a w (fun a' w' => ∃ v, a' = a.put o.dst v ∧ I v w' ∧ Below w.heap.size w w') Q := by
  have hx : (ps.map fun (i, x) => (i, a.eval x)).toList = (vs.zipIdx 0).map fun p => (p.2, Value.agg p.1.toArray) := by
    have e1 : ((xs.map a.eval).zipIdx 0).map (fun p => (p.2, p.1)) = ((vs.map fun c => Value.agg c.toArray).zipIdx 0).map (fun p => (p.2, p.1)) := by rw [hx0]
    rw [List.zipIdx_map, List.zipIdx_map, List.map_map, List.map_map] at e1
    rw [Array.toList_map, hps, List.map_map]
    exact e1
  cases hq : P.info? e with
  | none => rw [hq] at hi; cases hi
  | some ie =>
    rw [hq] at hi
    simp only [Option.map_some, Option.some.injEq, Prod.mk.injEq] at hi
    obtain ⟨z, hz⟩ := Option.isSome_iff_exists.1 hi.1
    refine wp_buildSlice t e n ps ho vs.flatten.toArray ie z hu hq hz (by rw [hi.2]; omega) (by rw [hi.2]; have := Nat.mul_pos hn0 hs0; omega) ?_ ⟨_, rfl, h _ (heap_alloc_new w _) ((Below.refl _ w).alloc (Nat.le_refl _) _), (Below.refl _ w).alloc (Nat.le_refl _) _⟩
    rw [hx, hi.2]
    have hfl := flatten_rows sz vs hc
    have hf := fill_out (fun i => some (i * sz, sz)) ((vs.zipIdx 0).map fun p => (p.2, Value.agg p.1.toArray)) 0 ((Array.range (n * sz)).map (z.cells[· % z.cells.size]!)).toList (by have := partsAt_rows sz vs 0 hc; rw [Nat.zero_mul] at this; exact this) (by rw [outC_rows, hfl, hn]; simp)
    rw [outC_rows, List.take_zero, List.nil_append, Nat.zero_add, List.drop_of_length_le (by rw [hfl, hn]; simp), List.append_nil] at hf
    exact hf
/-- A part of a part. -/
theorem seg2 {ps qs : List (List Value)} {i k : Nat} {c : List Value} {off o2 tot : Nat} (hc : ps[i]? = some qs.flatten) (ho : (ps.take i).flatten.length = off) (hc2 : qs[k]? = some c) (ho2 : (qs.take k).flatten.length = o2) (ht : off + o2 = tot) (j : Nat) (v : Value) (h : c[j]? = some v) : ps.flatten[tot + j]? = some v := by
  have := seg hc ho (o2 + j) v (seg hc2 ho2 j v h)
  rw [← Nat.add_assoc, ht] at this
  exact this
end Go.Proofs.YtbmcmabimfoknaaGreatDoor

/- The document's value of a list of numbers. -/
namespace Go.Proofs.YtbmcmabimfoknaaGreatDoor
open Go.RowKit Go.Shelf
set_option linter.unusedVariables false
set_option maxRecDepth 100000

/-- The cells of numbers as values. -/
def rowN (ns : List Nat) : List Value := (ns.map fun n => valL n (zeros 32) nilS nilS).flatten
theorem sizeU1 : (Tryz.prog.info? 24).map (·.size) = some 1 := by kernel_rfl
theorem valInfo3 : (Tryz.prog.info? 43).map (fun i => (i.zero, i.size, i.bytes)) = some (some (.agg (valL 0 (zeros 32) nilS nilS).toArray), 35, 88) := by kernel_rfl
theorem HasC.grownO {w w' : World} {g : Nat} {t : TypeId} {cs : List Value} {row : Option Nat} (h : HasC w g t cs) (hG : w.grownBy w' row) (hg : row ≠ some g) : HasC w' g t cs := by
  unfold HasC; rw [hG.block g h.lt (fun e => hg e.symm)]; exact h
/-- Worlds between which only the row u may have grown: it owns what it owned, and whoever owned the longer row owns it. -/
structure AppR (u : Value) (base n : Nat) (xs ys : List Value) (w w' : World) : Prop where
  grown : w.grownBy w' u.ownBlock
  old : w.ownsRow base 43 35 u n xs → w'.ownsRow base 43 35 u n xs
  new : ∀ v, w.ownsRow base 43 35 v (n + 1) ys → w'.ownsRow base 43 35 v (n + 1) ys
theorem AppR.refl {u : Value} {base n : Nat} {xs ys : List Value} (w : World) : AppR u base n xs ys w w := ⟨⟨rfl, rfl, rfl, Nat.le_refl _, fun _ _ _ => rfl⟩, id, fun _ h => h⟩
theorem grownO_trans {w w1 w2 : World} {row : Option Nat} (h : w.grownBy w1 row) (k : w1.grownBy w2 row) : w.grownBy w2 row :=
  ⟨k.os.trans h.os, k.tape.trans h.tape, k.output.trans h.output, Nat.le_trans h.size k.size, fun j hj hne => (k.block j (Nat.lt_of_lt_of_le hj h.size) hne).trans (h.block j hj hne)⟩
theorem AppR.trans {u : Value} {base n : Nat} {xs ys : List Value} {a b c : World} (h : AppR u base n xs ys a b) (k : AppR u base n xs ys b c) : AppR u base n xs ys a c :=
  ⟨grownO_trans h.grown k.grown, fun x => k.old (h.old x), fun v x => k.new v (h.new v x)⟩
theorem AppR.of_below {u : Value} {base n : Nat} {xs ys : List Value} {w w' : World} (h : Below w.heap.size w w') : AppR u base n xs ys w w' :=
  ⟨⟨h.os, h.tape, h.output, h.size, fun k hk _ => h.block k hk⟩, fun x => own_keep x h, fun _ x => own_keep x h⟩
theorem AppR.drew {u : Value} {base n : Nat} {xs ys : List Value} (w : World) : AppR u base n xs ys w { w with drawn := w.drawn + 1 } := AppR.of_below ⟨rfl, rfl, rfl, Nat.le_refl _, fun _ _ => rfl⟩
theorem wp_runW {P : Program} {o : Oper} {a : Act} {w w' : World} {K : Act → World → Prop} {Q : Exit → Act → World → Prop} {v : Value} (hrun : (execOp a.eval o).run P w = .ok (.value v) w') (h : K (a.put o.dst v) w') : o.wp P a w K Q := by
  unfold Oper.wp; rw [hrun]; exact h
theorem val_src {w : World} {b x : Nat} (h : HasC w b 43 (valL x (zeros 32) nilS nilS)) : Src Tryz.prog 35 41 (.slice (some ⟨b, 0, none⟩) 1 1) 1 (valL x (zeros 32) nilS nilS) w := by
  refine Src.ofSlice w Tryz.underlying41 ⟨b, 0, none⟩ 1 1 _ (by rw [valL_length _ _ _ _ zeros32]) (fun j u hj => by rw [Addr.add_lit, Nat.zero_add]; exact h.cell hj) (fun u hu => ?_)
  have := valL_oneC x (zeros 32) nilS nilS trivial trivial
  exact (Array.all_eq_true_iff_forall_mem.1 this) u (by simpa using hu)
theorem rowN_succ (ns : List Nat) (t : Nat) (h : t < ns.length) : rowN (ns.take t) ++ valL (ns.getD t 0) (zeros 32) nilS nilS = rowN (ns.take (t + 1)) := by
  unfold rowN
  rw [List.take_add_one, List.getElem?_eq_getElem h, List.getD_eq_getElem?_getD, List.getElem?_eq_getElem h]
  show _ = (List.map (fun n => valL n (zeros 32) nilS nilS) (ns.take t ++ [ns[t]])).flatten
  rw [List.map_append, List.flatten_append]
  simp only [List.map_cons, List.map_nil, List.flatten_cons, List.flatten_nil, List.append_nil]
  rfl
theorem HasC.setCell {w : World} {g : Nat} {t : TypeId} {cs : List Value} (h : HasC w g t cs) (j : Nat) (v : Value) : HasC (w.setCell ⟨g, j, none⟩ v) g t (cs.set j v) := by
  unfold HasC at *
  simp [World.setCell, Array.getElem?_modify, h]
theorem valL_set34 (u v : Value) : (valL 0 (zeros 32) nilS u).set 34 v = valL 0 (zeros 32) nilS v := by kernel_rfl
set_option maxHeartbeats 1000000 in
theorem refNumbers_any (v : Value) (ns : List Nat) (w : World) (hN : IsN w v ns) (hl : ns.length ≤ 500) :
    Calls Tryz.prog 96 #[v] w fun e w' => ∃ u, e = .returned (.agg (valL 0 (zeros 32) nilS u).toArray) ∧ w'.ownsRow (w.heap.size + 2) 43 35 u ns.length (rowN ns) ∧ Below w.heap.size w w' := by
  obtain ⟨⟨nao, ncap, rfl, hcap, hmx, hc⟩, h64⟩ := hN
  have HC := hid hc
  have H64 := hid h64
  clear hc h64
  go_enter Tryz.func96, Tryz.ntmps96
  go_wp2_with ((with_reducible refine at_list' ?_); first
    | (refine wpList_alloc_c Tryz.ty43 rfl 2 rfl rfl ?_; intro w1 H1 B1 S1)
    | (refine wpList_build_c rfl _ rfl #[] (by simp) _ (build_none _) ?_)
    | (refine wpList_alloc_c Tryz.ty43 rfl 3 rfl rfl ?_; intro w2 H2 B2 S2; rw [S1] at H2 S2; simp only [S1])
    | (refine wpList_store_c Tryz.ty43 rfl (.tmp 3) (.tmp 5) rfl (w.heap.size + 1) (valL 0 (zeros 32) nilS nilS) rfl rfl rfl (valL_oneC _ _ _ _ trivial trivial) _ H2 rfl ?_; intro w3 H3 O3))
  have L3 := below_only (B1.trans (B2.mono B1.size)) O3 (by omega)
  have X3 := hid (And.intro H3 (And.intro ((H1.keep B2).only O3 (by omega)) L3))
  clear H1 B1 S1 H2 B2 S2 H3 O3 L3
  go_loopw [4] (fun i wr => ∃ (t : Nat) (u : Value), t ≤ ns.length ∧ i = .int .i64 t ∧ HasC wr (w.heap.size + 1) 43 (valL 0 (zeros 32) nilS u) ∧ wr.ownsRow (w.heap.size + 2) 43 35 u t (rowN (ns.take t)) ∧ HasC wr w.heap.size 43 (valL 0 (zeros 32) nilS nilS) ∧ Below w.heap.size w wr) (fun i _ => ns.length - (intOf i).toNat)
  case atStart => exact ⟨0, nilS, Nat.zero_le _, rfl, X3.out.1, World.ownsRow_nil _ _ _ _, X3.out.2.1, X3.out.2.2⟩
  case round =>
    clear X3
    obtain ⟨t, u, ht, rfl, hX, hown, hA, hW⟩ := hrel
    have hxl := hX.lt
    have hwl := hW.size
    have hol := fun g hg => (own_lt hown g hg)
    by_cases hlt : t < ns.length
    · obtain ⟨nb, noff, rfl, hcc⟩ := HC.out.resolve_left (by omega)
      have hct := cell_keep hW (hcc t hlt)
      have hnb : nb < w.heap.size := block_lt_of_cell (hcc t hlt)
      have hsu := rowN_succ ns t hlt
      obtain ⟨x, HX⟩ : ∃ x, Same (ns.getD t 0) x := ⟨_, ⟨rfl⟩⟩
      rw [HX.out] at hct hsu
      have HF := hid (And.intro hX (And.intro (fun e => by have := (hol _ e).1; omega : u.ownBlock ≠ some (w.heap.size + 1)) (And.intro (show wr.cell? ⟨nb, noff + t * 1, none⟩ = some (.int .u64 (x : Nat)) by rw [Nat.mul_one]; exact hct) (And.intro (fun e => by have := (hol _ e.symm).1; omega : some nb ≠ u.ownBlock) (And.intro (fun g hg => (hol g hg).2 : ∀ g, u.ownBlock = some g → g < wr.heap.size) (And.intro hown (show w.heap.size + 2 ≤ wr.heap.size by omega)))))))
      have HO := hid (And.intro hA (And.intro hW (And.intro hsu (fun g hg => (hol g hg).1 : ∀ g, u.ownBlock = some g → w.heap.size + 2 ≤ g))))
      clear hct hsu hcc hX hown hA hW hol
      go_wp2_with fail
      try simp only [Act.put, List.setIfInBounds_toArray, List.set_cons_succ, List.set_cons_zero]
      refine wp_region_flowR (AppR u (w.heap.size + 2) t (rowN (ns.take t)) (rowN (ns.take t) ++ valL x (zeros 32) nilS nilS)) 10 10 (fun i v wq => match i with
        | 0 => v = .pointer (some ⟨w.heap.size + 1, 34, none⟩)
        | 1 => v = u
        | 2 => v = .slice (some ⟨nb, noff, none⟩) ns.length ncap
        | 3 => v = .int .i64 (t : Nat)
        | 4 => v = .pointer (some ⟨nb, noff + t * 1, none⟩)
        | 5 => v = .int .u64 (x : Nat)
        | 6 => v = .agg (valL x (zeros 32) nilS nilS).toArray
        | 7 => ∃ b, wr.heap.size ≤ b ∧ v = .slice (some ⟨b, 0, none⟩) 1 1 ∧ HasC wq b 43 (valL x (zeros 32) nilS nilS)
        | 8 => wq.ownsRow (w.heap.size + 2) 43 35 v (t + 1) (rowN (ns.take t) ++ valL x (zeros 32) nilS nilS)
        | _ => v = .pointer (some ⟨w.heap.size + 1, 34, none⟩)) (by kernel_rfl) (by kernel_rfl) (AppR.refl) (fun _ _ _ h k => h.trans k) (AppR.drew) (fun _ d _ _ _ h => by cases d <;> exact h) ?_ ?_ ?_ ?_ ?_
      · intro i o g b hi ho hg v wq hv
        match i, hi with
        | 0, _ => cases ho; cases hg
        | 1, _ => cases ho; cases hg
        | 2, _ => cases ho; cases hg
        | 3, _ => cases ho; cases hg
        | 4, _ => cases ho; cases hg
        | 5, _ => cases ho; cases hg
        | 6, _ => cases ho; cases hg
        | 7, _ => cases ho; cases hg
        | 8, _ => cases ho; cases hg
        | 9, _ => cases ho; cases hg
        | (k + 10), hk => exact absurd hk (by omega)
      · intro i v wq wq' hi hv hb
        match i, hi with
        | 0, _ => exact hv
        | 1, _ => exact hv
        | 2, _ => exact hv
        | 3, _ => exact hv
        | 4, _ => exact hv
        | 5, _ => exact hv
        | 6, _ => exact hv
        | 7, _ => obtain ⟨b, h1, h2, h3⟩ := hv; exact ⟨b, h1, h2, h3.grownO hb.grown (fun e => by have := HF.out.2.2.2.2.1 _ e; omega)⟩
        | 8, _ => exact hb.new _ hv
        | 9, _ => exact hv
        | (k + 10), hk => exact absurd hk (by omega)
      · intro i o hi ho aq wq hc hk hdep
        match i, hi with
        | 0, _ =>
          cases ho
          refine flowR_of (fun w' h => AppR.of_below h) ?_
          have e1 : aq.tmps.getD 3 undef = .pointer (some ⟨w.heap.size + 1, 0, none⟩) := hk 3 (by decide)
          exact flow_value _ (run_fieldAt 43 (.tmp 3) 3 rfl _ _ e1 (by kernel_rfl)) rfl
        | 1, _ =>
          cases ho
          refine flowR_of (fun w' h => AppR.of_below h) ?_
          have e0 : aq.tmps.getD 12 undef = .pointer (some ⟨w.heap.size + 1, 34, none⟩) := hdep 0 12 rfl (by kernel_rfl)
          exact flow_value _ (run_cell 41 (.tmp 12) rfl _ e0 _ ((HF.out.1.grownO hc.grown HF.out.2.1).cell (valL_34 0 (zeros 32) nilS u zeros32)) _ Tryz.underlying41 rfl) rfl
        | 2, _ =>
          cases ho
          refine flowR_of (fun w' h => AppR.of_below h) ?_
          exact flow_move (.tmp 0) rfl (hk 0 (by decide))
        | 3, _ =>
          cases ho
          refine flowR_of (fun w' h => AppR.of_below h) ?_
          exact flow_move (.tmp 4) rfl (hk 4 (by decide))
        | 4, _ =>
          cases ho
          refine flowR_of (fun w' h => AppR.of_below h) ?_
          have e0 : aq.tmps.getD 14 undef = .slice (some ⟨nb, noff, none⟩) ns.length ncap := hdep 2 14 rfl (by kernel_rfl)
          have e1 : aq.tmps.getD 15 undef = .int .i64 (t : Nat) := hdep 3 15 rfl (by kernel_rfl)
          exact flow_value _ (run_atG 59 24 1 (.tmp 14) (.tmp 15) rfl Tryz.underlying59 sizeU1 nb noff ns.length ncap t e0 e1 hlt) rfl
        | 5, _ =>
          cases ho
          refine flowR_of (fun w' h => AppR.of_below h) ?_
          have e0 : aq.tmps.getD 16 undef = .pointer (some ⟨nb, noff + t * 1, none⟩) := hdep 4 16 rfl (by kernel_rfl)
          exact flow_value _ (run_cell 24 (.tmp 16) rfl _ e0 _ (hc.grown.cell HF.out.2.2.1 HF.out.2.2.2.1) _ Tryz.underlying24 rfl) rfl
        | 6, _ =>
          cases ho
          refine flowR_of (fun w' h => AppR.of_below h) ?_
          have e0 : aq.tmps.getD 17 undef = .int .u64 (x : Nat) := hdep 5 17 rfl (by kernel_rfl)
          refine flow_fun 58 _ _ rfl (fun _ _ => by simp [go_sem]) #[.int .u64 (x : Nat)] (by rw [show (#[Operand.tmp 17] : Array Operand).map aq.eval = #[aq.tmps.getD 17 undef] from by simp [Act.eval], e0]) ?_
          refine (n_any x wq).mono ?_
          rintro e w' ⟨rfl, q⟩
          exact ⟨_, rfl, rfl, q⟩
        | 7, _ =>
          cases ho
          refine flowR_of (fun w' h => AppR.of_below h) ?_
          have e0 : aq.tmps.getD 18 undef = .agg (valL x (zeros 32) nilS nilS).toArray := hdep 6 18 rfl (by kernel_rfl)
          refine flow_rowsB 41 43 1 35 _ rfl Tryz.underlying41 valInfo [valL x (zeros 32) nilS nilS] [.tmp 18] rfl (by rw [show [Operand.tmp 18].map aq.eval = [aq.tmps.getD 18 undef] from rfl, e0]; rfl) (by simp [valL_length, zeros32]) rfl (by decide) (by decide) (by decide) (fun w' h hb => ⟨wq.heap.size, hc.grown.size, rfl, (by simpa using h)⟩)
        | 8, _ =>
          cases ho
          obtain ⟨b, h1, e1, h3⟩ := hdep 7 19 rfl (by kernel_rfl)
          have e0 : aq.tmps.getD 13 undef = u := hdep 1 13 rfl (by kernel_rfl)
          obtain ⟨i0, hi, hz0, hz1, hz2⟩ := info_parts valInfo3
          obtain ⟨v2, w2, hrun, hown2, hg2, hmv, hk1, hk2⟩ := run_append_kept (P := Tryz.prog) wq (w.heap.size + 2) 41 41 41 43 i0 _ 35 _ Tryz.underlying41 hi hz0 hz1 hz2 rfl (by decide) u t _ (hc.old HF.out.2.2.2.2.2.1) (.slice (some ⟨b, 0, none⟩) 1 1) 1 (valL x (zeros 32) nilS nilS) (val_src h3) (by unfold maxLen; omega) (by omega) (by have := hc.grown.size; have := HF.out.2.2.2.2.2.2; omega)
          exact wp_runW (run_call_append (.tmp 13) (.tmp 19) 41 41 rfl u (.slice (some ⟨b, 0, none⟩) 1 1) v2 e0 e1 hrun) ⟨v2, rfl, hown2, ⟨hg2, fun _ => hk1, hk2⟩⟩
        | 9, _ =>
          cases ho
          refine flowR_of (fun w' h => AppR.of_below h) ?_
          have e1 : aq.tmps.getD 3 undef = .pointer (some ⟨w.heap.size + 1, 0, none⟩) := hk 3 (by decide)
          exact flow_value _ (run_fieldAt 43 (.tmp 3) 3 rfl _ _ e1 (by kernel_rfl)) rfl
        | (k + 10), hk => exact absurd hk (by omega)
      · intro o h10 ho
        omega
      intro vf w8 hc hv hv2
      have e9 : vf 9 = _ := hv 9 21 (by decide) rfl
      have h8 : w8.ownsRow (w.heap.size + 2) 43 35 (vf 8) (t + 1) _ := hv 8 20 (by decide) rfl
      obtain ⟨g1, cap1, e8⟩ := ownsRow_succ h8
      rw [e8, HO.out.2.2.1] at h8
      have hX8 := HF.out.1.grownO hc.grown HF.out.2.1
      have hA8 := HO.out.1.grownO hc.grown (fun e => by have := HO.out.2.2.2 _ e; omega)
      have L8 := HO.out.2.1.grown hc.grown hwl (fun k hk => by have := HO.out.2.2.2 _ hk; omega)
      clear hv hv2 hc
      simp only [List.take_succ_cons, List.take_zero, List.drop_succ_cons, List.drop_zero, putAll, Act.put, List.setIfInBounds_toArray, List.set_cons_succ, List.set_cons_zero]
      rw [e8, e9]
      have c34 := hX8.cell (valL_34 0 (zeros 32) nilS u zeros32)
      have f34 := frozen_of_row w8 (w.heap.size + 1) 34 _ _ hX8
      have Y8 := hid (And.intro h8 (And.intro hX8 (And.intro hA8 L8)))
      clear e8 e9 h8 hX8 hA8 L8
      go_wp2_with fail
      have hO := Only.setCell w8 (w.heap.size + 1) 34 (.slice (some ⟨g1, 0, none⟩) (t + 1) cap1)
      have hX9 := Y8.out.2.1.setCell 34 (.slice (some ⟨g1, 0, none⟩) (t + 1) cap1)
      rw [valL_set34] at hX9
      have hg1 := (own_lt Y8.out.1 g1 rfl).1
      refine ⟨⟨t + 1, _, by omega, by go_num, hX9, own_only Y8.out.1 hO (fun _ => by simp [Value.ownBlock]; omega) (by simp [Value.ownBlock]; omega), Y8.out.2.2.1.only hO (by omega), below_only Y8.out.2.2.2 hO (by omega)⟩, by simp [intOf]; omega⟩
    · have ht2 : t = ns.length := by omega
      subst ht2
      rw [List.take_of_length_le (Nat.le_refl _)] at hown
      have HO := hid (And.intro hX (And.intro hown (And.intro hA hW)))
      have hun : u.oneCell' = true := by
        rcases hown.2 with ⟨rfl, _⟩ | ⟨g, cap, cur, rfl, _⟩ <;> rfl
      have husl : isSl u := by
        rcases hown.2 with ⟨rfl, _⟩ | ⟨g, cap, cur, rfl, _⟩ <;> trivial
      clear hX hown hA hW hol
      go_wp2_with ((with_reducible refine at_list' ?_); first
        | (refine wpList_load_c Tryz.ty43 rfl (.tmp 3) rfl (w.heap.size + 1) (valL 0 (zeros 32) nilS u) rfl rfl HO.out.1 ?_)
        | (refine wpList_store_c Tryz.ty43 rfl (.tmp 2) (.tmp 22) rfl w.heap.size (valL 0 (zeros 32) nilS u) rfl rfl rfl (valL_oneC _ _ _ _ trivial husl) _ HO.out.2.2.1 rfl ?_; intro w9 H9 O9))
      refine bodyPost_ret (results_c1 Tryz.ty43 rfl _ w9 w.heap.size _ rfl H9 rfl) rfl ⟨u, rfl, own_only HO.out.2.1 O9 (fun _ e => by have := (own_lt HO.out.2.1 _ e).1; omega) (fun e => by have := (own_lt HO.out.2.1 _ e).1; omega), below_only HO.out.2.2.2 O9 (Nat.le_refl _)⟩
end Go.Proofs.YtbmcmabimfoknaaGreatDoor

/- A list of numbers as a value of the document. -/
namespace Go.Proofs.YtbmcmabimfoknaaGreatDoor
open Go.RowKit Go.Shelf
set_option linter.unusedVariables false
set_option maxRecDepth 100000

def numsV (ns : List Nat) : Vt := .mk 0 (zeros 32) [] (ns.map fun n => .mk n (zeros 32) [] [])
theorem rowV_nums (ns : List Nat) : (rowV (ns.map fun n => (Vt.mk n (zeros 32) [] [], nilS, nilS))).flatten = rowN ns := by
  induction ns with
  | nil => rfl
  | cons n ns ih => rw [List.map_cons, rowV, List.flatten_cons, ih]; rfl
/-- A row of numbers' values is such a list. -/
theorem vAt_nums {w : World} {base : Nat} {u : Value} {ns : List Nat} (h : w.ownsRow base 43 35 u ns.length (rowN ns)) (h64 : ∀ n ∈ ns, n < 18446744073709551616) : VAt w (numsV ns) nilS u := by
  rw [numsV, VAt]
  refine ⟨⟨by decide, zeros32, zeros_byte 32⟩, isT_nil w, ?_⟩
  rcases h.2 with ⟨rfl, h0⟩ | ⟨g, cap, cur, rfl, hb, hg, hnc, hm, hcs, htk⟩
  · have hz : ns = [] := List.eq_nil_of_length_eq_zero h0
    subst hz
    exact ⟨none, 0, rfl, Nat.le_refl _, by decide, .inl rfl⟩
  · refine ⟨some ⟨g, 0, none⟩, cap, by rw [List.length_map], by rw [List.length_map]; exact hnc, hm, .inr ⟨g, 0, rfl, ?_⟩⟩
    have hC : HasC w g 43 cur.toList := by unfold HasC; rw [Array.toArray_toList]; exact hg
    have hk := ksAt_of hC (ns.map fun n => (Vt.mk n (zeros 32) [] [], nilS, nilS)) 0 (fun j v hj => by
      rw [rowV_nums, ← htk] at hj
      rw [Nat.zero_add]
      have hjl := (List.getElem?_eq_some_iff.1 hj).1
      rw [List.getElem?_take] at hj
      split at hj
      · exact hj
      · cases hj) (fun x hx => by
      obtain ⟨n, hn, rfl⟩ := List.mem_map.1 hx
      exact vAt_leaf w (h64 n hn) zeros32 (zeros_byte 32))
    rw [List.map_map] at hk
    exact hk
end Go.Proofs.YtbmcmabimfoknaaGreatDoor

/- Values of the document, and which blocks they lie in: whoever leaves these as they are leaves the value as it is. -/
namespace Go.Proofs.YtbmcmabimfoknaaGreatDoor
open Go.RowKit Go.Shelf
set_option linter.unusedVariables false
set_option linter.unusedSimpArgs false
set_option maxRecDepth 100000

/-- The second world has the first one's blocks, where P says so. -/
def Agr (P : Nat → Prop) (w w' : World) : Prop := ∀ b, P b → b < w.heap.size → w'.heap[b]? = w.heap[b]?
theorem Agr.refl (P : Nat → Prop) (w : World) : Agr P w w := fun _ _ _ => rfl
theorem Agr.below {P : Nat → Prop} {w w' w'' : World} (h : Agr P w' w'') (hb : Below w.heap.size w w') : Agr P w w'' := fun b hp hl => (h b hp (Nat.lt_of_lt_of_le hl hb.size)).trans (hb.block b hl)
theorem Agr.only {P : Nat → Prop} {w w' w'' : World} {g : Nat} (h : Agr P w' w'') (ho : Only g w w') : Agr (fun b => P b ∧ b ≠ g) w w'' := fun b hp hl => (h b hp.1 (by rw [ho.size]; exact hl)).trans (ho.block b hp.2)
theorem Agr.mono {P Q : Nat → Prop} {w w' : World} (h : Agr P w w') (hq : ∀ b, Q b → P b) : Agr Q w w' := fun b hb hl => h b (hq b hb) hl
/-- A value that lies in such blocks. -/
def VIn (P : Nat → Prop) (w : World) (x : Vt) (sb sk : Value) : Prop := ∀ w', Agr P w w' → VAt w' x sb sk
def KIn (P : Nat → Prop) (w : World) (ks : List Vt) (b off : Nat) : Prop := ∀ w', Agr P w w' → KsAt w' ks b off
def TIn (P : Nat → Prop) (w : World) (v : Value) (l : List Bool) : Prop := ∀ w', Agr P w w' → IsT w' v l
theorem VIn.at {P : Nat → Prop} {w : World} {x : Vt} {sb sk : Value} (h : VIn P w x sb sk) : VAt w x sb sk := h w (Agr.refl P w)
theorem VIn.keep {P : Nat → Prop} {w w' : World} {x : Vt} {sb sk : Value} (h : VIn P w x sb sk) (hb : Below w.heap.size w w') : VIn P w' x sb sk := fun w'' ha => h w'' (ha.below hb)
theorem VIn.only {P : Nat → Prop} {w w' : World} {x : Vt} {sb sk : Value} {g : Nat} (h : VIn (fun b => P b ∧ b ≠ g) w x sb sk) (ho : Only g w w') : VIn P w' x sb sk := fun w'' ha => h w'' (ha.only ho)
theorem VIn.mono {P Q : Nat → Prop} {w : World} {x : Vt} {sb sk : Value} (h : VIn P w x sb sk) (hq : ∀ b, P b → Q b) : VIn Q w x sb sk := fun w' ha => h w' (ha.mono hq)
theorem KIn.keep {P : Nat → Prop} {w w' : World} {ks : List Vt} {b off : Nat} (h : KIn P w ks b off) (hb : Below w.heap.size w w') : KIn P w' ks b off := fun w'' ha => h w'' (ha.below hb)
theorem KIn.only {P : Nat → Prop} {w w' : World} {ks : List Vt} {b off : Nat} {g : Nat} (h : KIn (fun b => P b ∧ b ≠ g) w ks b off) (ho : Only g w w') : KIn P w' ks b off := fun w'' ha => h w'' (ha.only ho)
theorem TIn.at {P : Nat → Prop} {w : World} {v : Value} {l : List Bool} (h : TIn P w v l) : IsT w v l := h w (Agr.refl P w)
theorem TIn.keep {P : Nat → Prop} {w w' : World} {v : Value} {l : List Bool} (h : TIn P w v l) (hb : Below w.heap.size w w') : TIn P w' v l := fun w'' ha => h w'' (ha.below hb)
/-- What lay there when the call began lies apart from its own variable. -/
theorem TIn.apart {P : Nat → Prop} {w wq : World} {v : Value} {l : List Bool} {g : Nat} (h : TIn P w v l) (hb : Below w.heap.size w wq) (hg : w.heap.size ≤ g) : TIn (fun b => P b ∧ b ≠ g) wq v l :=
  fun w'' ha => h w'' fun b hp hl => (ha b ⟨hp, by omega⟩ (Nat.lt_of_lt_of_le hl hb.size)).trans (hb.block b hl)
theorem TIn.apart1 {P P1 : Nat → Prop} {w : World} {v : Value} {l : List Bool} {g : Nat} (h : Same (fun b => P b ∧ b ≠ g) P1) (t : TIn (fun b => P b ∧ b ≠ g) w v l) : TIn P1 w v l := by rw [← h.out]; exact t
def IsVI (P : Nat → Prop) (w : World) (v : Value) (x : Vt) : Prop := ∃ sb sk, v = .agg (valL x.num x.root sb sk).toArray ∧ VIn P w x sb sk
theorem IsVI.keep {P : Nat → Prop} {w w' : World} {v : Value} {x : Vt} (h : IsVI P w v x) (hb : Below w.heap.size w w') : IsVI P w' v x := by
  obtain ⟨sb, sk, e, h⟩ := h
  exact ⟨sb, sk, e, h.keep hb⟩
theorem IsVI.isV {P : Nat → Prop} {w : World} {v : Value} {x : Vt} (h : IsVI P w v x) : IsV w v x := by
  obtain ⟨sb, sk, e, h⟩ := h
  exact ⟨sb, sk, e, h.at⟩
theorem IsVI.leaf (P : Nat → Prop) (w : World) {n : Nat} {r : List Nat} (hn : n < 18446744073709551616) (hr : r.length = 32) (h8 : ∀ z ∈ r, z < 256) : IsVI P w (.agg (valL n r nilS nilS).toArray) (.mk n r [] []) := ⟨nilS, nilS, rfl, fun w' _ => vAt_leaf w' hn hr h8⟩
theorem IsVI.bits {P : Nat → Prop} {w : World} {ao : Option Addr} {c : Nat} {l : List Bool} (h : TIn P w (.slice ao l.length c) l) : IsVI P w (.agg (valL 0 (zeros 32) (.slice ao l.length c) nilS).toArray) (.mk 0 (zeros 32) l []) := by
  refine ⟨_, nilS, rfl, fun w' ha => ?_⟩
  rw [VAt]
  exact ⟨⟨by decide, zeros32, zeros_byte 32⟩, h w' ha, none, 0, rfl, Nat.le_refl _, by decide, .inl rfl⟩
theorem HasC.agr {P : Nat → Prop} {w w' : World} {b : Nat} {t : TypeId} {cs : List Value} (h : HasC w b t cs) (ha : Agr P w w') (hp : P b) : HasC w' b t cs := by
  have hl := h.lt
  unfold HasC at h ⊢
  rw [ha b hp hl]
  exact h
theorem own_agr {P : Nat → Prop} {w w' : World} {base n s : Nat} {e : TypeId} {v : Value} {xs : List Value} (h : w.ownsRow base e s v n xs) (ha : Agr P w w') (hp : ∀ b, base ≤ b → P b) : w'.ownsRow base e s v n xs := by
  obtain ⟨h1, h2 | ⟨g, cap, cur, hv, hbg, hg, h3⟩⟩ := h
  · exact ⟨h1, .inl h2⟩
  · exact ⟨h1, .inr ⟨g, cap, cur, hv, hbg, by rw [ha g (hp g hbg) (Array.getElem?_eq_some_iff.1 hg).1]; exact hg, h3⟩⟩
theorem vIn_nums {P : Nat → Prop} {w : World} {base : Nat} {u : Value} {ns : List Nat} (h : w.ownsRow base 43 35 u ns.length (rowN ns)) (h64 : ∀ n ∈ ns, n < 18446744073709551616) (hp : ∀ b, base ≤ b → P b) : VIn P w (numsV ns) nilS u := fun w' ha => vAt_nums (own_agr h ha hp) h64
/-- A row of values, made. -/
theorem kIn_of {P : Nat → Prop} {w w' : World} {t : TypeId} {cs : List Value} (hg : HasC w' w.heap.size t cs) (hb : Below w.heap.size w w') (hp : P w.heap.size) (xs : List (Vt × Value × Value)) (h : ∀ (j : Nat) (v : Value), (rowV xs).flatten[j]? = some v → cs[0 + j]? = some v) (hv : ∀ x ∈ xs, VIn P w x.1 x.2.1 x.2.2) : KIn P w' (xs.map (·.1)) w.heap.size 0 :=
  fun w'' ha => ksAt_of (hg.agr ha hp) xs 0 h (fun x hx => hv x hx w'' (ha.below hb))
theorem vIn_all {P : Nat → Prop} {w : World} {b k : Nat} {ks : List Vt} (hk : ks.length = k) (hm : k ≤ maxLen) (h : KIn P w ks b 0) : VIn P w (.mk 0 (zeros 32) [] ks) nilS (.slice (some ⟨b, 0, none⟩) k k) := fun w' ha => isV_all hk hm (h w' ha)
end Go.Proofs.YtbmcmabimfoknaaGreatDoor

/- Rows of any values of the document, and where they lie. -/
namespace Go.Proofs.YtbmcmabimfoknaaGreatDoor
open Go.RowKit Go.Shelf
set_option linter.unusedVariables false
set_option linter.unusedSimpArgs false
set_option maxRecDepth 100000

theorem rowV_snoc (xs : List (Vt × Value × Value)) (x : Vt × Value × Value) : (rowV (xs ++ [x])).flatten = (rowV xs).flatten ++ valL x.1.num x.1.root x.2.1 x.2.2 := by
  induction xs with
  | nil => simp [rowV]
  | cons y ys ih => rw [List.cons_append, rowV, rowV, List.flatten_cons, List.flatten_cons, ih, List.append_assoc]
theorem vAt_row {w : World} {base : Nat} {u : Value} {xs : List (Vt × Value × Value)} (h : w.ownsRow base 43 35 u xs.length (rowV xs).flatten) (hv : ∀ x ∈ xs, VAt w x.1 x.2.1 x.2.2) : VAt w (.mk 0 (zeros 32) [] (xs.map (·.1))) nilS u := by
  rw [VAt]
  refine ⟨⟨by decide, zeros32, zeros_byte 32⟩, isT_nil w, ?_⟩
  rcases h.2 with ⟨rfl, h0⟩ | ⟨g, cap, cur, rfl, hb, hg, hnc, hm, hcs, htk⟩
  · have hz : xs = [] := List.eq_nil_of_length_eq_zero h0
    subst hz
    exact ⟨none, 0, rfl, Nat.le_refl _, by decide, .inl rfl⟩
  · refine ⟨some ⟨g, 0, none⟩, cap, by rw [List.length_map], by rw [List.length_map]; exact hnc, hm, .inr ⟨g, 0, rfl, ?_⟩⟩
    have hC : HasC w g 43 cur.toList := by unfold HasC; rw [Array.toArray_toList]; exact hg
    exact ksAt_of hC xs 0 (fun j v hj => by
      rw [← htk] at hj
      rw [Nat.zero_add]
      rw [List.getElem?_take] at hj
      split at hj
      · exact hj
      · cases hj) hv
/-- A row of values that the call made, each in blocks of P. -/
theorem vIn_row {P : Nat → Prop} {w : World} {base : Nat} {u : Value} {xs : List (Vt × Value × Value)} (h : w.ownsRow base 43 35 u xs.length (rowV xs).flatten) (hv : ∀ x ∈ xs, VIn P w x.1 x.2.1 x.2.2) (hp : ∀ b, base ≤ b → P b) : VIn P w (.mk 0 (zeros 32) [] (xs.map (·.1))) nilS u :=
  fun w' ha => vAt_row (own_agr h ha hp) (fun x hx => hv x hx w' ha)
end Go.Proofs.YtbmcmabimfoknaaGreatDoor

/- Flows over an order of worlds for each operation: what an operation yields stands through the others' orders alone. -/
namespace Go.Proofs.YtbmcmabimfoknaaGreatDoor
open Go Go.RowKit
set_option linter.unusedVariables false
section
variable {P : Program}
structure FlowOInv (R : World → World → Prop) (ops : Array Oper) (n : Nat) (I : Nat → Value → World → Prop) (w0 : World) (a0 : Act) (done : Array Bool) (a : Act) (w : World) : Prop where
  head : HeadInv .any ops n done
  cls : R w0 w
  defers : a.defers = a0.defers
  size : a.tmps.size = a0.tmps.size
  keep : ∀ s, (∀ i, i < n → dstOf ops i ≠ some s) → a.tmps[s]? = a0.tmps[s]?
  known : ∀ i, i < n → done.getD i false = true → ∀ d, dstOf ops i = some d → I i (a.tmps.getD d undef) w
  stor : ∀ i, i < n → done.getD i false = true → dstOf ops i = none → ∃ v, I i v w
theorem flowO_any {R : World → World → Prop} {S : Nat → World → World → Prop} {ops : Array Oper} {n late : Nat} {I : Nat → Value → World → Prop} {w0 : World} {a0 : Act} {Q : Exit → Act → World → Prop} (hB : flowGB ops n late a0.tmps.size = true)
    (hRr : ∀ w, R w w) (hRt : ∀ a b c, R a b → R b c → R a c) (hRd : ∀ w : World, R w { w with drawn := w.drawn + 1 }) (hS : ∀ i w w', S i w w' → R w w') (hSr : ∀ i w, S i w w)
    (hQ : ∀ c d v a w, Q (.panic c) (a.put d v) w → Q (.panic c) a w)
    (hguard : ∀ i o g b, i < n → ops[i]? = some o → o.guard = some (g, b) → ∀ v w, I g v w → v = .bool b)
    (hI : ∀ i j v w w', i < n → j < n → j ≠ i → I j v w → S i w w' → I j v w')
    (hop : ∀ i o, i < n → ops[i]? = some o → ∀ a w, R w0 w → (∀ s, (∀ j, j < n → dstOf ops j ≠ some s) → a.tmps.getD s undef = a0.tmps.getD s undef) →
      (∀ j d, dstOf ops j = some d → (o.after.any fun e => Region.binds .any e && e.on == j) = true → I j (a.tmps.getD d undef) w) →
      o.wp P a w (fun a' w' => ∃ v, a' = a.put o.dst v ∧ I i v w' ∧ S i w w') Q)
    (hlate : ∀ o, late < n → ops[late]? = some o → ∀ (a : Act) w, R w0 w → (∀ s, (∀ j, j < n → dstOf ops j ≠ some s) → a.tmps.getD s undef = a0.tmps.getD s undef) →
      (∀ j d, dstOf ops j = some d → (o.after.any fun e => Region.binds .any e && e.on == j) = true → I j (a.tmps.getD d undef) w) → ∃ v, (∀ w, (execOp a.eval o).run P w = .ok (.value v) w) ∧ I late v w)
    (htail : ∀ v w, R w0 w → (∀ i d, i < n → dstOf ops i = some d → I i (v i) w) → (∀ i, i < n → dstOf ops i = none → ∃ v, I i v w) → wpAny P .any ops Q (ops.size - n) ((List.range ops.size).map fun i => decide (i < n)).toArray (putAll v (ops.toList.take n) 0 a0) w) :
    ∀ f (done : Array Bool) (a : Act) (w : World), (List.range n).countP (fun i => !done.getD i true) = f → FlowOInv R ops n I w0 a0 done a w → wpAny P .any ops Q (f + (ops.size - n)) done a w := by
  simp only [flowGB, Bool.and_eq_true, decide_eq_true_eq, List.all_eq_true, List.mem_range, Bool.or_eq_true] at hB
  obtain ⟨⟨⟨⟨⟨hn, hsel⟩, hdir⟩, hall⟩, hlt8⟩, hseq⟩ := hB
  have hat : ∀ i, i < n → ∃ o, ops[i]? = some o := fun i hi => ⟨_, Array.getElem?_eq_getElem (by omega)⟩
  have hgd : ∀ i o, i < n → ops[i]? = some o → (∀ g b, o.guard = some (g, b) → Region.waitsFor .any ops i g = true ∧ ∃ d, dstOf ops g = some d) ∧ (∀ e ∈ o.after, Region.binds .any e = true → e.on < i) ∧ ∀ d, o.dst = some d → d < a0.tmps.size ∧ ∀ j, j < n → j ≠ i → dstOf ops j ≠ some d := by
    intro i o hi ho
    have := hall i hi
    rw [ho] at this
    simp only [Bool.and_eq_true, Array.all_eq_true_iff_forall_mem, Bool.or_eq_true, Bool.not_eq_true', decide_eq_true_eq] at this
    obtain ⟨⟨h1, h2⟩, h3⟩ := this
    refine ⟨fun g b hg => by
      rw [hg] at h1
      simp only [Bool.and_eq_true] at h1
      exact ⟨h1.1.2, Option.isSome_iff_exists.1 h1.2⟩, fun e he hb => (h2 e he).resolve_left (by rw [hb]; decide), fun d hd => ?_⟩
    rw [hd] at h3
    simp only [Bool.and_eq_true, decide_eq_true_eq, List.all_eq_true, List.mem_range, Bool.or_eq_true] at h3
    exact ⟨h3.1, fun j hj hne => (h3.2 j hj).resolve_left hne⟩
  intro f
  induction f with
  | zero =>
    intro done a w hcount inv
    have hdone : ∀ i, i < n → done.getD i true = true := fun i hi => by
      have := List.countP_eq_zero.1 hcount i (List.mem_range.2 hi)
      simpa using this
    have hdn : done = ((List.range ops.size).map fun i => decide (i < n)).toArray := by
      apply Array.ext_getElem?
      intro i
      by_cases hi : i < ops.size
      · have hi' : i < done.size := by rw [inv.head.size]; exact hi
        have h1 : (((List.range ops.size).map fun i => decide (i < n)).toArray)[i]? = some (decide (i < n)) := by simp [hi]
        rw [h1, Array.getElem?_eq_getElem hi']
        by_cases hin : i < n
        · have := hdone i hin
          simp [hi'] at this
          simp [hin, this]
        · have := inv.head.tail i (by omega) hi
          simp [hi'] at this
          simp [hin, this]
      · rw [Array.getElem?_eq_none (by rw [inv.head.size]; omega), Array.getElem?_eq_none (by simp; omega)]
    have hk : ∀ i, i < n → done.getD i false = true := fun i hi => by
      have h1 := hdone i hi
      have hi' : i < done.size := by rw [inv.head.size]; omega
      simp [hi'] at h1 ⊢
      exact h1
    have ha : a = putAll (fun i => match dstOf ops i with | some d => a.tmps.getD d undef | none => undef) (ops.toList.take n) 0 a0 := by
      have hd1 := putAll_defers (fun i => match dstOf ops i with | some d => a.tmps.getD d undef | none => undef) (ops.toList.take n) 0 a0
      have hs1 := putAll_size (fun i => match dstOf ops i with | some d => a.tmps.getD d undef | none => undef) (ops.toList.take n) 0 a0
      have ht1 : ∀ s, a.tmps[s]? = (putAll (fun i => match dstOf ops i with | some d => a.tmps.getD d undef | none => undef) (ops.toList.take n) 0 a0).tmps[s]? := fun s => by
        rw [putAll_get _ s (a.tmps.getD s undef) _ 0 a0 (fun j o hj ho => by
          rw [List.getElem?_take] at hj
          split at hj
          · have : dstOf ops j = some s := by unfold dstOf; rw [Array.getElem?_toList] at hj; rw [hj]; exact ho
            rw [Nat.zero_add, this]
          · cases hj)]
        split
        · rename_i h
          rw [Array.getElem?_eq_getElem (by rw [inv.size]; exact h.2)]
          simp [inv.size, h.2]
        · rename_i h
          by_cases hsz : s < a0.tmps.size
          · refine inv.keep s fun i hi e => h ⟨?_, hsz⟩
            obtain ⟨o, ho⟩ := hat i hi
            refine ⟨o, ?_, by unfold dstOf at e; rw [ho] at e; exact e⟩
            rw [List.mem_take_iff_getElem]
            have := Array.getElem?_eq_some_iff.1 ho
            exact ⟨i, by simp; omega, by simpa using this.2⟩
          · rw [Array.getElem?_eq_none (by rw [inv.size]; omega), Array.getElem?_eq_none (by omega)]
      generalize putAll (fun i => match dstOf ops i with | some d => a.tmps.getD d undef | none => undef) (ops.toList.take n) 0 a0 = b at *
      obtain ⟨ta, da⟩ := a
      obtain ⟨tb, db⟩ := b
      have e1 : ta = tb := Array.ext_getElem? ht1
      have e2 : da = db := inv.defers.trans hd1.symm
      rw [e1, e2]
    rw [Nat.zero_add, ha, hdn]
    refine htail _ w inv.cls (fun i d hi hd => ?_) (fun i hi hd => inv.stor i hi (hk i hi) hd)
    have := inv.known i hi (hk i hi) d hd
    simpa [hd] using this
  | succ f ih =>
    intro done a w hcount inv
    have hex : ∃ i, i < n ∧ done.getD i true = false := by
      have : 0 < (List.range n).countP (fun i => !done.getD i true) := by omega
      obtain ⟨i, hi, hd⟩ := List.countP_pos_iff.1 this
      exact ⟨i, List.mem_range.1 hi, by simpa using hd⟩
    have hready : ∃ i, i < n ∧ i ∈ Region.ready .any ops done := by
      obtain ⟨i0, hi0, hd0⟩ := hex
      have key : ∀ m, m < n → done.getD m true = false → ∃ i, i < n ∧ i ∈ Region.ready .any ops done := by
        intro m
        induction m using Nat.strongRecOn with
        | _ m ihm =>
          intro hm hd
          obtain ⟨o, ho⟩ := hat m hm
          by_cases hw : ∀ e ∈ o.after, Region.binds .any e = true → done.getD e.on false = true
          · exact ⟨m, hm, mem_ready.2 ⟨hd, o, ho, hw⟩⟩
          · simp only [Classical.not_forall] at hw
            obtain ⟨e, he, hb, hnd⟩ := hw
            have hlt := (hgd m o hm ho).2.1 e he hb
            refine ihm e.on hlt (by omega) ?_
            have hi' : e.on < done.size := by rw [inv.head.size]; omega
            simp [hi'] at hnd ⊢
            exact hnd
      exact key i0 hi0 hd0
    obtain ⟨r, hr, hrr⟩ := hready
    rw [Nat.succ_add]
    have hstep : ∀ i o v w', i < n → i ∈ Region.ready .any ops done → ops[i]? = some o → I i v w' → S i w w' →
        (List.range n).countP (fun j => !(done.setIfInBounds i true).getD j true) = f ∧ FlowOInv R ops n I w0 a0 (done.setIfInBounds i true) (a.put o.dst v) w' := by
      intro i o v w' hin hi ho hv hB
      obtain ⟨hun, o', ho', hwait⟩ := mem_ready.1 hi
      obtain ⟨g1, g2, g3⟩ := hgd i o hin ho
      refine ⟨?_, inv.head.set hi hin, hRt _ _ _ inv.cls (hS _ _ _ hB), by rw [put_defers]; exact inv.defers, by rw [put_size]; exact inv.size, fun s hs' => ?_, fun j hj hdj d hd => ?_, fun j hj hdj hd => ?_⟩
      · have hii : i < done.size := by rw [inv.head.size]; omega
        have hcp := count_step done i hii hun n hin
        omega
      · rw [put_get, if_neg (fun h => hs' i hin (by unfold dstOf; rw [ho]; exact h.1))]
        exact inv.keep s hs'
      · by_cases e : j = i
        · subst e
          have hd' : o.dst = some d := by unfold dstOf at hd; rw [ho] at hd; exact hd
          have : (a.put o.dst v).tmps.getD d undef = v := by
            rw [Array.getD_eq_getD_getElem?, put_get, if_pos ⟨hd', by rw [inv.size]; exact (g3 d hd').1⟩]; rfl
          rw [this]; exact hv
        · have hdj' : done.getD j false = true := by rwa [getD_set_ne false (Ne.symm e)] at hdj
          have : (a.put o.dst v).tmps.getD d undef = a.tmps.getD d undef := by
            rw [Array.getD_eq_getD_getElem?, put_get, if_neg (fun h => (g3 d h.1).2 j hj e hd), ← Array.getD_eq_getD_getElem?]
          rw [this]
          exact hI i j _ w w' hin hj e (inv.known j hj hdj' d hd) hB
      · by_cases e : j = i
        · subst e
          exact ⟨v, hv⟩
        · have hdj' : done.getD j false = true := by rwa [getD_set_ne false (Ne.symm e)] at hdj
          obtain ⟨u, hu⟩ := inv.stor j hj hdj' hd
          exact ⟨u, hI i j _ w w' hin hj e hu hB⟩
    have hdeps : ∀ i o, i < n → i ∈ Region.ready .any ops done → ops[i]? = some o → ∀ j d, dstOf ops j = some d → (o.after.any fun e => Region.binds .any e && e.on == j) = true → I j (a.tmps.getD d undef) w := by
      intro i o hin hi ho j d hd hj
      obtain ⟨hun, o', ho', hwait⟩ := mem_ready.1 hi
      obtain rfl : o' = o := Option.some.inj (ho'.symm.trans ho)
      obtain ⟨g1, g2, g3⟩ := hgd i o' hin ho
      obtain ⟨k, hk, hk2⟩ := Array.any_eq_true.1 hj
      simp only [Bool.and_eq_true, beq_iff_eq] at hk2
      have hmem := Array.getElem_mem hk
      have hl := hwait _ hmem hk2.1
      have hlt := g2 _ hmem hk2.1
      rw [hk2.2] at hl hlt
      exact inv.known j (by omega) hl d hd
    have hwant : ∀ i o, i < n → i ∈ Region.ready .any ops done → ops[i]? = some o → Region.wanted o (yielded ops a.tmps) = true := by
      intro i o hin hi ho
      unfold Region.wanted
      cases hg : o.guard with
      | none => rfl
      | some gb =>
        obtain ⟨g, b⟩ := gb
        obtain ⟨q2, d, hd⟩ := (hgd i o hin ho).1 g b hg
        unfold Region.waitsFor at q2
        rw [ho] at q2
        have hv := hguard i o g b hin ho hg _ _ (hdeps i o hin hi ho g d hd q2)
        have hv2 : a.tmps[d]? = some (.bool b) := by
          rw [Array.getD_eq_getD_getElem?] at hv
          cases hq : a.tmps[d]? with
          | none => rw [hq] at hv; cases hv
          | some u => rw [hq] at hv; exact congrArg some hv
        have hy : yielded ops a.tmps g = some b := by
          unfold dstOf at hd
          unfold yielded
          rw [hd]
          simp [hv2]
        simp [hy]
    have hkeep : ∀ s, (∀ j, j < n → dstOf ops j ≠ some s) → a.tmps.getD s undef = a0.tmps.getD s undef := fun s hs' => by rw [Array.getD_eq_getD_getElem?, inv.keep s hs', ← Array.getD_eq_getD_getElem?]
    by_cases hbut : ∀ i, i < n → i ≠ late → done.getD i true = true
    · have hrl : r = late := Classical.byContradiction fun h => by
        have h1 := hbut r hr h
        rw [(mem_ready.1 hrr).1] at h1; cases h1
      subst hrl
      have hdn : done = doneBut ops n r := by
        apply Array.ext_getElem?
        intro i
        by_cases hi : i < ops.size
        · have hi' : i < done.size := by rw [inv.head.size]; exact hi
          have h1 : (doneBut ops n r)[i]? = some (decide (i < n) && decide (i ≠ r)) := by simp [doneBut, hi]
          rw [h1, Array.getElem?_eq_getElem hi']
          by_cases hin : i < n
          · by_cases hir : i = r
            · subst hir
              have := (mem_ready.1 hrr).1
              simp [hi'] at this
              simp [this]
            · have := hbut i hin hir
              simp [hi'] at this
              simp [hin, hir, this]
          · have := inv.head.tail i (by omega) hi
            simp [hi'] at this
            simp [hin, this]
        · rw [Array.getElem?_eq_none (by rw [inv.head.size]; omega), Array.getElem?_eq_none (by simp [doneBut]; omega)]
      obtain ⟨o, ho⟩ := hat r hr
      obtain ⟨v, hrun, hv⟩ := hlate o hr ho a w inv.cls hkeep (hdeps r o hr hrr ho)
      obtain ⟨q1, q2⟩ := hstep r o v w hr hrr ho hv (hSr r w)
      have hw := hwant r o hr hrr ho
      have hfr := hlt8.resolve_left (by omega)
      rw [← hdn] at hfr
      exact wpAny_take ho hsel hfr.1 hfr.2 (fun c a w h => hQ c _ _ a w h) (.inl ⟨hw, hrun⟩) (ih _ _ _ q1 q2)
    · simp only [Classical.not_forall] at hbut
      obtain ⟨u, hu, hul, hud⟩ := hbut
      have hud' : done.getD u false = false := by
        have hi' : u < done.size := by rw [inv.head.size]; omega
        simp [hi'] at hud ⊢
        exact hud
      refine ⟨fun e => (by rw [e] at hrr; cases hrr), fun i hi => ?_⟩
      obtain ⟨hun, o, ho, hwait⟩ := mem_ready.1 hi
      have hin : i < n := Nat.lt_of_not_le fun h => by
        have his : i < ops.size := (Array.getElem?_eq_some_iff.1 ho).1
        have hw := ((hdir i his).resolve_left (by omega) u hu).resolve_left hul
        have := reach_done inv.head.closed u 4 i o ho hwait hw
        rw [hud'] at this
        cases this
      unfold wpOp
      rw [ho]
      have hw := hwant i o hin hi ho
      simp only [hw, if_true]
      refine .inl (Oper.wp_mono ?_ (hop i o hin ho a w inv.cls hkeep (hdeps i o hin hi ho)))
      rintro a' w' ⟨v, rfl, hv, hB⟩
      obtain ⟨q1, q2⟩ := hstep i o v w' hin hi ho hv hB
      exact ih _ _ _ q1 q2

/-- The region, told as a flow. -/
theorem wp_region_flowO {id : Nat} {Q : Exit → Act → World → Prop} {a : Act} {w : World} {l : List Oper} (R : World → World → Prop) (S : Nat → World → World → Prop) (n late : Nat) (I : Nat → Value → World → Prop) (hm : P.follows .mixedOrders = true) (hB : flowGB l.toArray n late a.tmps.size = true)
    (hRr : ∀ w, R w w) (hRt : ∀ a b c, R a b → R b c → R a c) (hRd : ∀ w : World, R w { w with drawn := w.drawn + 1 }) (hS : ∀ i w w', S i w w' → R w w') (hSr : ∀ i w, S i w w)
    (hQ : ∀ c d v a w, Q (.panic c) (a.put d v) w → Q (.panic c) a w)
    (hguard : ∀ i o g b, i < n → l.toArray[i]? = some o → o.guard = some (g, b) → ∀ v w, I g v w → v = .bool b)
    (hI : ∀ i j v w w', i < n → j < n → j ≠ i → I j v w → S i w w' → I j v w')
    (hop : ∀ i o, i < n → l.toArray[i]? = some o → ∀ a' w', R w w' → (∀ s, (∀ j, j < n → dstOf l.toArray j ≠ some s) → a'.tmps.getD s undef = a.tmps.getD s undef) →
      (∀ j d, dstOf l.toArray j = some d → (o.after.any fun e => Region.binds .any e && e.on == j) = true → I j (a'.tmps.getD d undef) w') →
      o.wp P a' w' (fun a'' w'' => ∃ v, a'' = a'.put o.dst v ∧ I i v w'' ∧ S i w' w'') Q)
    (hlate : ∀ o, late < n → l.toArray[late]? = some o → ∀ (a' : Act) w', R w w' → (∀ s, (∀ j, j < n → dstOf l.toArray j ≠ some s) → a'.tmps.getD s undef = a.tmps.getD s undef) →
      (∀ j d, dstOf l.toArray j = some d → (o.after.any fun e => Region.binds .any e && e.on == j) = true → I j (a'.tmps.getD d undef) w') → ∃ v, (∀ w, (execOp a'.eval o).run P w = .ok (.value v) w) ∧ I late v w')
    (htail : ∀ v w', R w w' → (∀ i d, i < n → dstOf l.toArray i = some d → I i (v i) w') → (∀ i, i < n → dstOf l.toArray i = none → ∃ v, I i v w') → wpList P l.toArray Q (l.drop n) (putAll v (l.take n) 0 a) w') : (Code.region id l.toArray true).wp P Q a w := by
  have hB' := hB
  simp only [flowGB, Bool.and_eq_true, decide_eq_true_eq] at hB'
  have hn : n < l.length := by simpa using hB'.1.1.1.1.1
  have h3 : (l.drop n).length = l.toArray.size - n := by simp
  refine wp_region_any hm ?_
  have hc0 : (List.range n).countP (fun i => !(Array.replicate l.toArray.size false).getD i true) = n := by
    have : (List.range n).countP (fun i => !(Array.replicate l.toArray.size false).getD i true) = (List.range n).length := List.countP_eq_length.2 fun i hi => by
      have := List.mem_range.1 hi
      simp [show i < l.length by omega]
    rw [this, List.length_range]
  have K := flowO_any (P := P) (Q := Q) (w0 := w) (a0 := a) (R := R) (S := S) hB hRr hRt hRd hS hSr hQ hguard hI hop hlate (fun v w' hc hv hs => by
    have := wpAny_of_seq (P := P) (md := .any) (Q' := Q) (l.drop n) n _ _ w' (fun j => by simp [List.getElem?_drop]) (by rw [h3]; exact hB'.2) (htail v w' hc hv hs)
    rw [h3] at this
    simpa using this) n (Array.replicate l.toArray.size false) a { w with drawn := w.drawn + 1 } hc0
    ⟨⟨by simp, fun j oj _ hx => (by rw [getD_replicate_false] at hx; cases hx), fun t _ ht => getD_in (by simpa using ht) (getD_replicate_false _ _)⟩, hRd w, rfl, rfl, fun _ _ => rfl, fun i _ hx => (by rw [getD_replicate_false] at hx; cases hx), fun i _ hx => (by rw [getD_replicate_false] at hx; cases hx)⟩
  rwa [show n + (l.toArray.size - n) = l.toArray.size by simp; omega] at K
end
end Go.Proofs.YtbmcmabimfoknaaGreatDoor

/- The document's values of lists of structs: an element's value, where it lies; how Body's variables stand. -/
namespace Go.Proofs.YtbmcmabimfoknaaGreatDoor
open Go.RowKit Go.Shelf
set_option linter.unusedVariables false
set_option linter.unusedSimpArgs false
set_option maxRecDepth 100000

/-- The document's function F makes the value X of these cells, now and later; it lies in what came in (below B0) and in what the call makes. -/
structure DocOf (F : FuncId) (B0 : Nat) (w : World) (cs : List Value) (X : Vt) : Prop where
  call : ∀ (P : Nat → Prop) (w' : World), Below w.heap.size w w' → (∀ b, b < B0 → P b) → (∀ b, w'.heap.size ≤ b → P b) → Calls Tryz.prog F #[.agg cs.toArray] w' fun x w'' => ∃ v, x = .returned v ∧ IsVI P w'' v X ∧ Below w'.heap.size w' w''
theorem DocOf.keep {F : FuncId} {B0 : Nat} {w w' : World} {cs : List Value} {X : Vt} (h : DocOf F B0 w cs X) (hb : Below w.heap.size w w') : DocOf F B0 w' cs X := ⟨fun P w'' hb' => h.call P w'' (hb.trans (hb'.mono hb.size))⟩
def vt0 : Vt := .mk 0 (zeros 32) [] []
/-- A slice of structs: what each holds, and what the document makes of it. -/
structure DocL (F : FuncId) (sz B0 : Nat) (w : World) (ao : Option Addr) (css : List (List Value)) (Xs : List Vt) : Prop where
  len : Xs.length = css.length
  size : ∀ i, i < css.length → (css.getD i []).length = sz
  mem : css.length = 0 ∨ ∃ b off, ao = some ⟨b, off, none⟩ ∧ ∀ i, i < css.length → w.rangeAt b (off + i * sz) (css.getD i [])
  doc : ∀ i, i < css.length → DocOf F B0 w (css.getD i []) (Xs.getD i vt0)
theorem rangeAt_keepD {w w' : World} {b o : Nat} {cs : List Value} (h : w.rangeAt b o cs) (hb : Below w.heap.size w w') : w'.rangeAt b o cs := fun j v hv => cell_keep hb (h j v hv)
theorem DocL.keep {F : FuncId} {sz B0 : Nat} {w w' : World} {ao : Option Addr} {css : List (List Value)} {Xs : List Vt} (h : DocL F sz B0 w ao css Xs) (hb : Below w.heap.size w w') : DocL F sz B0 w' ao css Xs := by
  refine ⟨h.len, h.size, ?_, fun i hi => (h.doc i hi).keep hb⟩
  rcases h.mem with e | ⟨b, off, e, hm⟩
  · exact .inl e
  · exact .inr ⟨b, off, e, fun i hi => rangeAt_keepD (hm i hi) hb⟩
theorem VIn.cap {P : Nat → Prop} {w : World} {x : Vt} {sb sk : Value} (h : VIn P w x sb sk) : VIn (fun b => P b ∧ b < w.heap.size) w x sb sk := fun w' ha => h w' (fun b hb hl => ha b ⟨hb, hl⟩ hl)
theorem VIn.grown {Q : Nat → Prop} {w w' : World} {row : Option Nat} {x : Vt} {sb sk : Value} (h : VIn Q w x sb sk) (hG : w.grownBy w' row) (hq : ∀ b, Q b → row ≠ some b) : VIn Q w' x sb sk :=
  fun w'' ha => h w'' fun b hb hl => (ha b hb (Nat.lt_of_lt_of_le hl hG.size)).trans (hG.block b hl (fun e => hq b hb e.symm))
theorem VIn.put {Q : Nat → Prop} {w w' : World} {g : Nat} {x : Vt} {sb sk : Value} (h : VIn Q w x sb sk) (ho : Only g w w') (hq : ∀ b, Q b → b ≠ g) : VIn Q w' x sb sk :=
  (h.mono (fun b hb => (⟨hb, hq b hb⟩ : Q b ∧ b ≠ g))).only ho
/-- The elements' values lie in blocks of Q. -/
def EIn (Q : Nat → Prop) (w : World) (xs : List (Vt × Value × Value)) : Prop := ∀ x ∈ xs, VIn Q w x.1 x.2.1 x.2.2
/-- Not in the row itself. -/
def Qrow (P1 : Nat → Prop) (u : Value) : Nat → Prop := fun b => P1 b ∧ u.ownBlock ≠ some b
theorem EIn.step {P1 : Nat → Prop} {u u' : Value} {w w' : World} {xs : List (Vt × Value × Value)} (h : EIn (Qrow P1 u) w xs) (hG : w.grownBy w' u.ownBlock) (hu : ∀ g, u'.ownBlock = some g → u.ownBlock = some g ∨ w.heap.size ≤ g) : EIn (Qrow P1 u') w' xs := fun x hx w'' ha =>
  h x hx w'' fun b hb hl => (ha b ⟨hb.1, fun e => by rcases hu b e with e2 | e2; exact hb.2 e2; omega⟩ (Nat.lt_of_lt_of_le hl hG.size)).trans (hG.block b hl (fun e => hb.2 e.symm))
theorem EIn.put {Q : Nat → Prop} {w w' : World} {g : Nat} {xs : List (Vt × Value × Value)} (h : EIn Q w xs) (ho : Only g w w') (hq : ∀ b, Q b → b ≠ g) : EIn Q w' xs := fun x hx => (h x hx).put ho hq
theorem EIn.snoc {Q : Nat → Prop} {w : World} {xs : List (Vt × Value × Value)} {x : Vt × Value × Value} (h : EIn Q w xs) (hx : VIn Q w x.1 x.2.1 x.2.2) : EIn Q w (xs ++ [x]) := fun y hy => by
  rcases List.mem_append.1 hy with hy | hy
  · exact h y hy
  · obtain rfl : y = x := by simpa using hy
    exact hx
/-- How Body's variables stand: its argument at s, what it answers at s + 1, five values behind. -/
structure BV (P1 : Nat → Prop) (s : Nat) (cs : List Value) (us : List Value) (Xss : List (List Vt)) (Bk : Nat) (w : World) : Prop where
  box : HasC w s 33 cs
  res : HasC w (s + 1) 43 (valL 0 (zeros 32) nilS nilS)
  vars : ∀ j, j < 5 → HasC w (s + 2 + j) 43 (valL 0 (zeros 32) nilS (us.getD j nilS))
  vals : ∀ j, j < Xss.length → VIn (fun b => P1 b ∧ b < Bk) w (.mk 0 (zeros 32) [] (Xss.getD j [])) nilS (us.getD j nilS)
theorem BV.grown {P1 : Nat → Prop} {s : Nat} {cs us : List Value} {Xss : List (List Vt)} {Bk : Nat} {w w' : World} {row : Option Nat} (h : BV P1 s cs us Xss Bk w) (hG : w.grownBy w' row) (hr : ∀ g, row = some g → Bk ≤ g ∧ s + 7 ≤ g) : BV P1 s cs us Xss Bk w' := by
  refine ⟨h.box.grownO hG (fun e => by have := hr _ e; omega), h.res.grownO hG (fun e => by have := hr _ e; omega), fun j hj => (h.vars j hj).grownO hG (fun e => by have := hr _ e; omega), fun j hj => (h.vals j hj).grown hG (fun b hb e => by have := hr _ e; omega)⟩
theorem BV.below {P1 : Nat → Prop} {s : Nat} {cs us : List Value} {Xss : List (List Vt)} {Bk : Nat} {w w' : World} (h : BV P1 s cs us Xss Bk w) (hb : Below w.heap.size w w') : BV P1 s cs us Xss Bk w' :=
  ⟨h.box.keep hb, h.res.keep hb, fun j hj => (h.vars j hj).keep hb, fun j hj => (h.vals j hj).keep hb⟩
theorem BV.store {P1 : Nat → Prop} {s : Nat} {cs us : List Value} {Xss : List (List Vt)} {Bk : Nat} {w : World} (h : BV P1 s cs us Xss Bk w) (k : Nat) (v : Value) (hk : k < 5) (hl : us.length = 5) (hX : Xss.length ≤ k) (hP : ∀ b, P1 b → b < s ∨ s + 7 ≤ b) : BV P1 s cs (us.set k v) Xss Bk (w.setCell ⟨s + 2 + k, 34, none⟩ v) := by
  have hO := Only.setCell w (s + 2 + k) 34 v
  refine ⟨h.box.only hO (by omega), h.res.only hO (by omega), fun j hj => ?_, fun j hj => ?_⟩
  · by_cases e : j = k
    · subst e
      have := (h.vars j hj).setCell 34 v
      rw [show (valL 0 (zeros 32) nilS (us.getD j nilS)).set 34 v = valL 0 (zeros 32) nilS v from valL_set34 _ _] at this
      rw [List.getD_eq_getElem?_getD, List.getElem?_set_self (by omega)]
      exact this
    · rw [List.getD_eq_getElem?_getD, List.getElem?_set_ne (fun h => e h.symm), ← List.getD_eq_getElem?_getD]
      exact (h.vars j hj).only hO (by omega)
  · rw [List.getD_eq_getElem?_getD (l := us.set k v), List.getElem?_set_ne (by omega), ← List.getD_eq_getElem?_getD]
    exact (h.vals j hj).put hO (fun b hb e => by have := hP b hb.1; omega)
/-- One list is whole. -/
theorem BV.done {P1 : Nat → Prop} {s : Nat} {cs us : List Value} {Xss : List (List Vt)} {Bk : Nat} {w : World} {xs : List (Vt × Value × Value)} {u : Value} (h : BV P1 s cs us Xss Bk w) (hB : Bk ≤ w.heap.size) (hu : us.getD Xss.length nilS = u) (how : w.ownsRow Bk 43 35 u xs.length (rowV xs).flatten) (hE : EIn (Qrow P1 u) w xs) (hP : ∀ b, Bk ≤ b → P1 b) : BV P1 s cs us (Xss ++ [xs.map (·.1)]) w.heap.size w := by
  refine ⟨h.box, h.res, h.vars, fun j hj => ?_⟩
  rw [List.length_append, List.length_singleton] at hj
  by_cases e : j < Xss.length
  · rw [List.getD_eq_getElem?_getD, List.getElem?_append_left e, ← List.getD_eq_getElem?_getD]
    exact (h.vals j e).mono (fun b hb => ⟨hb.1, by omega⟩)
  · obtain rfl : j = Xss.length := by omega
    rw [List.getD_eq_getElem?_getD, List.getElem?_append_right (Nat.le_refl _), Nat.sub_self, hu]
    exact (vIn_row how (fun x hx => (hE x hx).mono (fun b hb => hb.1)) hP).cap
end Go.Proofs.YtbmcmabimfoknaaGreatDoor

