/- Own texts of the proof, joined: Aw5 Ref5 Kind5 RefCp EncL RefBits EncP RowS EncS RowP EncE EncF. -/
import Derived.Test.YtpaamhmighgjeaaGreatSha
import Derived.Test.YtpaamhmighgjeaaGreatMem
import Derived.Test.YtpaamhmighgjeaaGreatPureB
import Derived.Test.YtpaamhmighgjeaaGreatBytesB
import Derived.Test.YtpaamhmighgjeaaGreatBase
import Derived.Test.YtpaamhmighgjeaaGreatIter
import Derived.Test.YtpaamhmighgjeaaGreatChain
import Derived.Test.YtpaamhmighgjeaaGreatWriter
import Derived.Test.YtpaamhmighgjeaaGreatWriterN
import Derived.Test.YtpaamhmighgjeaaGreatAppAny
import Derived.Test.YtpaamhmighgjeaaGreatCls
import Derived.Test.YtpaamhmighgjeaaGreatTail
import Derived.Test.YtpaamhmighgjeaaGreatClsTail
import Derived.Test.YtpaamhmighgjeaaGreatFlow
import Derived.Test.YtpaamhmighgjeaaGreatFlowG
import Derived.Test.YtpaamhmighgjeaaGreatConv
import Derived.Test.YtpaamhmighgjeaaGreatRunOps
import Derived.Test.YtpaamhmighgjeaaGreatCells
import Derived.Test.YtpaamhmighgjeaaGreatRootsW
import Derived.Test.YtpaamhmighgjeaaGreatWriterB
import Derived.Test.YtpaamhmighgjeaaGreatBits
import Derived.Test.YtpaamhmighgjeaaGreatNew4
import Derived.Test.YtpaamhmighgjeaaGreatPut5
import Derived.Test.YtpaamhmighgjeaaGreatPutV
import Derived.Test.YtpaamhmighgjeaaGreatPutH
import Derived.Test.YtpaamhmighgjeaaGreatLst5
import Derived.Test.YtpaamhmighgjeaaGreatBitsP
import Derived.Test.YtpaamhmighgjeaaGreatSt5
import Derived.Test.YtpaamhmighgjeaaGreatFlowJ
import Derived.Test.YtpaamhmighgjeaaGreatChainI
import Derived.Test.YtpaamhmighgjeaaGreatReader
import Derived.Test.YtpaamhmighgjeaaGreatReaderP
import Derived.Test.YtpaamhmighgjeaaGreatReaderQ
import Derived.Test.YtpaamhmighgjeaaGreatRootR
import Derived.Test.YtpaamhmighgjeaaGreatFlowK
import Derived.Test.YtpaamhmighgjeaaGreatBuild5
import Derived.Test.YtpaamhmighgjeaaGreatTake5
import Derived.Test.YtpaamhmighgjeaaGreatPutA
import Derived.Test.YtpaamhmighgjeaaGreatTakeV
import Derived.Test.YtpaamhmighgjeaaGreatVals
import Derived.Test.YtpaamhmighgjeaaGreatEqlB
import Derived.Test.YtpaamhmighgjeaaGreatRefSame
import Derived.Test.YtpaamhmighgjeaaGreatValM
import Derived.Test.YtpaamhmighgjeaaGreatAnsA
import Derived.Test.YtpaamhmighgjeaaGreatCut
import Derived.Test.YtpaamhmighgjeaaGreatParts
import Derived.Test.YtpaamhmighgjeaaGreatTakeB
import Derived.Test.YtpaamhmighgjeaaGreatDecA
import Derived.Test.YtpaamhmighgjeaaGreatAwkP
import Derived.Test.YtpaamhmighgjeaaGreatDesc
import Derived.Lib.AppendZerosOnto
import Derived.Lib.Walk
import Derived.BigFrame
import Derived.Great.BuildSlice
/- The fixed facts that every statement of layer 5 asks first hold. -/
namespace Go.Proofs.YtpaamhmighgjeaaGreat
open Go.RowKit Go.Shelf
set_option linter.unusedVariables false
set_option maxRecDepth 100000

theorem zeros163 : (Builtin.zeroCells (Value.int .u8 0).cells 163).toList = cellsB (zeros 163) := by kernel_rfl
theorem run_zeros163 (w : World) (ty : TypeId) (b : Nat) (hc : w.cell? ⟨b, 0, none⟩ = some (.int .u8 164)) :
    ∃ v' w', (Builtin.append_ #[39, 3] ty #[.slice (some ⟨b, 0, none⟩) 1 1, .int .i64 163]).run Tryz.prog w = .ok v' w' ∧ Row w' w.heap.size v' (164 :: zeros 163) ∧ Below w.heap.size w w' := by
  obtain ⟨i0, hi, hz0, hz1, hz2⟩ := info_parts Tryz.info5
  have hold : (Builtin.firstCells i0.size 1 (.slice (some ⟨b, 0, none⟩) 1 1)).run Tryz.prog w.drew = .ok ([Value.int .u8 164]).toArray w.drew := by
    refine run_firstCells_some w.drew _ _ _ _ _ [Value.int .u8 164] (by rw [hz1]; rfl) ?_
    intro j u hj
    match j, hj with
    | 0, hj => simp at hj; subst hj; exact hc
    | j + 1, hj => simp at hj
  have hr := Lib.run_append_grow_zeros (P := Tryz.prog) (ty := ty) w 39 3 5 i0 (.int .u8 0) .i64 .i64 Tryz.underlying39 (by kernel_rfl) hi hz0 (some ⟨b, 0, none⟩) 1 1 [Value.int .u8 164] hold 163 (by decide) (by omega) (by decide) (by decide) (by rw [hz2]; decide) (growslice_fits (by decide) (by rw [hz2]; decide))
  have hge := grownCap_ge w (1 + 163) 1 5
  have hcm : grownCap w (1 + 163) 1 5 ≤ maxLen := grownCap_le_maxLen w _ _ _ (by unfold maxLen; omega)
  refine ⟨_, _, hr, ?_, (below_drewN (Below.refl _ w) 1).alloc (Nat.le_refl _) _⟩
  generalize grownCap w (1 + 163) 1 5 = G at *
  refine ⟨by simp [cellsB, zeros_length], .inr ⟨w.heap.size, _, _, rfl, Nat.le_refl _, heap_alloc_new w.drew _, by simp [zeros_length]; omega, hcm, ?_, ?_⟩⟩
  · simp only [Array.size_append, List.size_toArray, size_zeroCells, Value.cells]
    simp
    omega
  · simp only [Array.toList_append]
    rw [zeros163]
    have e : [Value.int IntKind.u8 164] ++ cellsB (zeros 163) = cellsB (164 :: zeros 163) := rfl
    rw [e]
    exact List.take_left' (by simp [cellsB_length])
theorem wpList_buildNW {P : Program} {ops : Array Oper} {Q : Exit → Act → World → Prop} {a : Act} {w : World} {rest : List Oper} {o : Oper} (hw : Region.wanted o (yielded ops a.tmps) = true) (t : TypeId) (ho : o.op = .build t #[]) (cs : Array Value)
    (hb : P.built t [] = some cs) (h : wpList P ops Q rest (a.put o.dst (.agg cs)) w) : wpList P ops Q (o :: rest) a w :=
  BigFrame.wpList_want hw fun K hK => wp_build t #[] ho (by simp [hb]) (by simp only [List.map_toArray, List.map_nil, hb]; exact hK _ _ h)
theorem at0_built : Tryz.prog.built 58 [] = some at0.toArray := by kernel_rfl
theorem cp0_built : Tryz.prog.built 27 [] = some (cpC 0 (zeros 32)).toArray := by kernel_rfl
theorem Row.formC {w : World} {base : Nat} {v : Value} {bs : List Nat} (h : Row w base v bs) (h0 : 0 < bs.length) : ∃ g cap, v = .slice (some ⟨g, 0, none⟩) bs.length cap ∧ g < w.heap.size ∧ ∀ i, i < bs.length → w.cell? ⟨g, i, none⟩ = some (.int .u8 (bs.getD i 0 : Nat)) := by
  obtain ⟨hl, h⟩ := h
  rcases h with ⟨rfl, h1⟩ | ⟨g, cap, cur, rfl, hb, hg, hc, hm, hcs, htk⟩
  · omega
  · refine ⟨g, cap, rfl, (Array.getElem?_eq_some_iff.1 hg).1, fun i hi => ?_⟩
    rw [cell_of_row w g i cur _ (0, 0) hg]
    have : (cur.toList.take (bs.length * 1))[i]? = (cellsB bs)[i]? := by rw [htk]
    rw [List.getElem?_take, if_pos (by omega), Array.getElem?_toList] at this
    rw [this]
    simp [cellsB, List.getD_eq_getElem?_getD, hi]

theorem Row.slC {w : World} {base : Nat} {v : Value} {bs : List Nat} (h : Row w base v bs) (n : Nat) (hn : bs.length = n) : ∃ ao cap, v = .slice ao n cap := by
  subst hn
  rcases h.2 with ⟨rfl, h1⟩ | ⟨g, cap, cur, rfl, _, _, hc, _⟩
  · exact ⟨none, 0, by rw [h1]⟩
  · exact ⟨_, _, rfl⟩
theorem own_byteC (w : World) (r : Nat) : Row (w.alloc (.cells #[.int .u8 (r : Nat)] 5)) w.heap.size (.slice (some ⟨w.heap.size, 0, none⟩) 1 1) [r] := by
  refine ⟨by simp [cellsB], .inr ⟨w.heap.size, _, _, rfl, Nat.le_refl _, heap_alloc_new w _, Nat.le_refl _, by unfold maxLen; omega, by simp, by simp [cellsB]⟩⟩
theorem wpList_build_none {P : Program} {ops : Array Oper} {Q : Exit → Act → World → Prop} {a : Act} {w : World} {rest : List Oper} {o : Oper} (hgd : o.guard = none) (t : TypeId) (ho : o.op = .build t #[]) (cs : Array Value)
    (hb : P.built t [] = some cs) (h : wpList P ops Q rest (a.put o.dst (.agg cs)) w) : wpList P ops Q (o :: rest) a w :=
  wpList_plain hgd fun K hK => wp_build t #[] ho (by simp [hb]) (by simp only [List.map_toArray, List.map_nil, hb]; exact hK _ _ h)
structure AwkFacts (A0 : List Value) (B0 B1 : List Nat) : Prop where
  bA : Tryz.prog.built 58 [] = some A0.toArray
  att : ∀ wq, Calls Tryz.prog 17 #[.agg A0.toArray] wq fun x w' => ∃ v, x = .returned v ∧ Row w' wq.heap.size v B0 ∧ Below wq.heap.size wq w'
  toA : ∀ v wq, IsB wq v B1 → Calls Tryz.prog 18 #[v] wq fun x w' => x = .returned (.tuple #[.agg A0.toArray, .int .i64 3]) ∧ Below wq.heap.size wq w'
  ty : Ty Tryz.prog 58 A0
  one : A0.toArray.all (·.oneCell') = true
  l0 : B0.length = 165
  g0 : B0.getD 0 0 = 164
  g1 : B0.getD 164 0 = 1
  b1 : ∃ q, B1 = q ++ [0] ∧ q = 164 :: zeros 163
  l1 : B1.length = 165
  y1 : ∀ z ∈ B1, z < 256
theorem awkFacts : AwkFacts at0 (164 :: (zeros 163 ++ [1])) (164 :: (zeros 163 ++ [0])) := by
  have zb : ∀ z ∈ zeros 32, z < 256 := fun z hz => by unfold zeros at hz; rw [(List.mem_replicate.1 hz).2]; decide
  refine ⟨at0_built, fun wq => ?_, fun v wq hI => ?_, Tryz.ty58, at0_one, by kernel_rfl, by kernel_rfl, by kernel_rfl, ⟨_, rfl, rfl⟩, by kernel_rfl, ?_⟩
  · have h := attestation_any none 0 0 [] 0 0 (zeros 32) 0 (zeros 32) 0 (zeros 32) (zeros 32) wq (isT_nil wq) (by decide) (by decide) (by decide) (zeros_length 32) zb (by decide) (zeros_length 32) zb (by decide) (zeros_length 32) zb (zeros_length 32) zb
    rw [awk_bytes] at h
    exact h
  · exact toAt_bad v _ wq hI (by rw [show (164 :: (zeros 163 ++ [0])).length = 165 by kernel_rfl]; decide) (.inr awk_none)
  · intro z hz
    rcases List.mem_cons.1 hz with rfl | hz
    · decide
    · rcases List.mem_append.1 hz with hz | hz
      · unfold zeros at hz; rw [(List.mem_replicate.1 hz).2]; decide
      · rw [List.mem_singleton.1 hz]; decide

set_option maxHeartbeats 4000000 in
theorem awake_any (w : World) : Calls Tryz.prog 5 #[] w fun e w' => e = .returned (.bool true) ∧ Below w.heap.size w w' := by
  have HF := hid awkFacts
  have HCP := hid (fun wq => checkpoint_any 0 (zeros 32) wq (by decide) (zeros_length 32) (fun z hz => by unfold zeros at hz; rw [(List.mem_replicate.1 hz).2]; decide))
  have HCL := hid awk_cp
  have HCB := hid cp0_built
  obtain ⟨Zs, hZb, hZ⟩ := zSt_built
  have HZB : Same _ _ := ⟨hZb⟩
  have HS := hid (fun wq => state0_any Zs hZ wq)
  clear hZb hZ
  generalize at0 = A0 at HF
  generalize (164 :: (zeros 163 ++ [1])) = B0 at HF
  generalize (164 :: (zeros 163 ++ [0])) = B1 at HF
  generalize cpC 0 (zeros 32) = C0 at HCP HCB
  generalize cont (cpF 0 (zeros 32)) = D0 at HCP HCL
  have HBA : Same _ _ := ⟨HF.out.bA⟩
  have HBC : Same _ _ := ⟨HCB.out⟩
  clear HCB
  go_enter Tryz.func5, Tryz.ntmps5
  go_wp2_with (refine wpList_build_none rfl 58 rfl A0.toArray HBA.out ?_)
  refine (HF.out.att w).mono ?_
  rintro e w1 ⟨v1, rfl, R1, B1'⟩
  obtain ⟨g1, c1, rfl, hg1, hc1⟩ := R1.formC (by rw [HF.out.l0]; decide)
  rw [HF.out.l0] at hc1 ⊢
  have h10 := hc1 0 (by decide)
  have h11 := hc1 164 (by decide)
  rw [HF.out.g0] at h10
  rw [HF.out.g1] at h11
  obtain ⟨v2, w2, hr2, R2, B2⟩ := run_zeros163 (w1.alloc (.cells #[.int .u8 164] 5)) 39 w1.heap.size (cell_of_one (heap_alloc_new w1 _))
  have HR2 := hid R2
  have HB1 := hid B1'
  have HB2 := hid (below_more ((Below.refl _ w1).alloc (Nat.le_refl _) _) B2 (Nat.le_refl _))
  have HH0 := hid h10
  have HH1 := hid h11
  clear R1 B1' hc1 R2 B2 h10 h11
  go_wp2_with ((with_reducible refine at_list' ?_); first
    | (refine Lib.wpList_append_run _ rfl (.tmp 7) (.const (.int .i64 163)) _ _ rfl _ _ rfl rfl _ _ hr2 ?_)
    | (refine wpList_append_b rfl (.tmp 8) (.tmp 9) 39 rfl (w1.alloc (.cells #[.int .u8 164] 5)).heap.size v2 (164 :: zeros 163) rfl (HR2.out.below ((Below.refl _ w2).alloc (Nat.le_refl _) _)) (.slice (some ⟨w2.heap.size, 0, none⟩) 1 1) [0] rfl (by exact ((own_byteC w2 0).isB (fun z hz => by rw [List.mem_singleton.1 hz]; decide)).src) (by simp [zeros_length]) (by have := HB2.out.size; simp at this ⊢; omega) ?_; intro v3 w3 R3 G3 M3))
  obtain ⟨q0, hq1, hq2⟩ := HF.out.b1
  rw [← hq2, ← hq1] at R3
  have HI3 := hid (R3.isB HF.out.y1)
  have B3 := below_row (below_more HB2.out ((Below.refl _ w2).alloc (Nat.le_refl _) (.cells #[.int .u8 ((0 : Nat) : Int)] 5)) (Nat.le_refl _)) (by omega) ((HR2.out.below ((Below.refl _ w2).alloc (Nat.le_refl _) (.cells #[.int .u8 ((0 : Nat) : Int)] 5))).base (by simp)) G3
  have HB3 := hid B3
  clear R3 G3 M3 B3 hr2 hq1 hq2
  refine (HF.out.toA v3 w3 HI3.out).mono ?_
  rintro e w4 ⟨rfl, B4⟩
  have HB4 := hid (below_more HB3.out B4 (Nat.le_refl _))
  clear B4
  have HTY := hid HF.out.ty
  have HON := hid HF.out.one
  go_wp2_with ((with_reducible refine at_list' ?_); first
    | (refine wpList_alloc_c HTY.out rfl 2 rfl rfl ?_; intro w5 H5 B5 S5)
    | (refine wpList_store_c HTY.out rfl (.tmp 2) (.tmp 12) rfl w4.heap.size A0 rfl rfl rfl HON.out _ H5 rfl ?_; intro w6 H6 O6; have HB6 := hid (below_only (below_more HB4.out B5 (Nat.le_refl _)) O6 (HB4.out.size)); have k0 := cell_keep HB6.out HH0.out; have k1 := cell_keep HB6.out HH1.out)
    | (refine wpList_buildNW rfl 74 rfl Zs.toArray HZB.out ?_)
    | (refine wpList_buildNW rfl 27 rfl C0.toArray HBC.out ?_))
  refine (HS.out w6).mono ?_
  rintro e w7 ⟨v7, b7, rfl, R7, l7, B7⟩
  obtain ⟨a7, c7, rfl⟩ := Row.slC R7 1653 l7
  have HB7 := hid (below_more HB6.out B7 (Nat.le_refl _))
  clear R7 B7 l7
  go_wp2_with ((with_reducible refine at_list' ?_); (refine wpList_buildNW rfl 27 rfl C0.toArray HBC.out ?_))
  refine (HCP.out w7).mono ?_
  rintro e w8 ⟨v8, rfl, R8, B8⟩
  obtain ⟨a8, c8, rfl⟩ := Row.slC R8 40 HCL.out
  have HB8 := hid (below_more HB7.out B8 (Nat.le_refl _))
  clear R8 B8
  go_wp2
  go_ret
  exact ⟨rfl, below_more HB1.out HB8.out (Nat.le_refl _)⟩
end Go.Proofs.YtpaamhmighgjeaaGreat

/- The document's values of numbers, of roots, of parts; its kinds. -/
namespace Go.Proofs.YtpaamhmighgjeaaGreat
open Go.RowKit Go.Shelf
set_option linter.unusedVariables false
set_option maxRecDepth 100000

theorem Tryz.ty37 : Ty Tryz.prog 37 (valL 0 (zeros 32) nilS nilS) := ⟨by kernel_rfl, _, Tryz.underlying37, rfl⟩
theorem build_root (r : List Nat) (hr : r.length = 32) (w : World) : (Instr.build 37 #[(1, .agg (nums .u8 r))]).run Tryz.prog w = .ok (.agg (valL 0 r nilS nilS).toArray) w := by
  have ho : outC #[(1, Value.agg (nums .u8 r))].toList = cellsB r := by
    show (nums .u8 r).toList ++ [] = _
    rw [List.append_nil]; rfl
  have h := build_from Tryz.ty37 _ Tryz.underlying37 #[(0, 1), (1, 32), (33, 1), (34, 1)] (fun w => by kernel_rfl) #[(1, .agg (nums .u8 r))] 1 ⟨by show _ = some (1, (nums .u8 r).size); rw [nums_size, hr]; rfl, trivial⟩ (by rw [ho, cellsB_length, hr]; decide) w
  rw [ho, cellsB_length, hr] at h
  exact h
set_option maxHeartbeats 1000000 in
theorem n_any (n : Nat) (w : World) : Calls Tryz.prog 62 #[.int .u64 (n : Nat)] w fun x w' => x = .returned (.agg (valL n (zeros 32) nilS nilS).toArray) ∧ Below w.heap.size w w' := by
  go_enter Tryz.func62, Tryz.ntmps62
  go_wp2_with ((with_reducible refine at_list' ?_); first
    | (refine wpList_alloc_c Tryz.ty37 rfl 2 rfl rfl ?_; intro w1 H1 B1 S1)
    | (refine wpList_build_c rfl _ rfl #[(0, .int .u64 (n : Nat))] (by simp [Act.eval]) _ (build_num n _) ?_)
    | (refine wpList_store_c Tryz.ty37 rfl (.tmp 2) (.tmp 4) rfl w.heap.size (valL n (zeros 32) nilS nilS) rfl rfl rfl (valL_oneC _ _ _ _ trivial trivial) _ H1 rfl ?_; intro w2 H2 O2))
  exact bodyPost_ret (results_c1 Tryz.ty37 rfl _ w2 w.heap.size _ rfl H2 rfl) rfl ⟨rfl, below_only B1 O2 (Nat.le_refl _)⟩
set_option maxHeartbeats 1000000 in
theorem r_any (r : List Nat) (hr : r.length = 32) (w : World) : Calls Tryz.prog 24 #[.agg (nums .u8 r)] w fun x w' => x = .returned (.agg (valL 0 r nilS nilS).toArray) ∧ Below w.heap.size w w' := by
  have HR := hid hr
  clear hr
  go_enter Tryz.func24, Tryz.ntmps24
  go_wp2_with ((with_reducible refine at_list' ?_); first
    | (refine wpList_box_c rfl 1 rfl (.tmp 0) rfl (cellsB r) rfl ?_; intro w1 H1 B1 S1)
    | (refine wpList_alloc_c Tryz.ty37 rfl 2 rfl rfl ?_; intro w2 H2 B2 S2; rw [S1] at H2 S2; rw [S1])
    | (refine wpList_load_mid rfl 25 (.tmp 1) rfl w.heap.size 0 rfl (cellsB r) _ ((H1.keep B2).range 0 _ (fun j v hv => by rw [Nat.zero_add]; exact hv)) Tryz.und25 rfl (by rw [cellsB_length, HR.out]; exact Tryz.size25) ?_)
    | (refine wpList_build_c rfl _ rfl #[(1, .agg (nums .u8 r))] (by simp [Act.eval]; rfl) _ (build_root r HR.out _) ?_)
    | (refine wpList_store_c Tryz.ty37 rfl (.tmp 2) (.tmp 4) rfl (w.heap.size + 1) (valL 0 r nilS nilS) rfl rfl (by rw [valL_length _ _ _ _ HR.out]; rfl) (valL_oneC _ _ _ _ trivial trivial) _ H2 rfl ?_; intro w3 H3 O3))
  exact bodyPost_ret (results_c1 Tryz.ty37 rfl _ w3 (w.heap.size + 1) _ rfl H3 (by rw [valL_length _ _ _ _ HR.out]; rfl)) rfl ⟨rfl, below_only (B1.trans (B2.mono (by omega))) O3 (by omega)⟩
set_option maxHeartbeats 1000000 in
theorem all_any (ao : Option Addr) (l c : Nat) (w : World) : Calls Tryz.prog 21 #[.slice ao l c] w fun x w' => x = .returned (.agg (valL 0 (zeros 32) nilS (.slice ao l c)).toArray) ∧ Below w.heap.size w w' := by
  go_enter Tryz.func21, Tryz.ntmps21
  go_wp2_with ((with_reducible refine at_list' ?_); first
    | (refine wpList_alloc_c Tryz.ty37 rfl 2 rfl rfl ?_; intro w1 H1 B1 S1)
    | (refine wpList_build_c rfl _ rfl #[(3, .slice ao l c)] (by simp [Act.eval]) _ (build_kids ao l c _) ?_)
    | (refine wpList_store_c Tryz.ty37 rfl (.tmp 2) (.tmp 4) rfl w.heap.size (valL 0 (zeros 32) nilS (.slice ao l c)) rfl rfl rfl (valL_oneC _ _ _ _ trivial trivial) _ H1 rfl ?_; intro w2 H2 O2))
  exact bodyPost_ret (results_c1 Tryz.ty37 rfl _ w2 w.heap.size _ rfl H2 rfl) rfl ⟨rfl, below_only B1 O2 (Nat.le_refl _)⟩
end Go.Proofs.YtpaamhmighgjeaaGreat

/- The document's kinds: a number, a root, a Checkpoint. -/
namespace Go.Proofs.YtpaamhmighgjeaaGreat
open Go.RowKit Go.Shelf
set_option linter.unusedVariables false
set_option maxRecDepth 100000

def dNum : Dt := .mk 1 0 []
def dRoot : Dt := .mk 3 0 []
def dBox (l : List Dt) : Dt := .mk 8 0 l
theorem dAt_leaf {w : World} {p f : Nat} (h : w.heap[p]? = some (.cells #[.int .i64 (f : Nat), .int .i64 0, .slice none 0 0] 108 (0, 0))) : DAt w (.mk f 0 []) p := by
  rw [DAt]
  exact ⟨cell_of_row w p 0 _ _ (0, 0) h, cell_of_row w p 1 _ _ (0, 0) h, none, 0, cell_of_row w p 2 _ _ (0, 0) h, by simp, by simp, .inl rfl⟩
set_option maxHeartbeats 1000000 in
theorem num_any' (w : World) : Calls Tryz.prog 43 #[] w fun x w' => x = .returned (.pointer (some ⟨w.heap.size, 0, none⟩)) ∧ DAt w' dNum w.heap.size ∧ Below w.heap.size w w' := by
  go_enter Tryz.func43, Tryz.ntmps43
  go_wp2
  go_ret
  exact ⟨rfl, dAt_leaf (f := 1) (heap_alloc_new w _), (Below.refl _ w).alloc (Nat.le_refl _) _⟩
set_option maxHeartbeats 1000000 in
theorem root_any' (w : World) : Calls Tryz.prog 45 #[] w fun x w' => x = .returned (.pointer (some ⟨w.heap.size, 0, none⟩)) ∧ DAt w' dRoot w.heap.size ∧ Below w.heap.size w w' := by
  go_enter Tryz.func45, Tryz.ntmps45
  go_wp2
  go_ret
  exact ⟨rfl, dAt_leaf (f := 3) (heap_alloc_new w _), (Below.refl _ w).alloc (Nat.le_refl _) _⟩
set_option maxHeartbeats 1000000 in
/-- A kind of parts, over a slice of kinds. -/
theorem box_any (b n : Nat) (ds : List Dt) (w : World) (hn : ds.length = n) (hm : n ≤ maxLen) (hD : DsAt w ds b 0) : Calls Tryz.prog 41 #[.slice (some ⟨b, 0, none⟩) n n] w fun x w' => x = .returned (.pointer (some ⟨w.heap.size, 0, none⟩)) ∧ DAt w' (dBox ds) w.heap.size ∧ Below w.heap.size w w' := by
  have HD := hid hD
  have HM := hid hm
  have HN := hid hn
  clear hD hm hn
  go_enter Tryz.func41, Tryz.ntmps41
  go_wp2
  go_ret
  have hB : Below w.heap.size w (w.alloc (.cells #[.int .i64 8, .int .i64 0, .slice (some ⟨b, 0, none⟩) n n] 108)) := (Below.refl _ w).alloc (Nat.le_refl _) _
  have h := heap_alloc_new w (.cells #[.int .i64 8, .int .i64 0, .slice (some ⟨b, 0, none⟩) n n] 108)
  refine ⟨rfl, ?_, hB⟩
  rw [dBox, DAt]
  exact ⟨cell_of_row _ _ 0 _ _ (0, 0) h, cell_of_row _ _ 1 _ _ (0, 0) h, some ⟨b, 0, none⟩, n, by rw [HN.out]; exact cell_of_row _ _ 2 _ _ (0, 0) h, by rw [HN.out]; exact Nat.le_refl _, HM.out, .inr ⟨b, 0, rfl, DsAt.keep hB ds HD.out⟩⟩
set_option maxHeartbeats 1000000 in
theorem dcp_any (w : World) : Calls Tryz.prog 88 #[] w fun x w' => ∃ p, x = .returned (.pointer (some ⟨p, 0, none⟩)) ∧ DAt w' (dBox [dNum, dRoot]) p ∧ Below w.heap.size w w' := by
  go_enter Tryz.func88, Tryz.ntmps88
  go_wp2_with fail
  refine (num_any' w).mono ?_
  rintro e w1 ⟨rfl, q1, q2⟩
  have HN := hid (And.intro q1 q2)
  have s1 := q2.size
  clear q1 q2
  go_wp2_with fail
  refine (root_any' w1).mono ?_
  rintro e w2 ⟨rfl, q1, q2⟩
  have HD1 := hid (DAt.keep q2 dNum HN.out.1)
  have HD2 := hid q1
  have HB2 := hid (HN.out.2.trans (q2.mono (by omega)))
  have s2 := q2.size
  clear q1 q2 HN
  go_wp2_with fail
  have hB : Below w2.heap.size w2 (w2.alloc (.cells #[.pointer (some ⟨w.heap.size, 0, none⟩), .pointer (some ⟨w1.heap.size, 0, none⟩)] 45)) := (Below.refl _ w2).alloc (Nat.le_refl _) _
  have h := heap_alloc_new w2 (.cells #[.pointer (some ⟨w.heap.size, 0, none⟩), .pointer (some ⟨w1.heap.size, 0, none⟩)] 45)
  generalize w2.alloc (.cells #[.pointer (some ⟨w.heap.size, 0, none⟩), .pointer (some ⟨w1.heap.size, 0, none⟩)] 45) = w3 at hB h ⊢
  have hD : DsAt w3 [dNum, dRoot] w2.heap.size 0 := by
    rw [DsAt, DsAt, DsAt]
    exact ⟨⟨_, cell_of_row _ _ 0 _ _ (0, 0) h, DAt.keep hB _ HD1.out⟩, ⟨_, cell_of_row _ _ 1 _ _ (0, 0) h, DAt.keep hB _ HD2.out⟩, trivial⟩
  have HC := hid (box_any w2.heap.size 2 [dNum, dRoot] w3 rfl (by decide) hD)
  have HB3 := hid (HB2.out.trans (hB.mono (by omega)))
  have s3 := hB.size
  clear hB h hD
  refine HC.out.mono ?_
  rintro e w4 ⟨rfl, q1, q2⟩
  have X := hid (And.intro q1 q2)
  clear q1 q2 HC
  go_wp2
  go_ret
  exact ⟨_, rfl, X.out.1, HB3.out.trans (X.out.2.mono (by omega))⟩
end Go.Proofs.YtpaamhmighgjeaaGreat

/- The document's value of a Checkpoint. -/
namespace Go.Proofs.YtpaamhmighgjeaaGreat
open Go.RowKit Go.Shelf
set_option linter.unusedVariables false
set_option maxRecDepth 100000

theorem partsAt_rows (sz : Nat) : ∀ (vs : List (List Value)) (k : Nat), (∀ c ∈ vs, c.length = sz) → PartsAt (fun i => some (i * sz, sz)) (k * sz) ((vs.zipIdx k).map fun p => (p.2, Value.agg p.1.toArray)) := by
  intro vs
  induction vs with
  | nil => intro k _; trivial
  | cons c vs ih =>
    intro k h
    have hc := h c (List.mem_cons_self ..)
    rw [List.zipIdx_cons, List.map_cons, PartsAt]
    have e1 : (Value.agg c.toArray).cells.size = sz := hc
    rw [e1]
    refine ⟨rfl, ?_⟩
    have := ih (k + 1) (fun q hq => h q (List.mem_cons_of_mem _ hq))
    rw [Nat.add_mul, Nat.one_mul] at this
    exact this
theorem outC_rows : ∀ (vs : List (List Value)) (k : Nat), outC ((vs.zipIdx k).map fun p => (p.2, Value.agg p.1.toArray)) = vs.flatten := by
  intro vs
  induction vs with
  | nil => intro k; rfl
  | cons c vs ih => intro k; rw [List.zipIdx_cons, List.map_cons, outC, ih, List.flatten_cons]; rfl
theorem flatten_rows (sz : Nat) : ∀ vs : List (List Value), (∀ c ∈ vs, c.length = sz) → vs.flatten.length = vs.length * sz := by
  intro vs
  induction vs with
  | nil => intro _; simp
  | cons r rs ih => intro h; rw [List.flatten_cons, List.length_append, ih (fun q hq => h q (List.mem_cons_of_mem _ hq)), h r (List.mem_cons_self ..), List.length_cons, Nat.add_mul]; omega
/-- A slice of structs, made, in a flow. -/
theorem flow_rows {P : Program} {o : Oper} {a : Act} {w : World} {Q : Exit → Act → World → Prop} {I : Value → World → Prop} (t e : TypeId) (n sz : Nat) (ps : Array (Nat × Operand)) (ho : o.op = .buildSlice t n ps) (hu : P.underlying t = some (.slice e)) (hi : (P.info? e).map (fun i => (i.zero.isSome, i.size)) = some (true, sz))
    (vs : List (List Value)) (xs : List Operand) (hps : ps.toList = (xs.zipIdx 0).map fun p => (p.2, p.1)) (hx0 : xs.map a.eval = vs.map fun c => Value.agg c.toArray) (hc : ∀ c ∈ vs, c.length = sz) (hn : vs.length = n) (hn0 : 0 < n) (hs0 : 0 < sz) (hn1 : n * sz ≤ 16777216)
    (h : ∀ w', HasC w' w.heap.size e vs.flatten → I (.slice (some ⟨w.heap.size, 0, none⟩) n n) w') : o.wp P a w (fun a' w' => ∃ v, a' = a.put o.dst v ∧ I v w' ∧ Below w.heap.size w w') Q := by
  have hx : (ps.map fun (i, x) => (i, a.eval x)).toList = (vs.zipIdx 0).map fun p => (p.2, Value.agg p.1.toArray) := by
    have e1 : ((xs.map a.eval).zipIdx 0).map (fun p => (p.2, p.1)) = ((vs.map fun c => Value.agg c.toArray).zipIdx 0).map (fun p => (p.2, p.1)) := by rw [hx0]
    rw [List.zipIdx_map, List.zipIdx_map, List.map_map, List.map_map] at e1
    rw [Array.toList_map, hps, List.map_map]
    exact e1
  cases hq : P.info? e with
  | none => rw [hq] at hi; cases hi
  | some ie =>
    rw [hq] at hi
    simp only [Option.map_some, Option.some.injEq, Prod.mk.injEq] at hi
    obtain ⟨z, hz⟩ := Option.isSome_iff_exists.1 hi.1
    refine wp_buildSlice t e n ps ho vs.flatten.toArray ie z hu hq hz (by rw [hi.2]; omega) (by rw [hi.2]; have := Nat.mul_pos hn0 hs0; omega) ?_ ⟨_, rfl, h _ (heap_alloc_new w _), (Below.refl _ w).alloc (Nat.le_refl _) _⟩
    rw [hx, hi.2]
    have hfl := flatten_rows sz vs hc
    have hf := fill_out (fun i => some (i * sz, sz)) ((vs.zipIdx 0).map fun p => (p.2, Value.agg p.1.toArray)) 0 ((Array.range (n * sz)).map (z.cells[· % z.cells.size]!)).toList (by have := partsAt_rows sz vs 0 hc; rw [Nat.zero_mul] at this; exact this) (by rw [outC_rows, hfl, hn]; simp)
    rw [outC_rows, List.take_zero, List.nil_append, Nat.zero_add, List.drop_of_length_le (by rw [hfl, hn]; simp), List.append_nil] at hf
    exact hf
theorem valInfo : (Tryz.prog.info? 37).map (fun i => (i.zero.isSome, i.size)) = some (true, 35) := by kernel_rfl
def cpV (e : Nat) (r : List Nat) : Vt := .mk 0 (zeros 32) [] [.mk e (zeros 32) [] [], .mk 0 r [] []]

theorem vAt_leaf (w : World) {n : Nat} {r : List Nat} (hn : n < 18446744073709551616) (hr : r.length = 32) (h8 : ∀ z ∈ r, z < 256) : VAt w (.mk n r [] []) nilS nilS := by
  rw [VAt]
  exact ⟨⟨hn, hr, h8⟩, isT_nil w, none, 0, rfl, Nat.le_refl _, by decide, .inl rfl⟩
theorem hcB {w w' : World} (h : Cls w w') : Below w.heap.size w w' := h.bel

set_option maxHeartbeats 1000000 in
theorem refCp_any (e : Nat) (r : List Nat) (w : World) (he : e < 18446744073709551616) (hr : r.length = 32) (h8 : ∀ z ∈ r, z < 256) :
    Calls Tryz.prog 63 #[.agg (cpC e r).toArray] w fun x w' => ∃ v, x = .returned v ∧ IsV w' v (cpV e r) ∧ Below w.heap.size w w' := by
  have HR := hid hr
  have H8 := hid h8
  clear hr h8
  go_enter Tryz.func63, Tryz.ntmps63
  go_wp2_with ((with_reducible refine at_list' ?_); first
    | (refine wpList_box_c rfl 1 rfl (.tmp 0) rfl (cpC e r) rfl ?_; intro w1 H1 B1 S1)
    | (refine wpList_alloc_c Tryz.ty37 rfl 2 rfl rfl ?_; intro w2 H2 B2 S2; rw [S1] at H2 S2; rw [S1]))
  have HX := hid (H1.keep B2)
  have HY := hid H2
  have HB := hid (B1.trans (B2.mono (by omega)))
  have s2 : w2.heap.size = w.heap.size + 2 := by omega
  clear H1 B1 S1 H2 B2 S2
  try simp only [Act.put, List.setIfInBounds_toArray, List.set_cons_succ, List.set_cons_zero]
  refine wp_region_flow 8 8 (fun i v wq => match i with
    | 0 => v = .pointer (some ⟨w.heap.size, 0, none⟩)
    | 1 => v = .int .u64 (e : Nat)
    | 2 => v = .agg (valL e (zeros 32) nilS nilS).toArray
    | 3 => v = .pointer (some ⟨w.heap.size, 1, none⟩)
    | 4 => v = .agg (nums .u8 r)
    | 5 => v = .agg (valL 0 r nilS nilS).toArray
    | 6 => ∃ b, v = .slice (some ⟨b, 0, none⟩) 2 2 ∧ HasC wq b 37 ((valL e (zeros 32) nilS nilS) ++ ((valL 0 r nilS nilS) ++ []))
    | _ => ∃ b, v = .agg (valL 0 (zeros 32) nilS (.slice (some ⟨b, 0, none⟩) 2 2)).toArray ∧ HasC wq b 37 ((valL e (zeros 32) nilS nilS) ++ ((valL 0 r nilS nilS) ++ []))) (by kernel_rfl) (by kernel_rfl) (fun _ d _ _ _ h => by cases d <;> exact h) ?_ ?_ ?_ ?_
  · intro i v wq wq' hi hv hb
    match i, hi with
    | 0, _ => exact hv
    | 1, _ => exact hv
    | 2, _ => exact hv
    | 3, _ => exact hv
    | 4, _ => exact hv
    | 5, _ => exact hv
    | 6, _ => obtain ⟨b, h1, h2⟩ := hv; exact ⟨b, h1, h2.keep hb⟩
    | 7, _ => obtain ⟨b, h1, h2⟩ := hv; exact ⟨b, h1, h2.keep hb⟩
    | (k + 8), hk => exact absurd hk (by omega)
  · intro i o hi ho aq wq hc hk hdep
    match i, hi with
    | 0, _ =>
      cases ho
      have e1 : aq.tmps.getD 1 undef = .pointer (some ⟨w.heap.size, 0, none⟩) := hk 1 (by decide)
      exact flow_value _ (run_fieldAt 27 (.tmp 1) 0 rfl _ _ e1 (by kernel_rfl)) rfl
    | 1, _ =>
      cases ho
      have e0 : aq.tmps.getD 3 undef = .pointer (some ⟨w.heap.size, 0, none⟩) := hdep 0 3 rfl (by kernel_rfl)
      exact flow_value _ (run_cell 23 (.tmp 3) rfl _ e0 _ ((HX.out.keep (hcB hc)).cell rfl) _ Tryz.underlying23 rfl) rfl
    | 2, _ =>
      cases ho
      have e1 : aq.tmps.getD 4 undef = .int .u64 (e : Nat) := hdep 1 4 rfl (by kernel_rfl)
      refine flow_fun 62 _ _ rfl (fun _ _ => by simp [go_sem]) #[.int .u64 (e : Nat)] (by rw [show (#[Operand.tmp 4] : Array Operand).map aq.eval = #[aq.tmps.getD 4 undef] from by simp [Act.eval], e1]) ?_
      refine (n_any e wq).mono ?_
      rintro x w' ⟨rfl, q⟩
      exact ⟨_, rfl, rfl, q⟩
    | 3, _ =>
      cases ho
      have e1 : aq.tmps.getD 1 undef = .pointer (some ⟨w.heap.size, 0, none⟩) := hk 1 (by decide)
      exact flow_value _ (run_fieldAt 27 (.tmp 1) 1 rfl _ _ e1 (by kernel_rfl)) rfl
    | 4, _ =>
      cases ho
      have e0 : aq.tmps.getD 6 undef = .pointer (some ⟨w.heap.size, 1, none⟩) := hdep 3 6 rfl (by kernel_rfl)
      exact flow_value _ (run_mid 25 (.tmp 6) rfl w.heap.size 1 e0 (cellsB r) ((HX.out.keep (hcB hc)).range 1 (cellsB r) (fun j v hv => by rw [Nat.add_comm]; exact hv)) _ Tryz.und25 rfl (by rw [cellsB_length, HR.out]; exact Tryz.size25)) rfl
    | 5, _ =>
      cases ho
      have e1 : aq.tmps.getD 7 undef = .agg (nums .u8 r) := hdep 4 7 rfl (by kernel_rfl)
      refine flow_fun 24 _ _ rfl (fun _ _ => by simp [go_sem]) #[.agg (nums .u8 r)] (by rw [show (#[Operand.tmp 7] : Array Operand).map aq.eval = #[aq.tmps.getD 7 undef] from by simp [Act.eval], e1]) ?_
      refine (r_any r HR.out wq).mono ?_
      rintro x w' ⟨rfl, q⟩
      exact ⟨_, rfl, rfl, q⟩
    | 6, _ =>
      cases ho
      have e2 : aq.tmps.getD 5 undef = .agg (valL e (zeros 32) nilS nilS).toArray := hdep 2 5 rfl (by kernel_rfl)
      have e5 : aq.tmps.getD 8 undef = .agg (valL 0 r nilS nilS).toArray := hdep 5 8 rfl (by kernel_rfl)
      exact flow_rows 35 37 2 35 _ rfl Tryz.underlying35 valInfo [(valL e (zeros 32) nilS nilS), (valL 0 r nilS nilS)] [.tmp 5, .tmp 8] rfl (by rw [show [Operand.tmp 5, Operand.tmp 8].map aq.eval = [aq.tmps.getD 5 undef, aq.tmps.getD 8 undef] from rfl, e2, e5]; rfl) (by simp [valL_length, zeros32, HR.out]) rfl (by decide) (by decide) (by decide) (fun w' h => ⟨_, rfl, h⟩)
    | 7, _ =>
      cases ho
      obtain ⟨b, e6, h6⟩ := hdep 6 9 rfl (by kernel_rfl)
      refine flow_fun 21 _ _ rfl (fun _ _ => by simp [go_sem]) #[.slice (some ⟨b, 0, none⟩) 2 2] (by rw [show (#[Operand.tmp 9] : Array Operand).map aq.eval = #[aq.tmps.getD 9 undef] from by simp [Act.eval], e6]) ?_
      refine (all_any (some ⟨b, 0, none⟩) 2 2 wq).mono ?_
      rintro x w' ⟨rfl, q⟩
      exact ⟨_, rfl, ⟨b, rfl, h6.keep q⟩, q⟩
    | (k + 8), hk => exact absurd hk (by omega)
  · intro o h8 ho
    omega
  intro vf w8 hc hv
  have e7 : ∃ b, vf 7 = _ ∧ HasC w8 b 37 _ := hv 7 10 (by decide) rfl
  obtain ⟨b, e7, h7⟩ := e7
  have B8 := HB.out.trans ((hcB hc).mono (by omega))
  have H8v := HY.out.keep (hcB hc)
  have s8 := (hcB hc).size
  clear hv hc
  simp only [List.take_succ_cons, List.take_zero, List.drop_succ_cons, List.drop_zero, putAll, Act.put, List.setIfInBounds_toArray, List.set_cons_succ, List.set_cons_zero]
  rw [e7]
  have HB8 := hid B8
  have HK := hid h7
  clear B8 h7 e7 HB
  go_wp2_with ((with_reducible refine at_list' ?_); first
    | (refine wpList_store_c Tryz.ty37 rfl (.tmp 2) (.tmp 10) rfl (w.heap.size + 1) (valL 0 (zeros 32) nilS (.slice (some ⟨b, 0, none⟩) 2 2)) rfl rfl rfl (valL_oneC _ _ _ _ trivial trivial) _ H8v rfl ?_; intro w9 H9 O9))
  refine bodyPost_ret (results_c1 Tryz.ty37 rfl _ w9 (w.heap.size + 1) _ rfl H9 rfl) rfl ⟨_, rfl, ?_, below_only HB8.out O9 (by omega)⟩
  have hbn : b ≠ w.heap.size + 1 := fun eb => by
    have h1 := HK.out
    rw [eb] at h1
    unfold HasC at h1 H8v
    rw [H8v] at h1
    have h2 := congrArg Array.size (Obj.cells.inj (Option.some.inj h1)).1
    simp [valL_length, zeros32, HR.out] at h2
  have h9 := HK.out.only O9 hbn
  refine ⟨nilS, _, rfl, ?_⟩
  rw [cpV, VAt]
  refine ⟨⟨by decide, zeros32, zeros_byte 32⟩, isT_nil w9, some ⟨b, 0, none⟩, 2, rfl, Nat.le_refl _, by decide, .inr ⟨b, 0, rfl, ?_⟩⟩
  rw [KsAt, KsAt, KsAt]
  refine ⟨⟨nilS, nilS, h9.range 0 _ (fun j v hv => ?_), vAt_leaf w9 he zeros32 (zeros_byte 32)⟩, ⟨nilS, nilS, h9.range 35 _ (fun j v hv => ?_), vAt_leaf w9 (by decide) HR.out H8.out⟩, trivial⟩
  · have hj : j < (valL e (zeros 32) nilS nilS).length := (List.getElem?_eq_some_iff.1 hv).1
    rw [Nat.zero_add, List.getElem?_append_left hj]
    exact hv
  · have hl : (valL e (zeros 32) nilS nilS).length = 35 := valL_length _ _ _ _ zeros32
    rw [List.append_nil, List.getElem?_append_right (by omega), hl, Nat.add_sub_cancel_left]
    exact hv
end Go.Proofs.YtpaamhmighgjeaaGreat

/- The document's Encode of a number and of a root. -/
namespace Go.Proofs.YtpaamhmighgjeaaGreat
open Go.RowKit Go.Shelf
set_option linter.unusedVariables false
set_option maxRecDepth 100000

theorem refput_le5 (n : Nat) (size : Nat) (hn : n < 18446744073709551616) (hs : size ≤ 2147483647) (w : World) :
    Calls Tryz.prog 38 #[.int .u64 (n : Nat), .int .i64 (size : Nat)] w fun e w' => ∃ v, e = .returned v ∧ Row w' w.heap.size v (le n size) ∧ Below w.heap.size w w' := by
  refine (refPut_any n (size : Int) hn (by omega) w).mono ?_
  rintro e w' ⟨v, rfl, h1, h2⟩
  refine ⟨v, rfl, ?_, h2⟩
  rw [Int.toNat_natCast, putL_le] at h1
  unfold Row
  rw [le_length]
  exact h1

set_option maxHeartbeats 1000000 in
theorem enc_num (n : Nat) (r : List Nat) (sb sk : Value) (p : Nat) (w : World) (hn : n < 18446744073709551616) (hr : r.length = 32) (hD : DAt w dNum p) :
    Calls Tryz.prog 10 #[.pointer (some ⟨p, 0, none⟩), .agg (valL n r sb sk).toArray] w fun x w' => ∃ v, x = .returned v ∧ Row w' w.heap.size v (le n 8) ∧ Below w.heap.size w w' := by
  rw [dNum, DAt] at hD
  have d0 := hD.1
  clear hD
  go_enter Tryz.func10, Tryz.ntmps10
  go_wp2_with ((with_reducible refine at_list' ?_); first
    | (refine wpList_box_c rfl 3 rfl (.tmp 1) rfl (valL n r sb sk) rfl ?_; intro w1 H1 B1 S1; have hc0 := H1.cell (j := 0) (v := .int .u64 (n : Nat)) rfl; have d1 := cell_keep B1 d0))
  have HB := hid B1
  have s1 := S1
  clear H1 B1 S1 hc0 d1 d0
  refine (refput_le5 n 8 hn (by decide) w1).mono ?_
  rintro x w2 ⟨v, rfl, q1, q2⟩
  have X := hid (And.intro q1 q2)
  clear q1 q2
  go_wp2
  go_ret
  exact ⟨v, rfl, X.out.1.base (by omega), HB.out.trans (X.out.2.mono (by omega))⟩

theorem row0 {n : Nat} (w1 : World) (h : w1.heap.size = n + 1) : Row (w1.alloc (.cells #[] 5)) (n + 1) (.slice (some ⟨n + 1, 0, none⟩) 0 0) [] := by
  refine ⟨rfl, .inr ⟨n + 1, 0, #[], rfl, Nat.le_refl _, ?_, Nat.le_refl _, by decide, rfl, rfl⟩⟩
  rw [← h]
  exact heap_alloc_new w1 _
theorem srcRoot {w1 : World} {g n : Nat} {r : List Nat} {sb sk : Value} {o : Obj} (h : HasC w1 g 37 (valL n r sb sk)) (hr : r.length = 32) (h8 : ∀ z ∈ r, z < 256) : IsB (w1.alloc o) (.slice (some ⟨g, 1, none⟩) 32 32) r := by
  have hk := h.keep ((Below.refl _ w1).alloc (Nat.le_refl _) o)
  refine ⟨⟨some ⟨g, 1, none⟩, 32, by rw [hr], by rw [hr]; exact Nat.le_refl _, by decide, (fun e => by cases e), .inr ⟨g, 1, rfl, fun i hi => ?_⟩⟩, h8⟩
  refine hk.cell (valL_root n r sb sk i _ ?_)
  rw [cellsB, List.getElem?_map, List.getElem?_eq_getElem hi, List.getD_eq_getElem?_getD, List.getElem?_eq_getElem hi]
  rfl

set_option maxHeartbeats 1000000 in
theorem enc_root (n : Nat) (r : List Nat) (sb sk : Value) (p : Nat) (w : World) (hr : r.length = 32) (h8 : ∀ z ∈ r, z < 256) (hD : DAt w dRoot p) :
    Calls Tryz.prog 10 #[.pointer (some ⟨p, 0, none⟩), .agg (valL n r sb sk).toArray] w fun x w' => ∃ v, x = .returned v ∧ Row w' w.heap.size v r ∧ Below w.heap.size w w' := by
  rw [dRoot, DAt] at hD
  have d0 := hD.1
  clear hD
  have HR := hid hr
  have H8 := hid h8
  clear hr h8
  go_enter Tryz.func10, Tryz.ntmps10
  go_wp2_with ((with_reducible refine at_list' ?_); first
    | (refine wpList_box_c rfl 3 rfl (.tmp 1) rfl (valL n r sb sk) rfl ?_; intro w1 H1 B1 S1; have d1 := cell_keep B1 d0; have h1 := hid H1; have b1 := hid B1; clear H1 B1)
    | (refine wpList_append_b rfl (.tmp 24) (.tmp 26) 39 rfl (w.heap.size + 1) (.slice (some ⟨w.heap.size + 1, 0, none⟩) 0 0) [] rfl (row0 w1 S1) (.slice (some ⟨w.heap.size, 1, none⟩) 32 32) r rfl (by exact (srcRoot (o := .cells #[] 5) h1.out HR.out H8.out).src) (by rw [HR.out]; decide) (by simp; omega) ?_; intro v' w' r1 r2 r3))
  go_ret
  refine ⟨v', rfl, r1.base (by omega), ?_⟩
  have hb2 : Below w1.heap.size w1 (w1.alloc (.cells #[] 5)) := (Below.refl _ w1).alloc (Nat.le_refl _) _
  have hb := b1.out.trans (hb2.mono (by omega))
  exact ⟨r2.os.trans hb.os, r2.tape.trans hb.tape, r2.output.trans hb.output, Nat.le_trans hb.size r2.size, fun k hk => (r2.block k (Nat.lt_of_lt_of_le hk hb.size) (fun e => by simp [Value.ownBlock] at e; omega)).trans (hb.block k hk)⟩
end Go.Proofs.YtpaamhmighgjeaaGreat

/- The document's PutBits, bits, and Size of kinds without kinds in them. -/
namespace Go.Proofs.YtpaamhmighgjeaaGreat
open Go.RowKit
set_option linter.unusedVariables false
set_option maxRecDepth 100000

theorem putB_end (l : List Bool) : putB (l ++ [true]) false = putB l true := by
  refine bytes_ext (by rw [putB_length, putB_length]; simp) (putB_byte _ _) (putB_byte _ _) fun j hj => ?_
  rw [putB_bit_false, putB_bit_true, List.getD_eq_getElem?_getD, List.getD_eq_getElem?_getD, List.getElem?_append]
  by_cases h : j < l.length
  · rw [if_pos h]
    have : ¬ l.length = j := by omega
    simp [this]
  · rw [if_neg h]
    by_cases h2 : l.length = j
    · subst h2; simp
    · have : j - l.length ≠ 0 := by omega
      rw [List.getElem?_eq_none (by simp; omega), List.getElem?_eq_none (by omega)]
      simp [h2]

set_option maxHeartbeats 2000000 in
theorem rputBits_any (v : Value) (l : List Bool) (e : Bool) (w : World) (hT : IsT w v l) (hl : l.length ≤ 1099511627776) :
    Calls Tryz.prog 39 #[v, .bool e] w fun r w' => ∃ v', r = .returned v' ∧ Row w' w.heap.size v' (putB l e) ∧ Below w.heap.size w w' := by
  obtain ⟨ao, cap, rfl, hcap, hmx, hc⟩ := hT
  obtain ⟨l', hl'⟩ : ∃ l', l' = l ++ (if e then [true] else []) := ⟨_, rfl⟩
  have hlen : l'.length = l.length + (if e then 1 else 0) := by rw [hl']; cases e <;> simp
  have hput : putB l e = upB l' (zeros ((l'.length + 7) / 8)) l'.length := by
    have : putB l e = putB l' false := by
      rw [hl']
      cases e
      · simp
      · simp [putB_end]
    rw [this]; rfl
  have hat : ∀ k, k < l'.length → l'.getD k false = (decide (k = l.length) || l.getD k false) := by
    intro k hk
    rw [hl', List.getD_eq_getElem?_getD, List.getD_eq_getElem?_getD, List.getElem?_append]
    by_cases h : k < l.length
    · rw [if_pos h]
      have : k ≠ l.length := by omega
      simp [this]
    · rw [if_neg h]
      cases e
      · simp at hlen; omega
      · simp at hlen
        have : k = l.length := by omega
        subst this
        simp
  obtain ⟨N, hN⟩ : ∃ N, l'.length = N := ⟨_, rfl⟩
  obtain ⟨m, hm⟩ : ∃ m, (N + 7) / 8 = m := ⟨_, rfl⟩
  have hle : l.length ≤ N := by rw [hlen] at hN; omega
  have hle2 : N ≤ l.length + 1 := by rw [hlen] at hN; split at hN <;> omega
  rw [hN, hm] at hput
  rw [hN] at hat
  have HP := hid hput
  have HA := hid hat
  have HM := hid hm
  have hZ := hid (zeros_length m)
  rw [hN] at hlen
  clear hput hat hN hm hl'
  unfold maxLen at hmx
  cases e
  all_goals
    have hN1 := hlen
    simp only [if_true, Bool.false_eq_true, if_false, Nat.add_zero] at hN1
    have hNlo := Nat.le_of_eq hN1
    have hNhi := Nat.le_of_eq hN1.symm
    have HNN := hid hN1
    clear hlen hN1
    go_enter Tryz.func39, Tryz.ntmps39
    go_wp2_with (refine wpList_make_has rfl _ _ 39 rfl 5 .u8 Tryz.underlying39 Tryz.zero5 .i64 .i64 _ _ m rfl rfl (by have := HM.out; have := HNN.out; omega) (by have := HM.out; have := HNN.out; omega) (by have := HM.out; omega) ?_; intro w1 H1 B1)
    have HH1 := hid H1
    have HB1 := hid B1
    clear H1 B1
    go_loopw [7] (fun i wr => ∃ k : Nat, k ≤ N ∧ i = .int .i64 k ∧ Has wr w.heap.size 5 .u8 (upB l' (zeros m) k) ∧ Below w.heap.size w wr) (fun i _ => N - (intOf i).toNat)
    case atStart => exact ⟨0, Nat.zero_le _, rfl, HH1.out, HB1.out⟩
    case round =>
      obtain ⟨k, hk, rfl, hH, hB⟩ := hrel
      have hNe := HNN.out
      have hlen : (upB l' (zeros m) k).length = m := (upB_length l' _ k).trans hZ.out
      have HHH := hid hH
      have HBB := hid hB
      by_cases hlt : k < N
      · have hm8 := HM.out
        have hk8 : k / 8 < m := by omega
        have hcl := hH.cell (k / 8) (by omega)
        have hfr := hH.frozen (k / 8)
        have hpw := pow_u8 (k % 8) (Nat.mod_lt _ (by decide))
        have hby := byte_at (upB_byte l' m k) (k / 8)
        have hor := or_u8 _ _ hby hpw
        have hat := HA.out k hlt
        have HU : Same (upB l' (zeros m) (k + 1)) (if l'.getD k false then bset (upB l' (zeros m) k) k else upB l' (zeros m) k) := ⟨rfl⟩
        have hset : bset (upB l' (zeros m) k) k = (upB l' (zeros m) k).set (k / 8) ((upB l' (zeros m) k).getD (k / 8) 0 ||| 2 ^ (k % 8)) := rfl
        rw [hset] at HU
        clear hset hm8 hNe hlen
        generalize hy : (upB l' (zeros m) k).getD (k / 8) 0 = y at *
        have HE : Same (bits BinOp.or IntKind.u8 (y : Int) (2 ^ (k % 8) % 256)) (((y ||| 2 ^ (k % 8) : Nat)) : Int) := ⟨by
          rw [← hor]
          congr 1
          have e : ((2 : Int) ^ (k % 8)) = ((2 ^ (k % 8) : Nat) : Int) := by simp
          rw [e]
          generalize 2 ^ (k % 8) = p at hpw ⊢
          omega⟩
        clear hor hpw hH hB hy
        by_cases hkl : k = l.length
        · first
          | (exfalso; omega)
          | (skip
             have hq : ((k : Int) == ((l.length : Nat) : Int)) = true := by rw [beq_iff_eq]; omega
             have ht : l'.getD k false = true := by rw [hat]; simp [hkl]
             rw [ht, if_pos rfl] at HU
             clear ht hat hkl
             go_wp2
             refine wp_region_quiet_tail 13 (by kernel_rfl) (by kernel_rfl) ?_
             simp only [List.take_succ_cons, List.take_zero, List.drop_succ_cons, List.drop_zero]
             repeat (go_big_quiet_step (fail))
             refine wpQuiet_nil ?_
             intro _ hw'
             obtain ⟨nq, hw''⟩ := hw'
             subst hw''
             go_wp2
             rw [HE.out]
             exact ⟨⟨k + 1, by omega, by go_num, by rw [HU.out]; exact (HHH.out.drewN nq).set (k / 8) _, below_only (below_drewN HBB.out nq) ⟨rfl, rfl, rfl, by simp [World.setCell], fun j hj => heap_setCell_other (wr.drewN nq) ⟨w.heap.size, k / 8, none⟩ j _ hj⟩ (Nat.le_refl _)⟩, by simp [intOf]; omega⟩)
        · have hq : ((k : Int) == ((l.length : Nat) : Int)) = false := by rw [beq_eq_false_iff_ne]; omega
          have hkl2 : k < l.length := by omega
          obtain ⟨b, off, rfl, hcc⟩ : ∃ b off, ao = some ⟨b, off, none⟩ ∧ ∀ i, i < l.length → w.cell? ⟨b, off + i, none⟩ = some (.bool (l.getD i false)) := by
            rcases hc with hc | hc
            · omega
            · exact hc
          have hcr := (HBB.out.cell (p := ⟨b, off + k, none⟩) (block_lt_of_cell (hcc k hkl2))).trans (hcc k hkl2)
          have ht : l'.getD k false = l.getD k false := by rw [hat]; simp [hkl]
          rw [ht] at HU
          clear hat ht hcc hc hkl
          obtain ⟨t, ht⟩ : ∃ t, l.getD k false = t := ⟨_, rfl⟩
          rw [ht] at hcr HU
          clear ht
          cases t
          · go_wp2
            exact ⟨⟨k + 1, by omega, by go_num, by rw [HU.out]; exact HHH.out, HBB.out⟩, by simp [intOf]; omega⟩
          · rw [if_pos rfl] at HU
            go_wp2
            refine wp_region_quiet_tail 13 (by kernel_rfl) (by kernel_rfl) ?_
            simp only [List.take_succ_cons, List.take_zero, List.drop_succ_cons, List.drop_zero]
            repeat (go_big_quiet_step (fail))
            refine wpQuiet_nil ?_
            intro _ hw'
            obtain ⟨nq, hw''⟩ := hw'
            subst hw''
            go_wp2
            rw [HE.out]
            exact ⟨⟨k + 1, by omega, by go_num, by rw [HU.out]; exact (HHH.out.drewN nq).set (k / 8) _, below_only (below_drewN HBB.out nq) ⟨rfl, rfl, rfl, by simp [World.setCell], fun j hj => heap_setCell_other (wr.drewN nq) ⟨w.heap.size, k / 8, none⟩ j _ hj⟩ (Nat.le_refl _)⟩, by simp [intOf]; omega⟩
      · obtain rfl : k = N := by omega
        clear hNe hH hB
        go_wp2
        go_ret
        refine ⟨_, rfl, ?_, HBB.out⟩
        have hr := HHH.out.row (Nat.le_refl _) (by rw [hlen]; unfold maxLen; have := HM.out; omega)
        rw [hlen] at hr
        rw [HP.out]
        exact hr
end Go.Proofs.YtpaamhmighgjeaaGreat

/- The document's Encode, as a plain function of a kind and a value. -/
namespace Go.Proofs.YtpaamhmighgjeaaGreat
open Go.RowKit
set_option linter.unusedVariables false
set_option maxRecDepth 100000

/-- The kinds of a value's parts. -/
def kdsV (f : Nat) (ds : List Dt) (n : Nat) : List Dt := if f = 8 then ds.take n else match ds with
  | [] => []
  | d :: _ => List.replicate n d
mutual
/-- A value's bytes. -/
def encV : Dt → Vt → List Nat
  | .mk f _ ds, .mk num r bs ks => if f = 1 then le num 8 else if f = 2 then [num % 256] else if f = 3 then r else if f = 6 then putB bs false else if f = 7 then putB bs true else cont (encK (kdsV f ds ks.length) ks)
/-- Values' bytes, and whether they have a place. -/
def encK : List Dt → List Vt → List (List Nat × Bool)
  | d :: ds, v :: vs => (encV d v, decide (sizeD d < 0)) :: encK ds vs
  | _, [] => []
  | [], _ :: _ => []
end
mutual
/-- A value that fits a kind, and is not too great. -/
def okV : Dt → Vt → Prop
  | .mk f n ds, .mk num r bs ks => bs.length ≤ 1099511627776 ∧ ks.length ≤ 1048576 ∧ (f = 8 → ks.length ≤ ds.length) ∧ (0 < ks.length → 0 < ds.length) ∧ lenF (encK (kdsV f ds ks.length) ks) ≤ 274877906944 ∧ okK (kdsV f ds ks.length) ks
def okK : List Dt → List Vt → Prop
  | d :: ds, v :: vs => okV d v ∧ okK ds vs
  | _, [] => True
  | [], _ :: _ => False
end
theorem kdsV_length (f : Nat) (ds : List Dt) (n : Nat) (h8 : f = 8 → n ≤ ds.length) (h0 : 0 < n → 0 < ds.length) : (kdsV f ds n).length = n := by
  unfold kdsV
  split
  · rename_i h
    rw [List.length_take]
    have := h8 h
    omega
  · cases ds with
    | nil =>
      by_cases hn : n = 0
      · subst hn; rfl
      · exact absurd (h0 (by omega)) (by simp)
    | cons d r => simp
theorem encK_length : ∀ (ds : List Dt) (vs : List Vt), ds.length = vs.length → (encK ds vs).length = vs.length
  | d :: ds, v :: vs, h => by rw [encK, List.length_cons, encK_length ds vs (by simpa using h)]; rfl
  | [], [], _ => by simp [encK]
  | [], _ :: _, h => by simp at h
  | _ :: _, [], h => by simp at h
theorem encK_get : ∀ (ds : List Dt) (vs : List Vt) (i : Nat) (d : Dt) (v : Vt), ds[i]? = some d → vs[i]? = some v → (encK ds vs)[i]? = some (encV d v, decide (sizeD d < 0))
  | d :: ds, v :: vs, 0, d', v', hd, hv => by
    simp at hd hv
    subst hd hv
    rw [encK]; rfl
  | d :: ds, v :: vs, i + 1, d', v', hd, hv => by
    rw [List.getElem?_cons_succ] at hd hv
    rw [encK, List.getElem?_cons_succ]
    exact encK_get ds vs i d' v' hd hv
  | [], _, _, _, _, hd, _ => by simp at hd
  | _ :: _, [], _, _, _, _, hv => by simp at hv
theorem okK_get : ∀ (ds : List Dt) (vs : List Vt) (i : Nat) (d : Dt) (v : Vt), okK ds vs → ds[i]? = some d → vs[i]? = some v → okV d v
  | d :: ds, v :: vs, 0, d', v', h, hd, hv => by
    simp at hd hv
    subst hd hv
    rw [okK] at h; exact h.1
  | d :: ds, v :: vs, i + 1, d', v', h, hd, hv => by
    rw [List.getElem?_cons_succ] at hd hv
    rw [okK] at h
    exact okK_get ds vs i d' v' h.2 hd hv
  | [], _, _, _, _, _, hd, _ => by simp at hd
  | _ :: _, [], _, _, _, _, _, hv => by simp at hv
theorem encK_succ (ds : List Dt) (vs : List Vt) (i : Nat) (d : Dt) (v : Vt) (hd : ds[i]? = some d) (hv : vs[i]? = some v) : (encK ds vs).take (i + 1) = (encK ds vs).take i ++ [(encV d v, decide (sizeD d < 0))] := by
  have h := encK_get ds vs i d v hd hv
  rw [List.take_add_one, h]
  rfl
end Go.Proofs.YtpaamhmighgjeaaGreat

/- Rows of slices of bytes, of a call's own. -/
namespace Go.Proofs.YtpaamhmighgjeaaGreat
open Go.RowKit
set_option linter.unusedVariables false
set_option maxRecDepth 100000

theorem slInfo : ∃ i, Tryz.prog.info? 39 = some i ∧ i.zero = some (.slice none 0 0) ∧ i.size = 1 ∧ i.bytes = 24 := by
  have : (Tryz.prog.info? 39).map (fun i => (i.zero, i.size, i.bytes)) = some (some (.slice none 0 0), 1, 24) := by kernel_rfl
  cases hq : Tryz.prog.info? 39 with
  | none => simp [hq] at this
  | some i => simp [hq] at this; exact ⟨i, rfl, this.1, this.2.1, this.2.2⟩
/-- Slices that a call keeps in a row of its own. -/
abbrev RowS (w : World) (base : Nat) (v : Value) (us : List Value) : Prop := w.ownsRow base 39 1 v us.length us
theorem RowS.nil (w : World) (base : Nat) : RowS w base (.slice none 0 0) [] := World.ownsRow_nil _ _ _ _
/-- One value in a block. -/
theorem src_one {w : World} {g : Nat} {u : Value} (hc : w.cell? ⟨g, 0, none⟩ = some u) (h1 : u.oneCell' = true) : Src Tryz.prog 1 100 (.slice (some ⟨g, 0, none⟩) 1 1) 1 [u] w := by
  have hl : ∀ w' : World, w'.cell? ⟨g, 0, none⟩ = some u → (Builtin.firstCells 1 1 (.slice (some ⟨g, 0, none⟩) 1 1)).run Tryz.prog w' = .ok ([u]).toArray w' := fun w' hc' => by
    refine run_firstCells_some w' _ _ _ _ _ [u] rfl ?_
    intro j v hj
    match j, hj with
    | 0, hj =>
      simp at hj
      subst hj
      exact hc'
    | j + 1, hj => simp at hj
  exact ⟨.inl ⟨39, by kernel_rfl⟩, fun w' => rfl, hl w hc, hl w.drew hc, rfl, fun v hv => by rw [List.mem_singleton.1 hv]; exact h1⟩
section
variable {w : World} {ops : Array Oper} {rest : List Oper} {o : Oper} {a : Act} {Q : Exit → Act → World → Prop}
theorem run_append_s (base : Nat) (ty : TypeId) (v : Value) (us : List Value) (hown : RowS w base v us) (g : Nat) (u : Value) (hc : w.cell? ⟨g, 0, none⟩ = some u) (h1 : u.oneCell' = true) (hb : us.length ≤ 1099511627776) (hbase : base ≤ w.heap.size) :
    ∃ v' w', (Builtin.append_ #[100, 100] ty #[v, .slice (some ⟨g, 0, none⟩) 1 1]).run Tryz.prog w = .ok v' w' ∧ RowS w' base v' (us ++ [u]) ∧ w.grownBy w' v.ownBlock ∧ Moved w v v' := by
  obtain ⟨i, hi, hz, hs, hby⟩ := slInfo
  have h := run_append_any (P := Tryz.prog) (w := w) base 100 100 ty 39 i (.slice none 0 0) 1 24 (by kernel_rfl) hi hz hs hby rfl (by decide) v us.length us hown _ 1 [u] (src_one hc h1) (by unfold maxLen; omega) (by omega) hbase
  obtain ⟨v', w', h2, h3, h4, h5⟩ := h
  exact ⟨v', w', h2, by unfold RowS; rw [List.length_append]; exact h3, h4, h5⟩
theorem wpList_append_s (hgd : o.guard = none) (s x : Operand) (ho : o.op = .call { callee := .builtin .append, args := #[s, x], argTypes := #[100, 100] })
    (base : Nat) (v : Value) (us : List Value) (hv : a.eval s = v) (hown : RowS w base v us) (g : Nat) (u : Value) (hx : a.eval x = .slice (some ⟨g, 0, none⟩) 1 1) (hc : w.cell? ⟨g, 0, none⟩ = some u) (h1 : u.oneCell' = true) (hb : us.length ≤ 1099511627776) (hbase : base ≤ w.heap.size)
    (h : ∀ v' w', RowS w' base v' (us ++ [u]) → w.grownBy w' v.ownBlock → Moved w v v' → wpList Tryz.prog ops Q rest (a.put o.dst v') w') : wpList Tryz.prog ops Q (o :: rest) a w := by
  refine wpList_plain hgd fun K hK => ?_
  obtain ⟨v', w', hr, h2, h3, h4⟩ := run_append_s (w := w) base o.type v us hown g u hc h1 hb hbase
  unfold Oper.wp execOp
  simp only [ho, resolve, invoke, builtin, Sem.run_bind, Sem.run_pure, Result.andThen_ok, List.map_toArray, List.map_cons, List.map_nil, hv, hx, hr]
  exact hK _ _ (h v' w' h2 h3 h4)
end
/-- A slice of one slice, in a flow. -/
theorem flow_slice1 {w : World} {o : Oper} {a : Act} {Q : Exit → Act → World → Prop} {I : Value → World → Prop} (x : Operand) (ho : o.op = .buildSlice 100 1 #[(0, x)]) (u : Value) (hx : a.eval x = u) (hu : ∃ ao n c, u = .slice ao n c)
    (h : ∀ w', w'.heap[w.heap.size]? = some (.cells #[u] 39 (0, 0)) → Below w.heap.size w w' → I (.slice (some ⟨w.heap.size, 0, none⟩) 1 1) w') : o.wp Tryz.prog a w (fun a' w' => ∃ v, a' = a.put o.dst v ∧ I v w' ∧ Below w.heap.size w w') Q := by
  obtain ⟨i0, hi, hz0, hz1, _⟩ := slInfo
  have hB := (Below.refl w.heap.size w).alloc (Nat.le_refl _) (.cells #[u] 39)
  refine wp_buildSlice 100 39 1 _ ho #[u] i0 (.slice none 0 0) (by kernel_rfl) hi hz0 (by rw [hz1]; decide) (by rw [hz1]; decide) ?_ ⟨_, rfl, h _ (heap_alloc_new w _) hB, hB⟩
  rw [hz1]
  obtain ⟨ao, n, c, rfl⟩ := hu
  simp only [List.map_toArray, List.map_cons, List.map_nil, hx]
  have e : ((Array.range (1 * 1)).map fun x => (Value.slice none 0 0).cells[x % (Value.slice none 0 0).cells.size]!) = #[Value.slice none 0 0] := by kernel_rfl
  rw [e]
  simp [Instr.fill, Value.cells]
end Go.Proofs.YtpaamhmighgjeaaGreat

/- The document's Series, Encode being known at lesser depths. -/
namespace Go.Proofs.YtpaamhmighgjeaaGreat
open Go.RowKit
set_option linter.unusedVariables false
set_option maxRecDepth 100000

/-- Kinds in a slice. -/
def IsDs (w : World) (v : Value) (ds : List Dt) : Prop := ∃ ao cap, v = .slice ao ds.length cap ∧ ds.length ≤ cap ∧ cap ≤ maxLen ∧ (ds.length = 0 ∨ ∃ b off, ao = some ⟨b, off, none⟩ ∧ DsAt w ds b off)
/-- Slices of bytes beside the row that holds them. -/
def Elts (w : World) (pt : Value) (us : List Value) (fs : List (List Nat × Bool)) : Prop := us.length = fs.length ∧ ∀ (i : Nat) u f, us[i]? = some u → fs[i]? = some f → IsB w u f.1 ∧ inS (fun b => b < w.heap.size ∧ pt.ownBlock ≠ some b) u
theorem Elts.nil (w : World) (pt : Value) : Elts w pt [] [] := ⟨rfl, fun i u f h => by simp at h⟩
theorem Elts.below {w w' : World} {pt : Value} {us : List Value} {fs : List (List Nat × Bool)} (h : Elts w pt us fs) (hb : Below w.heap.size w w') : Elts w' pt us fs :=
  ⟨h.1, fun i u f hu hf => ⟨(h.2 i u f hu hf).1.keep hb, (h.2 i u f hu hf).2.mono fun k hk => ⟨Nat.lt_of_lt_of_le hk.1 hb.size, hk.2⟩⟩⟩
theorem Elts.next {w w' : World} {pt pt' : Value} {us : List Value} {fs : List (List Nat × Bool)} {u : Value} {f : List Nat × Bool} (h : Elts w pt us fs) (hg : w.grownBy w' pt.ownBlock) (hm : Moved w pt pt') (hu : IsB w u f.1) (hs : inS (fun b => b < w.heap.size ∧ pt.ownBlock ≠ some b) u) : Elts w' pt' (us ++ [u]) (fs ++ [f]) := by
  have key : ∀ (u : Value) (bs : List Nat), IsB w u bs → inS (fun b => b < w.heap.size ∧ pt.ownBlock ≠ some b) u → IsB w' u bs ∧ inS (fun b => b < w'.heap.size ∧ pt'.ownBlock ≠ some b) u := fun u bs hu hs =>
    ⟨hu.keepS hs fun k hk hlt => hg.block k hlt (fun e => hk.2 e.symm), hs.mono fun k hk => ⟨Nat.lt_of_lt_of_le hk.1 hg.size, fun e => (hm k e).elim hk.2 (fun h => by omega)⟩⟩
  refine ⟨by simp [h.1], fun i u' f' hu' hf' => ?_⟩
  by_cases hi : i < us.length
  · rw [List.getElem?_append_left hi] at hu'
    rw [List.getElem?_append_left (by have := h.1; omega)] at hf'
    exact key _ _ (h.2 i u' f' hu' hf').1 (h.2 i u' f' hu' hf').2
  · have hi2 : i = us.length := by
      have := (List.getElem?_eq_some_iff.1 hu').1
      simp at this; omega
    subst hi2
    rw [List.getElem?_append_right (Nat.le_refl _), Nat.sub_self] at hu'
    rw [List.getElem?_append_right (by have := h.1; omega), show us.length - fs.length = 0 by have := h.1; omega] at hf'
    simp at hu' hf'
    subst hu' hf'
    exact key _ _ hu hs
theorem RowS.below {w w' : World} {base : Nat} {v : Value} {us : List Value} (h : RowS w base v us) (hb : Below w.heap.size w w') : RowS w' base v us := by
  obtain ⟨hl, h⟩ := h
  refine ⟨hl, ?_⟩
  rcases h with h | ⟨g, cap, cur, rfl, hb', hg', r⟩
  · exact .inl h
  · exact .inr ⟨g, cap, cur, rfl, hb', (hb.block g (Array.getElem?_eq_some_iff.1 hg').1).trans hg', r⟩
theorem RowS.lt {w : World} {base : Nat} {v : Value} {us : List Value} (h : RowS w base v us) (k : Nat) (hk : v.ownBlock = some k) : base ≤ k ∧ k < w.heap.size := World.ownsRow.lt h k hk
theorem RowS.form {w : World} {base : Nat} {v : Value} {us : List Value} (h : RowS w base v us) (h0 : 0 < us.length) : ∃ g cap, v = .slice (some ⟨g, 0, none⟩) us.length cap ∧ ∀ i u, us[i]? = some u → w.cell? ⟨g, i, none⟩ = some u := by
  obtain ⟨_, h⟩ := h
  rcases h with ⟨rfl, h1⟩ | ⟨g, cap, cur, rfl, hb, hg, hc, hm, hcs, htk⟩
  · omega
  · refine ⟨g, cap, rfl, fun i u hu => ?_⟩
    have hi := (List.getElem?_eq_some_iff.1 hu).1
    rw [cell_of_row w g i cur _ (0, 0) hg]
    have : (cur.toList.take (us.length * 1))[i]? = us[i]? := by rw [htk]
    rw [List.getElem?_take, if_pos (by omega), Array.getElem?_toList] at this
    rw [this, hu]
theorem Row.sl {w : World} {base : Nat} {v : Value} {bs : List Nat} (h : Row w base v bs) : ∃ ao cap, v = .slice ao bs.length cap := by
  rcases h.2 with ⟨rfl, h1⟩ | ⟨g, cap, cur, rfl, _, _, hc, _⟩
  · exact ⟨none, 0, by rw [h1]⟩
  · exact ⟨_, _, rfl⟩
theorem Row.lower {w : World} {a b : Nat} {v : Value} {bs : List Nat} (h : Row w b v bs) (hab : a ≤ b) : Row w a v bs := by
  obtain ⟨hl, h⟩ := h
  refine ⟨hl, ?_⟩
  rcases h with h | ⟨g, cap, cur, rfl, hb', r⟩
  · exact .inl h
  · exact .inr ⟨g, cap, cur, rfl, by omega, r⟩
theorem run_at1 {P : Program} {o : Oper} {a : Act} {w : World} (ty e : TypeId) (sz : Nat) (x y : Operand) (ho : o.op = .indexAddr ty x y) (hu : P.underlying ty = some (.slice e)) (hs : (P.info? e).map (·.size) = some sz) (b off n cap i : Nat) (hx : a.eval x = .slice (some ⟨b, off, none⟩) n cap) (hy : a.eval y = .int .i64 (i : Nat)) (hi : i < n) :
    (execOp a.eval o).run P w = .ok (.value (.pointer (some ⟨b, off + i * sz, none⟩))) w := by
  have hz : (sizeOf e).run P w = .ok sz w := by
    cases hq : P.info? e with
    | none => rw [hq] at hs; cases hs
    | some ie => rw [hq] at hs; simp only [Option.map_some, Option.some.injEq] at hs; simp [sizeOf, typeInfo, hq, hs, go_sem]
  unfold execOp
  simp only [ho, hx, hy]
  by_cases h0 : i * sz = 0
  · simp [Instr.indexAt, underlying, hu, hz, hi, h0, Addr.add, asIntOf, go_sem]
  · simp [Instr.indexAt, underlying, hu, hz, hi, h0, Addr.add, asIntOf, go_sem]

set_option maxHeartbeats 4000000 in
theorem ser_step (N : Nat) (IH : ∀ (d : Dt) (v : Vt) (sb sk : Value) (p : Nat) (w : World), v.deep ≤ N → okD d → okV d v → DAt w d p → VAt w v sb sk → Calls Tryz.prog 10 #[.pointer (some ⟨p, 0, none⟩), .agg (valL v.num v.root sb sk).toArray] w fun e w' => ∃ u, e = .returned u ∧ Row w' w.heap.size u (encV d v) ∧ Below w.heap.size w w')
    (ds : List Dt) (vs : List Vt) (m bk ok ck bv ov cv : Nat) (w : World) (hds : ds.length = m) (hvs : vs.length = m) (hm0 : 0 < m) (hm : m ≤ 1048576) (hN : deepK vs ≤ N) (hok : okDs ds) (hov : okK ds vs) (hby : ∀ f ∈ encK ds vs, ∀ z ∈ f.1, z < 256) (hb : lenF (encK ds vs) ≤ 274877906944)
    (hD : DsAt w ds bk ok) (hK : KsAt w vs bv ov) (hc1 : m ≤ ck) (hc2 : ck ≤ maxLen) (hc3 : m ≤ cv) (hc4 : cv ≤ maxLen) :
    Calls Tryz.prog 40 #[.slice (some ⟨bk, ok, none⟩) m ck, .slice (some ⟨bv, ov, none⟩) m cv] w fun e w' => ∃ u, e = .returned u ∧ Row w' w.heap.size u (cont (encK ds vs)) ∧ Below w.heap.size w w' := by
  have hfl := encK_length ds vs (by omega)
  rw [hvs] at hfl
  have hsf := szF_le (encK ds vs)
  have htk := szF_take (encK ds vs)
  have HGET : Same _ _ := ⟨(rfl : encK ds vs = encK ds vs)⟩
  have hsucc := encK_succ ds vs
  obtain ⟨fs, hfs⟩ : ∃ fs, Same (encK ds vs) fs := ⟨_, ⟨rfl⟩⟩
  rw [hfs.out] at hfl hsf htk hby hb hsucc ⊢
  obtain ⟨C, hC⟩ : ∃ C, Same (cont fs) C := ⟨_, ⟨rfl⟩⟩
  rw [hC.out]
  have HIH0 := hid IH
  have HSC := hid hsucc
  have HBY0 := hid hby
  have HTK := hid htk
  have HOK := hid hok
  have HOV := hid hov
  have HD := hid hD
  have HK := hid hK
  have HDS := hid hds
  have HVS := hid hvs
  have HFL := hid hfl
  have hsz : szF fs ≤ 549755813888 := by omega
  clear IH hsucc hby htk hok hov hD hK hds hvs hfl hsf HGET
  go_enter Tryz.func40, Tryz.ntmps40
  go_wp2
  go_loopw [5, 6, 7] (fun hd pt i wr => ∃ (k : Nat) (us : List Value), k ≤ m ∧ us.length = k ∧ hd = .int .i64 (szF (fs.take k) : Nat) ∧ i = .int .i64 (k : Nat) ∧ RowS wr w.heap.size pt us ∧ Elts wr pt us (fs.take k) ∧ Below w.heap.size w wr) (fun _ _ i _ => m - (intOf i).toNat)
  case atStart => exact ⟨0, [], by omega, rfl, by simp [szF], rfl, RowS.nil _ _, Elts.nil _ _, Below.refl _ _⟩
  case round =>
    obtain ⟨k, us, hk, hul, rfl, rfl, hR, hE, hB⟩ := hrel
    by_cases hkm : k < m
    · obtain ⟨d, hd⟩ : ∃ d, ds[k]? = some d := ⟨_, List.getElem?_eq_getElem (by rw [HDS.out]; exact hkm)⟩
      obtain ⟨v, hv⟩ : ∃ v, vs[k]? = some v := ⟨_, List.getElem?_eq_getElem (by rw [HVS.out]; exact hkm)⟩
      obtain ⟨p, hpc, hDp⟩ := HD.out.get hd
      obtain ⟨sb, sk, hrc, hVv⟩ := HK.out.get hv
      have hdk := okDs_get HOK.out hd
      have hvk := okK_get ds vs k d v HOV.out hd hv
      have hdeep : v.deep ≤ N := Nat.le_trans (deepK_get hv) hN
      have hsc := HSC.out k d v hd hv
      have hrl : v.root.length = 32 := by cases v; rw [VAt] at hVv; exact hVv.1.2.1
      have hfsk : (fs.take (k + 1)).length = k + 1 := by rw [List.length_take, HFL.out]; omega
      have hmem : (encV d v, decide (sizeD d < 0)) ∈ fs := List.mem_of_mem_take (i := k + 1) (by rw [hsc]; simp)
      have hbyk := HBY0.out _ hmem
      have hlen1 := HTK.out (k + 1)
      rw [hsc, szF_snoc] at hlen1
      have HIH := hid (fun wq (hq : Below wr.heap.size wr wq) => HIH0.out d v sb sk p wq hdeep hdk hvk ((hDp.keep hB).keep hq) ((hVv.keep hB).keep hq))
      have HSZ := hid (fun wq (hq : Below w.heap.size w wq) => size_any d p wq hdk (hDp.keep hq))
      have HP0 := hid hpc
      have HPC := hid (cell_keep hB hpc)
      have hrc2 := rangeAt_keep hrc hB
      rw [Nat.mul_comm 35 k] at hrc2
      have hcl := valL_length v.num v.root sb sk hrl
      obtain ⟨cs, hcs⟩ : ∃ cs, Same (valL v.num v.root sb sk) cs := ⟨_, ⟨rfl⟩⟩
      obtain ⟨bs, hbs⟩ : ∃ bs, Same (encV d v) bs := ⟨_, ⟨rfl⟩⟩
      rw [hcs.out] at HIH hrc2 hcl
      rw [hbs.out] at HIH hbyk hlen1 hsc
      have HRC := hid hrc2
      have HCL := hid hcl
      have HBY := hid hbyk
      have HSC1 : Same _ _ := ⟨hsc⟩
      have HR := hid hR
      have HE := hid hE
      have HB := hid hB
      have HUL := hid hul
      clear hd hv hpc hDp hrc hVv hdk hvk hdeep hsc hmem hbyk hrc2 hcl hR hE hul hcs hbs hrl hfsk
      go_wp2
      refine wp_region_flow 11 11 (fun i v wq => match i with
        | 0 => v = u6
        | 1 => v = .slice (some ⟨bk, ok, none⟩) m ck
        | 2 => v = .int .i64 (k : Nat)
        | 3 => v = .pointer (some ⟨bk, ok + k * 1, none⟩)
        | 4 => v = .pointer (some ⟨p, 0, none⟩)
        | 5 => v = .slice (some ⟨bv, ov, none⟩) m cv
        | 6 => v = .int .i64 (k : Nat)
        | 7 => v = .pointer (some ⟨bv, ov + k * 35, none⟩)
        | 8 => v = .agg cs.toArray
        | 9 => IsB wq v bs ∧ inS (fun b => wr.heap.size ≤ b ∧ b < wq.heap.size) v
        | _ => ∃ g u, v = .slice (some ⟨g, 0, none⟩) 1 1 ∧ wq.heap[g]? = some (.cells #[u] 39 (0, 0)) ∧ IsB wq u bs ∧ inS (fun b => wr.heap.size ≤ b ∧ b < wq.heap.size) u) (by kernel_rfl) (by kernel_rfl) (fun _ d _ _ _ h => by cases d <;> exact h) ?_ ?_ ?_ ?_
      · intro i v wq wq' hi hv hb
        match i, hi with
        | 0, _ => exact hv
        | 1, _ => exact hv
        | 2, _ => exact hv
        | 3, _ => exact hv
        | 4, _ => exact hv
        | 5, _ => exact hv
        | 6, _ => exact hv
        | 7, _ => exact hv
        | 8, _ => exact hv
        | 9, _ => exact ⟨hv.1.keep hb, hv.2.mono fun j hj => ⟨hj.1, Nat.lt_of_lt_of_le hj.2 hb.size⟩⟩
        | 10, _ => obtain ⟨g, u, e, hg, h1, h2⟩ := hv; exact ⟨g, u, e, (hb.block g (Array.getElem?_eq_some_iff.1 hg).1).trans hg, h1.keep hb, h2.mono fun j hj => ⟨hj.1, Nat.lt_of_lt_of_le hj.2 hb.size⟩⟩
        | (k + 11), hk => exact absurd hk (by omega)
      · intro i o hi ho aq wq hc hk hdep
        match i, hi with
        | 0, _ =>
          cases ho
          exact flow_move (.tmp 6) rfl (hk 6 (by decide))
        | 1, _ =>
          cases ho
          exact flow_move (.tmp 0) rfl (hk 0 (by decide))
        | 2, _ =>
          cases ho
          exact flow_move (.tmp 7) rfl (hk 7 (by decide))
        | 3, _ =>
          cases ho
          have ea : aq.tmps.getD 18 undef = .slice (some ⟨bk, ok, none⟩) m ck := hdep 1 18 rfl (by kernel_rfl)
          have eb : aq.tmps.getD 19 undef = .int .i64 (k : Nat) := hdep 2 19 rfl (by kernel_rfl)
          refine flow_value _ (run_at1 106 45 1 (.tmp 18) (.tmp 19) rfl (by kernel_rfl) (by kernel_rfl) bk ok m ck k (by simpa [Act.eval] using ea) (by simpa [Act.eval] using eb) (by omega)) rfl
        | 4, _ =>
          cases ho
          have e20 : aq.tmps.getD 20 undef = .pointer (some ⟨bk, ok + k * 1, none⟩) := hdep 3 20 rfl (by kernel_rfl)
          refine flow_value _ (run_cell 45 (.tmp 20) rfl ⟨bk, ok + k, none⟩ (by rw [Nat.mul_one] at e20; simpa [Act.eval] using e20) _ (cell_keep hc.bel HPC.out) _ Tryz.underlying45 rfl) rfl
        | 5, _ =>
          cases ho
          exact flow_move (.tmp 1) rfl (hk 1 (by decide))
        | 6, _ =>
          cases ho
          exact flow_move (.tmp 7) rfl (hk 7 (by decide))
        | 7, _ =>
          cases ho
          have ea : aq.tmps.getD 22 undef = .slice (some ⟨bv, ov, none⟩) m cv := hdep 5 22 rfl (by kernel_rfl)
          have eb : aq.tmps.getD 23 undef = .int .i64 (k : Nat) := hdep 6 23 rfl (by kernel_rfl)
          refine flow_value _ (run_at1 35 37 35 (.tmp 22) (.tmp 23) rfl (by kernel_rfl) (by kernel_rfl) bv ov m cv k (by simpa [Act.eval] using ea) (by simpa [Act.eval] using eb) (by omega)) rfl
        | 8, _ =>
          cases ho
          have e24 : aq.tmps.getD 24 undef = .pointer (some ⟨bv, ov + k * 35, none⟩) := hdep 7 24 rfl (by kernel_rfl)
          refine flow_value _ (run_mid 37 (.tmp 24) rfl bv (ov + k * 35) (by simpa [Act.eval] using e24) cs (rangeAt_keep HRC.out hc.bel) _ Tryz.underlying37 rfl (by rw [HCL.out]; kernel_rfl)) rfl
        | 9, _ =>
          cases ho
          have e21 : aq.tmps.getD 21 undef = .pointer (some ⟨p, 0, none⟩) := hdep 4 21 rfl (by kernel_rfl)
          have e25 : aq.tmps.getD 25 undef = .agg cs.toArray := hdep 8 25 rfl (by kernel_rfl)
          refine flow_fun 10 _ _ rfl (fun _ _ => by simp [go_sem]) #[.pointer (some ⟨p, 0, none⟩), .agg cs.toArray] (by rw [show (#[Operand.tmp 21, Operand.tmp 25] : Array Operand).map aq.eval = #[aq.tmps.getD 21 undef, aq.tmps.getD 25 undef] from by simp [Act.eval], e21, e25]) ?_
          refine (HIH.out wq hc.bel).mono ?_
          rintro e w' ⟨u, rfl, R, B⟩
          exact ⟨_, rfl, ⟨R.isB HBY.out, R.inS.mono fun j hj => ⟨Nat.le_trans hc.bel.size hj.1, hj.2⟩⟩, B⟩
        | 10, _ =>
          cases ho
          have e26 : IsB wq (aq.tmps.getD 26 undef) bs ∧ inS (fun b => wr.heap.size ≤ b ∧ b < wq.heap.size) (aq.tmps.getD 26 undef) := hdep 9 26 rfl (by kernel_rfl)
          refine flow_slice1 (.tmp 26) rfl (aq.tmps.getD 26 undef) (by simp [Act.eval]) (by obtain ⟨⟨ao, cap, e, _⟩, _⟩ := e26.1; exact ⟨_, _, _, e⟩) (fun w' hg hB => ⟨_, _, rfl, hg, e26.1.keep hB, e26.2.mono fun j hj => ⟨hj.1, Nat.lt_of_lt_of_le hj.2 hB.size⟩⟩)
        | (k + 11), hk => exact absurd hk (by omega)
      · intro o h11 ho
        omega
      intro vf w4 hc hv
      have e17 : vf 0 = _ := hv 0 17 (by decide) rfl
      obtain ⟨g, u, e27, hg, hu, huS⟩ : ∃ g u, vf 10 = .slice (some ⟨g, 0, none⟩) 1 1 ∧ w4.heap[g]? = some (.cells #[u] 39 (0, 0)) ∧ IsB w4 u bs ∧ inS (fun b => wr.heap.size ≤ b ∧ b < w4.heap.size) u := hv 10 27 (by decide) rfl
      clear hv
      simp only [List.take_succ_cons, List.take_zero, List.drop_succ_cons, List.drop_zero, putAll, Act.put, List.setIfInBounds_toArray, List.set_cons_succ, List.set_cons_zero]
      rw [e17, e27]
      have hR4 := HR.out.below hc.bel
      have hE4 := HE.out.below hc.bel
      have hB4 := below_more HB.out hc.bel (Nat.le_refl _)
      have h1c : u.oneCell' = true := by obtain ⟨⟨ao, cap, e, _⟩, _⟩ := hu; rw [e]; rfl
      refine wpList_append_s rfl (.tmp 17) (.tmp 27) rfl w.heap.size u6 us rfl hR4 g u rfl (cell_of_one hg) h1c (by rw [HUL.out]; omega) hB4.size ?_
      intro v5 w5 R5 G5 M5
      have hE5 := hE4.next (f := (bs, decide (sizeD d < 0))) G5 M5 hu (huS.mono fun j hj => ⟨hj.2, fun e => by have := (HR.out.lt j e).2; omega⟩)
      rw [← HSC1.out] at hE5
      have hB5 : Below w.heap.size w w5 := hB4.grown G5 hB4.size (fun j hj => (hR4.lt j hj).1)
      have hB45 : wr.heap.size ≤ w5.heap.size := Nat.le_trans hc.bel.size G5.size
      have hcu : us.length = k := HUL.out
      obtain ⟨g5, cap5, rfl, hc5⟩ := R5.form (by simp)
      have hck := hc5 k u (by rw [List.getElem?_append_right (by omega), hcu, Nat.sub_self]; rfl)
      have hl5 : (us ++ [u]).length = k + 1 := by simp [hcu]
      have hpc5 := cell_keep hB5 HP0.out
      obtain ⟨⟨aou, capu, hue, _⟩, _⟩ := hu
      obtain ⟨z, hz⟩ : ∃ z, sizeD d = z := ⟨_, rfl⟩
      have hs1 : sz1 (bs, decide (z < 0)) = if z < 0 then 4 else bs.length := by unfold sz1; simp
      have hsk : szF (fs.take (k + 1)) = szF (fs.take k) + if z < 0 then 4 else bs.length := by rw [HSC1.out, szF_snoc, hz, hs1]
      rw [hz] at HSZ hlen1
      rw [hs1] at hlen1
      obtain ⟨A, hA⟩ : ∃ A, szF (fs.take k) = A := ⟨_, rfl⟩
      rw [hA] at hsk hlen1 ⊢
      have HSK := hid hsk
      have HR5 := hid R5
      have HE5 := hid hE5
      have HB5 := hid hB5
      have HL5 := hid hl5
      rw [hl5]
      clear hsk R5 hE5 hB5 hc5 G5 M5 hR4 hE4 hB4 hg huS h1c hs1 hz hA hl5 hB45
      subst hue
      by_cases hneg : z < 0
      · rw [if_pos hneg] at hlen1
        go_wp2_with (go_at_call 87; refine (HSZ.out w5 HB5.out).mono ?_; rintro e w6 ⟨rfl, q, rfl⟩; have hc6 : (w5.drewN q).cell? ⟨g5, k, none⟩ = _ := hck)
        go_roundw
        case rel => exact ⟨k + 1, us ++ [_], by omega, HL5.out, by rw [HSK.out, if_pos hneg]; go_num, by go_num, by have h := HR5.out.below (below_drewN (Below.refl _ w5) q); rw [HL5.out] at h; exact h, HE5.out.below (below_drewN (Below.refl _ w5) q), below_drewN HB5.out q⟩
        case measure => simp [intOf]; omega
      · rw [if_neg hneg] at hlen1
        go_wp2_with (go_at_call 87; refine (HSZ.out w5 HB5.out).mono ?_; rintro e w6 ⟨rfl, q, rfl⟩; have hc6 : (w5.drewN q).cell? ⟨g5, k, none⟩ = _ := hck)
        go_roundw
        case rel => exact ⟨k + 1, us ++ [_], by omega, HL5.out, by rw [HSK.out, if_neg (by omega)]; go_num, by go_num, by have h := HR5.out.below (below_drewN (Below.refl _ w5) q); rw [HL5.out] at h; exact h, HE5.out.below (below_drewN (Below.refl _ w5) q), below_drewN HB5.out q⟩
        case measure => simp [intOf]; omega
    · have hke : m = k := by omega
      subst hke
      rename World => wz
      rw [List.take_of_length_le (by rw [HFL.out]; exact Nat.le_refl _)] at hE ⊢
      obtain ⟨g, cap, rfl, hcg⟩ := hR.form (by omega)
      obtain ⟨A, hA⟩ : ∃ A, szF fs = A := ⟨_, rfl⟩
      rw [hA] at hsz ⊢
      have hAA : Same (frontB A fs ++ backB fs) C := ⟨by rw [← hC.out]; unfold cont; rw [hA]⟩
      have hbl : ∀ k, (backB (fs.take k)).length ≤ 274877906944 := fun k => Nat.le_trans (Nat.le_trans (backB_le _) (lenF_take fs k)) hb
      have hfl2 : ∀ k, (frontB A (fs.take k)).length ≤ 549755813888 := fun k => by rw [frontB_length]; exact Nat.le_trans (HTK.out k) (by omega)
      have HBL := hid hbl
      have HF2 := hid hfl2
      have HE := hid hE
      have HCG := hid hcg
      have HB := hid hB
      have HUL := hid hul
      clear hbl hfl2 hA hE hcg hB hR hul
      go_wp2
      go_loopw [8, 9, 10] (fun fx fr i wr => ∃ k : Nat, k ≤ m ∧ i = .int .i64 (k : Nat) ∧ Row wr wz.heap.size fx (frontB A (fs.take k)) ∧ Row wr wz.heap.size fr (backB (fs.take k)) ∧ Apart fx fr ∧ Below wz.heap.size wz wr) (fun _ _ i _ => m - (intOf i).toNat)
      case atStart => exact ⟨0, by omega, rfl, Row.nil _ _, Row.nil _ _, (fun k hk => by simp [Value.ownBlock] at hk), Below.refl _ _⟩
      case round =>
        obtain ⟨k, hk, rfl, hX, hF, hAp, hB2⟩ := hrel
        by_cases hkm : k < m
        · obtain ⟨d, hd⟩ : ∃ d, ds[k]? = some d := ⟨_, List.getElem?_eq_getElem (by rw [HDS.out]; exact hkm)⟩
          obtain ⟨v, hv⟩ : ∃ v, vs[k]? = some v := ⟨_, List.getElem?_eq_getElem (by rw [HVS.out]; exact hkm)⟩
          obtain ⟨p, hpc, hDp⟩ := HD.out.get hd
          have hdk := okDs_get HOK.out hd
          have hsc := HSC.out k d v hd hv
          have hfk := encK_get ds vs k d v hd hv
          rw [hfs.out] at hfk
          obtain ⟨u, hu⟩ : ∃ u, us[k]? = some u := ⟨_, List.getElem?_eq_getElem (by rw [HUL.out]; exact hkm)⟩
          obtain ⟨huI, huS⟩ := HE.out.2 k u _ hu hfk
          have hcu := HCG.out k u hu
          have hgl : g < wz.heap.size := block_lt_of_cell hcu
          obtain ⟨bs, hbs⟩ : ∃ bs, Same (encV d v) bs := ⟨_, ⟨rfl⟩⟩
          rw [hbs.out] at hsc huI
          have hbk := backB_snoc (fs.take k) (bs, decide (sizeD d < 0))
          have hft := frontB_snoc (bs, decide (sizeD d < 0)) (fs.take k) A
          rw [← hsc] at hbk hft
          have HWB := hid (below_more HB.out hB2 (Nat.le_refl _))
          have HSZ := hid (fun wq (hq : Below w.heap.size w wq) => size_any d p wq hdk (hDp.keep hq))
          have hpc2 := cell_keep HWB.out hpc
          have hcu2 := cell_keep hB2 hcu
          have HCU := hid hcu
          have hl1 := HBL.out k
          have hl2 := HF2.out k
          have hl3 := HBL.out (k + 1)
          have hl4 := HF2.out (k + 1)
          have HUI := hid huI
          obtain ⟨z, hz⟩ : ∃ z, sizeD d = z := ⟨_, rfl⟩
          rw [hz] at HSZ hbk hft
          obtain ⟨BK, hBK⟩ : ∃ b, Same (backB (fs.take k)) b := ⟨_, ⟨rfl⟩⟩
          obtain ⟨FT, hFT⟩ : ∃ b, Same (frontB A (fs.take k)) b := ⟨_, ⟨rfl⟩⟩
          rw [hbk] at hl3
          rw [hft] at hl4
          rw [hBK.out] at hF hl1 hl3 hbk hft hl4
          rw [hFT.out] at hX hl2 hft hl4
          obtain ⟨⟨aou, capu, hue, _⟩, _⟩ := huI
          obtain ⟨aof, capf, hfe⟩ := hF.sl
          have HX := hid hX
          have HF := hid hF
          have HAp := hid hAp
          have HB2 := hid hB2
          clear hpc hDp hdk hsc hfk hu huS hcu hd hv hbs hz hX hF hAp hB2
          have hku : k < us.length := by rw [HUL.out]; exact hkm
          subst hue
          by_cases hneg : z < 0
          · rw [decide_eq_true hneg] at hbk hft hl3 hl4
            simp only [if_true] at hbk hft
            simp only [if_true, List.length_append] at hl3 hl4
            have HBK : Same _ _ := ⟨hbk⟩
            have HFT : Same _ _ := ⟨hft⟩
            clear hbk hft
            have hwr : IntKind.u64.wrap ((A : Int) + (BK.length : Int)) = ((A + BK.length : Nat) : Int) := (by rw [IntKind.wrap_u64]; omega)
            have HP := hid (fun wq => refput_le5 (A + BK.length) 4 (by omega) (by omega) wq)
            subst hfe
            go_wp2_with (first
              | (go_at_call 87; refine (HSZ.out wr HWB.out).mono ?_; rintro e w3 ⟨rfl, q, rfl⟩; have B3 := below_drewN HB2.out q; have hcu3 : (wr.drewN q).cell? ⟨g, k, none⟩ = _ := hcu2)
              | (go_at_call 38; refine (HP.out _).mono ?_; rintro e w4 ⟨v4, rfl, R4, B4⟩; have X4 := HX.out.below ((below_drewN (Below.refl _ wr) q).trans B4); have F4 := HF.out.below ((below_drewN (Below.refl _ wr) q).trans B4); have T4 := below_more B3 B4 (Nat.le_refl _))
              | (at_builtin; refine wpList_append_b rfl (.tmp 56) (.tmp 62) 39 rfl wz.heap.size u8 FT rfl X4 v4 (le (A + BK.length) 4) rfl (R4.isB (le_byte _ _)).src (by rw [le_length]; omega) T4.size ?_; intro v5 w5 R5 G5 M5; have T5 := below_row T4 (Nat.le_refl _) X4 G5; have F5 := F4.kept G5 (fun j hj e => HAp.out j e hj); have A5 := HAp.out.left M5 (fun j hj => (F4.lt j hj).2); have hcu5 := cell_keep T5 HCU.out)
              | (at_builtin; refine wpList_append_b rfl (.tmp 64) (.tmp 68) 39 rfl wz.heap.size (.slice aof BK.length capf) BK rfl F5 (.slice aou bs.length capu) bs rfl (HUI.out.keep T5).src (by omega) T5.size ?_; intro v6 w6 R6 G6 M6; have T6 := below_row T5 (Nat.le_refl _) F5 G6; have X6 := R5.kept G6 (fun j hj e => A5 j hj e); have A6 := (A5.symm.left M6 (fun j hj => (R5.lt j hj).2)).symm))
            go_roundw
            case rel => exact ⟨k + 1, by omega, by go_num, by rw [HFT.out]; exact X6, by rw [HBK.out]; exact R6, A6, T6⟩
            case measure => simp [intOf]; omega
          · rw [decide_eq_false hneg] at hbk hft hl3 hl4
            simp only [Bool.false_eq_true, if_false, List.append_nil] at hbk hft
            simp only [Bool.false_eq_true, if_false, List.length_append] at hl3 hl4
            have HBK : Same _ _ := ⟨hbk⟩
            have HFT : Same _ _ := ⟨hft⟩
            clear hbk hft hfe
            go_wp2_with (first
              | (go_at_call 87; refine (HSZ.out wr HWB.out).mono ?_; rintro e w3 ⟨rfl, q, rfl⟩; have B3 := below_drewN HB2.out q; have hcu3 : (wr.drewN q).cell? ⟨g, k, none⟩ = _ := hcu2; have X4 := HX.out.below (below_drewN (Below.refl _ wr) q); have F4 := HF.out.below (below_drewN (Below.refl _ wr) q))
              | (at_builtin; refine wpList_append_b rfl (.tmp 70) (.tmp 74) 39 rfl wz.heap.size u8 FT rfl X4 (.slice aou bs.length capu) bs rfl (HUI.out.keep B3).src (by omega) B3.size ?_; intro v5 w5 R5 G5 M5; have T5 := below_row B3 (Nat.le_refl _) X4 G5; have F5 := F4.kept G5 (fun j hj e => HAp.out j e hj); have A5 := HAp.out.left M5 (fun j hj => (F4.lt j hj).2)))
            go_roundw
            case rel => exact ⟨k + 1, by omega, by go_num, by rw [HFT.out]; exact R5, by rw [HBK.out]; exact F5, A5, T5⟩
            case measure => simp [intOf]; omega
        · have hke : m = k := by omega
          subst hke
          rw [List.take_of_length_le (by rw [HFL.out]; exact Nat.le_refl _)] at hX hF
          have hbF : ∀ z ∈ backB fs, z < 256 := backB_byte HBY0.out
          have hl1 := HBL.out m
          have hl2 := HF2.out m
          rw [List.take_of_length_le (by rw [HFL.out]; exact Nat.le_refl _)] at hl1 hl2
          obtain ⟨BK, hBK⟩ : ∃ b, Same (backB fs) b := ⟨_, ⟨rfl⟩⟩
          obtain ⟨FT, hFT⟩ : ∃ b, Same (frontB A fs) b := ⟨_, ⟨rfl⟩⟩
          rw [hBK.out] at hF hl1 hbF
          rw [hFT.out] at hX hl2
          have HX := hid hX
          have HF := hid hF
          have HB2 := hid hB2
          have HBF := hid hbF
          clear hX hF hB2 hAp hbF
          go_wp2_with (at_builtin; refine wpList_append_b rfl (.tmp 76) (.tmp 77) 39 rfl wz.heap.size u8 FT rfl HX.out u9 BK rfl (HF.out.isB HBF.out).src (by omega) HB2.out.size ?_; intro v5 w5 R5 G5 M5; have T5 := hid (below_row HB2.out (Nat.le_refl _) HX.out G5); have R5h := hid R5; clear R5 G5 M5)
          go_ret
          exact ⟨_, rfl, by rw [← hAA.out, hFT.out, hBK.out]; exact R5h.out.base HB.out.size, below_more HB.out T5.out (Nat.le_refl _)⟩
end Go.Proofs.YtpaamhmighgjeaaGreat

/- Rows of pointers to kinds, of a call's own. -/
namespace Go.Proofs.YtpaamhmighgjeaaGreat
open Go.RowKit
set_option linter.unusedVariables false
set_option maxRecDepth 100000

theorem ptrInfo : ∃ i, Tryz.prog.info? 45 = some i ∧ i.zero = some (.pointer none) ∧ i.size = 1 ∧ i.bytes = 8 := by
  have : (Tryz.prog.info? 45).map (fun i => (i.zero, i.size, i.bytes)) = some (some (.pointer none), 1, 8) := by kernel_rfl
  cases hq : Tryz.prog.info? 45 with
  | none => simp [hq] at this
  | some i => simp [hq] at this; exact ⟨i, rfl, this.1, this.2.1, this.2.2⟩
/-- Slices that a call keeps in a row of its own. -/
abbrev RowP (w : World) (base : Nat) (v : Value) (us : List Value) : Prop := w.ownsRow base 45 1 v us.length us
theorem RowP.nil (w : World) (base : Nat) : RowP w base (.slice none 0 0) [] := World.ownsRow_nil _ _ _ _
/-- One value in a block. -/
theorem src_ptr {w : World} {g : Nat} {u : Value} (hc : w.cell? ⟨g, 0, none⟩ = some u) (h1 : u.oneCell' = true) : Src Tryz.prog 1 106 (.slice (some ⟨g, 0, none⟩) 1 1) 1 [u] w := by
  have hl : ∀ w' : World, w'.cell? ⟨g, 0, none⟩ = some u → (Builtin.firstCells 1 1 (.slice (some ⟨g, 0, none⟩) 1 1)).run Tryz.prog w' = .ok ([u]).toArray w' := fun w' hc' => by
    refine run_firstCells_some w' _ _ _ _ _ [u] rfl ?_
    intro j v hj
    match j, hj with
    | 0, hj =>
      simp at hj
      subst hj
      exact hc'
    | j + 1, hj => simp at hj
  exact ⟨.inl ⟨45, by kernel_rfl⟩, fun w' => rfl, hl w hc, hl w.drew hc, rfl, fun v hv => by rw [List.mem_singleton.1 hv]; exact h1⟩
section
variable {w : World} {ops : Array Oper} {rest : List Oper} {o : Oper} {a : Act} {Q : Exit → Act → World → Prop}
theorem run_append_p (base : Nat) (ty : TypeId) (v : Value) (us : List Value) (hown : RowP w base v us) (g : Nat) (u : Value) (hc : w.cell? ⟨g, 0, none⟩ = some u) (h1 : u.oneCell' = true) (hb : us.length ≤ 1099511627776) (hbase : base ≤ w.heap.size) :
    ∃ v' w', (Builtin.append_ #[106, 106] ty #[v, .slice (some ⟨g, 0, none⟩) 1 1]).run Tryz.prog w = .ok v' w' ∧ RowP w' base v' (us ++ [u]) ∧ w.grownBy w' v.ownBlock ∧ Moved w v v' := by
  obtain ⟨i, hi, hz, hs, hby⟩ := ptrInfo
  have h := run_append_any (P := Tryz.prog) (w := w) base 106 106 ty 45 i (.pointer none) 1 8 (by kernel_rfl) hi hz hs hby rfl (by decide) v us.length us hown _ 1 [u] (src_ptr hc h1) (by unfold maxLen; omega) (by omega) hbase
  obtain ⟨v', w', h2, h3, h4, h5⟩ := h
  exact ⟨v', w', h2, by unfold RowP; rw [List.length_append]; exact h3, h4, h5⟩
theorem wpList_append_p (hgd : o.guard = none) (s x : Operand) (ho : o.op = .call { callee := .builtin .append, args := #[s, x], argTypes := #[106, 106] })
    (base : Nat) (v : Value) (us : List Value) (hv : a.eval s = v) (hown : RowP w base v us) (g : Nat) (u : Value) (hx : a.eval x = .slice (some ⟨g, 0, none⟩) 1 1) (hc : w.cell? ⟨g, 0, none⟩ = some u) (h1 : u.oneCell' = true) (hb : us.length ≤ 1099511627776) (hbase : base ≤ w.heap.size)
    (h : ∀ v' w', RowP w' base v' (us ++ [u]) → w.grownBy w' v.ownBlock → Moved w v v' → wpList Tryz.prog ops Q rest (a.put o.dst v') w') : wpList Tryz.prog ops Q (o :: rest) a w := by
  refine wpList_plain hgd fun K hK => ?_
  obtain ⟨v', w', hr, h2, h3, h4⟩ := run_append_p (w := w) base o.type v us hown g u hc h1 hb hbase
  unfold Oper.wp execOp
  simp only [ho, resolve, invoke, builtin, Sem.run_bind, Sem.run_pure, Result.andThen_ok, List.map_toArray, List.map_cons, List.map_nil, hv, hx, hr]
  exact hK _ _ (h v' w' h2 h3 h4)
end
end Go.Proofs.YtpaamhmighgjeaaGreat

/- The document's Encode, at every kind and every value that fits it. -/
namespace Go.Proofs.YtpaamhmighgjeaaGreat
open Go.RowKit
set_option linter.unusedVariables false
set_option maxRecDepth 100000

theorem frontB_byte : ∀ {fs : List (List Nat × Bool)} (_ : ∀ f ∈ fs, ∀ z ∈ f.1, z < 256) (p : Nat), ∀ z ∈ frontB p fs, z < 256
  | [], _, _, z, hz => by simp [frontB] at hz
  | f :: fs, h, p, z, hz => by
    rw [frontB] at hz
    rcases List.mem_append.1 hz with hz | hz
    · split at hz
      · exact le_byte _ _ z hz
      · exact h f (by simp) z hz
    · exact frontB_byte (fun g hg => h g (by simp [hg])) _ z hz
theorem cont_byte {fs : List (List Nat × Bool)} (h : ∀ f ∈ fs, ∀ z ∈ f.1, z < 256) : ∀ z ∈ cont fs, z < 256 := fun z hz => by
  unfold cont at hz
  rcases List.mem_append.1 hz with hz | hz
  · exact frontB_byte h _ z hz
  · exact backB_byte h z hz
mutual
theorem encV_byte {w : World} : ∀ (v : Vt) {sb sk : Value}, VAt w v sb sk → ∀ d : Dt, ∀ z ∈ encV d v, z < 256
  | .mk num r bs ks, sb, sk, h, .mk f n ds => by
    rw [VAt] at h
    obtain ⟨⟨_, _, h8⟩, _, ao, cap, _, _, _, hk⟩ := h
    rw [encV]
    split
    · exact le_byte _ _
    split
    · intro z hz; rw [List.mem_singleton.1 hz]; omega
    split
    · exact h8
    split
    · exact putB_byte _ _
    split
    · exact putB_byte _ _
    · rcases hk with h0 | ⟨b, off, _, hK⟩
      · have : ks = [] := List.eq_nil_of_length_eq_zero h0
        subst this
        intro z hz
        simp [encK, cont, frontB, backB] at hz
      · exact cont_byte (encK_byte ks hK _)
theorem encK_byte {w : World} : ∀ (vs : List Vt) {b off : Nat}, KsAt w vs b off → ∀ ds : List Dt, ∀ f ∈ encK ds vs, ∀ z ∈ f.1, z < 256
  | [], _, _, _, ds, f, hf => by cases ds <;> simp [encK] at hf
  | v :: vs, b, off, h, [], f, hf => by simp [encK] at hf
  | v :: vs, b, off, h, d :: ds, f, hf => by
    rw [KsAt] at h
    obtain ⟨⟨sb, sk, _, hv⟩, hr⟩ := h
    rw [encK] at hf
    rcases List.mem_cons.1 hf with rfl | hf
    · exact encV_byte v hv d
    · exact encK_byte vs hr ds f hf
end
theorem dsAt_of {w : World} : ∀ (ds : List Dt) (b off : Nat), (∀ (i : Nat) d, ds[i]? = some d → ∃ q, w.cell? ⟨b, off + i, none⟩ = some (.pointer (some ⟨q, 0, none⟩)) ∧ DAt w d q) → DsAt w ds b off
  | [], _, _, _ => by rw [DsAt]; exact trivial
  | d :: ds, b, off, h => by
    rw [DsAt]
    refine ⟨h 0 d rfl, dsAt_of ds b (off + 1) fun i x hx => ?_⟩
    obtain ⟨q, h1, h2⟩ := h (i + 1) x (by simpa using hx)
    exact ⟨q, by rw [show off + 1 + i = off + (i + 1) by omega]; exact h1, h2⟩
theorem okDs_mem : ∀ {ds : List Dt}, okDs ds → ∀ d ∈ ds, okD d
  | [], _, d, hd => by simp at hd
  | x :: r, h, d, hd => by
    rw [okDs] at h
    rcases List.mem_cons.1 hd with rfl | hd
    · exact h.1
    · exact okDs_mem h.2 d hd
theorem okDs_of : ∀ (ds : List Dt), (∀ d ∈ ds, okD d) → okDs ds
  | [], _ => by rw [okDs]; exact trivial
  | x :: r, h => by rw [okDs]; exact ⟨h x (by simp), okDs_of r fun d hd => h d (by simp [hd])⟩
theorem kdsV_ok {f : Nat} {ds : List Dt} {n : Nat} (h : okDs ds) : okDs (kdsV f ds n) := okDs_of _ fun d hd => by
  unfold kdsV at hd
  split at hd
  · exact okDs_mem h d (List.mem_of_mem_take hd)
  · cases ds with
    | nil => simp at hd
    | cons x r => exact okDs_mem h d (by rw [(List.mem_replicate.1 hd).2]; simp)
/-- Which kind the k-th part has. -/
theorem kdsV_get {f : Nat} {ds : List Dt} {n k : Nat} {d : Dt} (h : (kdsV f ds n)[k]? = some d) : (f = 8 → ds[k]? = some d) ∧ (f ≠ 8 → ds[0]? = some d) := by
  unfold kdsV at h
  split at h
  · rename_i h8
    refine ⟨fun _ => ?_, fun hn => absurd h8 hn⟩
    rw [List.getElem?_take] at h
    split at h
    · exact h
    · cases h
  · rename_i h8
    refine ⟨fun e => absurd e h8, fun _ => ?_⟩
    cases ds with
    | nil => simp at h
    | cons x r =>
      have := List.getElem?_eq_some_iff.1 h
      obtain ⟨h1, h2⟩ := this
      simp at h2
      rw [h2]; rfl

theorem ser_nil (ao : Option Addr) (cap : Nat) (w : World) :
    Calls Tryz.prog 40 #[.slice none 0 0, .slice ao 0 cap] w fun e w' => e = .returned (.slice none 0 0) ∧ Below w.heap.size w w' := by
  go_enter Tryz.func40, Tryz.ntmps40
  go_wp2
  go_loopw [5, 6, 7] (fun hd pt i wr => hd = .int .i64 0 ∧ pt = .slice none 0 0 ∧ i = .int .i64 0 ∧ wr = w) (fun _ _ i _ => 0)
  case atStart => exact ⟨rfl, rfl, rfl, rfl⟩
  case round =>
    obtain ⟨rfl, rfl, rfl, hwr⟩ := hrel
    replace hwr := hwr.symm
    subst hwr
    go_wp2
    go_loopw [8, 9, 10] (fun fx fr i wr2 => fx = .slice none 0 0 ∧ fr = .slice none 0 0 ∧ i = .int .i64 0 ∧ wr2 = w) (fun _ _ i _ => 0)
    case atStart => exact ⟨rfl, rfl, rfl, rfl⟩
    case round =>
      obtain ⟨rfl, rfl, rfl, hwr⟩ := hrel
      replace hwr := hwr.symm
      subst hwr
      go_wp2
      go_ret
      exact ⟨rfl, Below.refl _ _⟩
end Go.Proofs.YtpaamhmighgjeaaGreat

/- The document's Encode at the leaves and at parts. -/
namespace Go.Proofs.YtpaamhmighgjeaaGreat
open Go.RowKit
set_option linter.unusedVariables false
set_option maxRecDepth 100000
theorem own_byte5 (w : World) (r : Nat) : Row (w.alloc (.cells #[.int .u8 (r : Nat)] 5)) w.heap.size (.slice (some ⟨w.heap.size, 0, none⟩) 1 1) [r] := by
  refine ⟨by simp [cellsB], .inr ⟨w.heap.size, _, _, rfl, Nat.le_refl _, heap_alloc_new w _, Nat.le_refl _, by unfold maxLen; omega, by simp, by simp [cellsB]⟩⟩

set_option maxHeartbeats 1000000 in
theorem encL_num (n : Nat) (r : List Nat) (sb sk : Value) (p : Nat) (w : World) (hn : n < 18446744073709551616) (d0 : w.cell? ⟨p, 0, none⟩ = some (.int .i64 (1 : Nat))) :
    Calls Tryz.prog 10 #[.pointer (some ⟨p, 0, none⟩), .agg (valL n r sb sk).toArray] w fun x w' => ∃ v, x = .returned v ∧ Row w' w.heap.size v (le n 8) ∧ Below w.heap.size w w' := by
  go_enter Tryz.func10, Tryz.ntmps10
  go_wp2_with ((with_reducible refine at_list' ?_); first
    | (refine wpList_box_c rfl 3 rfl (.tmp 1) rfl (valL n r sb sk) rfl ?_; intro w1 H1 B1 S1; have hc0 := H1.cell (j := 0) (v := .int .u64 (n : Nat)) rfl; have d1 := cell_keep B1 d0))
  have HB := hid B1
  have s1 := S1
  clear H1 B1 S1 hc0 d1 d0
  refine (refput_le5 n 8 hn (by decide) w1).mono ?_
  rintro x w2 ⟨v, rfl, q1, q2⟩
  have X := hid (And.intro q1 q2)
  clear q1 q2
  go_wp2
  go_ret
  exact ⟨v, rfl, X.out.1.base (by omega), HB.out.trans (X.out.2.mono (by omega))⟩

set_option maxHeartbeats 1000000 in
theorem encL_truth (n : Nat) (r : List Nat) (sb sk : Value) (p : Nat) (w : World) (hn : n < 18446744073709551616) (d0 : w.cell? ⟨p, 0, none⟩ = some (.int .i64 (2 : Nat))) :
    Calls Tryz.prog 10 #[.pointer (some ⟨p, 0, none⟩), .agg (valL n r sb sk).toArray] w fun x w' => ∃ v, x = .returned v ∧ Row w' w.heap.size v ([n % 256]) ∧ Below w.heap.size w w' := by
  have hwr : IntKind.u8.wrap (n : Int) = ((n % 256 : Nat) : Int) := by rw [IntKind.wrap_u8]; omega
  go_enter Tryz.func10, Tryz.ntmps10
  go_wp2_with ((with_reducible refine at_list' ?_); first
    | (refine wpList_box_c rfl 3 rfl (.tmp 1) rfl (valL n r sb sk) rfl ?_; intro w1 H1 B1 S1; have hc0 := H1.cell (j := 0) (v := .int .u64 (n : Nat)) rfl; have d1 := cell_keep B1 d0))
  go_ret
  have hR := own_byte5 w1 (n % 256)
  rw [S1] at hR
  exact ⟨_, rfl, hR.base (by omega), B1.trans (((Below.refl _ w1).alloc (Nat.le_refl _) _).mono (by omega))⟩

set_option maxHeartbeats 1000000 in
theorem encL_root (n : Nat) (r : List Nat) (sb sk : Value) (p : Nat) (w : World) (hr : r.length = 32) (h8 : ∀ z ∈ r, z < 256) (d0 : w.cell? ⟨p, 0, none⟩ = some (.int .i64 (3 : Nat))) :
    Calls Tryz.prog 10 #[.pointer (some ⟨p, 0, none⟩), .agg (valL n r sb sk).toArray] w fun x w' => ∃ v, x = .returned v ∧ Row w' w.heap.size v (r) ∧ Below w.heap.size w w' := by
  have HR := hid hr
  have H8 := hid h8
  clear hr h8
  go_enter Tryz.func10, Tryz.ntmps10
  go_wp2_with ((with_reducible refine at_list' ?_); first
    | (refine wpList_box_c rfl 3 rfl (.tmp 1) rfl (valL n r sb sk) rfl ?_; intro w1 H1 B1 S1; have h1 := hid H1; have b1 := hid B1; have d1 := cell_keep B1 d0)
    | (refine wpList_append_b rfl (.tmp 24) (.tmp 26) 39 rfl (w.heap.size + 1) (.slice (some ⟨w.heap.size + 1, 0, none⟩) 0 0) [] rfl (row0 w1 S1) (.slice (some ⟨w.heap.size, 1, none⟩) 32 32) r rfl (by exact (srcRoot (o := .cells #[] 5) h1.out HR.out H8.out).src) (by rw [HR.out]; decide) (by simp; omega) ?_; intro v' w' r1 r2 r3))
  go_ret
  refine ⟨v', rfl, r1.base (by omega), ?_⟩
  have hb2 : Below w1.heap.size w1 (w1.alloc (.cells #[] 5)) := (Below.refl _ w1).alloc (Nat.le_refl _) _
  have hb := b1.out.trans (hb2.mono (by omega))
  exact ⟨r2.os.trans hb.os, r2.tape.trans hb.tape, r2.output.trans hb.output, Nat.le_trans hb.size r2.size, fun k hk => (r2.block k (Nat.lt_of_lt_of_le hk hb.size) (fun e => by simp [Value.ownBlock] at e; omega)).trans (hb.block k hk)⟩

set_option maxHeartbeats 1000000 in
theorem encL_bits6 (n : Nat) (r : List Nat) (sb sk : Value) (p : Nat) (w : World) (l : List Bool) (hr : r.length = 32) (hT : IsT w sb l) (hl : l.length ≤ 1099511627776) (d0 : w.cell? ⟨p, 0, none⟩ = some (.int .i64 (6 : Nat))) :
    Calls Tryz.prog 10 #[.pointer (some ⟨p, 0, none⟩), .agg (valL n r sb sk).toArray] w fun x w' => ∃ v, x = .returned v ∧ Row w' w.heap.size v (putB l false) ∧ Below w.heap.size w w' := by
  obtain ⟨aob, capb, hsb, _⟩ := id hT
  have HT := hid hT
  have HL := hid hl
  have HR := hid hr
  clear hT hl hr
  go_enter Tryz.func10, Tryz.ntmps10
  go_wp2_with ((with_reducible refine at_list' ?_); first
    | (refine wpList_box_c rfl 3 rfl (.tmp 1) rfl (valL n r sb sk) rfl ?_; intro w1 H1 B1 S1; have hc0 := H1.cell (valL_33 n r sb sk HR.out); rw [hsb] at hc0; have d1 := cell_keep B1 d0))
  have HB := hid B1
  have s1 := S1
  have HP := hid (rputBits_any sb l false w1 (HT.out.keep B1) HL.out)
  rw [hsb] at HP
  clear H1 B1 S1 hc0 d1 d0
  refine HP.out.mono ?_
  rintro x w2 ⟨v, rfl, q1, q2⟩
  have X := hid (And.intro q1 q2)
  clear q1 q2
  go_wp2
  go_ret
  exact ⟨v, rfl, X.out.1.base (by omega), HB.out.trans (X.out.2.mono (by omega))⟩

set_option maxHeartbeats 1000000 in
theorem encL_bits7 (n : Nat) (r : List Nat) (sb sk : Value) (p : Nat) (w : World) (l : List Bool) (hr : r.length = 32) (hT : IsT w sb l) (hl : l.length ≤ 1099511627776) (d0 : w.cell? ⟨p, 0, none⟩ = some (.int .i64 (7 : Nat))) :
    Calls Tryz.prog 10 #[.pointer (some ⟨p, 0, none⟩), .agg (valL n r sb sk).toArray] w fun x w' => ∃ v, x = .returned v ∧ Row w' w.heap.size v (putB l true) ∧ Below w.heap.size w w' := by
  obtain ⟨aob, capb, hsb, _⟩ := id hT
  have HT := hid hT
  have HL := hid hl
  have HR := hid hr
  clear hT hl hr
  go_enter Tryz.func10, Tryz.ntmps10
  go_wp2_with ((with_reducible refine at_list' ?_); first
    | (refine wpList_box_c rfl 3 rfl (.tmp 1) rfl (valL n r sb sk) rfl ?_; intro w1 H1 B1 S1; have hc0 := H1.cell (valL_33 n r sb sk HR.out); rw [hsb] at hc0; have d1 := cell_keep B1 d0))
  have HB := hid B1
  have s1 := S1
  have HP := hid (rputBits_any sb l true w1 (HT.out.keep B1) HL.out)
  rw [hsb] at HP
  clear H1 B1 S1 hc0 d1 d0
  refine HP.out.mono ?_
  rintro x w2 ⟨v, rfl, q1, q2⟩
  have X := hid (And.intro q1 q2)
  clear q1 q2
  go_wp2
  go_ret
  exact ⟨v, rfl, X.out.1.base (by omega), HB.out.trans (X.out.2.mono (by omega))⟩
end Go.Proofs.YtpaamhmighgjeaaGreat

