/- Votes taken: takeVote. -/
import Derived.Test.YtpaamhmighgjeaaGreatTake5
import Derived.Test.YtpaamhmighgjeaaGreatPutA
namespace Go.Proofs.YtpaamhmighgjeaaGreat
open Go.RowKit Go.Shelf
set_option linter.unusedVariables false
set_option maxRecDepth 100000

/-- How the Reader stands: taken so far, wrong. -/
abbrev Rs := Nat × Bool
def fixS (size n : Nat) (s : Rs) : Rs := (fixT size s.1 n s.2, fixW size s.1 n s.2)
def cpS (size : Nat) (s : Rs) : Rs := (cpT size s.1 s.2, cpW size s.1 s.2)
def numAt (bs : List Nat) (size : Nat) (s : Rs) : Nat := tk (fixB bs size s.1 8 s.2)
def rootAt (bs : List Nat) (size : Nat) (s : Rs) : List Nat := fixB bs size s.1 32 s.2
/-- The cells that takeVote takes, the state behind. -/
def vtTake (bs : List Nat) (size : Nat) (s : Rs) : List Value :=
  let s1 := fixS size 8 s
  let s2 := fixS size 8 s1
  let s3 := fixS size 32 s2
  let s4 := cpS size s3
  vtC (numAt bs size s) (numAt bs size s1) (rootAt bs size s2) (cpE bs size s3.1 s3.2) (cpR bs size s3.1 s3.2) (cpE bs size s4.1 s4.2) (cpR bs size s4.1 s4.2)
def vtS (size : Nat) (s : Rs) : Rs := cpS size (cpS size (fixS size 32 (fixS size 8 (fixS size 8 s))))

theorem vtOut (sl ix : Nat) (b : List Nat) (es : Nat) (rs : List Nat) (et : Nat) (rt : List Nat) : outC #[(0, Value.int .u64 (sl : Nat)), (1, Value.int .u64 (ix : Nat)), (2, Value.agg (nums .u8 b)), (3, Value.agg (cpC es rs).toArray), (4, Value.agg (cpC et rt).toArray)].toList = vtC sl ix b es rs et rt := rfl
theorem vtBuild (sl ix : Nat) (b : List Nat) (es : Nat) (rs : List Nat) (et : Nat) (rt : List Nat) (hb : b.length = 32) (hrs : rs.length = 32) (hrt : rt.length = 32) (w : World) : (Instr.build 29 #[(0, .int .u64 (sl : Nat)), (1, .int .u64 (ix : Nat)), (2, .agg (nums .u8 b)), (3, .agg (cpC es rs).toArray), (4, .agg (cpC et rt).toArray)]).run Tryz.prog w = .ok (.agg (vtC sl ix b es rs et rt).toArray) w := by
  have h := build_all Tryz.ty29 _ Tryz.underlying29 #[(0, 1), (1, 1), (2, 32), (34, 33), (67, 33)] (fun w => by kernel_rfl) #[(0, .int .u64 (sl : Nat)), (1, .int .u64 (ix : Nat)), (2, .agg (nums .u8 b)), (3, .agg (cpC es rs).toArray), (4, .agg (cpC et rt).toArray)]
    (by
      have e2 : (Value.agg (nums .u8 b)).cells.size = 32 := (nums_size _ _).trans hb
      have e3 : (Value.agg (cpC es rs).toArray).cells.size = 33 := cpC_length _ hrs
      have e4 : (Value.agg (cpC et rt).toArray).cells.size = 33 := cpC_length _ hrt
      refine ⟨rfl, rfl, ?_, ?_, ?_, trivial⟩ <;> (try rw [e4]) <;> (try rw [e3]) <;> rw [e2] <;> rfl) (by rw [vtOut, vtC_length hb hrs hrt]; rfl) w
  rw [vtOut] at h
  exact h

theorem vtC_one (sl ix : Nat) (b : List Nat) (es : Nat) (rs : List Nat) (et : Nat) (rt : List Nat) : (vtC sl ix b es rs et rt).toArray.all (·.oneCell') = true := by
  have h1 := cpC_one es rs
  have h2 := cpC_one et rt
  simp only [List.all_toArray, List.all_eq_true] at h1 h2 ⊢
  intro v hv
  unfold vtC at hv
  simp only [List.mem_append, List.mem_cons, List.not_mem_nil, or_false] at hv
  rcases hv with (rfl | rfl) | hv | hv | hv
  · rfl
  · rfl
  · exact cellsB_one b v hv
  · exact h1 v hv
  · exact h2 v hv

set_option maxHeartbeats 1000000 in
theorem takeVt_any {g : Nat} {S : Nat → Prop} {bs : List Nat} {size taken : Nat} {ps : List Nat} {wrong : Bool} (w : World) (h : Rd w g S bs size taken ps wrong) (hs : size ≤ 4611686018427387904) (hl : bs.length ≤ 140737488355328) :
    Calls Tryz.prog 33 #[.pointer (some ⟨g, 0, none⟩)] w fun x w' => x = .returned (.agg (vtTake bs size (taken, wrong)).toArray) ∧ (vtTake bs size (taken, wrong)).length = 100 ∧ Rd w' g S bs size (vtS size (taken, wrong)).1 ps (vtS size (taken, wrong)).2 ∧ w.grownBy w' (some g) := by
  have hgl := h.gt
  have HR := hid h
  clear h
  go_enter Tryz.func33, Tryz.ntmps33
  go_wp2_with ((with_reducible refine at_list' ?_); first
    | (refine wpList_alloc_c Tryz.ty29 rfl 2 rfl rfl ?_; intro w1 H1 B1 S1))
  have hne : w.heap.size ≠ g := by omega
  have HQ := hid (rnum_any w1 (HR.out.below B1) hs hl)
  have HH := hid H1
  have HS : Hid (∀ k, S k → k < w.heap.size) := hid HR.out.lt
  have G1 := hid (grownBelow (g := g) B1)
  clear H1 B1 S1 HR
  refine HQ.out.mono ?_
  rintro e w2 ⟨rfl, q1, q2⟩
  have HQ2 := hid (rnum_any w2 q1 hs hl)
  have HH2 := hid (HH.out.grown q2 hne)
  have G2 := hid (grown_trans G1.out q2)
  clear q1 q2 HH G1 HQ
  obtain ⟨SL, hSL⟩ : ∃ x, tk (fixB bs size taken 8 wrong) = x := ⟨_, rfl⟩
  rw [hSL]
  have HSL := hid hSL
  clear hSL
  go_wp2_with fail
  refine HQ2.out.mono ?_
  rintro e w3 ⟨rfl, q1, q2⟩
  have HQ3 := hid (rroot_any w3 q1 hs hl)
  have hb : (rootAt bs size (fixS size 8 (fixS size 8 (taken, wrong)))).length = 32 := fixB_length q1.ts q1.ok
  have HH3 := hid (HH2.out.grown q2 hne)
  have G3 := hid (grown_trans G2.out q2)
  clear q1 q2 HH2 G2 HQ2
  obtain ⟨IX, hIX⟩ : ∃ x, tk (fixB bs size (fixT size taken 8 wrong) 8 (fixW size taken 8 wrong)) = x := ⟨_, rfl⟩
  rw [hIX]
  have HIX := hid hIX
  clear hIX
  have HBL := hid hb
  clear hb
  go_wp2_with fail
  refine HQ3.out.mono ?_
  rintro e w4 ⟨rfl, q1, q2⟩
  have HQ4 := hid (takeCp_any w4 q1 hs hl)
  have HH4 := hid (HH3.out.grown q2 hne)
  have G4 := hid (grown_trans G3.out q2)
  clear q1 q2 HH3 G3 HQ3
  obtain ⟨BK, hBK⟩ : ∃ x, rootAt bs size (fixS size 8 (fixS size 8 (taken, wrong))) = x := ⟨_, rfl⟩
  have hBK' : fixB bs size (fixT size (fixT size taken 8 wrong) 8 (fixW size taken 8 wrong)) 32 (fixW size (fixT size taken 8 wrong) 8 (fixW size taken 8 wrong)) = BK := hBK
  rw [hBK']
  rw [hBK] at HBL
  have HBK := hid hBK
  clear hBK hBK'
  go_wp2_with fail
  refine HQ4.out.mono ?_
  rintro e w5 ⟨rfl, hr5, q1, q2⟩
  have HQ5 := hid (takeCp_any w5 q1 hs hl)
  have HH5 := hid (HH4.out.grown q2 hne)
  have G5 := hid (grown_trans G4.out q2)
  clear q1 q2 HH4 G4 HQ4
  have HR5 := hid hr5
  clear hr5
  go_wp2_with fail
  refine HQ5.out.mono ?_
  rintro e w6 ⟨rfl, hr6, q1, q2⟩
  have HH6 := hid (HH5.out.grown q2 hne)
  have G6 := hid (grown_trans G5.out q2)
  have X := hid q1
  have HR6 := hid hr6
  clear q1 q2 HH5 G5 HQ5 hr6
  have HBd := hid (vtBuild SL IX BK (cpE bs size (fixS size 32 (fixS size 8 (fixS size 8 (taken, wrong)))).1 (fixS size 32 (fixS size 8 (fixS size 8 (taken, wrong)))).2) (cpR bs size (fixS size 32 (fixS size 8 (fixS size 8 (taken, wrong)))).1 (fixS size 32 (fixS size 8 (fixS size 8 (taken, wrong)))).2) (cpE bs size (cpS size (fixS size 32 (fixS size 8 (fixS size 8 (taken, wrong))))).1 (cpS size (fixS size 32 (fixS size 8 (fixS size 8 (taken, wrong))))).2) (cpR bs size (cpS size (fixS size 32 (fixS size 8 (fixS size 8 (taken, wrong))))).1 (cpS size (fixS size 32 (fixS size 8 (fixS size 8 (taken, wrong))))).2) HBL.out HR5.out HR6.out w6)
  have HL : Hid ((vtC SL IX BK (cpE bs size (fixS size 32 (fixS size 8 (fixS size 8 (taken, wrong)))).1 (fixS size 32 (fixS size 8 (fixS size 8 (taken, wrong)))).2) (cpR bs size (fixS size 32 (fixS size 8 (fixS size 8 (taken, wrong)))).1 (fixS size 32 (fixS size 8 (fixS size 8 (taken, wrong)))).2) (cpE bs size (cpS size (fixS size 32 (fixS size 8 (fixS size 8 (taken, wrong))))).1 (cpS size (fixS size 32 (fixS size 8 (fixS size 8 (taken, wrong))))).2) (cpR bs size (cpS size (fixS size 32 (fixS size 8 (fixS size 8 (taken, wrong))))).1 (cpS size (fixS size 32 (fixS size 8 (fixS size 8 (taken, wrong))))).2)).length = 100) := hid (vtC_length HBL.out HR5.out HR6.out)
  have HV : Hid (vtTake bs size (taken, wrong) = vtC SL IX BK (cpE bs size (fixS size 32 (fixS size 8 (fixS size 8 (taken, wrong)))).1 (fixS size 32 (fixS size 8 (fixS size 8 (taken, wrong)))).2) (cpR bs size (fixS size 32 (fixS size 8 (fixS size 8 (taken, wrong)))).1 (fixS size 32 (fixS size 8 (fixS size 8 (taken, wrong)))).2) (cpE bs size (cpS size (fixS size 32 (fixS size 8 (fixS size 8 (taken, wrong))))).1 (cpS size (fixS size 32 (fixS size 8 (fixS size 8 (taken, wrong))))).2) (cpR bs size (cpS size (fixS size 32 (fixS size 8 (fixS size 8 (taken, wrong))))).1 (cpS size (fixS size 32 (fixS size 8 (fixS size 8 (taken, wrong))))).2)) := hid (by rw [← HSL.out, ← HIX.out, ← HBK.out]; rfl)
  obtain ⟨C, hC⟩ : ∃ C, vtC SL IX BK (cpE bs size (fixS size 32 (fixS size 8 (fixS size 8 (taken, wrong)))).1 (fixS size 32 (fixS size 8 (fixS size 8 (taken, wrong)))).2) (cpR bs size (fixS size 32 (fixS size 8 (fixS size 8 (taken, wrong)))).1 (fixS size 32 (fixS size 8 (fixS size 8 (taken, wrong)))).2) (cpE bs size (cpS size (fixS size 32 (fixS size 8 (fixS size 8 (taken, wrong))))).1 (cpS size (fixS size 32 (fixS size 8 (fixS size 8 (taken, wrong))))).2) (cpR bs size (cpS size (fixS size 32 (fixS size 8 (fixS size 8 (taken, wrong))))).1 (cpS size (fixS size 32 (fixS size 8 (fixS size 8 (taken, wrong))))).2) = C := ⟨_, rfl⟩
  have HO : Hid (C.toArray.all (·.oneCell') = true) := hid (by rw [← hC]; exact vtC_one _ _ _ _ _ _ _)
  rw [hC] at HBd HL HV
  clear hC
  go_wp2_with ((with_reducible refine at_list' ?_); first
    | (refine wpList_build_c rfl _ rfl #[(0, .int .u64 (SL : Nat)), (1, .int .u64 (IX : Nat)), (2, .agg (nums .u8 BK)), (3, .agg (cpC (cpE bs size (fixS size 32 (fixS size 8 (fixS size 8 (taken, wrong)))).1 (fixS size 32 (fixS size 8 (fixS size 8 (taken, wrong)))).2) (cpR bs size (fixS size 32 (fixS size 8 (fixS size 8 (taken, wrong)))).1 (fixS size 32 (fixS size 8 (fixS size 8 (taken, wrong)))).2)).toArray), (4, .agg (cpC (cpE bs size (cpS size (fixS size 32 (fixS size 8 (fixS size 8 (taken, wrong))))).1 (cpS size (fixS size 32 (fixS size 8 (fixS size 8 (taken, wrong))))).2) (cpR bs size (cpS size (fixS size 32 (fixS size 8 (fixS size 8 (taken, wrong))))).1 (cpS size (fixS size 32 (fixS size 8 (fixS size 8 (taken, wrong))))).2)).toArray)] (by simp only [Act.eval, List.map_toArray, List.map_cons, List.map_nil]; rfl) _ HBd.out ?_)
    | (refine wpList_store_c Tryz.ty29 rfl (.tmp 2) (.tmp 13) rfl w.heap.size C rfl rfl (by rw [HL.out]; rfl) HO.out _ HH6.out rfl ?_; intro w9 H9 O9))
  refine bodyPost_ret (results_c1 Tryz.ty29 rfl _ w9 w.heap.size _ rfl H9 (by rw [HL.out]; rfl)) rfl ?_
  have sz9 := O9.size
  have s8 := G6.out.size
  rw [HV.out]
  refine ⟨rfl, HL.out, X.out.keep (by omega) (fun k hk => O9.block k (by have := HS.out k hk; omega)) (O9.block g (by omega)), O9.os.trans G6.out.os, O9.tape.trans G6.out.tape, O9.output.trans G6.out.output, by omega, fun k hk hn => (O9.block k (by omega)).trans (G6.out.block k hk hn)⟩
end Go.Proofs.YtpaamhmighgjeaaGreat
