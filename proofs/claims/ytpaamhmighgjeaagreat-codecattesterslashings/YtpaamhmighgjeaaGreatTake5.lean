/- Checkpoints taken: takeCheckpoint. -/
import Derived.Test.YtpaamhmighgjeaaGreatFlowK
import Derived.Test.YtpaamhmighgjeaaGreatBuild5
import Derived.Test.YtpaamhmighgjeaaGreatPut5
namespace Go.Proofs.YtpaamhmighgjeaaGreat
open Go.RowKit Go.Shelf
set_option linter.unusedVariables false
set_option maxRecDepth 100000

theorem cpOut (e : Nat) (r : List Nat) : outC #[(0, Value.int .u64 (e : Nat)), (1, Value.agg (nums .u8 r))].toList = cpC e r := by
  show [Value.int .u64 (e : Nat)] ++ ((nums .u8 r).toList ++ []) = _
  rw [List.append_nil]; rfl
theorem cpBuild (e : Nat) (r : List Nat) (hr : r.length = 32) (w : World) : (Instr.build 27 #[(0, .int .u64 (e : Nat)), (1, .agg (nums .u8 r))]).run Tryz.prog w = .ok (.agg (cpC e r).toArray) w := by
  have h := build_all Tryz.ty27 _ Tryz.underlying27 #[(0, 1), (1, 32)] (fun w => by kernel_rfl) #[(0, .int .u64 (e : Nat)), (1, .agg (nums .u8 r))] ⟨rfl, by show _ = some (0 + 1, (nums .u8 r).size); rw [nums_size, hr]; rfl, trivial⟩ (by rw [cpOut, cpC_length e hr]; rfl) w
  rw [cpOut] at h
  exact h

/-- What takeCheckpoint takes, and how the Reader stands behind it. -/
def cpE (bs : List Nat) (size taken : Nat) (wrong : Bool) : Nat := tk (fixB bs size taken 8 wrong)
def cpR (bs : List Nat) (size taken : Nat) (wrong : Bool) : List Nat := fixB bs size (fixT size taken 8 wrong) 32 (fixW size taken 8 wrong)
def cpT (size taken : Nat) (wrong : Bool) : Nat := fixT size (fixT size taken 8 wrong) 32 (fixW size taken 8 wrong)
def cpW (size taken : Nat) (wrong : Bool) : Bool := fixW size (fixT size taken 8 wrong) 32 (fixW size taken 8 wrong)
set_option maxHeartbeats 1000000 in
theorem takeCp_any {g : Nat} {S : Nat → Prop} {bs : List Nat} {size taken : Nat} {ps : List Nat} {wrong : Bool} (w : World) (h : Rd w g S bs size taken ps wrong) (hs : size ≤ 4611686018427387904) (hl : bs.length ≤ 140737488355328) :
    Calls Tryz.prog 82 #[.pointer (some ⟨g, 0, none⟩)] w fun x w' => x = .returned (.agg (cpC (cpE bs size taken wrong) (cpR bs size taken wrong)).toArray) ∧ (cpR bs size taken wrong).length = 32 ∧ Rd w' g S bs size (cpT size taken wrong) ps (cpW size taken wrong) ∧ w.grownBy w' (some g) := by
  have hgl := h.gt
  have HR := hid h
  clear h
  go_enter Tryz.func82, Tryz.ntmps82
  go_wp2_with ((with_reducible refine at_list' ?_); first
    | (refine wpList_alloc_c Tryz.ty27 rfl 2 rfl rfl ?_; intro w1 H1 B1 S1))
  have hne : w.heap.size ≠ g := by omega
  have HN := hid (rnum_any w1 (HR.out.below B1) hs hl)
  have HB1 := hid B1
  have HH := hid H1
  have HS : Hid (∀ k, S k → k < w.heap.size) := hid HR.out.lt
  clear H1 B1 S1 HR
  refine HN.out.mono ?_
  rintro e w2 ⟨rfl, q1, q2⟩
  have HR1 := hid (rroot_any w2 q1 hs hl)
  have h32 : (cpR bs size taken wrong).length = 32 := fixB_length q1.ts q1.ok
  have H32 := hid h32
  have HH2 := hid (HH.out.grown q2 hne)
  have G2 := hid (grown_trans (grownBelow HB1.out) q2)
  clear q1 q2 h32 HH HB1 HN
  go_wp2_with fail
  refine HR1.out.mono ?_
  rintro e w3 ⟨rfl, q1, q2⟩
  have HH3 := hid (HH2.out.grown q2 hne)
  have G3 := hid (grown_trans G2.out q2)
  have X := hid q1
  have HBd := hid (cpBuild (cpE bs size taken wrong) (cpR bs size taken wrong) H32.out w3)
  clear q1 q2 HH2 G2 HR1
  go_wp2_with ((with_reducible refine at_list' ?_); first
    | (refine wpList_build_c rfl _ rfl #[(0, .int .u64 (cpE bs size taken wrong : Nat)), (1, .agg (nums .u8 (cpR bs size taken wrong)))] (by simp [Act.eval, cpE, cpR]) _ HBd.out ?_)
    | (refine wpList_store_c Tryz.ty27 rfl (.tmp 2) (.tmp 7) rfl w.heap.size (cpC (cpE bs size taken wrong) (cpR bs size taken wrong)) rfl rfl (by rw [cpC_length _ H32.out]; rfl) (cpC_one _ _) _ HH3.out rfl ?_; intro w9 H9 O9))
  refine bodyPost_ret (results_c1 Tryz.ty27 rfl _ w9 w.heap.size _ rfl H9 (by rw [cpC_length _ H32.out]; rfl)) rfl ?_
  have sz9 := O9.size
  have s8 := G3.out.size
  refine ⟨rfl, H32.out, X.out.keep (by omega) (fun k hk => O9.block k (by have := HS.out k hk; omega)) (O9.block g (by omega)), O9.os.trans G3.out.os, O9.tape.trans G3.out.tape, O9.output.trans G3.out.output, by omega, fun k hk hn => (O9.block k (by omega)).trans (G3.out.block k hk hn)⟩
end Go.Proofs.YtpaamhmighgjeaaGreat
