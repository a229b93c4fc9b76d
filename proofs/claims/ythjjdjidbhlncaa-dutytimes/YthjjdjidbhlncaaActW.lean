/- Who is active, and the document's. -/
import Derived.Test.YthjjdjidbhlncaaTm13
namespace Go.Proofs.Ythjjdjidbhlncaa
open Go.RowKit
set_option linter.unusedVariables false
set_option linter.unusedSimpArgs false
set_option maxRecDepth 100000

/-- Is one active in this epoch? -/
def actV (za zx ep : Nat) : Bool := decide (za ≤ ep) && decide (ep < zx)
set_option maxHeartbeats 4000000 in
theorem active_any (A : List Value) (za zx ep : Nat) (ha : A[67]? = some (.int .u64 (za : Nat))) (hx : A[68]? = some (.int .u64 (zx : Nat))) (w : World) :
    Calls Try.prog 11 #[.agg A.toArray, .int .u64 (ep : Nat)] w fun e w' => e = .returned (.bool (actV za zx ep)) ∧ Below w.heap.size w w' := by
  have hA := shut (And.intro ha hx)
  clear ha hx
  unfold actV
  go_enter Try.func11, Try.ntmps11
  go_wp2_with ((with_reducible refine at_list' ?_); first
    | (refine wpList_box_c rfl 2 rfl (.tmp 0) rfl A rfl ?_; intro w1 H1 B1 S1; have BB := shut B1; have hd1 := shut H1; clear H1 B1 S1)
    | (refine Shut.out ?_))
  cases hL : decide (za ≤ ep)
  · skip
    refine Shut.mk ?_
    refine wpList_wantV (by rfl) (.pointer (some ⟨w.heap.size, 67, none⟩)) (run_fieldAt 26 (.tmp 2) 5 rfl _ _ rfl (by kernel_rfl)) ?_
    simp only [Act.put, List.setIfInBounds_toArray, List.set_cons_succ, List.set_cons_zero]
    refine wpList_wantV (by rfl) (.int .u64 ((za : Nat) : Int)) (run_cell 22 (.tmp 5) rfl _ rfl _ ((hd1.out).cell (j := 67) hA.out.1) _ Try.underlying22 rfl) ?_
    simp only [Act.put, List.setIfInBounds_toArray, List.set_cons_succ, List.set_cons_zero]
    refine wpList_wantV (by rfl) (.int .u64 ((ep : Nat) : Int)) (run_moveV (.tmp 1) rfl _ rfl) ?_
    simp only [Act.put, List.setIfInBounds_toArray, List.set_cons_succ, List.set_cons_zero]
    refine wpList_wantV (by rfl) (.bool false) (run_leH (.tmp 6) (.tmp 7) rfl (za) (ep) false hL rfl rfl) ?_
    simp only [Act.put, List.setIfInBounds_toArray, List.set_cons_succ, List.set_cons_zero]
    refine wpList_wantV (by rfl) (.bool false) (run_moveV (.tmp 8) rfl _ rfl) ?_
    simp only [Act.put, List.setIfInBounds_toArray, List.set_cons_succ, List.set_cons_zero]
    refine wpList_skip (by rfl) ?_
    simp only [Act.put, List.setIfInBounds_toArray, List.set_cons_succ, List.set_cons_zero]
    refine wpList_skip (by rfl) ?_
    simp only [Act.put, List.setIfInBounds_toArray, List.set_cons_succ, List.set_cons_zero]
    refine wpList_skip (by rfl) ?_
    simp only [Act.put, List.setIfInBounds_toArray, List.set_cons_succ, List.set_cons_zero]
    refine wpList_skip (by rfl) ?_
    simp only [Act.put, List.setIfInBounds_toArray, List.set_cons_succ, List.set_cons_zero]
    refine wpList_wantV (by rfl) (.bool false) (run_pick0 (.tmp 9) (.tmp 13) (.const (.bool false)) rfl _ rfl rfl) ?_
    simp only [Act.put, List.setIfInBounds_toArray, List.set_cons_succ, List.set_cons_zero]
    go_wp2
    go_ret
    exact ⟨by simp [hL], BB.out⟩
  · skip
    cases hG : decide (ep < zx)
    · skip
      refine Shut.mk ?_
      refine wpList_wantV (by rfl) (.pointer (some ⟨w.heap.size, 67, none⟩)) (run_fieldAt 26 (.tmp 2) 5 rfl _ _ rfl (by kernel_rfl)) ?_
      simp only [Act.put, List.setIfInBounds_toArray, List.set_cons_succ, List.set_cons_zero]
      refine wpList_wantV (by rfl) (.int .u64 ((za : Nat) : Int)) (run_cell 22 (.tmp 5) rfl _ rfl _ ((hd1.out).cell (j := 67) hA.out.1) _ Try.underlying22 rfl) ?_
      simp only [Act.put, List.setIfInBounds_toArray, List.set_cons_succ, List.set_cons_zero]
      refine wpList_wantV (by rfl) (.int .u64 ((ep : Nat) : Int)) (run_moveV (.tmp 1) rfl _ rfl) ?_
      simp only [Act.put, List.setIfInBounds_toArray, List.set_cons_succ, List.set_cons_zero]
      refine wpList_wantV (by rfl) (.bool true) (run_leH (.tmp 6) (.tmp 7) rfl (za) (ep) true hL rfl rfl) ?_
      simp only [Act.put, List.setIfInBounds_toArray, List.set_cons_succ, List.set_cons_zero]
      refine wpList_wantV (by rfl) (.bool true) (run_moveV (.tmp 8) rfl _ rfl) ?_
      simp only [Act.put, List.setIfInBounds_toArray, List.set_cons_succ, List.set_cons_zero]
      refine wpList_wantV (by rfl) (.int .u64 ((ep : Nat) : Int)) (run_moveV (.tmp 1) rfl _ rfl) ?_
      simp only [Act.put, List.setIfInBounds_toArray, List.set_cons_succ, List.set_cons_zero]
      refine wpList_wantV (by rfl) (.pointer (some ⟨w.heap.size, 68, none⟩)) (run_fieldAt 26 (.tmp 2) 6 rfl _ _ rfl (by kernel_rfl)) ?_
      simp only [Act.put, List.setIfInBounds_toArray, List.set_cons_succ, List.set_cons_zero]
      refine wpList_wantV (by rfl) (.int .u64 ((zx : Nat) : Int)) (run_cell 22 (.tmp 11) rfl _ rfl _ ((hd1.out).cell (j := 68) hA.out.2) _ Try.underlying22 rfl) ?_
      simp only [Act.put, List.setIfInBounds_toArray, List.set_cons_succ, List.set_cons_zero]
      refine wpList_wantV (by rfl) (.bool false) (run_ltH (.tmp 10) (.tmp 12) rfl (ep) (zx) false hG rfl rfl) ?_
      simp only [Act.put, List.setIfInBounds_toArray, List.set_cons_succ, List.set_cons_zero]
      refine wpList_wantV (by rfl) (.bool false) (run_pick1 (.tmp 9) (.tmp 13) (.const (.bool false)) rfl _ rfl rfl) ?_
      simp only [Act.put, List.setIfInBounds_toArray, List.set_cons_succ, List.set_cons_zero]
      go_wp2
      go_ret
      exact ⟨by simp [hL, hG], BB.out⟩
    · skip
      refine Shut.mk ?_
      refine wpList_wantV (by rfl) (.pointer (some ⟨w.heap.size, 67, none⟩)) (run_fieldAt 26 (.tmp 2) 5 rfl _ _ rfl (by kernel_rfl)) ?_
      simp only [Act.put, List.setIfInBounds_toArray, List.set_cons_succ, List.set_cons_zero]
      refine wpList_wantV (by rfl) (.int .u64 ((za : Nat) : Int)) (run_cell 22 (.tmp 5) rfl _ rfl _ ((hd1.out).cell (j := 67) hA.out.1) _ Try.underlying22 rfl) ?_
      simp only [Act.put, List.setIfInBounds_toArray, List.set_cons_succ, List.set_cons_zero]
      refine wpList_wantV (by rfl) (.int .u64 ((ep : Nat) : Int)) (run_moveV (.tmp 1) rfl _ rfl) ?_
      simp only [Act.put, List.setIfInBounds_toArray, List.set_cons_succ, List.set_cons_zero]
      refine wpList_wantV (by rfl) (.bool true) (run_leH (.tmp 6) (.tmp 7) rfl (za) (ep) true hL rfl rfl) ?_
      simp only [Act.put, List.setIfInBounds_toArray, List.set_cons_succ, List.set_cons_zero]
      refine wpList_wantV (by rfl) (.bool true) (run_moveV (.tmp 8) rfl _ rfl) ?_
      simp only [Act.put, List.setIfInBounds_toArray, List.set_cons_succ, List.set_cons_zero]
      refine wpList_wantV (by rfl) (.int .u64 ((ep : Nat) : Int)) (run_moveV (.tmp 1) rfl _ rfl) ?_
      simp only [Act.put, List.setIfInBounds_toArray, List.set_cons_succ, List.set_cons_zero]
      refine wpList_wantV (by rfl) (.pointer (some ⟨w.heap.size, 68, none⟩)) (run_fieldAt 26 (.tmp 2) 6 rfl _ _ rfl (by kernel_rfl)) ?_
      simp only [Act.put, List.setIfInBounds_toArray, List.set_cons_succ, List.set_cons_zero]
      refine wpList_wantV (by rfl) (.int .u64 ((zx : Nat) : Int)) (run_cell 22 (.tmp 11) rfl _ rfl _ ((hd1.out).cell (j := 68) hA.out.2) _ Try.underlying22 rfl) ?_
      simp only [Act.put, List.setIfInBounds_toArray, List.set_cons_succ, List.set_cons_zero]
      refine wpList_wantV (by rfl) (.bool true) (run_ltH (.tmp 10) (.tmp 12) rfl (ep) (zx) true hG rfl rfl) ?_
      simp only [Act.put, List.setIfInBounds_toArray, List.set_cons_succ, List.set_cons_zero]
      refine wpList_wantV (by rfl) (.bool true) (run_pick1 (.tmp 9) (.tmp 13) (.const (.bool false)) rfl _ rfl rfl) ?_
      simp only [Act.put, List.setIfInBounds_toArray, List.set_cons_succ, List.set_cons_zero]
      go_wp2
      go_ret
      exact ⟨by simp [hL, hG], BB.out⟩
set_option maxHeartbeats 4000000 in
theorem ractive_any (A : List Value) (za zx ep : Nat) (ha : A[67]? = some (.int .u64 (za : Nat))) (hx : A[68]? = some (.int .u64 (zx : Nat))) (w : World) :
    Calls Try.prog 12 #[.agg A.toArray, .int .u64 (ep : Nat)] w fun e w' => e = .returned (.bool (actV za zx ep)) ∧ Below w.heap.size w w' := by
  have hA := shut (And.intro ha hx)
  clear ha hx
  unfold actV
  go_enter Try.func12, Try.ntmps12
  go_wp2_with ((with_reducible refine at_list' ?_); first
    | (refine wpList_box_c rfl 2 rfl (.tmp 0) rfl A rfl ?_; intro w1 H1 B1 S1; have BB := shut B1; have hd1 := shut H1; clear H1 B1 S1)
    | (refine Shut.out ?_))
  cases hL : decide (za ≤ ep)
  · skip
    refine Shut.mk ?_
    refine wpList_wantV (by rfl) (.pointer (some ⟨w.heap.size, 67, none⟩)) (run_fieldAt 26 (.tmp 2) 5 rfl _ _ rfl (by kernel_rfl)) ?_
    simp only [Act.put, List.setIfInBounds_toArray, List.set_cons_succ, List.set_cons_zero]
    refine wpList_wantV (by rfl) (.int .u64 ((za : Nat) : Int)) (run_cell 22 (.tmp 5) rfl _ rfl _ ((hd1.out).cell (j := 67) hA.out.1) _ Try.underlying22 rfl) ?_
    simp only [Act.put, List.setIfInBounds_toArray, List.set_cons_succ, List.set_cons_zero]
    refine wpList_wantV (by rfl) (.int .u64 ((ep : Nat) : Int)) (run_moveV (.tmp 1) rfl _ rfl) ?_
    simp only [Act.put, List.setIfInBounds_toArray, List.set_cons_succ, List.set_cons_zero]
    refine wpList_wantV (by rfl) (.bool false) (run_leH (.tmp 6) (.tmp 7) rfl (za) (ep) false hL rfl rfl) ?_
    simp only [Act.put, List.setIfInBounds_toArray, List.set_cons_succ, List.set_cons_zero]
    refine wpList_wantV (by rfl) (.bool false) (run_moveV (.tmp 8) rfl _ rfl) ?_
    simp only [Act.put, List.setIfInBounds_toArray, List.set_cons_succ, List.set_cons_zero]
    refine wpList_skip (by rfl) ?_
    simp only [Act.put, List.setIfInBounds_toArray, List.set_cons_succ, List.set_cons_zero]
    refine wpList_skip (by rfl) ?_
    simp only [Act.put, List.setIfInBounds_toArray, List.set_cons_succ, List.set_cons_zero]
    refine wpList_skip (by rfl) ?_
    simp only [Act.put, List.setIfInBounds_toArray, List.set_cons_succ, List.set_cons_zero]
    refine wpList_skip (by rfl) ?_
    simp only [Act.put, List.setIfInBounds_toArray, List.set_cons_succ, List.set_cons_zero]
    refine wpList_wantV (by rfl) (.bool false) (run_pick0 (.tmp 9) (.tmp 13) (.const (.bool false)) rfl _ rfl rfl) ?_
    simp only [Act.put, List.setIfInBounds_toArray, List.set_cons_succ, List.set_cons_zero]
    go_wp2
    go_ret
    exact ⟨by simp [hL], BB.out⟩
  · skip
    cases hG : decide (ep < zx)
    · skip
      refine Shut.mk ?_
      refine wpList_wantV (by rfl) (.pointer (some ⟨w.heap.size, 67, none⟩)) (run_fieldAt 26 (.tmp 2) 5 rfl _ _ rfl (by kernel_rfl)) ?_
      simp only [Act.put, List.setIfInBounds_toArray, List.set_cons_succ, List.set_cons_zero]
      refine wpList_wantV (by rfl) (.int .u64 ((za : Nat) : Int)) (run_cell 22 (.tmp 5) rfl _ rfl _ ((hd1.out).cell (j := 67) hA.out.1) _ Try.underlying22 rfl) ?_
      simp only [Act.put, List.setIfInBounds_toArray, List.set_cons_succ, List.set_cons_zero]
      refine wpList_wantV (by rfl) (.int .u64 ((ep : Nat) : Int)) (run_moveV (.tmp 1) rfl _ rfl) ?_
      simp only [Act.put, List.setIfInBounds_toArray, List.set_cons_succ, List.set_cons_zero]
      refine wpList_wantV (by rfl) (.bool true) (run_leH (.tmp 6) (.tmp 7) rfl (za) (ep) true hL rfl rfl) ?_
      simp only [Act.put, List.setIfInBounds_toArray, List.set_cons_succ, List.set_cons_zero]
      refine wpList_wantV (by rfl) (.bool true) (run_moveV (.tmp 8) rfl _ rfl) ?_
      simp only [Act.put, List.setIfInBounds_toArray, List.set_cons_succ, List.set_cons_zero]
      refine wpList_wantV (by rfl) (.pointer (some ⟨w.heap.size, 68, none⟩)) (run_fieldAt 26 (.tmp 2) 6 rfl _ _ rfl (by kernel_rfl)) ?_
      simp only [Act.put, List.setIfInBounds_toArray, List.set_cons_succ, List.set_cons_zero]
      refine wpList_wantV (by rfl) (.int .u64 ((zx : Nat) : Int)) (run_cell 22 (.tmp 10) rfl _ rfl _ ((hd1.out).cell (j := 68) hA.out.2) _ Try.underlying22 rfl) ?_
      simp only [Act.put, List.setIfInBounds_toArray, List.set_cons_succ, List.set_cons_zero]
      refine wpList_wantV (by rfl) (.int .u64 ((ep : Nat) : Int)) (run_moveV (.tmp 1) rfl _ rfl) ?_
      simp only [Act.put, List.setIfInBounds_toArray, List.set_cons_succ, List.set_cons_zero]
      refine wpList_wantV (by rfl) (.bool false) (run_gtH (.tmp 11) (.tmp 12) rfl (zx) (ep) false hG rfl rfl) ?_
      simp only [Act.put, List.setIfInBounds_toArray, List.set_cons_succ, List.set_cons_zero]
      refine wpList_wantV (by rfl) (.bool false) (run_pick1 (.tmp 9) (.tmp 13) (.const (.bool false)) rfl _ rfl rfl) ?_
      simp only [Act.put, List.setIfInBounds_toArray, List.set_cons_succ, List.set_cons_zero]
      go_wp2
      go_ret
      exact ⟨by simp [hL, hG], BB.out⟩
    · skip
      refine Shut.mk ?_
      refine wpList_wantV (by rfl) (.pointer (some ⟨w.heap.size, 67, none⟩)) (run_fieldAt 26 (.tmp 2) 5 rfl _ _ rfl (by kernel_rfl)) ?_
      simp only [Act.put, List.setIfInBounds_toArray, List.set_cons_succ, List.set_cons_zero]
      refine wpList_wantV (by rfl) (.int .u64 ((za : Nat) : Int)) (run_cell 22 (.tmp 5) rfl _ rfl _ ((hd1.out).cell (j := 67) hA.out.1) _ Try.underlying22 rfl) ?_
      simp only [Act.put, List.setIfInBounds_toArray, List.set_cons_succ, List.set_cons_zero]
      refine wpList_wantV (by rfl) (.int .u64 ((ep : Nat) : Int)) (run_moveV (.tmp 1) rfl _ rfl) ?_
      simp only [Act.put, List.setIfInBounds_toArray, List.set_cons_succ, List.set_cons_zero]
      refine wpList_wantV (by rfl) (.bool true) (run_leH (.tmp 6) (.tmp 7) rfl (za) (ep) true hL rfl rfl) ?_
      simp only [Act.put, List.setIfInBounds_toArray, List.set_cons_succ, List.set_cons_zero]
      refine wpList_wantV (by rfl) (.bool true) (run_moveV (.tmp 8) rfl _ rfl) ?_
      simp only [Act.put, List.setIfInBounds_toArray, List.set_cons_succ, List.set_cons_zero]
      refine wpList_wantV (by rfl) (.pointer (some ⟨w.heap.size, 68, none⟩)) (run_fieldAt 26 (.tmp 2) 6 rfl _ _ rfl (by kernel_rfl)) ?_
      simp only [Act.put, List.setIfInBounds_toArray, List.set_cons_succ, List.set_cons_zero]
      refine wpList_wantV (by rfl) (.int .u64 ((zx : Nat) : Int)) (run_cell 22 (.tmp 10) rfl _ rfl _ ((hd1.out).cell (j := 68) hA.out.2) _ Try.underlying22 rfl) ?_
      simp only [Act.put, List.setIfInBounds_toArray, List.set_cons_succ, List.set_cons_zero]
      refine wpList_wantV (by rfl) (.int .u64 ((ep : Nat) : Int)) (run_moveV (.tmp 1) rfl _ rfl) ?_
      simp only [Act.put, List.setIfInBounds_toArray, List.set_cons_succ, List.set_cons_zero]
      refine wpList_wantV (by rfl) (.bool true) (run_gtH (.tmp 11) (.tmp 12) rfl (zx) (ep) true hG rfl rfl) ?_
      simp only [Act.put, List.setIfInBounds_toArray, List.set_cons_succ, List.set_cons_zero]
      refine wpList_wantV (by rfl) (.bool true) (run_pick1 (.tmp 9) (.tmp 13) (.const (.bool false)) rfl _ rfl rfl) ?_
      simp only [Act.put, List.setIfInBounds_toArray, List.set_cons_succ, List.set_cons_zero]
      go_wp2
      go_ret
      exact ⟨by simp [hL, hG], BB.out⟩
end Go.Proofs.Ythjjdjidbhlncaa
