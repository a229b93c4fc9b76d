/- The document's Slashable. -/
import Derived.Test.YthjjdjidbhlncaaSlash
namespace Go.Proofs.Ythjjdjidbhlncaa
open Go.RowKit
set_option linter.unusedVariables false
set_option linter.unusedSimpArgs false
set_option maxRecDepth 100000

set_option maxHeartbeats 4000000 in
theorem rslashable_any (sl ix : Nat) (b : List Nat) (es : Nat) (rs : List Nat) (et : Nat) (rt : List Nat) (sl' ix' : Nat) (b' : List Nat) (es' : Nat) (rs' : List Nat) (et' : Nat) (rt' : List Nat) (hb : Rq b) (hs : Rq rs) (ht : Rq rt) (hb' : Rq b') (hs' : Rq rs') (ht' : Rq rt') (w : World) :
    Calls Try.prog 14 #[.agg (vtX sl ix b es rs et rt).toArray, .agg (vtX sl' ix' b' es' rs' et' rt').toArray] w fun e w' => e = .returned (.bool (slV sl ix b es rs et rt sl' ix' b' es' rs' et' rt')) ∧ Below w.heap.size w w' := by
  have hlA := shut (vt_lz sl ix b es rs et rt hb hs ht)
  have hlB := shut (vt_lz sl' ix' b' es' rs' et' rt' hb' hs' ht')
  have hA := shut (vt_at sl ix b es rs et rt hb hs)
  have hB := shut (vt_at sl' ix' b' es' rs' et' rt' hb' hs')
  have hN : Shut (∀ (o : Oper) (a : Act) (w : World) (x y : Operand), o.op = .binOp .neq 50 x y 50 → a.eval x = .agg (vtX sl ix b es rs et rt).toArray → a.eval y = .agg (vtX sl' ix' b' es' rs' et' rt').toArray → (execOp a.eval o).run Try.prog w = .ok (.value (.bool (!eqVt sl ix b es rs et rt sl' ix' b' es' rs' et' rt'))) w) :=
    shut fun o a w x y ho hx hy => run_neV x y ho sl ix b es rs et rt sl' ix' b' es' rs' et' rt' hb hs ht hb' hs' ht' hx hy
  obtain ⟨A, hAe⟩ : ∃ A, vtX sl ix b es rs et rt = A := ⟨_, rfl⟩
  obtain ⟨B, hBe⟩ : ∃ B, vtX sl' ix' b' es' rs' et' rt' = B := ⟨_, rfl⟩
  unfold slV
  obtain ⟨E, hE⟩ : ∃ E, eqVt sl ix b es rs et rt sl' ix' b' es' rs' et' rt' = E := ⟨_, rfl⟩
  rw [hE] at hN ⊢
  rw [hAe] at hlA hA hN ⊢
  rw [hBe] at hlB hB hN ⊢
  clear hAe hBe hE hb hs ht hb' hs' ht'
  go_enter Try.func14, Try.ntmps14
  go_wp2_with ((with_reducible refine at_list' ?_); first
    | (refine wpList_box_c rfl 2 rfl (.tmp 0) rfl A rfl ?_; intro w1 H1 B1 S1)
    | (refine wpList_box_c rfl 3 rfl (.tmp 1) rfl B rfl ?_; intro w2 H2 B2 S2; have X1 := H1.keep B2; have BB := shut (below_more B1 B2 (Nat.le_refl _)); have hd1 := shut X1; have hd2 := shut H2; clear H1 B1 B2 X1 H2 S1 S2)
    | (refine Shut.out ?_))
  cases E
  · skip
    cases hT : decide (et = et')
    · skip
      refine Shut.mk ?_
      refine wpList_wantV (by rfl) (.agg (A).toArray) (run_mid 50 (.tmp 2) rfl w.heap.size 0 rfl (A) ((hd1.out).range 0 _ (fun j v hv => by rw [Nat.zero_add]; exact hv)) _ Try.underlying50 rfl (by rw [hlA.out]; exact Try.tyVote.size)) ?_
      simp only [Act.put, List.setIfInBounds_toArray, List.set_cons_succ, List.set_cons_zero]
      refine wpList_wantV (by rfl) (.agg (B).toArray) (run_mid 50 (.tmp 3) rfl w1.heap.size 0 rfl (B) ((hd2.out).range 0 _ (fun j v hv => by rw [Nat.zero_add]; exact hv)) _ Try.underlying50 rfl (by rw [hlB.out]; exact Try.tyVote.size)) ?_
      simp only [Act.put, List.setIfInBounds_toArray, List.set_cons_succ, List.set_cons_zero]
      refine wpList_wantV (by rfl) (.bool true) (hN.out _ _ _ (.tmp 5) (.tmp 6) rfl rfl rfl) ?_
      simp only [Act.put, List.setIfInBounds_toArray, List.set_cons_succ, List.set_cons_zero]
      refine wpList_wantV (by rfl) (.bool true) (run_moveV (.tmp 7) rfl _ rfl) ?_
      simp only [Act.put, List.setIfInBounds_toArray, List.set_cons_succ, List.set_cons_zero]
      refine wpList_wantV (by rfl) (.pointer (some ⟨w.heap.size, 67, none⟩)) (run_fieldAt 50 (.tmp 2) 4 rfl _ _ rfl (by kernel_rfl)) ?_
      simp only [Act.put, List.setIfInBounds_toArray, List.set_cons_succ, List.set_cons_zero]
      refine wpList_wantV (by rfl) (.pointer (some ⟨w.heap.size, 67, none⟩)) (run_fieldAt 41 (.tmp 9) 0 rfl _ _ rfl (by kernel_rfl)) ?_
      simp only [Act.put, List.setIfInBounds_toArray, List.set_cons_succ, List.set_cons_zero]
      refine wpList_wantV (by rfl) (.int .u64 ((et : Nat) : Int)) (run_cell 22 (.tmp 10) rfl _ rfl _ ((hd1.out).cell (j := 67) hA.out.2) _ Try.underlying22 rfl) ?_
      simp only [Act.put, List.setIfInBounds_toArray, List.set_cons_succ, List.set_cons_zero]
      refine wpList_wantV (by rfl) (.pointer (some ⟨w1.heap.size, 67, none⟩)) (run_fieldAt 50 (.tmp 3) 4 rfl _ _ rfl (by kernel_rfl)) ?_
      simp only [Act.put, List.setIfInBounds_toArray, List.set_cons_succ, List.set_cons_zero]
      refine wpList_wantV (by rfl) (.pointer (some ⟨w1.heap.size, 67, none⟩)) (run_fieldAt 41 (.tmp 12) 0 rfl _ _ rfl (by kernel_rfl)) ?_
      simp only [Act.put, List.setIfInBounds_toArray, List.set_cons_succ, List.set_cons_zero]
      refine wpList_wantV (by rfl) (.int .u64 ((et' : Nat) : Int)) (run_cell 22 (.tmp 13) rfl _ rfl _ ((hd2.out).cell (j := 67) hB.out.2) _ Try.underlying22 rfl) ?_
      simp only [Act.put, List.setIfInBounds_toArray, List.set_cons_succ, List.set_cons_zero]
      refine wpList_wantV (by rfl) (.bool false) (run_eqH (.tmp 11) (.tmp 14) rfl (et) (et') false hT rfl rfl) ?_
      simp only [Act.put, List.setIfInBounds_toArray, List.set_cons_succ, List.set_cons_zero]
      refine wpList_wantV (by rfl) (.bool false) (run_pick1 (.tmp 8) (.tmp 15) (.const (.bool false)) rfl _ rfl rfl) ?_
      simp only [Act.put, List.setIfInBounds_toArray, List.set_cons_succ, List.set_cons_zero]
      go_wp2_with ((with_reducible refine at_list' ?_); refine Shut.out ?_)
      cases hS : decide (es < es')
      · skip
        refine Shut.mk ?_
        refine wpList_wantV (by rfl) (.pointer (some ⟨w.heap.size, 34, none⟩)) (run_fieldAt 50 (.tmp 2) 3 rfl _ _ rfl (by kernel_rfl)) ?_
        simp only [Act.put, List.setIfInBounds_toArray, List.set_cons_succ, List.set_cons_zero]
        refine wpList_wantV (by rfl) (.pointer (some ⟨w.heap.size, 34, none⟩)) (run_fieldAt 41 (.tmp 17) 0 rfl _ _ rfl (by kernel_rfl)) ?_
        simp only [Act.put, List.setIfInBounds_toArray, List.set_cons_succ, List.set_cons_zero]
        refine wpList_wantV (by rfl) (.int .u64 ((es : Nat) : Int)) (run_cell 22 (.tmp 18) rfl _ rfl _ ((hd1.out).cell (j := 34) hA.out.1) _ Try.underlying22 rfl) ?_
        simp only [Act.put, List.setIfInBounds_toArray, List.set_cons_succ, List.set_cons_zero]
        refine wpList_wantV (by rfl) (.pointer (some ⟨w1.heap.size, 34, none⟩)) (run_fieldAt 50 (.tmp 3) 3 rfl _ _ rfl (by kernel_rfl)) ?_
        simp only [Act.put, List.setIfInBounds_toArray, List.set_cons_succ, List.set_cons_zero]
        refine wpList_wantV (by rfl) (.pointer (some ⟨w1.heap.size, 34, none⟩)) (run_fieldAt 41 (.tmp 20) 0 rfl _ _ rfl (by kernel_rfl)) ?_
        simp only [Act.put, List.setIfInBounds_toArray, List.set_cons_succ, List.set_cons_zero]
        refine wpList_wantV (by rfl) (.int .u64 ((es' : Nat) : Int)) (run_cell 22 (.tmp 21) rfl _ rfl _ ((hd2.out).cell (j := 34) hB.out.1) _ Try.underlying22 rfl) ?_
        simp only [Act.put, List.setIfInBounds_toArray, List.set_cons_succ, List.set_cons_zero]
        refine wpList_wantV (by rfl) (.bool false) (run_ltH (.tmp 19) (.tmp 22) rfl (es) (es') false hS rfl rfl) ?_
        simp only [Act.put, List.setIfInBounds_toArray, List.set_cons_succ, List.set_cons_zero]
        refine wpList_wantV (by rfl) (.bool false) (run_moveV (.tmp 23) rfl _ rfl) ?_
        simp only [Act.put, List.setIfInBounds_toArray, List.set_cons_succ, List.set_cons_zero]
        refine wpList_skip (by rfl) ?_
        simp only [Act.put, List.setIfInBounds_toArray, List.set_cons_succ, List.set_cons_zero]
        refine wpList_skip (by rfl) ?_
        simp only [Act.put, List.setIfInBounds_toArray, List.set_cons_succ, List.set_cons_zero]
        refine wpList_skip (by rfl) ?_
        simp only [Act.put, List.setIfInBounds_toArray, List.set_cons_succ, List.set_cons_zero]
        refine wpList_skip (by rfl) ?_
        simp only [Act.put, List.setIfInBounds_toArray, List.set_cons_succ, List.set_cons_zero]
        refine wpList_skip (by rfl) ?_
        simp only [Act.put, List.setIfInBounds_toArray, List.set_cons_succ, List.set_cons_zero]
        refine wpList_skip (by rfl) ?_
        simp only [Act.put, List.setIfInBounds_toArray, List.set_cons_succ, List.set_cons_zero]
        refine wpList_skip (by rfl) ?_
        simp only [Act.put, List.setIfInBounds_toArray, List.set_cons_succ, List.set_cons_zero]
        refine wpList_wantV (by rfl) (.bool false) (run_pick0 (.tmp 24) (.tmp 31) (.const (.bool false)) rfl _ rfl rfl) ?_
        simp only [Act.put, List.setIfInBounds_toArray, List.set_cons_succ, List.set_cons_zero]
        go_wp2
        go_ret
        exact ⟨by simp [hT, hS], BB.out⟩
      · skip
        cases hG : decide (et' < et)
        · skip
          refine Shut.mk ?_
          refine wpList_wantV (by rfl) (.pointer (some ⟨w.heap.size, 34, none⟩)) (run_fieldAt 50 (.tmp 2) 3 rfl _ _ rfl (by kernel_rfl)) ?_
          simp only [Act.put, List.setIfInBounds_toArray, List.set_cons_succ, List.set_cons_zero]
          refine wpList_wantV (by rfl) (.pointer (some ⟨w.heap.size, 34, none⟩)) (run_fieldAt 41 (.tmp 17) 0 rfl _ _ rfl (by kernel_rfl)) ?_
          simp only [Act.put, List.setIfInBounds_toArray, List.set_cons_succ, List.set_cons_zero]
          refine wpList_wantV (by rfl) (.int .u64 ((es : Nat) : Int)) (run_cell 22 (.tmp 18) rfl _ rfl _ ((hd1.out).cell (j := 34) hA.out.1) _ Try.underlying22 rfl) ?_
          simp only [Act.put, List.setIfInBounds_toArray, List.set_cons_succ, List.set_cons_zero]
          refine wpList_wantV (by rfl) (.pointer (some ⟨w1.heap.size, 34, none⟩)) (run_fieldAt 50 (.tmp 3) 3 rfl _ _ rfl (by kernel_rfl)) ?_
          simp only [Act.put, List.setIfInBounds_toArray, List.set_cons_succ, List.set_cons_zero]
          refine wpList_wantV (by rfl) (.pointer (some ⟨w1.heap.size, 34, none⟩)) (run_fieldAt 41 (.tmp 20) 0 rfl _ _ rfl (by kernel_rfl)) ?_
          simp only [Act.put, List.setIfInBounds_toArray, List.set_cons_succ, List.set_cons_zero]
          refine wpList_wantV (by rfl) (.int .u64 ((es' : Nat) : Int)) (run_cell 22 (.tmp 21) rfl _ rfl _ ((hd2.out).cell (j := 34) hB.out.1) _ Try.underlying22 rfl) ?_
          simp only [Act.put, List.setIfInBounds_toArray, List.set_cons_succ, List.set_cons_zero]
          refine wpList_wantV (by rfl) (.bool true) (run_ltH (.tmp 19) (.tmp 22) rfl (es) (es') true hS rfl rfl) ?_
          simp only [Act.put, List.setIfInBounds_toArray, List.set_cons_succ, List.set_cons_zero]
          refine wpList_wantV (by rfl) (.bool true) (run_moveV (.tmp 23) rfl _ rfl) ?_
          simp only [Act.put, List.setIfInBounds_toArray, List.set_cons_succ, List.set_cons_zero]
          refine wpList_wantV (by rfl) (.pointer (some ⟨w.heap.size, 67, none⟩)) (run_fieldAt 50 (.tmp 2) 4 rfl _ _ rfl (by kernel_rfl)) ?_
          simp only [Act.put, List.setIfInBounds_toArray, List.set_cons_succ, List.set_cons_zero]
          refine wpList_wantV (by rfl) (.pointer (some ⟨w.heap.size, 67, none⟩)) (run_fieldAt 41 (.tmp 25) 0 rfl _ _ rfl (by kernel_rfl)) ?_
          simp only [Act.put, List.setIfInBounds_toArray, List.set_cons_succ, List.set_cons_zero]
          refine wpList_wantV (by rfl) (.int .u64 ((et : Nat) : Int)) (run_cell 22 (.tmp 26) rfl _ rfl _ ((hd1.out).cell (j := 67) hA.out.2) _ Try.underlying22 rfl) ?_
          simp only [Act.put, List.setIfInBounds_toArray, List.set_cons_succ, List.set_cons_zero]
          refine wpList_wantV (by rfl) (.pointer (some ⟨w1.heap.size, 67, none⟩)) (run_fieldAt 50 (.tmp 3) 4 rfl _ _ rfl (by kernel_rfl)) ?_
          simp only [Act.put, List.setIfInBounds_toArray, List.set_cons_succ, List.set_cons_zero]
          refine wpList_wantV (by rfl) (.pointer (some ⟨w1.heap.size, 67, none⟩)) (run_fieldAt 41 (.tmp 28) 0 rfl _ _ rfl (by kernel_rfl)) ?_
          simp only [Act.put, List.setIfInBounds_toArray, List.set_cons_succ, List.set_cons_zero]
          refine wpList_wantV (by rfl) (.int .u64 ((et' : Nat) : Int)) (run_cell 22 (.tmp 29) rfl _ rfl _ ((hd2.out).cell (j := 67) hB.out.2) _ Try.underlying22 rfl) ?_
          simp only [Act.put, List.setIfInBounds_toArray, List.set_cons_succ, List.set_cons_zero]
          refine wpList_wantV (by rfl) (.bool false) (run_gtH (.tmp 27) (.tmp 30) rfl (et) (et') false hG rfl rfl) ?_
          simp only [Act.put, List.setIfInBounds_toArray, List.set_cons_succ, List.set_cons_zero]
          refine wpList_wantV (by rfl) (.bool false) (run_pick1 (.tmp 24) (.tmp 31) (.const (.bool false)) rfl _ rfl rfl) ?_
          simp only [Act.put, List.setIfInBounds_toArray, List.set_cons_succ, List.set_cons_zero]
          go_wp2
          go_ret
          exact ⟨by simp [hT, hS, hG], BB.out⟩
        · skip
          refine Shut.mk ?_
          refine wpList_wantV (by rfl) (.pointer (some ⟨w.heap.size, 34, none⟩)) (run_fieldAt 50 (.tmp 2) 3 rfl _ _ rfl (by kernel_rfl)) ?_
          simp only [Act.put, List.setIfInBounds_toArray, List.set_cons_succ, List.set_cons_zero]
          refine wpList_wantV (by rfl) (.pointer (some ⟨w.heap.size, 34, none⟩)) (run_fieldAt 41 (.tmp 17) 0 rfl _ _ rfl (by kernel_rfl)) ?_
          simp only [Act.put, List.setIfInBounds_toArray, List.set_cons_succ, List.set_cons_zero]
          refine wpList_wantV (by rfl) (.int .u64 ((es : Nat) : Int)) (run_cell 22 (.tmp 18) rfl _ rfl _ ((hd1.out).cell (j := 34) hA.out.1) _ Try.underlying22 rfl) ?_
          simp only [Act.put, List.setIfInBounds_toArray, List.set_cons_succ, List.set_cons_zero]
          refine wpList_wantV (by rfl) (.pointer (some ⟨w1.heap.size, 34, none⟩)) (run_fieldAt 50 (.tmp 3) 3 rfl _ _ rfl (by kernel_rfl)) ?_
          simp only [Act.put, List.setIfInBounds_toArray, List.set_cons_succ, List.set_cons_zero]
          refine wpList_wantV (by rfl) (.pointer (some ⟨w1.heap.size, 34, none⟩)) (run_fieldAt 41 (.tmp 20) 0 rfl _ _ rfl (by kernel_rfl)) ?_
          simp only [Act.put, List.setIfInBounds_toArray, List.set_cons_succ, List.set_cons_zero]
          refine wpList_wantV (by rfl) (.int .u64 ((es' : Nat) : Int)) (run_cell 22 (.tmp 21) rfl _ rfl _ ((hd2.out).cell (j := 34) hB.out.1) _ Try.underlying22 rfl) ?_
          simp only [Act.put, List.setIfInBounds_toArray, List.set_cons_succ, List.set_cons_zero]
          refine wpList_wantV (by rfl) (.bool true) (run_ltH (.tmp 19) (.tmp 22) rfl (es) (es') true hS rfl rfl) ?_
          simp only [Act.put, List.setIfInBounds_toArray, List.set_cons_succ, List.set_cons_zero]
          refine wpList_wantV (by rfl) (.bool true) (run_moveV (.tmp 23) rfl _ rfl) ?_
          simp only [Act.put, List.setIfInBounds_toArray, List.set_cons_succ, List.set_cons_zero]
          refine wpList_wantV (by rfl) (.pointer (some ⟨w.heap.size, 67, none⟩)) (run_fieldAt 50 (.tmp 2) 4 rfl _ _ rfl (by kernel_rfl)) ?_
          simp only [Act.put, List.setIfInBounds_toArray, List.set_cons_succ, List.set_cons_zero]
          refine wpList_wantV (by rfl) (.pointer (some ⟨w.heap.size, 67, none⟩)) (run_fieldAt 41 (.tmp 25) 0 rfl _ _ rfl (by kernel_rfl)) ?_
          simp only [Act.put, List.setIfInBounds_toArray, List.set_cons_succ, List.set_cons_zero]
          refine wpList_wantV (by rfl) (.int .u64 ((et : Nat) : Int)) (run_cell 22 (.tmp 26) rfl _ rfl _ ((hd1.out).cell (j := 67) hA.out.2) _ Try.underlying22 rfl) ?_
          simp only [Act.put, List.setIfInBounds_toArray, List.set_cons_succ, List.set_cons_zero]
          refine wpList_wantV (by rfl) (.pointer (some ⟨w1.heap.size, 67, none⟩)) (run_fieldAt 50 (.tmp 3) 4 rfl _ _ rfl (by kernel_rfl)) ?_
          simp only [Act.put, List.setIfInBounds_toArray, List.set_cons_succ, List.set_cons_zero]
          refine wpList_wantV (by rfl) (.pointer (some ⟨w1.heap.size, 67, none⟩)) (run_fieldAt 41 (.tmp 28) 0 rfl _ _ rfl (by kernel_rfl)) ?_
          simp only [Act.put, List.setIfInBounds_toArray, List.set_cons_succ, List.set_cons_zero]
          refine wpList_wantV (by rfl) (.int .u64 ((et' : Nat) : Int)) (run_cell 22 (.tmp 29) rfl _ rfl _ ((hd2.out).cell (j := 67) hB.out.2) _ Try.underlying22 rfl) ?_
          simp only [Act.put, List.setIfInBounds_toArray, List.set_cons_succ, List.set_cons_zero]
          refine wpList_wantV (by rfl) (.bool true) (run_gtH (.tmp 27) (.tmp 30) rfl (et) (et') true hG rfl rfl) ?_
          simp only [Act.put, List.setIfInBounds_toArray, List.set_cons_succ, List.set_cons_zero]
          refine wpList_wantV (by rfl) (.bool true) (run_pick1 (.tmp 24) (.tmp 31) (.const (.bool false)) rfl _ rfl rfl) ?_
          simp only [Act.put, List.setIfInBounds_toArray, List.set_cons_succ, List.set_cons_zero]
          go_wp2
          go_ret
          exact ⟨by simp [hT, hS, hG], BB.out⟩
    · skip
      refine Shut.mk ?_
      refine wpList_wantV (by rfl) (.agg (A).toArray) (run_mid 50 (.tmp 2) rfl w.heap.size 0 rfl (A) ((hd1.out).range 0 _ (fun j v hv => by rw [Nat.zero_add]; exact hv)) _ Try.underlying50 rfl (by rw [hlA.out]; exact Try.tyVote.size)) ?_
      simp only [Act.put, List.setIfInBounds_toArray, List.set_cons_succ, List.set_cons_zero]
      refine wpList_wantV (by rfl) (.agg (B).toArray) (run_mid 50 (.tmp 3) rfl w1.heap.size 0 rfl (B) ((hd2.out).range 0 _ (fun j v hv => by rw [Nat.zero_add]; exact hv)) _ Try.underlying50 rfl (by rw [hlB.out]; exact Try.tyVote.size)) ?_
      simp only [Act.put, List.setIfInBounds_toArray, List.set_cons_succ, List.set_cons_zero]
      refine wpList_wantV (by rfl) (.bool true) (hN.out _ _ _ (.tmp 5) (.tmp 6) rfl rfl rfl) ?_
      simp only [Act.put, List.setIfInBounds_toArray, List.set_cons_succ, List.set_cons_zero]
      refine wpList_wantV (by rfl) (.bool true) (run_moveV (.tmp 7) rfl _ rfl) ?_
      simp only [Act.put, List.setIfInBounds_toArray, List.set_cons_succ, List.set_cons_zero]
      refine wpList_wantV (by rfl) (.pointer (some ⟨w.heap.size, 67, none⟩)) (run_fieldAt 50 (.tmp 2) 4 rfl _ _ rfl (by kernel_rfl)) ?_
      simp only [Act.put, List.setIfInBounds_toArray, List.set_cons_succ, List.set_cons_zero]
      refine wpList_wantV (by rfl) (.pointer (some ⟨w.heap.size, 67, none⟩)) (run_fieldAt 41 (.tmp 9) 0 rfl _ _ rfl (by kernel_rfl)) ?_
      simp only [Act.put, List.setIfInBounds_toArray, List.set_cons_succ, List.set_cons_zero]
      refine wpList_wantV (by rfl) (.int .u64 ((et : Nat) : Int)) (run_cell 22 (.tmp 10) rfl _ rfl _ ((hd1.out).cell (j := 67) hA.out.2) _ Try.underlying22 rfl) ?_
      simp only [Act.put, List.setIfInBounds_toArray, List.set_cons_succ, List.set_cons_zero]
      refine wpList_wantV (by rfl) (.pointer (some ⟨w1.heap.size, 67, none⟩)) (run_fieldAt 50 (.tmp 3) 4 rfl _ _ rfl (by kernel_rfl)) ?_
      simp only [Act.put, List.setIfInBounds_toArray, List.set_cons_succ, List.set_cons_zero]
      refine wpList_wantV (by rfl) (.pointer (some ⟨w1.heap.size, 67, none⟩)) (run_fieldAt 41 (.tmp 12) 0 rfl _ _ rfl (by kernel_rfl)) ?_
      simp only [Act.put, List.setIfInBounds_toArray, List.set_cons_succ, List.set_cons_zero]
      refine wpList_wantV (by rfl) (.int .u64 ((et' : Nat) : Int)) (run_cell 22 (.tmp 13) rfl _ rfl _ ((hd2.out).cell (j := 67) hB.out.2) _ Try.underlying22 rfl) ?_
      simp only [Act.put, List.setIfInBounds_toArray, List.set_cons_succ, List.set_cons_zero]
      refine wpList_wantV (by rfl) (.bool true) (run_eqH (.tmp 11) (.tmp 14) rfl (et) (et') true hT rfl rfl) ?_
      simp only [Act.put, List.setIfInBounds_toArray, List.set_cons_succ, List.set_cons_zero]
      refine wpList_wantV (by rfl) (.bool true) (run_pick1 (.tmp 8) (.tmp 15) (.const (.bool false)) rfl _ rfl rfl) ?_
      simp only [Act.put, List.setIfInBounds_toArray, List.set_cons_succ, List.set_cons_zero]
      go_wp2
      go_ret
      exact ⟨by simp [hT], BB.out⟩
  · skip
    refine Shut.mk ?_
    refine wpList_wantV (by rfl) (.agg (A).toArray) (run_mid 50 (.tmp 2) rfl w.heap.size 0 rfl (A) ((hd1.out).range 0 _ (fun j v hv => by rw [Nat.zero_add]; exact hv)) _ Try.underlying50 rfl (by rw [hlA.out]; exact Try.tyVote.size)) ?_
    simp only [Act.put, List.setIfInBounds_toArray, List.set_cons_succ, List.set_cons_zero]
    refine wpList_wantV (by rfl) (.agg (B).toArray) (run_mid 50 (.tmp 3) rfl w1.heap.size 0 rfl (B) ((hd2.out).range 0 _ (fun j v hv => by rw [Nat.zero_add]; exact hv)) _ Try.underlying50 rfl (by rw [hlB.out]; exact Try.tyVote.size)) ?_
    simp only [Act.put, List.setIfInBounds_toArray, List.set_cons_succ, List.set_cons_zero]
    refine wpList_wantV (by rfl) (.bool false) (hN.out _ _ _ (.tmp 5) (.tmp 6) rfl rfl rfl) ?_
    simp only [Act.put, List.setIfInBounds_toArray, List.set_cons_succ, List.set_cons_zero]
    refine wpList_wantV (by rfl) (.bool false) (run_moveV (.tmp 7) rfl _ rfl) ?_
    simp only [Act.put, List.setIfInBounds_toArray, List.set_cons_succ, List.set_cons_zero]
    refine wpList_skip (by rfl) ?_
    simp only [Act.put, List.setIfInBounds_toArray, List.set_cons_succ, List.set_cons_zero]
    refine wpList_skip (by rfl) ?_
    simp only [Act.put, List.setIfInBounds_toArray, List.set_cons_succ, List.set_cons_zero]
    refine wpList_skip (by rfl) ?_
    simp only [Act.put, List.setIfInBounds_toArray, List.set_cons_succ, List.set_cons_zero]
    refine wpList_skip (by rfl) ?_
    simp only [Act.put, List.setIfInBounds_toArray, List.set_cons_succ, List.set_cons_zero]
    refine wpList_skip (by rfl) ?_
    simp only [Act.put, List.setIfInBounds_toArray, List.set_cons_succ, List.set_cons_zero]
    refine wpList_skip (by rfl) ?_
    simp only [Act.put, List.setIfInBounds_toArray, List.set_cons_succ, List.set_cons_zero]
    refine wpList_skip (by rfl) ?_
    simp only [Act.put, List.setIfInBounds_toArray, List.set_cons_succ, List.set_cons_zero]
    refine wpList_wantV (by rfl) (.bool false) (run_pick0 (.tmp 8) (.tmp 15) (.const (.bool false)) rfl _ rfl rfl) ?_
    simp only [Act.put, List.setIfInBounds_toArray, List.set_cons_succ, List.set_cons_zero]
    go_wp2_with ((with_reducible refine at_list' ?_); refine Shut.out ?_)
    cases hS : decide (es < es')
    · skip
      refine Shut.mk ?_
      refine wpList_wantV (by rfl) (.pointer (some ⟨w.heap.size, 34, none⟩)) (run_fieldAt 50 (.tmp 2) 3 rfl _ _ rfl (by kernel_rfl)) ?_
      simp only [Act.put, List.setIfInBounds_toArray, List.set_cons_succ, List.set_cons_zero]
      refine wpList_wantV (by rfl) (.pointer (some ⟨w.heap.size, 34, none⟩)) (run_fieldAt 41 (.tmp 17) 0 rfl _ _ rfl (by kernel_rfl)) ?_
      simp only [Act.put, List.setIfInBounds_toArray, List.set_cons_succ, List.set_cons_zero]
      refine wpList_wantV (by rfl) (.int .u64 ((es : Nat) : Int)) (run_cell 22 (.tmp 18) rfl _ rfl _ ((hd1.out).cell (j := 34) hA.out.1) _ Try.underlying22 rfl) ?_
      simp only [Act.put, List.setIfInBounds_toArray, List.set_cons_succ, List.set_cons_zero]
      refine wpList_wantV (by rfl) (.pointer (some ⟨w1.heap.size, 34, none⟩)) (run_fieldAt 50 (.tmp 3) 3 rfl _ _ rfl (by kernel_rfl)) ?_
      simp only [Act.put, List.setIfInBounds_toArray, List.set_cons_succ, List.set_cons_zero]
      refine wpList_wantV (by rfl) (.pointer (some ⟨w1.heap.size, 34, none⟩)) (run_fieldAt 41 (.tmp 20) 0 rfl _ _ rfl (by kernel_rfl)) ?_
      simp only [Act.put, List.setIfInBounds_toArray, List.set_cons_succ, List.set_cons_zero]
      refine wpList_wantV (by rfl) (.int .u64 ((es' : Nat) : Int)) (run_cell 22 (.tmp 21) rfl _ rfl _ ((hd2.out).cell (j := 34) hB.out.1) _ Try.underlying22 rfl) ?_
      simp only [Act.put, List.setIfInBounds_toArray, List.set_cons_succ, List.set_cons_zero]
      refine wpList_wantV (by rfl) (.bool false) (run_ltH (.tmp 19) (.tmp 22) rfl (es) (es') false hS rfl rfl) ?_
      simp only [Act.put, List.setIfInBounds_toArray, List.set_cons_succ, List.set_cons_zero]
      refine wpList_wantV (by rfl) (.bool false) (run_moveV (.tmp 23) rfl _ rfl) ?_
      simp only [Act.put, List.setIfInBounds_toArray, List.set_cons_succ, List.set_cons_zero]
      refine wpList_skip (by rfl) ?_
      simp only [Act.put, List.setIfInBounds_toArray, List.set_cons_succ, List.set_cons_zero]
      refine wpList_skip (by rfl) ?_
      simp only [Act.put, List.setIfInBounds_toArray, List.set_cons_succ, List.set_cons_zero]
      refine wpList_skip (by rfl) ?_
      simp only [Act.put, List.setIfInBounds_toArray, List.set_cons_succ, List.set_cons_zero]
      refine wpList_skip (by rfl) ?_
      simp only [Act.put, List.setIfInBounds_toArray, List.set_cons_succ, List.set_cons_zero]
      refine wpList_skip (by rfl) ?_
      simp only [Act.put, List.setIfInBounds_toArray, List.set_cons_succ, List.set_cons_zero]
      refine wpList_skip (by rfl) ?_
      simp only [Act.put, List.setIfInBounds_toArray, List.set_cons_succ, List.set_cons_zero]
      refine wpList_skip (by rfl) ?_
      simp only [Act.put, List.setIfInBounds_toArray, List.set_cons_succ, List.set_cons_zero]
      refine wpList_wantV (by rfl) (.bool false) (run_pick0 (.tmp 24) (.tmp 31) (.const (.bool false)) rfl _ rfl rfl) ?_
      simp only [Act.put, List.setIfInBounds_toArray, List.set_cons_succ, List.set_cons_zero]
      go_wp2
      go_ret
      exact ⟨by simp [hS], BB.out⟩
    · skip
      cases hG : decide (et' < et)
      · skip
        refine Shut.mk ?_
        refine wpList_wantV (by rfl) (.pointer (some ⟨w.heap.size, 34, none⟩)) (run_fieldAt 50 (.tmp 2) 3 rfl _ _ rfl (by kernel_rfl)) ?_
        simp only [Act.put, List.setIfInBounds_toArray, List.set_cons_succ, List.set_cons_zero]
        refine wpList_wantV (by rfl) (.pointer (some ⟨w.heap.size, 34, none⟩)) (run_fieldAt 41 (.tmp 17) 0 rfl _ _ rfl (by kernel_rfl)) ?_
        simp only [Act.put, List.setIfInBounds_toArray, List.set_cons_succ, List.set_cons_zero]
        refine wpList_wantV (by rfl) (.int .u64 ((es : Nat) : Int)) (run_cell 22 (.tmp 18) rfl _ rfl _ ((hd1.out).cell (j := 34) hA.out.1) _ Try.underlying22 rfl) ?_
        simp only [Act.put, List.setIfInBounds_toArray, List.set_cons_succ, List.set_cons_zero]
        refine wpList_wantV (by rfl) (.pointer (some ⟨w1.heap.size, 34, none⟩)) (run_fieldAt 50 (.tmp 3) 3 rfl _ _ rfl (by kernel_rfl)) ?_
        simp only [Act.put, List.setIfInBounds_toArray, List.set_cons_succ, List.set_cons_zero]
        refine wpList_wantV (by rfl) (.pointer (some ⟨w1.heap.size, 34, none⟩)) (run_fieldAt 41 (.tmp 20) 0 rfl _ _ rfl (by kernel_rfl)) ?_
        simp only [Act.put, List.setIfInBounds_toArray, List.set_cons_succ, List.set_cons_zero]
        refine wpList_wantV (by rfl) (.int .u64 ((es' : Nat) : Int)) (run_cell 22 (.tmp 21) rfl _ rfl _ ((hd2.out).cell (j := 34) hB.out.1) _ Try.underlying22 rfl) ?_
        simp only [Act.put, List.setIfInBounds_toArray, List.set_cons_succ, List.set_cons_zero]
        refine wpList_wantV (by rfl) (.bool true) (run_ltH (.tmp 19) (.tmp 22) rfl (es) (es') true hS rfl rfl) ?_
        simp only [Act.put, List.setIfInBounds_toArray, List.set_cons_succ, List.set_cons_zero]
        refine wpList_wantV (by rfl) (.bool true) (run_moveV (.tmp 23) rfl _ rfl) ?_
        simp only [Act.put, List.setIfInBounds_toArray, List.set_cons_succ, List.set_cons_zero]
        refine wpList_wantV (by rfl) (.pointer (some ⟨w.heap.size, 67, none⟩)) (run_fieldAt 50 (.tmp 2) 4 rfl _ _ rfl (by kernel_rfl)) ?_
        simp only [Act.put, List.setIfInBounds_toArray, List.set_cons_succ, List.set_cons_zero]
        refine wpList_wantV (by rfl) (.pointer (some ⟨w.heap.size, 67, none⟩)) (run_fieldAt 41 (.tmp 25) 0 rfl _ _ rfl (by kernel_rfl)) ?_
        simp only [Act.put, List.setIfInBounds_toArray, List.set_cons_succ, List.set_cons_zero]
        refine wpList_wantV (by rfl) (.int .u64 ((et : Nat) : Int)) (run_cell 22 (.tmp 26) rfl _ rfl _ ((hd1.out).cell (j := 67) hA.out.2) _ Try.underlying22 rfl) ?_
        simp only [Act.put, List.setIfInBounds_toArray, List.set_cons_succ, List.set_cons_zero]
        refine wpList_wantV (by rfl) (.pointer (some ⟨w1.heap.size, 67, none⟩)) (run_fieldAt 50 (.tmp 3) 4 rfl _ _ rfl (by kernel_rfl)) ?_
        simp only [Act.put, List.setIfInBounds_toArray, List.set_cons_succ, List.set_cons_zero]
        refine wpList_wantV (by rfl) (.pointer (some ⟨w1.heap.size, 67, none⟩)) (run_fieldAt 41 (.tmp 28) 0 rfl _ _ rfl (by kernel_rfl)) ?_
        simp only [Act.put, List.setIfInBounds_toArray, List.set_cons_succ, List.set_cons_zero]
        refine wpList_wantV (by rfl) (.int .u64 ((et' : Nat) : Int)) (run_cell 22 (.tmp 29) rfl _ rfl _ ((hd2.out).cell (j := 67) hB.out.2) _ Try.underlying22 rfl) ?_
        simp only [Act.put, List.setIfInBounds_toArray, List.set_cons_succ, List.set_cons_zero]
        refine wpList_wantV (by rfl) (.bool false) (run_gtH (.tmp 27) (.tmp 30) rfl (et) (et') false hG rfl rfl) ?_
        simp only [Act.put, List.setIfInBounds_toArray, List.set_cons_succ, List.set_cons_zero]
        refine wpList_wantV (by rfl) (.bool false) (run_pick1 (.tmp 24) (.tmp 31) (.const (.bool false)) rfl _ rfl rfl) ?_
        simp only [Act.put, List.setIfInBounds_toArray, List.set_cons_succ, List.set_cons_zero]
        go_wp2
        go_ret
        exact ⟨by simp [hS, hG], BB.out⟩
      · skip
        refine Shut.mk ?_
        refine wpList_wantV (by rfl) (.pointer (some ⟨w.heap.size, 34, none⟩)) (run_fieldAt 50 (.tmp 2) 3 rfl _ _ rfl (by kernel_rfl)) ?_
        simp only [Act.put, List.setIfInBounds_toArray, List.set_cons_succ, List.set_cons_zero]
        refine wpList_wantV (by rfl) (.pointer (some ⟨w.heap.size, 34, none⟩)) (run_fieldAt 41 (.tmp 17) 0 rfl _ _ rfl (by kernel_rfl)) ?_
        simp only [Act.put, List.setIfInBounds_toArray, List.set_cons_succ, List.set_cons_zero]
        refine wpList_wantV (by rfl) (.int .u64 ((es : Nat) : Int)) (run_cell 22 (.tmp 18) rfl _ rfl _ ((hd1.out).cell (j := 34) hA.out.1) _ Try.underlying22 rfl) ?_
        simp only [Act.put, List.setIfInBounds_toArray, List.set_cons_succ, List.set_cons_zero]
        refine wpList_wantV (by rfl) (.pointer (some ⟨w1.heap.size, 34, none⟩)) (run_fieldAt 50 (.tmp 3) 3 rfl _ _ rfl (by kernel_rfl)) ?_
        simp only [Act.put, List.setIfInBounds_toArray, List.set_cons_succ, List.set_cons_zero]
        refine wpList_wantV (by rfl) (.pointer (some ⟨w1.heap.size, 34, none⟩)) (run_fieldAt 41 (.tmp 20) 0 rfl _ _ rfl (by kernel_rfl)) ?_
        simp only [Act.put, List.setIfInBounds_toArray, List.set_cons_succ, List.set_cons_zero]
        refine wpList_wantV (by rfl) (.int .u64 ((es' : Nat) : Int)) (run_cell 22 (.tmp 21) rfl _ rfl _ ((hd2.out).cell (j := 34) hB.out.1) _ Try.underlying22 rfl) ?_
        simp only [Act.put, List.setIfInBounds_toArray, List.set_cons_succ, List.set_cons_zero]
        refine wpList_wantV (by rfl) (.bool true) (run_ltH (.tmp 19) (.tmp 22) rfl (es) (es') true hS rfl rfl) ?_
        simp only [Act.put, List.setIfInBounds_toArray, List.set_cons_succ, List.set_cons_zero]
        refine wpList_wantV (by rfl) (.bool true) (run_moveV (.tmp 23) rfl _ rfl) ?_
        simp only [Act.put, List.setIfInBounds_toArray, List.set_cons_succ, List.set_cons_zero]
        refine wpList_wantV (by rfl) (.pointer (some ⟨w.heap.size, 67, none⟩)) (run_fieldAt 50 (.tmp 2) 4 rfl _ _ rfl (by kernel_rfl)) ?_
        simp only [Act.put, List.setIfInBounds_toArray, List.set_cons_succ, List.set_cons_zero]
        refine wpList_wantV (by rfl) (.pointer (some ⟨w.heap.size, 67, none⟩)) (run_fieldAt 41 (.tmp 25) 0 rfl _ _ rfl (by kernel_rfl)) ?_
        simp only [Act.put, List.setIfInBounds_toArray, List.set_cons_succ, List.set_cons_zero]
        refine wpList_wantV (by rfl) (.int .u64 ((et : Nat) : Int)) (run_cell 22 (.tmp 26) rfl _ rfl _ ((hd1.out).cell (j := 67) hA.out.2) _ Try.underlying22 rfl) ?_
        simp only [Act.put, List.setIfInBounds_toArray, List.set_cons_succ, List.set_cons_zero]
        refine wpList_wantV (by rfl) (.pointer (some ⟨w1.heap.size, 67, none⟩)) (run_fieldAt 50 (.tmp 3) 4 rfl _ _ rfl (by kernel_rfl)) ?_
        simp only [Act.put, List.setIfInBounds_toArray, List.set_cons_succ, List.set_cons_zero]
        refine wpList_wantV (by rfl) (.pointer (some ⟨w1.heap.size, 67, none⟩)) (run_fieldAt 41 (.tmp 28) 0 rfl _ _ rfl (by kernel_rfl)) ?_
        simp only [Act.put, List.setIfInBounds_toArray, List.set_cons_succ, List.set_cons_zero]
        refine wpList_wantV (by rfl) (.int .u64 ((et' : Nat) : Int)) (run_cell 22 (.tmp 29) rfl _ rfl _ ((hd2.out).cell (j := 67) hB.out.2) _ Try.underlying22 rfl) ?_
        simp only [Act.put, List.setIfInBounds_toArray, List.set_cons_succ, List.set_cons_zero]
        refine wpList_wantV (by rfl) (.bool true) (run_gtH (.tmp 27) (.tmp 30) rfl (et) (et') true hG rfl rfl) ?_
        simp only [Act.put, List.setIfInBounds_toArray, List.set_cons_succ, List.set_cons_zero]
        refine wpList_wantV (by rfl) (.bool true) (run_pick1 (.tmp 24) (.tmp 31) (.const (.bool false)) rfl _ rfl rfl) ?_
        simp only [Act.put, List.setIfInBounds_toArray, List.set_cons_succ, List.set_cons_zero]
        go_wp2
        go_ret
        exact ⟨by simp [hS, hG], BB.out⟩
end Go.Proofs.Ythjjdjidbhlncaa
