/- Slashable, and the document's. -/
import Derived.Test.YthjjdjidbhlncaaOps13
namespace Go.Proofs.Ythjjdjidbhlncaa
open Go.RowKit
set_option linter.unusedVariables false
set_option linter.unusedSimpArgs false
set_option maxRecDepth 100000

theorem wpList_valW {P : Program} {w : World} {ops : Array Oper} {rest : List Oper} {o : Oper} {a : Act} {Q : Exit → Act → World → Prop} (hgd : o.guard = none) (v : Value) (hr : (execOp a.eval o).run P w = .ok (.value v) w)
    (h : wpList P ops Q rest (a.put o.dst v) w) : wpList P ops Q (o :: rest) a w :=
  wpList_plain hgd fun K hK => wp_run hr (hK _ _ h)
theorem wpList_skip {P : Program} {w : World} {ops : Array Oper} {rest : List Oper} {o : Oper} {a : Act} {Q : Exit → Act → World → Prop} (hw : Region.wanted o (yielded ops a.tmps) = false)
    (h : wpList P ops Q rest (a.put o.dst undef) w) : wpList P ops Q (o :: rest) a w := by
  show if _ then _ else _
  rw [hw]
  exact h
theorem wpList_wantV {P : Program} {w : World} {ops : Array Oper} {rest : List Oper} {o : Oper} {a : Act} {Q : Exit → Act → World → Prop} (hw : Region.wanted o (yielded ops a.tmps) = true) (v : Value) (hr : (execOp a.eval o).run P w = .ok (.value v) w)
    (h : wpList P ops Q rest (a.put o.dst v) w) : wpList P ops Q (o :: rest) a w :=
  BigFrame.wpList_want hw fun K hK => wp_run hr (hK _ _ h)
theorem run_moveV {P : Program} {o : Oper} {a : Act} {w : World} (x : Operand) (ho : o.op = .move x) (v : Value) (hx : a.eval x = v) : (execOp a.eval o).run P w = .ok (.value v) w := by
  unfold execOp
  simp only [ho, hx]
  rfl
theorem Try.tyVote : Ty Try.prog 50 (vtX 0 0 (zeros 32) 0 (zeros 32) 0 (zeros 32)) := ⟨by kernel_rfl, _, Try.underlying50, rfl⟩
theorem zrq : Rq (zeros 32) := ⟨rfl, fun z hz => by unfold zeros at hz; rw [(List.mem_replicate.1 hz).2]; decide⟩
theorem vt_lz (sl ix : Nat) (b : List Nat) (es : Nat) (rs : List Nat) (et : Nat) (rt : List Nat) (hb : Rq b) (hs : Rq rs) (ht : Rq rt) : (vtX sl ix b es rs et rt).length = (vtX 0 0 (zeros 32) 0 (zeros 32) 0 (zeros 32)).length := by
  rw [vt_len _ _ _ _ _ _ _ hb hs ht, vt_len _ _ _ _ _ _ _ zrq zrq zrq]
/-- A fact put away: a structure, so that nothing looks into it. -/
structure Shut (p : Prop) : Prop where
  out : p
theorem shut {p : Prop} (h : p) : Shut p := ⟨h⟩
/-- Do two votes go against each other? -/
def slV (sl ix : Nat) (b : List Nat) (es : Nat) (rs : List Nat) (et : Nat) (rt : List Nat) (sl' ix' : Nat) (b' : List Nat) (es' : Nat) (rs' : List Nat) (et' : Nat) (rt' : List Nat) : Bool :=
  (!eqVt sl ix b es rs et rt sl' ix' b' es' rs' et' rt' && decide (et = et')) || (decide (es < es') && decide (et' < et))
set_option maxHeartbeats 4000000 in
theorem slashable_any (sl ix : Nat) (b : List Nat) (es : Nat) (rs : List Nat) (et : Nat) (rt : List Nat) (sl' ix' : Nat) (b' : List Nat) (es' : Nat) (rs' : List Nat) (et' : Nat) (rt' : List Nat) (hb : Rq b) (hs : Rq rs) (ht : Rq rt) (hb' : Rq b') (hs' : Rq rs') (ht' : Rq rt') (w : World) :
    Calls Try.prog 13 #[.agg (vtX sl ix b es rs et rt).toArray, .agg (vtX sl' ix' b' es' rs' et' rt').toArray] w fun e w' => e = .returned (.bool (slV sl ix b es rs et rt sl' ix' b' es' rs' et' rt')) ∧ Below w.heap.size w w' := by
  have hlA := shut (vt_lz sl ix b es rs et rt hb hs ht)
  have hlB := shut (vt_lz sl' ix' b' es' rs' et' rt' hb' hs' ht')
  have hA := shut (vt_at sl ix b es rs et rt hb hs)
  have hB := shut (vt_at sl' ix' b' es' rs' et' rt' hb' hs')
  have hN : Shut (∀ (o : Oper) (a : Act) (w : World) (x y : Operand), o.op = .binOp .neq 50 x y 50 → a.eval x = .agg (vtX sl ix b es rs et rt).toArray → a.eval y = .agg (vtX sl' ix' b' es' rs' et' rt').toArray → (execOp a.eval o).run Try.prog w = .ok (.value (.bool (!eqVt sl ix b es rs et rt sl' ix' b' es' rs' et' rt'))) w) :=
    shut fun o a w x y ho hx hy => run_neV x y ho sl ix b es rs et rt sl' ix' b' es' rs' et' rt' hb hs ht hb' hs' ht' hx hy
  obtain ⟨A, hAe⟩ : ∃ A, vtX sl ix b es rs et rt = A := ⟨_, rfl⟩
  obtain ⟨B, hBe⟩ : ∃ B, vtX sl' ix' b' es' rs' et' rt' = B := ⟨_, rfl⟩
  unfold slV
  obtain ⟨E, hE⟩ : ∃ E, eqVt sl ix b es rs et rt sl' ix' b' es' rs' et' rt' = E := ⟨_, rfl⟩
  rw [hE] at hN ⊢
  rw [hAe] at hlA hA hN ⊢
  rw [hBe] at hlB hB hN ⊢
  clear hAe hBe hE hb hs ht hb' hs' ht'
  go_enter Try.func13, Try.ntmps13
  go_wp2_with ((with_reducible refine at_list' ?_); first
    | (refine wpList_box_c rfl 2 rfl (.tmp 0) rfl A rfl ?_; intro w1 H1 B1 S1)
    | (refine wpList_box_c rfl 3 rfl (.tmp 1) rfl B rfl ?_; intro w2 H2 B2 S2; have X1 := H1.keep B2; have BB := shut (below_more B1 B2 (Nat.le_refl _)); have hd1 := shut X1; have hd2 := shut H2; clear H1 B1 B2 X1 H2 S1 S2)
    | (refine Shut.out ?_))
  cases E
  · skip
    cases hT : decide (et = et')
    · skip
      refine Shut.mk ?_
      refine wpList_wantV (by rfl) (.agg (A).toArray) (run_mid 50 (.tmp 2) rfl w.heap.size 0 rfl (A) ((hd1.out).range 0 _ (fun j v hv => by rw [Nat.zero_add]; exact hv)) _ Try.underlying50 rfl (by rw [hlA.out]; exact Try.tyVote.size)) ?_
      simp only [Act.put, List.setIfInBounds_toArray, List.set_cons_succ, List.set_cons_zero]
      refine wpList_wantV (by rfl) (.agg (B).toArray) (run_mid 50 (.tmp 3) rfl w1.heap.size 0 rfl (B) ((hd2.out).range 0 _ (fun j v hv => by rw [Nat.zero_add]; exact hv)) _ Try.underlying50 rfl (by rw [hlB.out]; exact Try.tyVote.size)) ?_
      simp only [Act.put, List.setIfInBounds_toArray, List.set_cons_succ, List.set_cons_zero]
      refine wpList_wantV (by rfl) (.bool true) (hN.out _ _ _ (.tmp 7) (.tmp 8) rfl rfl rfl) ?_
      simp only [Act.put, List.setIfInBounds_toArray, List.set_cons_succ, List.set_cons_zero]
      refine wpList_wantV (by rfl) (.bool true) (run_moveV (.tmp 9) rfl _ rfl) ?_
      simp only [Act.put, List.setIfInBounds_toArray, List.set_cons_succ, List.set_cons_zero]
      refine wpList_wantV (by rfl) (.pointer (some ⟨w.heap.size, 67, none⟩)) (run_fieldAt 50 (.tmp 2) 4 rfl _ _ rfl (by kernel_rfl)) ?_
      simp only [Act.put, List.setIfInBounds_toArray, List.set_cons_succ, List.set_cons_zero]
      refine wpList_wantV (by rfl) (.pointer (some ⟨w.heap.size, 67, none⟩)) (run_fieldAt 41 (.tmp 11) 0 rfl _ _ rfl (by kernel_rfl)) ?_
      simp only [Act.put, List.setIfInBounds_toArray, List.set_cons_succ, List.set_cons_zero]
      refine wpList_wantV (by rfl) (.int .u64 ((et : Nat) : Int)) (run_cell 22 (.tmp 12) rfl _ rfl _ ((hd1.out).cell (j := 67) hA.out.2) _ Try.underlying22 rfl) ?_
      simp only [Act.put, List.setIfInBounds_toArray, List.set_cons_succ, List.set_cons_zero]
      refine wpList_wantV (by rfl) (.pointer (some ⟨w1.heap.size, 67, none⟩)) (run_fieldAt 50 (.tmp 3) 4 rfl _ _ rfl (by kernel_rfl)) ?_
      simp only [Act.put, List.setIfInBounds_toArray, List.set_cons_succ, List.set_cons_zero]
      refine wpList_wantV (by rfl) (.pointer (some ⟨w1.heap.size, 67, none⟩)) (run_fieldAt 41 (.tmp 14) 0 rfl _ _ rfl (by kernel_rfl)) ?_
      simp only [Act.put, List.setIfInBounds_toArray, List.set_cons_succ, List.set_cons_zero]
      refine wpList_wantV (by rfl) (.int .u64 ((et' : Nat) : Int)) (run_cell 22 (.tmp 15) rfl _ rfl _ ((hd2.out).cell (j := 67) hB.out.2) _ Try.underlying22 rfl) ?_
      simp only [Act.put, List.setIfInBounds_toArray, List.set_cons_succ, List.set_cons_zero]
      refine wpList_wantV (by rfl) (.bool false) (run_eqH (.tmp 13) (.tmp 16) rfl (et) (et') false hT rfl rfl) ?_
      simp only [Act.put, List.setIfInBounds_toArray, List.set_cons_succ, List.set_cons_zero]
      refine wpList_wantV (by rfl) (.bool false) (run_pick1 (.tmp 10) (.tmp 17) (.const (.bool false)) rfl _ rfl rfl) ?_
      simp only [Act.put, List.setIfInBounds_toArray, List.set_cons_succ, List.set_cons_zero]
      go_wp2_with ((with_reducible refine at_list' ?_); refine Shut.out ?_)
      cases hS : decide (es < es')
      · skip
        refine Shut.mk ?_
        refine wpList_wantV (by rfl) (.pointer (some ⟨w.heap.size, 34, none⟩)) (run_fieldAt 50 (.tmp 2) 3 rfl _ _ rfl (by kernel_rfl)) ?_
        simp only [Act.put, List.setIfInBounds_toArray, List.set_cons_succ, List.set_cons_zero]
        refine wpList_wantV (by rfl) (.pointer (some ⟨w.heap.size, 34, none⟩)) (run_fieldAt 41 (.tmp 19) 0 rfl _ _ rfl (by kernel_rfl)) ?_
        simp only [Act.put, List.setIfInBounds_toArray, List.set_cons_succ, List.set_cons_zero]
        refine wpList_wantV (by rfl) (.int .u64 ((es : Nat) : Int)) (run_cell 22 (.tmp 20) rfl _ rfl _ ((hd1.out).cell (j := 34) hA.out.1) _ Try.underlying22 rfl) ?_
        simp only [Act.put, List.setIfInBounds_toArray, List.set_cons_succ, List.set_cons_zero]
        refine wpList_wantV (by rfl) (.pointer (some ⟨w1.heap.size, 34, none⟩)) (run_fieldAt 50 (.tmp 3) 3 rfl _ _ rfl (by kernel_rfl)) ?_
        simp only [Act.put, List.setIfInBounds_toArray, List.set_cons_succ, List.set_cons_zero]
        refine wpList_wantV (by rfl) (.pointer (some ⟨w1.heap.size, 34, none⟩)) (run_fieldAt 41 (.tmp 22) 0 rfl _ _ rfl (by kernel_rfl)) ?_
        simp only [Act.put, List.setIfInBounds_toArray, List.set_cons_succ, List.set_cons_zero]
        refine wpList_wantV (by rfl) (.int .u64 ((es' : Nat) : Int)) (run_cell 22 (.tmp 23) rfl _ rfl _ ((hd2.out).cell (j := 34) hB.out.1) _ Try.underlying22 rfl) ?_
        simp only [Act.put, List.setIfInBounds_toArray, List.set_cons_succ, List.set_cons_zero]
        refine wpList_wantV (by rfl) (.bool false) (run_ltH (.tmp 21) (.tmp 24) rfl (es) (es') false hS rfl rfl) ?_
        simp only [Act.put, List.setIfInBounds_toArray, List.set_cons_succ, List.set_cons_zero]
        refine wpList_wantV (by rfl) (.bool false) (run_moveV (.tmp 25) rfl _ rfl) ?_
        simp only [Act.put, List.setIfInBounds_toArray, List.set_cons_succ, List.set_cons_zero]
        refine wpList_skip (by rfl) ?_
        simp only [Act.put, List.setIfInBounds_toArray, List.set_cons_succ, List.set_cons_zero]
        refine wpList_skip (by rfl) ?_
        simp only [Act.put, List.setIfInBounds_toArray, List.set_cons_succ, List.set_cons_zero]
        refine wpList_skip (by rfl) ?_
        simp only [Act.put, List.setIfInBounds_toArray, List.set_cons_succ, List.set_cons_zero]
        refine wpList_skip (by rfl) ?_
        simp only [Act.put, List.setIfInBounds_toArray, List.set_cons_succ, List.set_cons_zero]
        refine wpList_skip (by rfl) ?_
        simp only [Act.put, List.setIfInBounds_toArray, List.set_cons_succ, List.set_cons_zero]
        refine wpList_skip (by rfl) ?_
        simp only [Act.put, List.setIfInBounds_toArray, List.set_cons_succ, List.set_cons_zero]
        refine wpList_skip (by rfl) ?_
        simp only [Act.put, List.setIfInBounds_toArray, List.set_cons_succ, List.set_cons_zero]
        refine wpList_wantV (by rfl) (.bool false) (run_pick0 (.tmp 26) (.tmp 33) (.const (.bool false)) rfl _ rfl rfl) ?_
        simp only [Act.put, List.setIfInBounds_toArray, List.set_cons_succ, List.set_cons_zero]
        go_wp2
        go_ret
        exact ⟨by simp [hT, hS], BB.out⟩
      · skip
        cases hG : decide (et' < et)
        · skip
          refine Shut.mk ?_
          refine wpList_wantV (by rfl) (.pointer (some ⟨w.heap.size, 34, none⟩)) (run_fieldAt 50 (.tmp 2) 3 rfl _ _ rfl (by kernel_rfl)) ?_
          simp only [Act.put, List.setIfInBounds_toArray, List.set_cons_succ, List.set_cons_zero]
          refine wpList_wantV (by rfl) (.pointer (some ⟨w.heap.size, 34, none⟩)) (run_fieldAt 41 (.tmp 19) 0 rfl _ _ rfl (by kernel_rfl)) ?_
          simp only [Act.put, List.setIfInBounds_toArray, List.set_cons_succ, List.set_cons_zero]
          refine wpList_wantV (by rfl) (.int .u64 ((es : Nat) : Int)) (run_cell 22 (.tmp 20) rfl _ rfl _ ((hd1.out).cell (j := 34) hA.out.1) _ Try.underlying22 rfl) ?_
          simp only [Act.put, List.setIfInBounds_toArray, List.set_cons_succ, List.set_cons_zero]
          refine wpList_wantV (by rfl) (.pointer (some ⟨w1.heap.size, 34, none⟩)) (run_fieldAt 50 (.tmp 3) 3 rfl _ _ rfl (by kernel_rfl)) ?_
          simp only [Act.put, List.setIfInBounds_toArray, List.set_cons_succ, List.set_cons_zero]
          refine wpList_wantV (by rfl) (.pointer (some ⟨w1.heap.size, 34, none⟩)) (run_fieldAt 41 (.tmp 22) 0 rfl _ _ rfl (by kernel_rfl)) ?_
          simp only [Act.put, List.setIfInBounds_toArray, List.set_cons_succ, List.set_cons_zero]
          refine wpList_wantV (by rfl) (.int .u64 ((es' : Nat) : Int)) (run_cell 22 (.tmp 23) rfl _ rfl _ ((hd2.out).cell (j := 34) hB.out.1) _ Try.underlying22 rfl) ?_
          simp only [Act.put, List.setIfInBounds_toArray, List.set_cons_succ, List.set_cons_zero]
          refine wpList_wantV (by rfl) (.bool true) (run_ltH (.tmp 21) (.tmp 24) rfl (es) (es') true hS rfl rfl) ?_
          simp only [Act.put, List.setIfInBounds_toArray, List.set_cons_succ, List.set_cons_zero]
          refine wpList_wantV (by rfl) (.bool true) (run_moveV (.tmp 25) rfl _ rfl) ?_
          simp only [Act.put, List.setIfInBounds_toArray, List.set_cons_succ, List.set_cons_zero]
          refine wpList_wantV (by rfl) (.pointer (some ⟨w.heap.size, 67, none⟩)) (run_fieldAt 50 (.tmp 2) 4 rfl _ _ rfl (by kernel_rfl)) ?_
          simp only [Act.put, List.setIfInBounds_toArray, List.set_cons_succ, List.set_cons_zero]
          refine wpList_wantV (by rfl) (.pointer (some ⟨w.heap.size, 67, none⟩)) (run_fieldAt 41 (.tmp 27) 0 rfl _ _ rfl (by kernel_rfl)) ?_
          simp only [Act.put, List.setIfInBounds_toArray, List.set_cons_succ, List.set_cons_zero]
          refine wpList_wantV (by rfl) (.int .u64 ((et : Nat) : Int)) (run_cell 22 (.tmp 28) rfl _ rfl _ ((hd1.out).cell (j := 67) hA.out.2) _ Try.underlying22 rfl) ?_
          simp only [Act.put, List.setIfInBounds_toArray, List.set_cons_succ, List.set_cons_zero]
          refine wpList_wantV (by rfl) (.pointer (some ⟨w1.heap.size, 67, none⟩)) (run_fieldAt 50 (.tmp 3) 4 rfl _ _ rfl (by kernel_rfl)) ?_
          simp only [Act.put, List.setIfInBounds_toArray, List.set_cons_succ, List.set_cons_zero]
          refine wpList_wantV (by rfl) (.pointer (some ⟨w1.heap.size, 67, none⟩)) (run_fieldAt 41 (.tmp 30) 0 rfl _ _ rfl (by kernel_rfl)) ?_
          simp only [Act.put, List.setIfInBounds_toArray, List.set_cons_succ, List.set_cons_zero]
          refine wpList_wantV (by rfl) (.int .u64 ((et' : Nat) : Int)) (run_cell 22 (.tmp 31) rfl _ rfl _ ((hd2.out).cell (j := 67) hB.out.2) _ Try.underlying22 rfl) ?_
          simp only [Act.put, List.setIfInBounds_toArray, List.set_cons_succ, List.set_cons_zero]
          refine wpList_wantV (by rfl) (.bool false) (run_gtH (.tmp 29) (.tmp 32) rfl (et) (et') false hG rfl rfl) ?_
          simp only [Act.put, List.setIfInBounds_toArray, List.set_cons_succ, List.set_cons_zero]
          refine wpList_wantV (by rfl) (.bool false) (run_pick1 (.tmp 26) (.tmp 33) (.const (.bool false)) rfl _ rfl rfl) ?_
          simp only [Act.put, List.setIfInBounds_toArray, List.set_cons_succ, List.set_cons_zero]
          go_wp2
          go_ret
          exact ⟨by simp [hT, hS, hG], BB.out⟩
        · skip
          refine Shut.mk ?_
          refine wpList_wantV (by rfl) (.pointer (some ⟨w.heap.size, 34, none⟩)) (run_fieldAt 50 (.tmp 2) 3 rfl _ _ rfl (by kernel_rfl)) ?_
          simp only [Act.put, List.setIfInBounds_toArray, List.set_cons_succ, List.set_cons_zero]
          refine wpList_wantV (by rfl) (.pointer (some ⟨w.heap.size, 34, none⟩)) (run_fieldAt 41 (.tmp 19) 0 rfl _ _ rfl (by kernel_rfl)) ?_
          simp only [Act.put, List.setIfInBounds_toArray, List.set_cons_succ, List.set_cons_zero]
          refine wpList_wantV (by rfl) (.int .u64 ((es : Nat) : Int)) (run_cell 22 (.tmp 20) rfl _ rfl _ ((hd1.out).cell (j := 34) hA.out.1) _ Try.underlying22 rfl) ?_
          simp only [Act.put, List.setIfInBounds_toArray, List.set_cons_succ, List.set_cons_zero]
          refine wpList_wantV (by rfl) (.pointer (some ⟨w1.heap.size, 34, none⟩)) (run_fieldAt 50 (.tmp 3) 3 rfl _ _ rfl (by kernel_rfl)) ?_
          simp only [Act.put, List.setIfInBounds_toArray, List.set_cons_succ, List.set_cons_zero]
          refine wpList_wantV (by rfl) (.pointer (some ⟨w1.heap.size, 34, none⟩)) (run_fieldAt 41 (.tmp 22) 0 rfl _ _ rfl (by kernel_rfl)) ?_
          simp only [Act.put, List.setIfInBounds_toArray, List.set_cons_succ, List.set_cons_zero]
          refine wpList_wantV (by rfl) (.int .u64 ((es' : Nat) : Int)) (run_cell 22 (.tmp 23) rfl _ rfl _ ((hd2.out).cell (j := 34) hB.out.1) _ Try.underlying22 rfl) ?_
          simp only [Act.put, List.setIfInBounds_toArray, List.set_cons_succ, List.set_cons_zero]
          refine wpList_wantV (by rfl) (.bool true) (run_ltH (.tmp 21) (.tmp 24) rfl (es) (es') true hS rfl rfl) ?_
          simp only [Act.put, List.setIfInBounds_toArray, List.set_cons_succ, List.set_cons_zero]
          refine wpList_wantV (by rfl) (.bool true) (run_moveV (.tmp 25) rfl _ rfl) ?_
          simp only [Act.put, List.setIfInBounds_toArray, List.set_cons_succ, List.set_cons_zero]
          refine wpList_wantV (by rfl) (.pointer (some ⟨w.heap.size, 67, none⟩)) (run_fieldAt 50 (.tmp 2) 4 rfl _ _ rfl (by kernel_rfl)) ?_
          simp only [Act.put, List.setIfInBounds_toArray, List.set_cons_succ, List.set_cons_zero]
          refine wpList_wantV (by rfl) (.pointer (some ⟨w.heap.size, 67, none⟩)) (run_fieldAt 41 (.tmp 27) 0 rfl _ _ rfl (by kernel_rfl)) ?_
          simp only [Act.put, List.setIfInBounds_toArray, List.set_cons_succ, List.set_cons_zero]
          refine wpList_wantV (by rfl) (.int .u64 ((et : Nat) : Int)) (run_cell 22 (.tmp 28) rfl _ rfl _ ((hd1.out).cell (j := 67) hA.out.2) _ Try.underlying22 rfl) ?_
          simp only [Act.put, List.setIfInBounds_toArray, List.set_cons_succ, List.set_cons_zero]
          refine wpList_wantV (by rfl) (.pointer (some ⟨w1.heap.size, 67, none⟩)) (run_fieldAt 50 (.tmp 3) 4 rfl _ _ rfl (by kernel_rfl)) ?_
          simp only [Act.put, List.setIfInBounds_toArray, List.set_cons_succ, List.set_cons_zero]
          refine wpList_wantV (by rfl) (.pointer (some ⟨w1.heap.size, 67, none⟩)) (run_fieldAt 41 (.tmp 30) 0 rfl _ _ rfl (by kernel_rfl)) ?_
          simp only [Act.put, List.setIfInBounds_toArray, List.set_cons_succ, List.set_cons_zero]
          refine wpList_wantV (by rfl) (.int .u64 ((et' : Nat) : Int)) (run_cell 22 (.tmp 31) rfl _ rfl _ ((hd2.out).cell (j := 67) hB.out.2) _ Try.underlying22 rfl) ?_
          simp only [Act.put, List.setIfInBounds_toArray, List.set_cons_succ, List.set_cons_zero]
          refine wpList_wantV (by rfl) (.bool true) (run_gtH (.tmp 29) (.tmp 32) rfl (et) (et') true hG rfl rfl) ?_
          simp only [Act.put, List.setIfInBounds_toArray, List.set_cons_succ, List.set_cons_zero]
          refine wpList_wantV (by rfl) (.bool true) (run_pick1 (.tmp 26) (.tmp 33) (.const (.bool false)) rfl _ rfl rfl) ?_
          simp only [Act.put, List.setIfInBounds_toArray, List.set_cons_succ, List.set_cons_zero]
          go_wp2
          go_ret
          exact ⟨by simp [hT, hS, hG], BB.out⟩
    · skip
      refine Shut.mk ?_
      refine wpList_wantV (by rfl) (.agg (A).toArray) (run_mid 50 (.tmp 2) rfl w.heap.size 0 rfl (A) ((hd1.out).range 0 _ (fun j v hv => by rw [Nat.zero_add]; exact hv)) _ Try.underlying50 rfl (by rw [hlA.out]; exact Try.tyVote.size)) ?_
      simp only [Act.put, List.setIfInBounds_toArray, List.set_cons_succ, List.set_cons_zero]
      refine wpList_wantV (by rfl) (.agg (B).toArray) (run_mid 50 (.tmp 3) rfl w1.heap.size 0 rfl (B) ((hd2.out).range 0 _ (fun j v hv => by rw [Nat.zero_add]; exact hv)) _ Try.underlying50 rfl (by rw [hlB.out]; exact Try.tyVote.size)) ?_
      simp only [Act.put, List.setIfInBounds_toArray, List.set_cons_succ, List.set_cons_zero]
      refine wpList_wantV (by rfl) (.bool true) (hN.out _ _ _ (.tmp 7) (.tmp 8) rfl rfl rfl) ?_
      simp only [Act.put, List.setIfInBounds_toArray, List.set_cons_succ, List.set_cons_zero]
      refine wpList_wantV (by rfl) (.bool true) (run_moveV (.tmp 9) rfl _ rfl) ?_
      simp only [Act.put, List.setIfInBounds_toArray, List.set_cons_succ, List.set_cons_zero]
      refine wpList_wantV (by rfl) (.pointer (some ⟨w.heap.size, 67, none⟩)) (run_fieldAt 50 (.tmp 2) 4 rfl _ _ rfl (by kernel_rfl)) ?_
      simp only [Act.put, List.setIfInBounds_toArray, List.set_cons_succ, List.set_cons_zero]
      refine wpList_wantV (by rfl) (.pointer (some ⟨w.heap.size, 67, none⟩)) (run_fieldAt 41 (.tmp 11) 0 rfl _ _ rfl (by kernel_rfl)) ?_
      simp only [Act.put, List.setIfInBounds_toArray, List.set_cons_succ, List.set_cons_zero]
      refine wpList_wantV (by rfl) (.int .u64 ((et : Nat) : Int)) (run_cell 22 (.tmp 12) rfl _ rfl _ ((hd1.out).cell (j := 67) hA.out.2) _ Try.underlying22 rfl) ?_
      simp only [Act.put, List.setIfInBounds_toArray, List.set_cons_succ, List.set_cons_zero]
      refine wpList_wantV (by rfl) (.pointer (some ⟨w1.heap.size, 67, none⟩)) (run_fieldAt 50 (.tmp 3) 4 rfl _ _ rfl (by kernel_rfl)) ?_
      simp only [Act.put, List.setIfInBounds_toArray, List.set_cons_succ, List.set_cons_zero]
      refine wpList_wantV (by rfl) (.pointer (some ⟨w1.heap.size, 67, none⟩)) (run_fieldAt 41 (.tmp 14) 0 rfl _ _ rfl (by kernel_rfl)) ?_
      simp only [Act.put, List.setIfInBounds_toArray, List.set_cons_succ, List.set_cons_zero]
      refine wpList_wantV (by rfl) (.int .u64 ((et' : Nat) : Int)) (run_cell 22 (.tmp 15) rfl _ rfl _ ((hd2.out).cell (j := 67) hB.out.2) _ Try.underlying22 rfl) ?_
      simp only [Act.put, List.setIfInBounds_toArray, List.set_cons_succ, List.set_cons_zero]
      refine wpList_wantV (by rfl) (.bool true) (run_eqH (.tmp 13) (.tmp 16) rfl (et) (et') true hT rfl rfl) ?_
      simp only [Act.put, List.setIfInBounds_toArray, List.set_cons_succ, List.set_cons_zero]
      refine wpList_wantV (by rfl) (.bool true) (run_pick1 (.tmp 10) (.tmp 17) (.const (.bool false)) rfl _ rfl rfl) ?_
      simp only [Act.put, List.setIfInBounds_toArray, List.set_cons_succ, List.set_cons_zero]
      go_wp2_with ((with_reducible refine at_list' ?_); refine Shut.out ?_)
      cases hS : decide (es < es')
      · skip
        refine Shut.mk ?_
        refine wpList_wantV (by rfl) (.pointer (some ⟨w.heap.size, 34, none⟩)) (run_fieldAt 50 (.tmp 2) 3 rfl _ _ rfl (by kernel_rfl)) ?_
        simp only [Act.put, List.setIfInBounds_toArray, List.set_cons_succ, List.set_cons_zero]
        refine wpList_wantV (by rfl) (.pointer (some ⟨w.heap.size, 34, none⟩)) (run_fieldAt 41 (.tmp 19) 0 rfl _ _ rfl (by kernel_rfl)) ?_
        simp only [Act.put, List.setIfInBounds_toArray, List.set_cons_succ, List.set_cons_zero]
        refine wpList_wantV (by rfl) (.int .u64 ((es : Nat) : Int)) (run_cell 22 (.tmp 20) rfl _ rfl _ ((hd1.out).cell (j := 34) hA.out.1) _ Try.underlying22 rfl) ?_
        simp only [Act.put, List.setIfInBounds_toArray, List.set_cons_succ, List.set_cons_zero]
        refine wpList_wantV (by rfl) (.pointer (some ⟨w1.heap.size, 34, none⟩)) (run_fieldAt 50 (.tmp 3) 3 rfl _ _ rfl (by kernel_rfl)) ?_
        simp only [Act.put, List.setIfInBounds_toArray, List.set_cons_succ, List.set_cons_zero]
        refine wpList_wantV (by rfl) (.pointer (some ⟨w1.heap.size, 34, none⟩)) (run_fieldAt 41 (.tmp 22) 0 rfl _ _ rfl (by kernel_rfl)) ?_
        simp only [Act.put, List.setIfInBounds_toArray, List.set_cons_succ, List.set_cons_zero]
        refine wpList_wantV (by rfl) (.int .u64 ((es' : Nat) : Int)) (run_cell 22 (.tmp 23) rfl _ rfl _ ((hd2.out).cell (j := 34) hB.out.1) _ Try.underlying22 rfl) ?_
        simp only [Act.put, List.setIfInBounds_toArray, List.set_cons_succ, List.set_cons_zero]
        refine wpList_wantV (by rfl) (.bool false) (run_ltH (.tmp 21) (.tmp 24) rfl (es) (es') false hS rfl rfl) ?_
        simp only [Act.put, List.setIfInBounds_toArray, List.set_cons_succ, List.set_cons_zero]
        refine wpList_wantV (by rfl) (.bool false) (run_moveV (.tmp 25) rfl _ rfl) ?_
        simp only [Act.put, List.setIfInBounds_toArray, List.set_cons_succ, List.set_cons_zero]
        refine wpList_skip (by rfl) ?_
        simp only [Act.put, List.setIfInBounds_toArray, List.set_cons_succ, List.set_cons_zero]
        refine wpList_skip (by rfl) ?_
        simp only [Act.put, List.setIfInBounds_toArray, List.set_cons_succ, List.set_cons_zero]
        refine wpList_skip (by rfl) ?_
        simp only [Act.put, List.setIfInBounds_toArray, List.set_cons_succ, List.set_cons_zero]
        refine wpList_skip (by rfl) ?_
        simp only [Act.put, List.setIfInBounds_toArray, List.set_cons_succ, List.set_cons_zero]
        refine wpList_skip (by rfl) ?_
        simp only [Act.put, List.setIfInBounds_toArray, List.set_cons_succ, List.set_cons_zero]
        refine wpList_skip (by rfl) ?_
        simp only [Act.put, List.setIfInBounds_toArray, List.set_cons_succ, List.set_cons_zero]
        refine wpList_skip (by rfl) ?_
        simp only [Act.put, List.setIfInBounds_toArray, List.set_cons_succ, List.set_cons_zero]
        refine wpList_wantV (by rfl) (.bool false) (run_pick0 (.tmp 26) (.tmp 33) (.const (.bool false)) rfl _ rfl rfl) ?_
        simp only [Act.put, List.setIfInBounds_toArray, List.set_cons_succ, List.set_cons_zero]
        go_wp2
        go_ret
        exact ⟨by simp [hT, hS], BB.out⟩
      · skip
        cases hG : decide (et' < et)
        · skip
          refine Shut.mk ?_
          refine wpList_wantV (by rfl) (.pointer (some ⟨w.heap.size, 34, none⟩)) (run_fieldAt 50 (.tmp 2) 3 rfl _ _ rfl (by kernel_rfl)) ?_
          simp only [Act.put, List.setIfInBounds_toArray, List.set_cons_succ, List.set_cons_zero]
          refine wpList_wantV (by rfl) (.pointer (some ⟨w.heap.size, 34, none⟩)) (run_fieldAt 41 (.tmp 19) 0 rfl _ _ rfl (by kernel_rfl)) ?_
          simp only [Act.put, List.setIfInBounds_toArray, List.set_cons_succ, List.set_cons_zero]
          refine wpList_wantV (by rfl) (.int .u64 ((es : Nat) : Int)) (run_cell 22 (.tmp 20) rfl _ rfl _ ((hd1.out).cell (j := 34) hA.out.1) _ Try.underlying22 rfl) ?_
          simp only [Act.put, List.setIfInBounds_toArray, List.set_cons_succ, List.set_cons_zero]
          refine wpList_wantV (by rfl) (.pointer (some ⟨w1.heap.size, 34, none⟩)) (run_fieldAt 50 (.tmp 3) 3 rfl _ _ rfl (by kernel_rfl)) ?_
          simp only [Act.put, List.setIfInBounds_toArray, List.set_cons_succ, List.set_cons_zero]
          refine wpList_wantV (by rfl) (.pointer (some ⟨w1.heap.size, 34, none⟩)) (run_fieldAt 41 (.tmp 22) 0 rfl _ _ rfl (by kernel_rfl)) ?_
          simp only [Act.put, List.setIfInBounds_toArray, List.set_cons_succ, List.set_cons_zero]
          refine wpList_wantV (by rfl) (.int .u64 ((es' : Nat) : Int)) (run_cell 22 (.tmp 23) rfl _ rfl _ ((hd2.out).cell (j := 34) hB.out.1) _ Try.underlying22 rfl) ?_
          simp only [Act.put, List.setIfInBounds_toArray, List.set_cons_succ, List.set_cons_zero]
          refine wpList_wantV (by rfl) (.bool true) (run_ltH (.tmp 21) (.tmp 24) rfl (es) (es') true hS rfl rfl) ?_
          simp only [Act.put, List.setIfInBounds_toArray, List.set_cons_succ, List.set_cons_zero]
          refine wpList_wantV (by rfl) (.bool true) (run_moveV (.tmp 25) rfl _ rfl) ?_
          simp only [Act.put, List.setIfInBounds_toArray, List.set_cons_succ, List.set_cons_zero]
          refine wpList_wantV (by rfl) (.pointer (some ⟨w.heap.size, 67, none⟩)) (run_fieldAt 50 (.tmp 2) 4 rfl _ _ rfl (by kernel_rfl)) ?_
          simp only [Act.put, List.setIfInBounds_toArray, List.set_cons_succ, List.set_cons_zero]
          refine wpList_wantV (by rfl) (.pointer (some ⟨w.heap.size, 67, none⟩)) (run_fieldAt 41 (.tmp 27) 0 rfl _ _ rfl (by kernel_rfl)) ?_
          simp only [Act.put, List.setIfInBounds_toArray, List.set_cons_succ, List.set_cons_zero]
          refine wpList_wantV (by rfl) (.int .u64 ((et : Nat) : Int)) (run_cell 22 (.tmp 28) rfl _ rfl _ ((hd1.out).cell (j := 67) hA.out.2) _ Try.underlying22 rfl) ?_
          simp only [Act.put, List.setIfInBounds_toArray, List.set_cons_succ, List.set_cons_zero]
          refine wpList_wantV (by rfl) (.pointer (some ⟨w1.heap.size, 67, none⟩)) (run_fieldAt 50 (.tmp 3) 4 rfl _ _ rfl (by kernel_rfl)) ?_
          simp only [Act.put, List.setIfInBounds_toArray, List.set_cons_succ, List.set_cons_zero]
          refine wpList_wantV (by rfl) (.pointer (some ⟨w1.heap.size, 67, none⟩)) (run_fieldAt 41 (.tmp 30) 0 rfl _ _ rfl (by kernel_rfl)) ?_
          simp only [Act.put, List.setIfInBounds_toArray, List.set_cons_succ, List.set_cons_zero]
          refine wpList_wantV (by rfl) (.int .u64 ((et' : Nat) : Int)) (run_cell 22 (.tmp 31) rfl _ rfl _ ((hd2.out).cell (j := 67) hB.out.2) _ Try.underlying22 rfl) ?_
          simp only [Act.put, List.setIfInBounds_toArray, List.set_cons_succ, List.set_cons_zero]
          refine wpList_wantV (by rfl) (.bool false) (run_gtH (.tmp 29) (.tmp 32) rfl (et) (et') false hG rfl rfl) ?_
          simp only [Act.put, List.setIfInBounds_toArray, List.set_cons_succ, List.set_cons_zero]
          refine wpList_wantV (by rfl) (.bool false) (run_pick1 (.tmp 26) (.tmp 33) (.const (.bool false)) rfl _ rfl rfl) ?_
          simp only [Act.put, List.setIfInBounds_toArray, List.set_cons_succ, List.set_cons_zero]
          go_wp2
          go_ret
          exact ⟨by simp [hT, hS, hG], BB.out⟩
        · skip
          refine Shut.mk ?_
          refine wpList_wantV (by rfl) (.pointer (some ⟨w.heap.size, 34, none⟩)) (run_fieldAt 50 (.tmp 2) 3 rfl _ _ rfl (by kernel_rfl)) ?_
          simp only [Act.put, List.setIfInBounds_toArray, List.set_cons_succ, List.set_cons_zero]
          refine wpList_wantV (by rfl) (.pointer (some ⟨w.heap.size, 34, none⟩)) (run_fieldAt 41 (.tmp 19) 0 rfl _ _ rfl (by kernel_rfl)) ?_
          simp only [Act.put, List.setIfInBounds_toArray, List.set_cons_succ, List.set_cons_zero]
          refine wpList_wantV (by rfl) (.int .u64 ((es : Nat) : Int)) (run_cell 22 (.tmp 20) rfl _ rfl _ ((hd1.out).cell (j := 34) hA.out.1) _ Try.underlying22 rfl) ?_
          simp only [Act.put, List.setIfInBounds_toArray, List.set_cons_succ, List.set_cons_zero]
          refine wpList_wantV (by rfl) (.pointer (some ⟨w1.heap.size, 34, none⟩)) (run_fieldAt 50 (.tmp 3) 3 rfl _ _ rfl (by kernel_rfl)) ?_
          simp only [Act.put, List.setIfInBounds_toArray, List.set_cons_succ, List.set_cons_zero]
          refine wpList_wantV (by rfl) (.pointer (some ⟨w1.heap.size, 34, none⟩)) (run_fieldAt 41 (.tmp 22) 0 rfl _ _ rfl (by kernel_rfl)) ?_
          simp only [Act.put, List.setIfInBounds_toArray, List.set_cons_succ, List.set_cons_zero]
          refine wpList_wantV (by rfl) (.int .u64 ((es' : Nat) : Int)) (run_cell 22 (.tmp 23) rfl _ rfl _ ((hd2.out).cell (j := 34) hB.out.1) _ Try.underlying22 rfl) ?_
          simp only [Act.put, List.setIfInBounds_toArray, List.set_cons_succ, List.set_cons_zero]
          refine wpList_wantV (by rfl) (.bool true) (run_ltH (.tmp 21) (.tmp 24) rfl (es) (es') true hS rfl rfl) ?_
          simp only [Act.put, List.setIfInBounds_toArray, List.set_cons_succ, List.set_cons_zero]
          refine wpList_wantV (by rfl) (.bool true) (run_moveV (.tmp 25) rfl _ rfl) ?_
          simp only [Act.put, List.setIfInBounds_toArray, List.set_cons_succ, List.set_cons_zero]
          refine wpList_wantV (by rfl) (.pointer (some ⟨w.heap.size, 67, none⟩)) (run_fieldAt 50 (.tmp 2) 4 rfl _ _ rfl (by kernel_rfl)) ?_
          simp only [Act.put, List.setIfInBounds_toArray, List.set_cons_succ, List.set_cons_zero]
          refine wpList_wantV (by rfl) (.pointer (some ⟨w.heap.size, 67, none⟩)) (run_fieldAt 41 (.tmp 27) 0 rfl _ _ rfl (by kernel_rfl)) ?_
          simp only [Act.put, List.setIfInBounds_toArray, List.set_cons_succ, List.set_cons_zero]
          refine wpList_wantV (by rfl) (.int .u64 ((et : Nat) : Int)) (run_cell 22 (.tmp 28) rfl _ rfl _ ((hd1.out).cell (j := 67) hA.out.2) _ Try.underlying22 rfl) ?_
          simp only [Act.put, List.setIfInBounds_toArray, List.set_cons_succ, List.set_cons_zero]
          refine wpList_wantV (by rfl) (.pointer (some ⟨w1.heap.size, 67, none⟩)) (run_fieldAt 50 (.tmp 3) 4 rfl _ _ rfl (by kernel_rfl)) ?_
          simp only [Act.put, List.setIfInBounds_toArray, List.set_cons_succ, List.set_cons_zero]
          refine wpList_wantV (by rfl) (.pointer (some ⟨w1.heap.size, 67, none⟩)) (run_fieldAt 41 (.tmp 30) 0 rfl _ _ rfl (by kernel_rfl)) ?_
          simp only [Act.put, List.setIfInBounds_toArray, List.set_cons_succ, List.set_cons_zero]
          refine wpList_wantV (by rfl) (.int .u64 ((et' : Nat) : Int)) (run_cell 22 (.tmp 31) rfl _ rfl _ ((hd2.out).cell (j := 67) hB.out.2) _ Try.underlying22 rfl) ?_
          simp only [Act.put, List.setIfInBounds_toArray, List.set_cons_succ, List.set_cons_zero]
          refine wpList_wantV (by rfl) (.bool true) (run_gtH (.tmp 29) (.tmp 32) rfl (et) (et') true hG rfl rfl) ?_
          simp only [Act.put, List.setIfInBounds_toArray, List.set_cons_succ, List.set_cons_zero]
          refine wpList_wantV (by rfl) (.bool true) (run_pick1 (.tmp 26) (.tmp 33) (.const (.bool false)) rfl _ rfl rfl) ?_
          simp only [Act.put, List.setIfInBounds_toArray, List.set_cons_succ, List.set_cons_zero]
          go_wp2
          go_ret
          exact ⟨by simp [hT, hS, hG], BB.out⟩
  · skip
    refine Shut.mk ?_
    refine wpList_wantV (by rfl) (.agg (A).toArray) (run_mid 50 (.tmp 2) rfl w.heap.size 0 rfl (A) ((hd1.out).range 0 _ (fun j v hv => by rw [Nat.zero_add]; exact hv)) _ Try.underlying50 rfl (by rw [hlA.out]; exact Try.tyVote.size)) ?_
    simp only [Act.put, List.setIfInBounds_toArray, List.set_cons_succ, List.set_cons_zero]
    refine wpList_wantV (by rfl) (.agg (B).toArray) (run_mid 50 (.tmp 3) rfl w1.heap.size 0 rfl (B) ((hd2.out).range 0 _ (fun j v hv => by rw [Nat.zero_add]; exact hv)) _ Try.underlying50 rfl (by rw [hlB.out]; exact Try.tyVote.size)) ?_
    simp only [Act.put, List.setIfInBounds_toArray, List.set_cons_succ, List.set_cons_zero]
    refine wpList_wantV (by rfl) (.bool false) (hN.out _ _ _ (.tmp 7) (.tmp 8) rfl rfl rfl) ?_
    simp only [Act.put, List.setIfInBounds_toArray, List.set_cons_succ, List.set_cons_zero]
    refine wpList_wantV (by rfl) (.bool false) (run_moveV (.tmp 9) rfl _ rfl) ?_
    simp only [Act.put, List.setIfInBounds_toArray, List.set_cons_succ, List.set_cons_zero]
    refine wpList_skip (by rfl) ?_
    simp only [Act.put, List.setIfInBounds_toArray, List.set_cons_succ, List.set_cons_zero]
    refine wpList_skip (by rfl) ?_
    simp only [Act.put, List.setIfInBounds_toArray, List.set_cons_succ, List.set_cons_zero]
    refine wpList_skip (by rfl) ?_
    simp only [Act.put, List.setIfInBounds_toArray, List.set_cons_succ, List.set_cons_zero]
    refine wpList_skip (by rfl) ?_
    simp only [Act.put, List.setIfInBounds_toArray, List.set_cons_succ, List.set_cons_zero]
    refine wpList_skip (by rfl) ?_
    simp only [Act.put, List.setIfInBounds_toArray, List.set_cons_succ, List.set_cons_zero]
    refine wpList_skip (by rfl) ?_
    simp only [Act.put, List.setIfInBounds_toArray, List.set_cons_succ, List.set_cons_zero]
    refine wpList_skip (by rfl) ?_
    simp only [Act.put, List.setIfInBounds_toArray, List.set_cons_succ, List.set_cons_zero]
    refine wpList_wantV (by rfl) (.bool false) (run_pick0 (.tmp 10) (.tmp 17) (.const (.bool false)) rfl _ rfl rfl) ?_
    simp only [Act.put, List.setIfInBounds_toArray, List.set_cons_succ, List.set_cons_zero]
    go_wp2_with ((with_reducible refine at_list' ?_); refine Shut.out ?_)
    cases hS : decide (es < es')
    · skip
      refine Shut.mk ?_
      refine wpList_wantV (by rfl) (.pointer (some ⟨w.heap.size, 34, none⟩)) (run_fieldAt 50 (.tmp 2) 3 rfl _ _ rfl (by kernel_rfl)) ?_
      simp only [Act.put, List.setIfInBounds_toArray, List.set_cons_succ, List.set_cons_zero]
      refine wpList_wantV (by rfl) (.pointer (some ⟨w.heap.size, 34, none⟩)) (run_fieldAt 41 (.tmp 19) 0 rfl _ _ rfl (by kernel_rfl)) ?_
      simp only [Act.put, List.setIfInBounds_toArray, List.set_cons_succ, List.set_cons_zero]
      refine wpList_wantV (by rfl) (.int .u64 ((es : Nat) : Int)) (run_cell 22 (.tmp 20) rfl _ rfl _ ((hd1.out).cell (j := 34) hA.out.1) _ Try.underlying22 rfl) ?_
      simp only [Act.put, List.setIfInBounds_toArray, List.set_cons_succ, List.set_cons_zero]
      refine wpList_wantV (by rfl) (.pointer (some ⟨w1.heap.size, 34, none⟩)) (run_fieldAt 50 (.tmp 3) 3 rfl _ _ rfl (by kernel_rfl)) ?_
      simp only [Act.put, List.setIfInBounds_toArray, List.set_cons_succ, List.set_cons_zero]
      refine wpList_wantV (by rfl) (.pointer (some ⟨w1.heap.size, 34, none⟩)) (run_fieldAt 41 (.tmp 22) 0 rfl _ _ rfl (by kernel_rfl)) ?_
      simp only [Act.put, List.setIfInBounds_toArray, List.set_cons_succ, List.set_cons_zero]
      refine wpList_wantV (by rfl) (.int .u64 ((es' : Nat) : Int)) (run_cell 22 (.tmp 23) rfl _ rfl _ ((hd2.out).cell (j := 34) hB.out.1) _ Try.underlying22 rfl) ?_
      simp only [Act.put, List.setIfInBounds_toArray, List.set_cons_succ, List.set_cons_zero]
      refine wpList_wantV (by rfl) (.bool false) (run_ltH (.tmp 21) (.tmp 24) rfl (es) (es') false hS rfl rfl) ?_
      simp only [Act.put, List.setIfInBounds_toArray, List.set_cons_succ, List.set_cons_zero]
      refine wpList_wantV (by rfl) (.bool false) (run_moveV (.tmp 25) rfl _ rfl) ?_
      simp only [Act.put, List.setIfInBounds_toArray, List.set_cons_succ, List.set_cons_zero]
      refine wpList_skip (by rfl) ?_
      simp only [Act.put, List.setIfInBounds_toArray, List.set_cons_succ, List.set_cons_zero]
      refine wpList_skip (by rfl) ?_
      simp only [Act.put, List.setIfInBounds_toArray, List.set_cons_succ, List.set_cons_zero]
      refine wpList_skip (by rfl) ?_
      simp only [Act.put, List.setIfInBounds_toArray, List.set_cons_succ, List.set_cons_zero]
      refine wpList_skip (by rfl) ?_
      simp only [Act.put, List.setIfInBounds_toArray, List.set_cons_succ, List.set_cons_zero]
      refine wpList_skip (by rfl) ?_
      simp only [Act.put, List.setIfInBounds_toArray, List.set_cons_succ, List.set_cons_zero]
      refine wpList_skip (by rfl) ?_
      simp only [Act.put, List.setIfInBounds_toArray, List.set_cons_succ, List.set_cons_zero]
      refine wpList_skip (by rfl) ?_
      simp only [Act.put, List.setIfInBounds_toArray, List.set_cons_succ, List.set_cons_zero]
      refine wpList_wantV (by rfl) (.bool false) (run_pick0 (.tmp 26) (.tmp 33) (.const (.bool false)) rfl _ rfl rfl) ?_
      simp only [Act.put, List.setIfInBounds_toArray, List.set_cons_succ, List.set_cons_zero]
      go_wp2
      go_ret
      exact ⟨by simp [hS], BB.out⟩
    · skip
      cases hG : decide (et' < et)
      · skip
        refine Shut.mk ?_
        refine wpList_wantV (by rfl) (.pointer (some ⟨w.heap.size, 34, none⟩)) (run_fieldAt 50 (.tmp 2) 3 rfl _ _ rfl (by kernel_rfl)) ?_
        simp only [Act.put, List.setIfInBounds_toArray, List.set_cons_succ, List.set_cons_zero]
        refine wpList_wantV (by rfl) (.pointer (some ⟨w.heap.size, 34, none⟩)) (run_fieldAt 41 (.tmp 19) 0 rfl _ _ rfl (by kernel_rfl)) ?_
        simp only [Act.put, List.setIfInBounds_toArray, List.set_cons_succ, List.set_cons_zero]
        refine wpList_wantV (by rfl) (.int .u64 ((es : Nat) : Int)) (run_cell 22 (.tmp 20) rfl _ rfl _ ((hd1.out).cell (j := 34) hA.out.1) _ Try.underlying22 rfl) ?_
        simp only [Act.put, List.setIfInBounds_toArray, List.set_cons_succ, List.set_cons_zero]
        refine wpList_wantV (by rfl) (.pointer (some ⟨w1.heap.size, 34, none⟩)) (run_fieldAt 50 (.tmp 3) 3 rfl _ _ rfl (by kernel_rfl)) ?_
        simp only [Act.put, List.setIfInBounds_toArray, List.set_cons_succ, List.set_cons_zero]
        refine wpList_wantV (by rfl) (.pointer (some ⟨w1.heap.size, 34, none⟩)) (run_fieldAt 41 (.tmp 22) 0 rfl _ _ rfl (by kernel_rfl)) ?_
        simp only [Act.put, List.setIfInBounds_toArray, List.set_cons_succ, List.set_cons_zero]
        refine wpList_wantV (by rfl) (.int .u64 ((es' : Nat) : Int)) (run_cell 22 (.tmp 23) rfl _ rfl _ ((hd2.out).cell (j := 34) hB.out.1) _ Try.underlying22 rfl) ?_
        simp only [Act.put, List.setIfInBounds_toArray, List.set_cons_succ, List.set_cons_zero]
        refine wpList_wantV (by rfl) (.bool true) (run_ltH (.tmp 21) (.tmp 24) rfl (es) (es') true hS rfl rfl) ?_
        simp only [Act.put, List.setIfInBounds_toArray, List.set_cons_succ, List.set_cons_zero]
        refine wpList_wantV (by rfl) (.bool true) (run_moveV (.tmp 25) rfl _ rfl) ?_
        simp only [Act.put, List.setIfInBounds_toArray, List.set_cons_succ, List.set_cons_zero]
        refine wpList_wantV (by rfl) (.pointer (some ⟨w.heap.size, 67, none⟩)) (run_fieldAt 50 (.tmp 2) 4 rfl _ _ rfl (by kernel_rfl)) ?_
        simp only [Act.put, List.setIfInBounds_toArray, List.set_cons_succ, List.set_cons_zero]
        refine wpList_wantV (by rfl) (.pointer (some ⟨w.heap.size, 67, none⟩)) (run_fieldAt 41 (.tmp 27) 0 rfl _ _ rfl (by kernel_rfl)) ?_
        simp only [Act.put, List.setIfInBounds_toArray, List.set_cons_succ, List.set_cons_zero]
        refine wpList_wantV (by rfl) (.int .u64 ((et : Nat) : Int)) (run_cell 22 (.tmp 28) rfl _ rfl _ ((hd1.out).cell (j := 67) hA.out.2) _ Try.underlying22 rfl) ?_
        simp only [Act.put, List.setIfInBounds_toArray, List.set_cons_succ, List.set_cons_zero]
        refine wpList_wantV (by rfl) (.pointer (some ⟨w1.heap.size, 67, none⟩)) (run_fieldAt 50 (.tmp 3) 4 rfl _ _ rfl (by kernel_rfl)) ?_
        simp only [Act.put, List.setIfInBounds_toArray, List.set_cons_succ, List.set_cons_zero]
        refine wpList_wantV (by rfl) (.pointer (some ⟨w1.heap.size, 67, none⟩)) (run_fieldAt 41 (.tmp 30) 0 rfl _ _ rfl (by kernel_rfl)) ?_
        simp only [Act.put, List.setIfInBounds_toArray, List.set_cons_succ, List.set_cons_zero]
        refine wpList_wantV (by rfl) (.int .u64 ((et' : Nat) : Int)) (run_cell 22 (.tmp 31) rfl _ rfl _ ((hd2.out).cell (j := 67) hB.out.2) _ Try.underlying22 rfl) ?_
        simp only [Act.put, List.setIfInBounds_toArray, List.set_cons_succ, List.set_cons_zero]
        refine wpList_wantV (by rfl) (.bool false) (run_gtH (.tmp 29) (.tmp 32) rfl (et) (et') false hG rfl rfl) ?_
        simp only [Act.put, List.setIfInBounds_toArray, List.set_cons_succ, List.set_cons_zero]
        refine wpList_wantV (by rfl) (.bool false) (run_pick1 (.tmp 26) (.tmp 33) (.const (.bool false)) rfl _ rfl rfl) ?_
        simp only [Act.put, List.setIfInBounds_toArray, List.set_cons_succ, List.set_cons_zero]
        go_wp2
        go_ret
        exact ⟨by simp [hS, hG], BB.out⟩
      · skip
        refine Shut.mk ?_
        refine wpList_wantV (by rfl) (.pointer (some ⟨w.heap.size, 34, none⟩)) (run_fieldAt 50 (.tmp 2) 3 rfl _ _ rfl (by kernel_rfl)) ?_
        simp only [Act.put, List.setIfInBounds_toArray, List.set_cons_succ, List.set_cons_zero]
        refine wpList_wantV (by rfl) (.pointer (some ⟨w.heap.size, 34, none⟩)) (run_fieldAt 41 (.tmp 19) 0 rfl _ _ rfl (by kernel_rfl)) ?_
        simp only [Act.put, List.setIfInBounds_toArray, List.set_cons_succ, List.set_cons_zero]
        refine wpList_wantV (by rfl) (.int .u64 ((es : Nat) : Int)) (run_cell 22 (.tmp 20) rfl _ rfl _ ((hd1.out).cell (j := 34) hA.out.1) _ Try.underlying22 rfl) ?_
        simp only [Act.put, List.setIfInBounds_toArray, List.set_cons_succ, List.set_cons_zero]
        refine wpList_wantV (by rfl) (.pointer (some ⟨w1.heap.size, 34, none⟩)) (run_fieldAt 50 (.tmp 3) 3 rfl _ _ rfl (by kernel_rfl)) ?_
        simp only [Act.put, List.setIfInBounds_toArray, List.set_cons_succ, List.set_cons_zero]
        refine wpList_wantV (by rfl) (.pointer (some ⟨w1.heap.size, 34, none⟩)) (run_fieldAt 41 (.tmp 22) 0 rfl _ _ rfl (by kernel_rfl)) ?_
        simp only [Act.put, List.setIfInBounds_toArray, List.set_cons_succ, List.set_cons_zero]
        refine wpList_wantV (by rfl) (.int .u64 ((es' : Nat) : Int)) (run_cell 22 (.tmp 23) rfl _ rfl _ ((hd2.out).cell (j := 34) hB.out.1) _ Try.underlying22 rfl) ?_
        simp only [Act.put, List.setIfInBounds_toArray, List.set_cons_succ, List.set_cons_zero]
        refine wpList_wantV (by rfl) (.bool true) (run_ltH (.tmp 21) (.tmp 24) rfl (es) (es') true hS rfl rfl) ?_
        simp only [Act.put, List.setIfInBounds_toArray, List.set_cons_succ, List.set_cons_zero]
        refine wpList_wantV (by rfl) (.bool true) (run_moveV (.tmp 25) rfl _ rfl) ?_
        simp only [Act.put, List.setIfInBounds_toArray, List.set_cons_succ, List.set_cons_zero]
        refine wpList_wantV (by rfl) (.pointer (some ⟨w.heap.size, 67, none⟩)) (run_fieldAt 50 (.tmp 2) 4 rfl _ _ rfl (by kernel_rfl)) ?_
        simp only [Act.put, List.setIfInBounds_toArray, List.set_cons_succ, List.set_cons_zero]
        refine wpList_wantV (by rfl) (.pointer (some ⟨w.heap.size, 67, none⟩)) (run_fieldAt 41 (.tmp 27) 0 rfl _ _ rfl (by kernel_rfl)) ?_
        simp only [Act.put, List.setIfInBounds_toArray, List.set_cons_succ, List.set_cons_zero]
        refine wpList_wantV (by rfl) (.int .u64 ((et : Nat) : Int)) (run_cell 22 (.tmp 28) rfl _ rfl _ ((hd1.out).cell (j := 67) hA.out.2) _ Try.underlying22 rfl) ?_
        simp only [Act.put, List.setIfInBounds_toArray, List.set_cons_succ, List.set_cons_zero]
        refine wpList_wantV (by rfl) (.pointer (some ⟨w1.heap.size, 67, none⟩)) (run_fieldAt 50 (.tmp 3) 4 rfl _ _ rfl (by kernel_rfl)) ?_
        simp only [Act.put, List.setIfInBounds_toArray, List.set_cons_succ, List.set_cons_zero]
        refine wpList_wantV (by rfl) (.pointer (some ⟨w1.heap.size, 67, none⟩)) (run_fieldAt 41 (.tmp 30) 0 rfl _ _ rfl (by kernel_rfl)) ?_
        simp only [Act.put, List.setIfInBounds_toArray, List.set_cons_succ, List.set_cons_zero]
        refine wpList_wantV (by rfl) (.int .u64 ((et' : Nat) : Int)) (run_cell 22 (.tmp 31) rfl _ rfl _ ((hd2.out).cell (j := 67) hB.out.2) _ Try.underlying22 rfl) ?_
        simp only [Act.put, List.setIfInBounds_toArray, List.set_cons_succ, List.set_cons_zero]
        refine wpList_wantV (by rfl) (.bool true) (run_gtH (.tmp 29) (.tmp 32) rfl (et) (et') true hG rfl rfl) ?_
        simp only [Act.put, List.setIfInBounds_toArray, List.set_cons_succ, List.set_cons_zero]
        refine wpList_wantV (by rfl) (.bool true) (run_pick1 (.tmp 26) (.tmp 33) (.const (.bool false)) rfl _ rfl rfl) ?_
        simp only [Act.put, List.setIfInBounds_toArray, List.set_cons_succ, List.set_cons_zero]
        go_wp2
        go_ret
        exact ⟨by simp [hS, hG], BB.out⟩
end Go.Proofs.Ythjjdjidbhlncaa
