/- Own texts of the proof, joined: CoDepositMessage RunEq AppN FlowM LwParts Laid CoVote CoIndexed. -/
import Derived.Test.YtfmecdmkepnlmaaDoorH5
import Derived.BigFrame
import Derived.Laws.AppendOwn
import Derived.LaidMore
import Derived.MakeChecks
import Derived.Lib.LaidTab
import Derived.Lib.LaidU8
import Derived.FnData
/- The root of a struct (DepositMessage), by the program. -/
namespace Go.Proofs.YtfmecdmkepnlmaaDoor
open Go.RowKit Go.Shelf
set_option linter.unusedVariables false
set_option linter.unusedSimpArgs false
set_option maxRecDepth 100000

def dmR (zk : List Nat) (zcr : List Nat) (zam : Nat) : List Nat := fullR (depth (([zk, zcr, wUp zam 8] : List (List Nat)).length : Nat)) [zk, zcr, wUp zam 8]
theorem dmR_rt (zk : List Nat) (zcr : List Nat) (zam : Nat) (hzk : Rt zk) (hzcr : Rt zcr) : Rt (dmR zk zcr zam) := full_rt _ _ (Rts.more hzk (Rts.more hzcr (Rts.more (wUp_rt zam 8) Rts.nil)))
set_option maxHeartbeats 2000000 in
theorem dmR_any (zk : List Nat) (zcr : List Nat) (zam : Nat) (zsg : List Nat) (hzk : Rt zk) (hzcr : Rt zcr) (hzam : zam < 18446744073709551616) (hzsg : Rt zsg) (w : World) (hT : Tabs w) :
    Calls Tryd.prog 27 #[.agg (ddC zk zcr zam zsg).toArray] w fun x w' => x = .returned (.agg (nums .u8 (dmR zk zcr zam))) ∧ Below w.heap.size w w' := by
  have hfr := dmR_rt zk zcr zam hzk hzcr
  obtain ⟨W, HW⟩ : ∃ W, Same (dmR zk zcr zam) W := ⟨_, ⟨rfl⟩⟩
  rw [HW.out] at hfr ⊢
  go_enter Tryd.func27, Tryd.ntmps27
  go_wp2_with ((with_reducible refine at_list' ?_); first
    | (refine wpList_box_c rfl 1 rfl (.tmp 0) rfl (ddC zk zcr zam zsg) rfl ?_; intro w1 H1 B1 S1)
    | (refine wpList_alloc_has rfl 2 rfl 25 rfl .u8 32 Tryd.zero25 ?_; intro w2 H2 B2 S2; rw [S1] at H2 S2; rw [S1]))
  have HX := hid (H1.keep B2)
  have HY := hid H2
  have HB := hid (B1.trans (B2.mono (by omega)))
  have HT := hid (hT.keep HB.out)
  have s2 : w2.heap.size = w.heap.size + 2 := by omega
  clear H1 B1 S1 H2 B2 S2
  try simp only [Act.put, List.setIfInBounds_toArray, List.set_cons_succ, List.set_cons_zero]
  refine wp_region_flow 9 9 (fun i v wq => match i with
    | 0 => v = .pointer (some ⟨w.heap.size, 0, none⟩)
    | 1 => v = .agg (nums .u8 zk)
    | 2 => v = .pointer (some ⟨w.heap.size, 32, none⟩)
    | 3 => v = .agg (nums .u8 zcr)
    | 4 => v = .pointer (some ⟨w.heap.size, 64, none⟩)
    | 5 => v = .int .u64 (zam : Nat)
    | 6 => v = .agg (nums .u8 (wUp zam 8))
    | 7 => ∃ b, v = .slice (some ⟨b, 0, none⟩) 3 3 ∧ RootsAt wq (some ⟨b, 0, none⟩) [zk, zcr, wUp zam 8]
    | _ => v = .agg (nums .u8 W)) (by kernel_rfl) (by kernel_rfl) (fun _ d _ _ _ h => by cases d <;> exact h) ?_ ?_ ?_ ?_
  · intro i v wq wq' hi hv hb
    match i, hi with
    | 0, _ => exact hv
    | 1, _ => exact hv
    | 2, _ => exact hv
    | 3, _ => exact hv
    | 4, _ => exact hv
    | 5, _ => exact hv
    | 6, _ => exact hv
    | 7, _ => obtain ⟨b, h1, h2⟩ := hv; exact ⟨b, h1, h2.keep hb⟩
    | 8, _ => exact hv
    | (k + 9), hk => exact absurd hk (by omega)
  · intro i o hi ho aq wq hc hk hdep
    match i, hi with
    | 0, _ =>
      cases ho
      have e1 : aq.tmps.getD 1 undef = .pointer (some ⟨w.heap.size, 0, none⟩) := hk 1 (by decide)
      exact flow_value _ (run_fieldAt 50 (.tmp 1) 0 rfl _ _ e1 (by kernel_rfl)) rfl
    | 1, _ =>
      cases ho
      have e0 : aq.tmps.getD 3 undef = .pointer (some ⟨w.heap.size, 0, none⟩) := hdep 0 3 rfl (by kernel_rfl)
      exact flow_value _ (run_mid 25 (.tmp 3) rfl w.heap.size 0 e0 (cellsB zk) ((HX.out.keep (hcB hc)).range 0 (cellsB zk) (seg (ps := ddP zk zcr zam zsg) (i := 0) (off := 0) rfl (by simp [ddP, cellsB_length, hzk.len, hzcr.len]))) _ Tryd.und25 rfl (by rw [cellsB_length, hzk.len]; exact Tryd.size25)) rfl
    | 2, _ =>
      cases ho
      have e1 : aq.tmps.getD 1 undef = .pointer (some ⟨w.heap.size, 0, none⟩) := hk 1 (by decide)
      exact flow_value _ (run_fieldAt 50 (.tmp 1) 1 rfl _ _ e1 (by kernel_rfl)) rfl
    | 3, _ =>
      cases ho
      have e0 : aq.tmps.getD 5 undef = .pointer (some ⟨w.heap.size, 32, none⟩) := hdep 2 5 rfl (by kernel_rfl)
      exact flow_value _ (run_mid 25 (.tmp 5) rfl w.heap.size 32 e0 (cellsB zcr) ((HX.out.keep (hcB hc)).range 32 (cellsB zcr) (seg (ps := ddP zk zcr zam zsg) (i := 1) (off := 32) rfl (by simp [ddP, cellsB_length, hzk.len, hzcr.len]))) _ Tryd.und25 rfl (by rw [cellsB_length, hzcr.len]; exact Tryd.size25)) rfl
    | 4, _ =>
      cases ho
      have e1 : aq.tmps.getD 1 undef = .pointer (some ⟨w.heap.size, 0, none⟩) := hk 1 (by decide)
      exact flow_value _ (run_fieldAt 50 (.tmp 1) 2 rfl _ _ e1 (by kernel_rfl)) rfl
    | 5, _ =>
      cases ho
      have e0 : aq.tmps.getD 7 undef = .pointer (some ⟨w.heap.size, 64, none⟩) := hdep 4 7 rfl (by kernel_rfl)
      exact flow_value _ (run_cell 23 (.tmp 7) rfl _ e0 _ ((HX.out.keep (hcB hc)).cell (seg (ps := ddP zk zcr zam zsg) (i := 2) (off := 64) rfl (by simp [ddP, cellsB_length, hzk.len, hzcr.len]) 0 _ rfl)) _ Tryd.underlying23 rfl) rfl
    | 6, _ =>
      cases ho
      have e0 : aq.tmps.getD 8 undef = .int .u64 (zam : Nat) := hdep 5 8 rfl (by kernel_rfl)
      refine flow_fun 58 _ _ rfl (fun _ _ => by simp [go_sem]) #[.int .u64 (zam : Nat)] (by rw [show (#[Operand.tmp 8] : Array Operand).map aq.eval = #[aq.tmps.getD 8 undef] from by simp [Act.eval], e0]) ?_
      refine (number_any zam hzam wq).mono ?_
      rintro x w' ⟨rfl, q⟩
      exact ⟨_, rfl, rfl, q⟩
    | 7, _ =>
      cases ho
      have e0 : aq.tmps.getD 4 undef = .agg (nums .u8 zk) := hdep 1 4 rfl (by kernel_rfl)
      have e1 : aq.tmps.getD 6 undef = .agg (nums .u8 zcr) := hdep 3 6 rfl (by kernel_rfl)
      have e2 : aq.tmps.getD 9 undef = .agg (nums .u8 (wUp zam 8)) := hdep 6 9 rfl (by kernel_rfl)
      exact flow_rows 96 25 3 32 _ rfl Tryd.underlying96 rootInfo6 [cellsB (zk), cellsB (zcr), cellsB (wUp zam 8)] [.tmp 4, .tmp 6, .tmp 9] rfl (by rw [show [Operand.tmp 4, Operand.tmp 6, Operand.tmp 9].map aq.eval = [aq.tmps.getD 4 undef, aq.tmps.getD 6 undef, aq.tmps.getD 9 undef] from rfl, e0, e1, e2]; rfl) (by simp [cellsB_length, (hzk).len, (hzcr).len, ((wUp_rt zam 8)).len]) rfl (by decide) (by decide) (by decide) (fun w' h => ⟨_, rfl, hasC_roots (rs := [zk, zcr, wUp zam 8]) h (Rts.more hzk (Rts.more hzcr (Rts.more (wUp_rt zam 8) Rts.nil)))⟩)
    | 8, _ =>
      cases ho
      obtain ⟨b, e6, h6⟩ := hdep 7 10 rfl (by kernel_rfl)
      refine flow_fun 36 _ _ rfl (fun _ _ => by simp [go_sem]) #[.slice (some ⟨b, 0, none⟩) 3 3] (by rw [show (#[Operand.tmp 10] : Array Operand).map aq.eval = #[aq.tmps.getD 10 undef] from by simp [Act.eval], e6]) ?_
      refine (cont_any (some ⟨b, 0, none⟩) 3 [zk, zcr, wUp zam 8] wq (HT.out.keep (hcB hc)) (Nat.le_refl _) (by decide) (by show 3 ≤ 1048576; decide) h6).mono ?_
      rintro x w' ⟨rfl, q⟩
      exact ⟨_, rfl, (by rw [← HW.out]; rfl), q⟩
    | (k + 9), hk => exact absurd hk (by omega)
  · intro o h9 ho
    omega
  intro vf w8 hc hv
  have e7 : vf 8 = _ := hv 8 11 (by decide) rfl
  have B8 := HB.out.trans ((hcB hc).mono (by omega))
  have H8v := HY.out.keep (hcB hc)
  have s8 := (hcB hc).size
  clear hv hc
  simp only [List.take_succ_cons, List.take_zero, List.drop_succ_cons, List.drop_zero, putAll, Act.put, List.setIfInBounds_toArray, List.set_cons_succ, List.set_cons_zero]
  rw [e7]
  have HB8 := hid B8
  clear B8 e7 HB
  go_wp2_with ((with_reducible refine at_list' ?_); first
    | (refine wpList_store_has rfl 25 (.tmp 2) (.tmp 11) rfl (w.heap.size + 1) .u8 W (zeros 32) rfl rfl 25 H8v (hfr.size _ Tryd.size25) (by rw [hfr.len, zeros_length]) ?_; intro w9 H9 O9))
  refine bodyPost_ret (results_has rfl _ _ (w.heap.size + 1) 25 .u8 W _ _ rfl H9 Tryd.und25 (hfr.size _ Tryd.size25)) rfl ?_
  exact ⟨rfl, below_only HB8.out O9 (by omega)⟩
end Go.Proofs.YtfmecdmkepnlmaaDoor

/- Two roots compared. -/
namespace Go.Proofs.YtfmecdmkepnlmaaDoor
open Go.RowKit
set_option linter.unusedVariables false
set_option linter.unusedSimpArgs false
set_option maxRecDepth 100000

theorem run_same_root {o : Oper} {a : Act} {w : World} (x y : Operand) (ho : o.op = .binOp .eql 25 x y 25) (r : List Nat) (hr : Rt r) (hx : a.eval x = .agg (nums .u8 r)) (hy : a.eval y = .agg (nums .u8 r)) : (execOp a.eval o).run Tryd.prog w = .ok (.value (.bool true)) w := by
  have h := eql_api r r hr.len hr.len hr.byte hr.byte w
  simp only [decide_true] at h
  unfold execOp
  simp only [ho, hx, hy]
  simp [go_sem, h]
end Go.Proofs.YtfmecdmkepnlmaaDoor

/- Numbers appended onto a slice without room; flows one behind another. -/
namespace Go.Proofs.YtfmecdmkepnlmaaDoor
open Go.RowKit Go.Shelf
set_option linter.unusedVariables false
set_option linter.unusedSimpArgs false
set_option maxRecDepth 100000

/-- An operation of a flow, one behind another; its guard says yes. -/
theorem wpList_flow {P : Program} {ops : Array Oper} {Q : Exit → Act → World → Prop} {a : Act} {w : World} {rest : List Oper} {o : Oper} (I : Value → World → Prop) (hw : Region.wanted o (yielded ops a.tmps) = true)
    (hf : o.wp P a w (fun a' w' => ∃ v, a' = a.put o.dst v ∧ I v w' ∧ Below w.heap.size w w') Q) (h : ∀ v w', I v w' → Below w.heap.size w w' → wpList P ops Q rest (a.put o.dst v) w') : wpList P ops Q (o :: rest) a w :=
  BigFrame.wpList_want hw fun K hK => Oper.wp_mono (fun a' w' ⟨v, e, hI, hB⟩ => by subst e; exact hK _ _ (h v w' hI hB)) hf
theorem kids_leaf (w : World) (zk zcr : List Nat) (zam : Nat) (hzk : Rt zk) (hzcr : Rt zcr) (hzam : zam < 18446744073709551616) : ∀ x ∈ [((Vt.mk 0 zk [] [] : Vt), nilS, nilS), (Vt.mk 0 zcr [] [], nilS, nilS), (Vt.mk zam (zeros 32) [] [], nilS, nilS)], VAt w x.1 x.2.1 x.2.2 := by
  intro x hx
  simp only [List.mem_cons, List.not_mem_nil, or_false] at hx
  rcases hx with rfl | rfl | rfl
  · exact vAt_leaf w (by decide) hzk.len hzk.byte
  · exact vAt_leaf w (by decide) hzcr.len hzcr.byte
  · exact vAt_leaf w hzam zeros32 (zeros_byte 32)
theorem append_empty {P : Program} {w : World} (t ty e : TypeId) (i : TypeInfo) (ht : P.underlying t = some (.slice e)) (hi : P.info? e = some i) (g : Nat) (ao : Option Addr) (m c : Nat) (h0 : 0 < m) (hm : m ≤ 1000) (hb : m * i.bytes ≤ 281474976710656) :
    (Builtin.append_ #[t, t] ty #[.slice (some ⟨g, 0, none⟩) 0 0, .slice ao m c]).run P w = (Builtin.append_ #[t, t] ty #[.slice none 0 0, .slice ao m c]).run P w := by
  have hn : Builtin.nextslicecap m 0 = m := by unfold Builtin.nextslicecap; rw [if_pos (by omega)]
  have hb' : ¬ 281474976710656 < m * i.bytes := by omega
  have hl : ∀ w, (loadCells ⟨g, 0, none⟩ 0).run P w = .ok #[] w := fun w => by simp [loadCells, loadCellsFrom]
  have hx : ¬ (9223372036854775807 < (m : Int) ∧ i.bytes = 0) := by omega
  simp only [Builtin.append_, run_underlying ht, sizeOf, typeInfo, hi, Builtin.lenOf, Builtin.firstCells]
  simp [run_underlying ht, hi, hn, hb', hl, hx, show ¬ m = 0 by omega, typeInfo]
theorem append_nothing {P : Program} {w : World} (t ty e : TypeId) (i : TypeInfo) (ht : P.underlying t = some (.slice e)) (hi : P.info? e = some i) (g : Nat) (ao : Option Addr) (c : Nat) :
    (Builtin.append_ #[t, t] ty #[.slice (some ⟨g, 0, none⟩) 0 0, .slice ao 0 c]).run P w = .ok (.slice (some ⟨g, 0, none⟩) 0 0) w := by
  have hl : ∀ ad w, (loadCells ad 0).run P w = .ok #[] w := fun ad w => by simp [loadCells, loadCellsFrom]
  cases ao with
  | none => simp [Builtin.append_, run_underlying ht, sizeOf, typeInfo, hi, Builtin.lenOf, Builtin.firstCells, storeCells]
  | some ad => simp [Builtin.append_, run_underlying ht, sizeOf, typeInfo, hi, Builtin.lenOf, Builtin.firstCells, hl, storeCells]
theorem info64 : (Tryd.prog.info? 23).map (fun i => (i.zero, i.size, i.bytes)) = some (some (.int .u64 0), 1, 8) := by kernel_rfl
/-- A slice of numbers without elements, in a flow. -/
theorem flow_none64 {w : World} {o : Oper} {a : Act} {Q : Exit → Act → World → Prop} {I : Value → World → Prop} (ho : o.op = .buildSlice 22 0 #[])
    (h : I (.slice (some ⟨w.heap.size, 0, none⟩) 0 0) (w.alloc (.cells #[] 23))) : o.wp Tryd.prog a w (fun a' w' => ∃ v, a' = a.put o.dst v ∧ I v w' ∧ Below w.heap.size w w') Q := by
  have hB : Below w.heap.size w (w.alloc (.cells #[] 23)) := (Below.refl _ w).alloc (Nat.le_refl _) _
  unfold Oper.wp
  simp only [execOp, ho]
  simp [go_sem]
  exact ⟨_, rfl, h, hB⟩
theorem isN_own {w : World} {base : Nat} {v : Value} {ns : List Nat} (h : w.ownsRow base 23 1 v ns.length (ns.map fun n : Nat => Value.int .u64 (n : Int))) (h64 : ∀ n ∈ ns, n < 18446744073709551616) : IsN w v ns := by
  obtain ⟨hl, ⟨rfl, h0⟩ | ⟨g, cap, cur, rfl, hb, hg, hnc, hm, hcs, htk⟩⟩ := h
  · exact ⟨⟨none, 0, by rw [h0], by omega, by decide, .inl h0⟩, h64⟩
  · refine ⟨⟨some ⟨g, 0, none⟩, cap, rfl, hnc, hm, .inr ⟨g, 0, rfl, fun i hi => ?_⟩⟩, h64⟩
    rw [Nat.zero_add, cell_of_row w g i _ _ (0, 0) hg, ← Array.getElem?_toList]
    have : (cur.toList.take (ns.length * 1))[i]? = (ns.map fun n : Nat => Value.int .u64 (n : Int))[i]? := by rw [htk]
    rw [List.getElem?_take, if_pos (by omega)] at this
    rw [this, List.getElem?_map, List.getElem?_eq_getElem hi, List.getD_eq_getElem?_getD, List.getElem?_eq_getElem hi]
    rfl
theorem flow_append_nums {w : World} {o : Oper} {a : Act} {Q : Exit → Act → World → Prop} {I : Value → World → Prop} (s x : Operand) (ho : o.op = .call { callee := .builtin .append, args := #[s, x], argTypes := #[22, 22] })
    (g : Nat) (hs : a.eval s = .slice (some ⟨g, 0, none⟩) 0 0) (ns : List Nat) (ao : Option Addr) (c : Nat) (hx : a.eval x = .slice ao ns.length c) (hN : IsN w (.slice ao ns.length c) ns)
    (hm : ns.length ≤ 1000) (hI : ∀ v' w', IsN w' v' ns → I v' w') : o.wp Tryd.prog a w (fun a' w' => ∃ v, a' = a.put o.dst v ∧ I v w' ∧ Below w.heap.size w w') Q := by
  obtain ⟨i0, hi0, hz0, hz1, hz2⟩ : ∃ i, Tryd.prog.info? 23 = some i ∧ i.zero = some (.int .u64 0) ∧ i.size = 1 ∧ i.bytes = 8 := by
    have hi := info64
    cases hq : Tryd.prog.info? 23 with
    | none => simp [hq] at hi
    | some i => simp [hq] at hi; exact ⟨i, rfl, hi.1, hi.2.1, hi.2.2⟩
  have ht := Tryd.underlying22
  have key : ∀ v' w', (Builtin.append_ #[22, 22] o.type #[.slice (some ⟨g, 0, none⟩) 0 0, .slice ao ns.length c]).run Tryd.prog w = .ok v' w' → I v' w' → Below w.heap.size w w' → o.wp Tryd.prog a w (fun a' w' => ∃ v, a' = a.put o.dst v ∧ I v w' ∧ Below w.heap.size w w') Q := by
    intro v' w' hrun h1 h2
    unfold Oper.wp
    simp only [execOp, ho, resolve, invoke, builtin, Sem.run_bind, Sem.run_pure, Result.andThen_ok, List.map_toArray, List.map_cons, List.map_nil, hs, hx, hrun]
    exact ⟨v', rfl, h1, h2⟩
  by_cases h0 : ns.length = 0
  · obtain rfl : ns = [] := List.eq_nil_of_length_eq_zero h0
    exact key _ w (append_nothing _ o.type _ i0 ht hi0 g ao c) (hI _ _ ⟨⟨some ⟨g, 0, none⟩, 0, rfl, Nat.le_refl _, by decide, .inl rfl⟩, fun _ h => absurd h List.not_mem_nil⟩) (Below.refl _ w)
  · obtain ⟨⟨ao', cap', e1, _, _, h3⟩, h64⟩ := hN
    simp only [Value.slice.injEq] at e1
    obtain ⟨rfl, _, rfl⟩ := e1
    obtain ⟨b, off, rfl, hcell⟩ := h3.resolve_left h0
    have hnews : ∀ j u, (ns.map fun n : Nat => Value.int .u64 (n : Int))[j]? = some u → w.cell? (Addr.add ⟨b, off, none⟩ j) = some u := fun j u hu => by
      have hj : j < ns.length := by
        by_cases hj : j < ns.length
        · exact hj
        · rw [List.getElem?_eq_none (by rw [List.length_map]; omega)] at hu; cases hu
      rw [Addr.add_lit, hcell j hj]
      rw [List.getElem?_map, List.getElem?_eq_getElem hj] at hu
      rw [List.getD_eq_getElem?_getD, List.getElem?_eq_getElem hj]
      exact hu
    obtain ⟨v', w', h1, h2, h4, _⟩ := run_append_own (P := Tryd.prog) w w.heap.size _ o.type _ i0 (.int .u64 0) 1 8 ht hi0 hz0 hz1 hz2 (by simp [Value.cells]) (by decide) (.slice none 0 0) 0 [] (World.ownsRow_nil _ _ _ _) ⟨b, off, none⟩ ns.length c (ns.map fun n : Nat => Value.int .u64 (n : Int)) (by simp) hnews (fun u hu => by obtain ⟨n, _, rfl⟩ := List.mem_map.1 hu; rfl) (by unfold maxLen; omega) (by omega) (Nat.le_refl _)
    refine key v' w' ((append_empty _ o.type _ i0 ht hi0 g _ ns.length c (by omega) hm (by rw [hz2]; omega)).trans h1) (hI _ _ ?_) ((Below.refl _ _).grown h4 (Nat.le_refl _) (by simp [Value.ownBlock]))
    rw [List.nil_append, Nat.zero_add] at h2
    exact isN_own h2 h64
end Go.Proofs.YtfmecdmkepnlmaaDoor

/- Flows whose operations may bear guards that are known to hold, and hang together in chains of any length. -/
namespace Go.Proofs.YtfmecdmkepnlmaaDoor
open Go Go.RowKit
section
variable {P : Program}
/-- Those below k that one of m waits for, itself or by others, and m. -/
def markG (ops : Array Oper) : Nat → List Nat → List Nat
  | 0, m => m
  | k + 1, m => if m.any (fun j => Region.waitsFor .any ops j k) then markG ops k (k :: m) else markG ops k m
def reachM (ops : Array Oper) (t i : Nat) : Bool := (markG ops t [t]).contains i
theorem markG_done {ops : Array Oper} {done : Array Bool} (hcl : ∀ j oj, ops[j]? = some oj → done.getD j false = true → ∀ e ∈ oj.after, Region.binds .any e = true → done.getD e.on false = true) {t : Nat} {o : Oper} (ho : ops[t]? = some o) (hall : ∀ e ∈ o.after, Region.binds .any e = true → done.getD e.on false = true) :
    ∀ k m, (∀ i ∈ m, i = t ∨ done.getD i false = true) → ∀ i ∈ markG ops k m, i = t ∨ done.getD i false = true := by
  intro k
  induction k with
  | zero => intro m hm i hi; exact hm i hi
  | succ k ih =>
    intro m hm i hi
    rw [markG] at hi
    split at hi
    · rename_i hany
      refine ih (k :: m) (fun q hq => ?_) i hi
      rcases List.mem_cons.1 hq with rfl | hq
      · obtain ⟨j, hj, hw⟩ := List.any_eq_true.1 hany
        rcases hm j hj with rfl | hd
        · exact .inr (waits_done ho hall hw)
        · cases hz : ops[j]? with
          | none => unfold Region.waitsFor at hw; rw [hz] at hw; cases hw
          | some oj => exact .inr (waits_done hz (hcl j oj hz hd) hw)
      · exact hm q hq
    · exact ih m hm i hi
theorem reachM_done {ops : Array Oper} {done : Array Bool} (hcl : ∀ j oj, ops[j]? = some oj → done.getD j false = true → ∀ e ∈ oj.after, Region.binds .any e = true → done.getD e.on false = true) {t i : Nat} {o : Oper} (ho : ops[t]? = some o) (hall : ∀ e ∈ o.after, Region.binds .any e = true → done.getD e.on false = true) (h : reachM ops t i = true) (hne : i ≠ t) : done.getD i false = true :=
  (markG_done hcl ho hall t [t] (fun q hq => .inl (List.mem_singleton.1 hq)) i (by unfold reachM at h; simpa using h)).resolve_left hne
/-- What a flow asks of a region's text: its head's guards are known, it waits upwards alone, writes each slot once; its tail waits for all of the head, but for one operation that only reads slots and may come late (late: its place; n: there is none). -/
def flowMB (ops : Array Oper) (n late sz : Nat) : Bool :=
  decide (n < ops.size) && Region.noSelect ops && ((List.range ops.size).all fun t => decide (t < n) || (List.range n).all fun i => decide (i = late) || reachM ops t i) &&
  ((List.range n).all fun i => match ops[i]? with
    | some o => (match o.guard with | none => true | some (g, _) => decide (g < i) && Region.waitsFor .any ops i g && (dstOf ops g).isSome) && (o.after.all fun e => !Region.binds .any e || decide (e.on < i)) && (match o.dst with
      | none => true
      | some d => decide (d < sz) && (List.range n).all fun j => decide (j = i) || decide (dstOf ops j ≠ some d))
    | none => false) && (decide (n ≤ late) || (Region.free .any ops (doneBut ops n late) late && (Region.ready .any ops (doneBut ops n late)).contains late)) &&
  Region.seqB .any ops (ops.size - n) n ((List.range ops.size).map fun i => decide (i < n)).toArray

theorem flowM_any {ops : Array Oper} {n late : Nat} {I : Nat → Value → World → Prop} {w0 : World} {a0 : Act} {Q : Exit → Act → World → Prop} (hB : flowMB ops n late a0.tmps.size = true)
    (hQ : ∀ c d v a w, Q (.panic c) (a.put d v) w → Q (.panic c) a w)
    (hguard : ∀ i o g b, i < n → ops[i]? = some o → o.guard = some (g, b) → ∀ v w, I g v w → v = .bool b)
    (hI : ∀ i v w w', i < n → I i v w → Below w.heap.size w w' → I i v w')
    (hop : ∀ i o, i < n → ops[i]? = some o → ∀ a w, Cls w0 w → (∀ s, (∀ j, j < n → dstOf ops j ≠ some s) → a.tmps.getD s undef = a0.tmps.getD s undef) →
      (∀ j d, dstOf ops j = some d → (o.after.any fun e => Region.binds .any e && e.on == j) = true → I j (a.tmps.getD d undef) w) →
      o.wp P a w (fun a' w' => ∃ v, a' = a.put o.dst v ∧ I i v w' ∧ Below w.heap.size w w') Q)
    (hlate : ∀ o, late < n → ops[late]? = some o → ∀ (a : Act) w, Cls w0 w → (∀ s, (∀ j, j < n → dstOf ops j ≠ some s) → a.tmps.getD s undef = a0.tmps.getD s undef) →
      (∀ j d, dstOf ops j = some d → (o.after.any fun e => Region.binds .any e && e.on == j) = true → I j (a.tmps.getD d undef) w) → ∃ v, (∀ w, (execOp a.eval o).run P w = .ok (.value v) w) ∧ I late v w)
    (htail : ∀ v w, Cls w0 w → (∀ i d, i < n → dstOf ops i = some d → I i (v i) w) → wpAny P .any ops Q (ops.size - n) ((List.range ops.size).map fun i => decide (i < n)).toArray (putAll v (ops.toList.take n) 0 a0) w) :
    ∀ f (done : Array Bool) (a : Act) (w : World), (List.range n).countP (fun i => !done.getD i true) = f → FlowInv ops n I w0 a0 done a w → wpAny P .any ops Q (f + (ops.size - n)) done a w := by
  simp only [flowMB, Bool.and_eq_true, decide_eq_true_eq, List.all_eq_true, List.mem_range, Bool.or_eq_true] at hB
  obtain ⟨⟨⟨⟨⟨hn, hsel⟩, hdir⟩, hall⟩, hlt8⟩, hseq⟩ := hB
  have hat : ∀ i, i < n → ∃ o, ops[i]? = some o := fun i hi => ⟨_, Array.getElem?_eq_getElem (by omega)⟩
  have hgd : ∀ i o, i < n → ops[i]? = some o → (∀ g b, o.guard = some (g, b) → Region.waitsFor .any ops i g = true ∧ ∃ d, dstOf ops g = some d) ∧ (∀ e ∈ o.after, Region.binds .any e = true → e.on < i) ∧ ∀ d, o.dst = some d → d < a0.tmps.size ∧ ∀ j, j < n → j ≠ i → dstOf ops j ≠ some d := by
    intro i o hi ho
    have := hall i hi
    rw [ho] at this
    simp only [Bool.and_eq_true, Array.all_eq_true_iff_forall_mem, Bool.or_eq_true, Bool.not_eq_true', decide_eq_true_eq] at this
    obtain ⟨⟨h1, h2⟩, h3⟩ := this
    refine ⟨fun g b hg => by
      rw [hg] at h1
      simp only [Bool.and_eq_true] at h1
      exact ⟨h1.1.2, Option.isSome_iff_exists.1 h1.2⟩, fun e he hb => (h2 e he).resolve_left (by rw [hb]; decide), fun d hd => ?_⟩
    rw [hd] at h3
    simp only [Bool.and_eq_true, decide_eq_true_eq, List.all_eq_true, List.mem_range, Bool.or_eq_true] at h3
    exact ⟨h3.1, fun j hj hne => (h3.2 j hj).resolve_left hne⟩
  intro f
  induction f with
  | zero =>
    intro done a w hcount inv
    have hdone : ∀ i, i < n → done.getD i true = true := fun i hi => by
      have := List.countP_eq_zero.1 hcount i (List.mem_range.2 hi)
      simpa using this
    have hdn : done = ((List.range ops.size).map fun i => decide (i < n)).toArray := by
      apply Array.ext_getElem?
      intro i
      by_cases hi : i < ops.size
      · have hi' : i < done.size := by rw [inv.head.size]; exact hi
        have h1 : (((List.range ops.size).map fun i => decide (i < n)).toArray)[i]? = some (decide (i < n)) := by simp [hi]
        rw [h1, Array.getElem?_eq_getElem hi']
        by_cases hin : i < n
        · have := hdone i hin
          simp [hi'] at this
          simp [hin, this]
        · have := inv.head.tail i (by omega) hi
          simp [hi'] at this
          simp [hin, this]
      · rw [Array.getElem?_eq_none (by rw [inv.head.size]; omega), Array.getElem?_eq_none (by simp; omega)]
    have hk : ∀ i, i < n → done.getD i false = true := fun i hi => by
      have h1 := hdone i hi
      have hi' : i < done.size := by rw [inv.head.size]; omega
      simp [hi'] at h1 ⊢
      exact h1
    have ha : a = putAll (fun i => match dstOf ops i with | some d => a.tmps.getD d undef | none => undef) (ops.toList.take n) 0 a0 := by
      have hd1 := putAll_defers (fun i => match dstOf ops i with | some d => a.tmps.getD d undef | none => undef) (ops.toList.take n) 0 a0
      have hs1 := putAll_size (fun i => match dstOf ops i with | some d => a.tmps.getD d undef | none => undef) (ops.toList.take n) 0 a0
      have ht1 : ∀ s, a.tmps[s]? = (putAll (fun i => match dstOf ops i with | some d => a.tmps.getD d undef | none => undef) (ops.toList.take n) 0 a0).tmps[s]? := fun s => by
        rw [putAll_get _ s (a.tmps.getD s undef) _ 0 a0 (fun j o hj ho => by
          rw [List.getElem?_take] at hj
          split at hj
          · have : dstOf ops j = some s := by unfold dstOf; rw [Array.getElem?_toList] at hj; rw [hj]; exact ho
            rw [Nat.zero_add, this]
          · cases hj)]
        split
        · rename_i h
          rw [Array.getElem?_eq_getElem (by rw [inv.size]; exact h.2)]
          simp [inv.size, h.2]
        · rename_i h
          by_cases hsz : s < a0.tmps.size
          · refine inv.keep s fun i hi e => h ⟨?_, hsz⟩
            obtain ⟨o, ho⟩ := hat i hi
            refine ⟨o, ?_, by unfold dstOf at e; rw [ho] at e; exact e⟩
            rw [List.mem_take_iff_getElem]
            have := Array.getElem?_eq_some_iff.1 ho
            exact ⟨i, by simp; omega, by simpa using this.2⟩
          · rw [Array.getElem?_eq_none (by rw [inv.size]; omega), Array.getElem?_eq_none (by omega)]
      generalize putAll (fun i => match dstOf ops i with | some d => a.tmps.getD d undef | none => undef) (ops.toList.take n) 0 a0 = b at *
      obtain ⟨ta, da⟩ := a
      obtain ⟨tb, db⟩ := b
      have e1 : ta = tb := Array.ext_getElem? ht1
      have e2 : da = db := inv.defers.trans hd1.symm
      rw [e1, e2]
    rw [Nat.zero_add, ha, hdn]
    refine htail _ w inv.cls fun i d hi hd => ?_
    have := inv.known i hi (hk i hi) d hd
    simpa [hd] using this
  | succ f ih =>
    intro done a w hcount inv
    have hex : ∃ i, i < n ∧ done.getD i true = false := by
      have : 0 < (List.range n).countP (fun i => !done.getD i true) := by omega
      obtain ⟨i, hi, hd⟩ := List.countP_pos_iff.1 this
      exact ⟨i, List.mem_range.1 hi, by simpa using hd⟩
    have hready : ∃ i, i < n ∧ i ∈ Region.ready .any ops done := by
      obtain ⟨i0, hi0, hd0⟩ := hex
      have key : ∀ m, m < n → done.getD m true = false → ∃ i, i < n ∧ i ∈ Region.ready .any ops done := by
        intro m
        induction m using Nat.strongRecOn with
        | _ m ihm =>
          intro hm hd
          obtain ⟨o, ho⟩ := hat m hm
          by_cases hw : ∀ e ∈ o.after, Region.binds .any e = true → done.getD e.on false = true
          · exact ⟨m, hm, mem_ready.2 ⟨hd, o, ho, hw⟩⟩
          · simp only [Classical.not_forall] at hw
            obtain ⟨e, he, hb, hnd⟩ := hw
            have hlt := (hgd m o hm ho).2.1 e he hb
            refine ihm e.on hlt (by omega) ?_
            have hi' : e.on < done.size := by rw [inv.head.size]; omega
            simp [hi'] at hnd ⊢
            exact hnd
      exact key i0 hi0 hd0
    obtain ⟨r, hr, hrr⟩ := hready
    rw [Nat.succ_add]
    have hstep : ∀ i o v w', i < n → i ∈ Region.ready .any ops done → ops[i]? = some o → I i v w' → Below w.heap.size w w' →
        (List.range n).countP (fun j => !(done.setIfInBounds i true).getD j true) = f ∧ FlowInv ops n I w0 a0 (done.setIfInBounds i true) (a.put o.dst v) w' := by
      intro i o v w' hin hi ho hv hB
      obtain ⟨hun, o', ho', hwait⟩ := mem_ready.1 hi
      obtain ⟨g1, g2, g3⟩ := hgd i o hin ho
      refine ⟨?_, inv.head.set hi hin, inv.cls.more hB, by rw [put_defers]; exact inv.defers, by rw [put_size]; exact inv.size, fun s hs' => ?_, fun j hj hdj d hd => ?_⟩
      · have hii : i < done.size := by rw [inv.head.size]; omega
        have hcp := count_step done i hii hun n hin
        omega
      · rw [put_get, if_neg (fun h => hs' i hin (by unfold dstOf; rw [ho]; exact h.1))]
        exact inv.keep s hs'
      · by_cases e : j = i
        · subst e
          have hd' : o.dst = some d := by unfold dstOf at hd; rw [ho] at hd; exact hd
          have : (a.put o.dst v).tmps.getD d undef = v := by
            rw [Array.getD_eq_getD_getElem?, put_get, if_pos ⟨hd', by rw [inv.size]; exact (g3 d hd').1⟩]; rfl
          rw [this]; exact hv
        · have hdj' : done.getD j false = true := by rwa [getD_set_ne false (Ne.symm e)] at hdj
          have : (a.put o.dst v).tmps.getD d undef = a.tmps.getD d undef := by
            rw [Array.getD_eq_getD_getElem?, put_get, if_neg (fun h => (g3 d h.1).2 j hj e hd), ← Array.getD_eq_getD_getElem?]
          rw [this]
          exact hI j _ w w' hj (inv.known j hj hdj' d hd) hB
    have hdeps : ∀ i o, i < n → i ∈ Region.ready .any ops done → ops[i]? = some o → ∀ j d, dstOf ops j = some d → (o.after.any fun e => Region.binds .any e && e.on == j) = true → I j (a.tmps.getD d undef) w := by
      intro i o hin hi ho j d hd hj
      obtain ⟨hun, o', ho', hwait⟩ := mem_ready.1 hi
      obtain rfl : o' = o := Option.some.inj (ho'.symm.trans ho)
      obtain ⟨g1, g2, g3⟩ := hgd i o' hin ho
      obtain ⟨k, hk, hk2⟩ := Array.any_eq_true.1 hj
      simp only [Bool.and_eq_true, beq_iff_eq] at hk2
      have hmem := Array.getElem_mem hk
      have hl := hwait _ hmem hk2.1
      have hlt := g2 _ hmem hk2.1
      rw [hk2.2] at hl hlt
      exact inv.known j (by omega) hl d hd
    have hwant : ∀ i o, i < n → i ∈ Region.ready .any ops done → ops[i]? = some o → Region.wanted o (yielded ops a.tmps) = true := by
      intro i o hin hi ho
      unfold Region.wanted
      cases hg : o.guard with
      | none => rfl
      | some gb =>
        obtain ⟨g, b⟩ := gb
        obtain ⟨q2, d, hd⟩ := (hgd i o hin ho).1 g b hg
        unfold Region.waitsFor at q2
        rw [ho] at q2
        have hv := hguard i o g b hin ho hg _ _ (hdeps i o hin hi ho g d hd q2)
        have hv2 : a.tmps[d]? = some (.bool b) := by
          rw [Array.getD_eq_getD_getElem?] at hv
          cases hq : a.tmps[d]? with
          | none => rw [hq] at hv; cases hv
          | some u => rw [hq] at hv; exact congrArg some hv
        have hy : yielded ops a.tmps g = some b := by
          unfold dstOf at hd
          unfold yielded
          rw [hd]
          simp [hv2]
        simp [hy]
    have hkeep : ∀ s, (∀ j, j < n → dstOf ops j ≠ some s) → a.tmps.getD s undef = a0.tmps.getD s undef := fun s hs' => by rw [Array.getD_eq_getD_getElem?, inv.keep s hs', ← Array.getD_eq_getD_getElem?]
    by_cases hbut : ∀ i, i < n → i ≠ late → done.getD i true = true
    · have hrl : r = late := Classical.byContradiction fun h => by
        have h1 := hbut r hr h
        rw [(mem_ready.1 hrr).1] at h1; cases h1
      subst hrl
      have hdn : done = doneBut ops n r := by
        apply Array.ext_getElem?
        intro i
        by_cases hi : i < ops.size
        · have hi' : i < done.size := by rw [inv.head.size]; exact hi
          have h1 : (doneBut ops n r)[i]? = some (decide (i < n) && decide (i ≠ r)) := by simp [doneBut, hi]
          rw [h1, Array.getElem?_eq_getElem hi']
          by_cases hin : i < n
          · by_cases hir : i = r
            · subst hir
              have := (mem_ready.1 hrr).1
              simp [hi'] at this
              simp [this]
            · have := hbut i hin hir
              simp [hi'] at this
              simp [hin, hir, this]
          · have := inv.head.tail i (by omega) hi
            simp [hi'] at this
            simp [hin, this]
        · rw [Array.getElem?_eq_none (by rw [inv.head.size]; omega), Array.getElem?_eq_none (by simp [doneBut]; omega)]
      obtain ⟨o, ho⟩ := hat r hr
      obtain ⟨v, hrun, hv⟩ := hlate o hr ho a w inv.cls hkeep (hdeps r o hr hrr ho)
      obtain ⟨q1, q2⟩ := hstep r o v w hr hrr ho hv (Below.refl _ w)
      have hw := hwant r o hr hrr ho
      have hfr := hlt8.resolve_left (by omega)
      rw [← hdn] at hfr
      exact wpAny_take ho hsel hfr.1 hfr.2 (fun c a w h => hQ c _ _ a w h) (.inl ⟨hw, hrun⟩) (ih _ _ _ q1 q2)
    · simp only [Classical.not_forall] at hbut
      obtain ⟨u, hu, hul, hud⟩ := hbut
      have hud' : done.getD u false = false := by
        have hi' : u < done.size := by rw [inv.head.size]; omega
        simp [hi'] at hud ⊢
        exact hud
      refine ⟨fun e => (by rw [e] at hrr; cases hrr), fun i hi => ?_⟩
      obtain ⟨hun, o, ho, hwait⟩ := mem_ready.1 hi
      have hin : i < n := Nat.lt_of_not_le fun h => by
        have his : i < ops.size := (Array.getElem?_eq_some_iff.1 ho).1
        have hw := ((hdir i his).resolve_left (by omega) u hu).resolve_left hul
        have := reachM_done inv.head.closed ho hwait hw (by omega)
        rw [hud'] at this
        cases this
      unfold wpOp
      rw [ho]
      have hw := hwant i o hin hi ho
      simp only [hw, if_true]
      refine .inl (Oper.wp_mono ?_ (hop i o hin ho a w inv.cls hkeep (hdeps i o hin hi ho)))
      rintro a' w' ⟨v, rfl, hv, hB⟩
      obtain ⟨q1, q2⟩ := hstep i o v w' hin hi ho hv hB
      exact ih _ _ _ q1 q2

/-- The region, told as a flow. -/
theorem wp_region_flowM {id : Nat} {Q : Exit → Act → World → Prop} {a : Act} {w : World} {l : List Oper} (n late : Nat) (I : Nat → Value → World → Prop) (hm : P.follows .mixedOrders = true) (hB : flowMB l.toArray n late a.tmps.size = true)
    (hQ : ∀ c d v a w, Q (.panic c) (a.put d v) w → Q (.panic c) a w)
    (hguard : ∀ i o g b, i < n → l.toArray[i]? = some o → o.guard = some (g, b) → ∀ v w, I g v w → v = .bool b)
    (hI : ∀ i v w w', i < n → I i v w → Below w.heap.size w w' → I i v w')
    (hop : ∀ i o, i < n → l.toArray[i]? = some o → ∀ a' w', Cls w w' → (∀ s, (∀ j, j < n → dstOf l.toArray j ≠ some s) → a'.tmps.getD s undef = a.tmps.getD s undef) →
      (∀ j d, dstOf l.toArray j = some d → (o.after.any fun e => Region.binds .any e && e.on == j) = true → I j (a'.tmps.getD d undef) w') →
      o.wp P a' w' (fun a'' w'' => ∃ v, a'' = a'.put o.dst v ∧ I i v w'' ∧ Below w'.heap.size w' w'') Q)
    (hlate : ∀ o, late < n → l.toArray[late]? = some o → ∀ (a' : Act) w', Cls w w' → (∀ s, (∀ j, j < n → dstOf l.toArray j ≠ some s) → a'.tmps.getD s undef = a.tmps.getD s undef) →
      (∀ j d, dstOf l.toArray j = some d → (o.after.any fun e => Region.binds .any e && e.on == j) = true → I j (a'.tmps.getD d undef) w') → ∃ v, (∀ w, (execOp a'.eval o).run P w = .ok (.value v) w) ∧ I late v w')
    (htail : ∀ v w', Cls w w' → (∀ i d, i < n → dstOf l.toArray i = some d → I i (v i) w') → wpList P l.toArray Q (l.drop n) (putAll v (l.take n) 0 a) w') : (Code.region id l.toArray true).wp P Q a w := by
  have hB' := hB
  simp only [flowMB, Bool.and_eq_true, decide_eq_true_eq] at hB'
  have hn : n < l.length := by simpa using hB'.1.1.1.1.1
  have h3 : (l.drop n).length = l.toArray.size - n := by simp
  refine wp_region_any hm ?_
  have hc0 : (List.range n).countP (fun i => !(Array.replicate l.toArray.size false).getD i true) = n := by
    have : (List.range n).countP (fun i => !(Array.replicate l.toArray.size false).getD i true) = (List.range n).length := List.countP_eq_length.2 fun i hi => by
      have := List.mem_range.1 hi
      simp [show i < l.length by omega]
    rw [this, List.length_range]
  have K := flowM_any (P := P) (Q := Q) (w0 := w) (a0 := a) hB hQ hguard hI hop hlate (fun v w' hc hv => by
    have := wpAny_of_seq (P := P) (md := .any) (Q' := Q) (l.drop n) n _ _ w' (fun j => by simp [List.getElem?_drop]) (by rw [h3]; exact hB'.2) (htail v w' hc hv)
    rw [h3] at this
    simpa using this) n (Array.replicate l.toArray.size false) a { w with drawn := w.drawn + 1 } hc0
    ⟨⟨by simp, fun j oj _ hx => (by rw [getD_replicate_false] at hx; cases hx), fun t _ ht => getD_in (by simpa using ht) (getD_replicate_false _ _)⟩, ⟨(Below.refl _ w).drew⟩, rfl, rfl, fun _ _ => rfl, fun i _ hx => (by rw [getD_replicate_false] at hx; cases hx)⟩
  rwa [show n + (l.toArray.size - n) = l.toArray.size by simp; omega] at K
end
end Go.Proofs.YtfmecdmkepnlmaaDoor

/- RootParts answers true for all values. -/
namespace Go.Proofs.YtfmecdmkepnlmaaDoor
open Go.RowKit Go.Shelf
set_option linter.unusedVariables false
set_option linter.unusedSimpArgs false
set_option maxRecDepth 100000

theorem listR_numsP (ns : List Nat) : listR 32 ((ns.map fun n => Vt.mk n (zeros 32) [] []).map Vt.num) = numR ns := by
  have e : (ns.map fun n => Vt.mk n (zeros 32) [] []).map Vt.num = ns := by rw [List.map_map]; exact List.map_id'' (fun _ => rfl) ns
  rw [e]
  unfold listR numR
  rfl
theorem p1_root (ns : List Nat) : rootV dNums (numsV ns) = numR ns := by
  simp only [dNums, numsV, dNum, rootV, listR_numsP]
  simp
theorem p1_ok (ns : List Nat) (h : ns.length ≤ 500) : okR dNums (numsV ns) := by
  simp [dNums, numsV, dNum, okR]
  omega
theorem p2_root (zed : List Nat) (zec : Nat) : rootV etD (etU zed zec) = etR zed zec := by
  simp only [etD, etU, dBox, dNum, dRoot, etR, rootV, rootsV]
  simp
theorem p2_ok (zed : List Nat) (zec : Nat) : okR etD (etU zed zec) := by simp [etD, etU, dBox, dNum, dRoot, okR, okRs]
theorem p3_root (zk zcr : List Nat) (zam : Nat) (zsg : List Nat) : rootV ddD (ddV zk zcr zam zsg) = ddR zk zcr zam zsg := by
  simp only [ddD, ddV, dBox, dNum, dRoot, ddR, rootV, rootsV]
  simp
theorem p3_ok (zk zcr : List Nat) (zam : Nat) (zsg : List Nat) : okR ddD (ddV zk zcr zam zsg) := by simp [ddD, ddV, dBox, dNum, dRoot, okR, okRs]
theorem p4_root (zk zcr : List Nat) (zam : Nat) : rootV dmD (.mk 0 (zeros 32) [] [.mk 0 zk [] [], .mk 0 zcr [] [], .mk zam (zeros 32) [] []]) = dmR zk zcr zam := by
  simp only [dmD, dBox, dNum, dRoot, dmR, rootV, rootsV]
  simp
theorem p4_ok (zk zcr : List Nat) (zam : Nat) : okR dmD (.mk 0 (zeros 32) [] [.mk 0 zk [] [], .mk 0 zcr [] [], .mk zam (zeros 32) [] []]) := by simp [dmD, dBox, dNum, dRoot, okR, okRs]
theorem p5_root (zxe zxi : Nat) : rootV exD (exV zxe zxi) = exR zxe zxi := by
  simp only [exD, exV, dBox, dNum, dRoot, exR, rootV, rootsV]
  simp
theorem p5_ok (zxe zxi : Nat) : okR exD (exV zxe zxi) := by simp [exD, exV, dBox, dNum, dRoot, okR, okRs]
set_option maxHeartbeats 40000000 in
theorem parts_walk (zno : Option Addr) (znc : Nat) (zns : List Nat) (zed : List Nat) (zec : Nat) (zk zcr : List Nat) (zam : Nat) (zsg : List Nat) (zxe zxi : Nat) (hzed : Rt zed) (hzec : zec < 18446744073709551616) (hzk : Rt zk) (hzcr : Rt zcr) (hzam : zam < 18446744073709551616) (hzsg : Rt zsg) (hzxe : zxe < 18446744073709551616) (hzxi : zxi < 18446744073709551616) (w : World) (hT : Tabs w) (hzn : IsN w (.slice zno zns.length znc) zns) :
    Calls Tryd.prog 6 #[.slice zno zns.length znc, .agg (etC zed zec).toArray, .agg (ddC zk zcr zam zsg).toArray, .agg (exC zxe zxi).toArray] w fun e w' => e = .returned (.bool true) ∧ Below w.heap.size w w' := by
  have hR1 := numR_rt zns
  have hR2 := etR_rt zed zec hzed
  have hR3 := ddR_rt zk zcr zam zsg hzk hzcr hzsg
  have hR4 := dmR_rt zk zcr zam hzk hzcr
  have hR5 := exR_rt zxe zxi
  have q1 := p1_root zns
  have q2 := p2_root zed zec
  have q3 := p3_root zk zcr zam zsg
  have q4 := p4_root zk zcr zam
  have q5 := p5_root zxe zxi
  obtain ⟨R1, HR1⟩ : ∃ R, Same (numR zns) R := ⟨_, ⟨rfl⟩⟩
  obtain ⟨R2, HR2⟩ : ∃ R, Same (etR zed zec) R := ⟨_, ⟨rfl⟩⟩
  obtain ⟨R3, HR3⟩ : ∃ R, Same (ddR zk zcr zam zsg) R := ⟨_, ⟨rfl⟩⟩
  obtain ⟨R4, HR4⟩ : ∃ R, Same (dmR zk zcr zam) R := ⟨_, ⟨rfl⟩⟩
  obtain ⟨R5, HR5⟩ : ∃ R, Same (exR zxe zxi) R := ⟨_, ⟨rfl⟩⟩
  rw [HR1.out] at hR1 q1
  rw [HR2.out] at hR2 q2
  rw [HR3.out] at hR3 q3
  rw [HR4.out] at hR4 q4
  rw [HR5.out] at hR5 q5
  have HE1 : Same (rootV dNums (numsV zns)) R1 := ⟨q1⟩
  have HE2 : Same (rootV etD (etU zed zec)) R2 := ⟨q2⟩
  have HE3 : Same (rootV ddD (ddV zk zcr zam zsg)) R3 := ⟨q3⟩
  have HE4 : Same (rootV dmD (.mk 0 (zeros 32) [] [.mk 0 zk [] [], .mk 0 zcr [] [], .mk zam (zeros 32) [] []])) R4 := ⟨q4⟩
  have HE5 : Same (rootV exD (exV zxe zxi)) R5 := ⟨q5⟩
  have HO2 := hid (p2_ok zed zec)
  have HO3 := hid (p3_ok zk zcr zam zsg)
  have HO4 := hid (p4_ok zk zcr zam)
  have HO5 := hid (p5_ok zxe zxi)
  clear q1 q2 q3 q4 q5
  go_enter Tryd.func6, Tryd.ntmps6
  go_wp2_with ((with_reducible refine at_list' ?_); first
    | (refine wpList_box_c rfl 5 rfl (.tmp 1) rfl (etC zed zec) rfl ?_; intro w1 H1 B1 S1)
    | (refine wpList_box_c rfl 6 rfl (.tmp 2) rfl (ddC zk zcr zam zsg) rfl ?_; intro w2 H2 B2 S2; rw [S1] at H2 S2; simp only [S1])
    | (refine wpList_box_c rfl 7 rfl (.tmp 3) rfl (exC zxe zxi) rfl ?_; intro w3 H3 B3 S3; rw [S2] at H3 S3; simp only [S2]))
  have L3 := below_more (below_more B1 B2 (Nat.le_refl _)) B3 (Nat.le_refl _)
  refine (awake_any w3 (hT.keep L3)).mono ?_
  rintro e w4 ⟨rfl, B4⟩
  have HX5 := hid (((H1.keep B2).keep B3).keep B4)
  have HX6 := hid ((H2.keep B3).keep B4)
  have HX7 := hid (H3.keep B4)
  have L4 := below_more L3 B4 (Nat.le_refl _)
  have lt4 : w.heap.size + 1 + 1 < w4.heap.size := HX7.out.lt
  clear H1 B1 S1 H2 B2 S2 H3 B3 S3 B4 L3
  by_cases h200 : (200 : Int) < ((zns.length : Nat) : Int)
  · go_wp2_with fail
    go_ret
    exact ⟨rfl, L4⟩
  · have hn200 : zns.length ≤ 200 := by omega
    have HO1 := hid (p1_ok zns (by omega))
    have hc0 := HX6.out.range 0 (cellsB zk) (seg (ps := ddP zk zcr zam zsg) (i := 0) (off := 0) rfl rfl)
    have hc1 := HX6.out.range 32 (cellsB zcr) (seg (ps := ddP zk zcr zam zsg) (i := 1) (off := 32) rfl (by simp [ddP, cellsB_length, hzk.len]))
    have hc2 := HX6.out.cell (j := 64) (v := .int .u64 (zam : Nat)) (seg (ps := ddP zk zcr zam zsg) (i := 2) (off := 64) rfl (by simp [ddP, cellsB_length, hzk.len, hzcr.len]) 0 _ rfl)
    have HC := hid (And.intro hc0 (And.intro hc1 hc2))
    clear hc0 hc1 hc2
    go_wp2_with ((with_reducible refine at_list' ?_); first
      | (refine wpList_run rfl _ (run_mid 25 (.tmp 15) rfl (w.heap.size + 1) 0 rfl (cellsB zk) HC.out.1 _ Tryd.und25 rfl (by rw [cellsB_length, hzk.len]; exact Tryd.size25)) ?_)
      | (refine wpList_run rfl _ (run_mid 25 (.tmp 18) rfl (w.heap.size + 1) 32 rfl (cellsB zcr) HC.out.2.1 _ Tryd.und25 rfl (by rw [cellsB_length, hzcr.len]; exact Tryd.size25)) ?_)
      | (refine wpList_run rfl _ (run_cell 23 (.tmp 21) rfl ⟨w.heap.size + 1, 64, none⟩ rfl _ HC.out.2.2 _ Tryd.underlying23 rfl) ?_)
      | (refine wpList_run rfl _ (run_buildOp 40 #[(1, .tmp 16)] rfl #[(1, .agg (nums .u8 zk))] (by simp [Act.eval]; rfl) _ (build_root zk hzk.len _)) ?_)
      | (refine wpList_run rfl _ (run_buildOp 40 #[(1, .tmp 19)] rfl #[(1, .agg (nums .u8 zcr))] (by simp [Act.eval]; rfl) _ (build_root zcr hzcr.len _)) ?_)
      | (refine wpList_run rfl _ (run_buildOp 40 #[(0, .tmp 22)] rfl #[(0, .int .u64 (zam : Nat))] (by simp [Act.eval]; rfl) _ (build_num zam _)) ?_)
      | (refine wpList_flow (fun v wq => ∃ b, v = .slice (some ⟨b, 0, none⟩) 3 3 ∧ KsAt wq [.mk 0 zk [] [], .mk 0 zcr [] [], .mk zam (zeros 32) [] []] b 0) rfl (flow_rowsB 38 40 3 35 #[(0, .tmp 17), (1, .tmp 20), (2, .tmp 23)] rfl Tryd.underlying38 valInfo [valL 0 zk nilS nilS, valL 0 zcr nilS nilS, valL zam (zeros 32) nilS nilS] [.tmp 17, .tmp 20, .tmp 23] rfl rfl (by simp [valL_length, zeros32, hzk.len, hzcr.len]) rfl (by decide) (by decide) (by decide) (fun w' h hb => ⟨_, rfl, ksAt_of h [(.mk 0 zk [] [], nilS, nilS), (.mk 0 zcr [] [], nilS, nilS), (.mk zam (zeros 32) [] [], nilS, nilS)] 0 (fun j v hj => by rw [Nat.zero_add]; exact hj) (kids_leaf w' zk zcr zam hzk hzcr hzam)⟩)) ?_; rintro v w5 ⟨bm, rfl, hkm⟩ B5)
      | (refine wpList_run rfl _ (run_buildOp 40 #[(3, .tmp 24)] rfl #[(3, .slice (some ⟨bm, 0, none⟩) 3 3)] (by simp [Act.eval]; rfl) _ (build_kids (some ⟨bm, 0, none⟩) 3 3 _)) ?_)
      | (refine wpList_alloc_c Tryd.ty40 rfl 9 rfl rfl ?_; intro w6 H6 B6 S6)
      | (refine wpList_store_c Tryd.ty40 rfl (.tmp 9) (.tmp 25) rfl w5.heap.size (valL 0 (zeros 32) nilS (.slice (some ⟨bm, 0, none⟩) 3 3)) rfl rfl rfl (valL_oneC _ _ _ _ trivial trivial) _ H6 rfl ?_; intro w7 H7 O7))
    have hv7 : VAt w7 (.mk 0 (zeros 32) [] [.mk 0 zk [] [], .mk 0 zcr [] [], .mk zam (zeros 32) [] []]) nilS (.slice (some ⟨bm, 0, none⟩) 3 3) := by
      have h5 := isV_all (ks := [.mk 0 zk [] [], .mk 0 zcr [] [], .mk zam (zeros 32) [] []]) (b := bm) (k := 3) rfl (by decide) hkm
      exact VAt.aside H6 rfl O7 _ (by simp [wide, wideK]) (VAt.keep B6 _ h5)
    have L5 := below_more L4 B5 (Nat.le_refl _)
    have L7 := below_only (below_more L5 B6 (Nat.le_refl _)) O7 L5.size
    have B47 : Below w4.heap.size w4 w7 := below_only (below_more B5 B6 (Nat.le_refl _)) O7 B5.size
    have HX5' := hid (HX5.out.keep B47)
    have HX6' := hid (HX6.out.keep B47)
    have HX7' := hid (HX7.out.keep B47)
    obtain ⟨sm, hsm⟩ : ∃ sm, Same (Value.slice (some ⟨bm, 0, none⟩) 3 3) sm := ⟨_, ⟨rfl⟩⟩
    rw [hsm.out] at H7 hv7
    have HX9 := hid (And.intro H7 hv7)
    have HB := hid L7
    have HT := hid (hT.keep L7)
    clear HX5 HX6 HX7 H6 B6 S6 H7 O7 hv7 hkm B5 B47 L5 L7 L4 HC
    have HX5 := HX5'
    have HX6 := HX6'
    have HX7 := HX7'
    clear HX5' HX6' HX7'
    generalize w5.heap.size = g9 at *
    try simp only [Act.put, List.setIfInBounds_toArray, List.set_cons_succ, List.set_cons_zero]
    refine wp_region_flowM 44 44 (fun i v wq => match i with
      | 0 => ∃ g, v = .slice (some ⟨g, 0, none⟩) 0 0
      | 1 => v = .slice zno zns.length znc
      | 2 => IsN wq v zns
      | 3 => v = .agg (nums .u8 R1)
      | 4 => ∃ p, v = .pointer (some ⟨p, 0, none⟩) ∧ DAt wq dNums p
      | 5 => v = .slice zno zns.length znc
      | 6 => IsV wq v (numsV zns)
      | 7 => v = .agg (nums .u8 R1)
      | 8 => v = .bool true
      | 9 => v = .bool true
      | 10 => v = .agg (etC zed zec).toArray
      | 11 => v = .agg (nums .u8 R2)
      | 12 => ∃ p, v = .pointer (some ⟨p, 0, none⟩) ∧ DAt wq etD p
      | 13 => v = .agg (etC zed zec).toArray
      | 14 => IsV wq v (etU zed zec)
      | 15 => v = .agg (nums .u8 R2)
      | 16 => v = .bool true
      | 17 => v = .bool true
      | 18 => v = .bool true
      | 19 => v = .agg (ddC zk zcr zam zsg).toArray
      | 20 => v = .agg (nums .u8 R3)
      | 21 => ∃ p, v = .pointer (some ⟨p, 0, none⟩) ∧ DAt wq ddD p
      | 22 => v = .agg (ddC zk zcr zam zsg).toArray
      | 23 => IsV wq v (ddV zk zcr zam zsg)
      | 24 => v = .agg (nums .u8 R3)
      | 25 => v = .bool true
      | 26 => v = .bool true
      | 27 => v = .bool true
      | 28 => v = .agg (ddC zk zcr zam zsg).toArray
      | 29 => v = .agg (nums .u8 R4)
      | 30 => ∃ p, v = .pointer (some ⟨p, 0, none⟩) ∧ DAt wq dmD p
      | 31 => IsV wq v (.mk 0 (zeros 32) [] [.mk 0 zk [] [], .mk 0 zcr [] [], .mk zam (zeros 32) [] []])
      | 32 => v = .agg (nums .u8 R4)
      | 33 => v = .bool true
      | 34 => v = .bool true
      | 35 => v = .bool true
      | 36 => v = .agg (exC zxe zxi).toArray
      | 37 => v = .agg (nums .u8 R5)
      | 38 => ∃ p, v = .pointer (some ⟨p, 0, none⟩) ∧ DAt wq exD p
      | 39 => v = .agg (exC zxe zxi).toArray
      | 40 => IsV wq v (exV zxe zxi)
      | 41 => v = .agg (nums .u8 R5)
      | 42 => v = .bool true
      | _ => v = .bool true) (by kernel_rfl) (by kernel_rfl) (fun _ d _ _ _ h => by cases d <;> exact h) ?_ ?_ ?_ ?_ ?_
    · intro i o g b hi ho hg v wq hv
      match i, hi with
      | 0, _ => cases ho; cases hg
      | 1, _ => cases ho; cases hg
      | 2, _ => cases ho; cases hg
      | 3, _ => cases ho; cases hg
      | 4, _ => cases ho; cases hg
      | 5, _ => cases ho; cases hg
      | 6, _ => cases ho; cases hg
      | 7, _ => cases ho; cases hg
      | 8, _ => cases ho; cases hg
      | 9, _ => cases ho; cases hg
      | 10, _ => cases ho; cases hg; exact hv
      | 11, _ => cases ho; cases hg; exact hv
      | 12, _ => cases ho; cases hg; exact hv
      | 13, _ => cases ho; cases hg; exact hv
      | 14, _ => cases ho; cases hg; exact hv
      | 15, _ => cases ho; cases hg; exact hv
      | 16, _ => cases ho; cases hg; exact hv
      | 17, _ => cases ho; cases hg
      | 18, _ => cases ho; cases hg
      | 19, _ => cases ho; cases hg; exact hv
      | 20, _ => cases ho; cases hg; exact hv
      | 21, _ => cases ho; cases hg; exact hv
      | 22, _ => cases ho; cases hg; exact hv
      | 23, _ => cases ho; cases hg; exact hv
      | 24, _ => cases ho; cases hg; exact hv
      | 25, _ => cases ho; cases hg; exact hv
      | 26, _ => cases ho; cases hg
      | 27, _ => cases ho; cases hg
      | 28, _ => cases ho; cases hg; exact hv
      | 29, _ => cases ho; cases hg; exact hv
      | 30, _ => cases ho; cases hg; exact hv
      | 31, _ => cases ho; cases hg; exact hv
      | 32, _ => cases ho; cases hg; exact hv
      | 33, _ => cases ho; cases hg; exact hv
      | 34, _ => cases ho; cases hg
      | 35, _ => cases ho; cases hg
      | 36, _ => cases ho; cases hg; exact hv
      | 37, _ => cases ho; cases hg; exact hv
      | 38, _ => cases ho; cases hg; exact hv
      | 39, _ => cases ho; cases hg; exact hv
      | 40, _ => cases ho; cases hg; exact hv
      | 41, _ => cases ho; cases hg; exact hv
      | 42, _ => cases ho; cases hg; exact hv
      | 43, _ => cases ho; cases hg
      | (k + 44), hk => exact absurd hk (by omega)
    · intro i v wq wq' hi hv hb
      match i, hi with
      | 0, _ => exact hv
      | 1, _ => exact hv
      | 2, _ => exact hv.keep hb
      | 3, _ => exact hv
      | 4, _ => obtain ⟨p, h1, h2⟩ := hv; exact ⟨p, h1, DAt.keep hb _ h2⟩
      | 5, _ => exact hv
      | 6, _ => exact hv.keep hb
      | 7, _ => exact hv
      | 8, _ => exact hv
      | 9, _ => exact hv
      | 10, _ => exact hv
      | 11, _ => exact hv
      | 12, _ => obtain ⟨p, h1, h2⟩ := hv; exact ⟨p, h1, DAt.keep hb _ h2⟩
      | 13, _ => exact hv
      | 14, _ => exact hv.keep hb
      | 15, _ => exact hv
      | 16, _ => exact hv
      | 17, _ => exact hv
      | 18, _ => exact hv
      | 19, _ => exact hv
      | 20, _ => exact hv
      | 21, _ => obtain ⟨p, h1, h2⟩ := hv; exact ⟨p, h1, DAt.keep hb _ h2⟩
      | 22, _ => exact hv
      | 23, _ => exact hv.keep hb
      | 24, _ => exact hv
      | 25, _ => exact hv
      | 26, _ => exact hv
      | 27, _ => exact hv
      | 28, _ => exact hv
      | 29, _ => exact hv
      | 30, _ => obtain ⟨p, h1, h2⟩ := hv; exact ⟨p, h1, DAt.keep hb _ h2⟩
      | 31, _ => exact hv.keep hb
      | 32, _ => exact hv
      | 33, _ => exact hv
      | 34, _ => exact hv
      | 35, _ => exact hv
      | 36, _ => exact hv
      | 37, _ => exact hv
      | 38, _ => obtain ⟨p, h1, h2⟩ := hv; exact ⟨p, h1, DAt.keep hb _ h2⟩
      | 39, _ => exact hv
      | 40, _ => exact hv.keep hb
      | 41, _ => exact hv
      | 42, _ => exact hv
      | 43, _ => exact hv
      | (k + 44), hk => exact absurd hk (by omega)
    · intro i o hi ho aq wq hc hk hdep
      match i, hi with
      | 0, _ =>
        cases ho
        exact flow_none64 rfl ⟨_, rfl⟩
      | 1, _ =>
        cases ho
        exact flow_move (.tmp 0) rfl (hk 0 (by decide))
      | 2, _ =>
        cases ho
        obtain ⟨g, e0⟩ := hdep 0 26 rfl (by kernel_rfl)
        have e1 : aq.tmps.getD 27 undef = .slice zno zns.length znc := hdep 1 27 rfl (by kernel_rfl)
        exact flow_append_nums (.tmp 26) (.tmp 27) rfl g e0 zns zno znc e1 (hzn.keep (HB.out.trans ((hcB hc).mono HB.out.size))) (by omega) (fun v' w' h => h)
      | 3, _ =>
        cases ho
        have h0 : IsN wq (aq.tmps.getD 28 undef) zns := hdep 2 28 rfl (by kernel_rfl)
        refine flow_fun 18 _ _ rfl (fun _ _ => by simp [go_sem]) #[aq.tmps.getD 28 undef] (by rw [show (#[Operand.tmp 28] : Array Operand).map aq.eval = #[aq.tmps.getD 28 undef] from by simp [Act.eval]]) ?_
        refine (numbersR_any _ zns wq (HT.out.keep (hcB hc)) h0 (by omega)).mono ?_
        rintro x w' ⟨rfl, q⟩
        exact ⟨_, rfl, (by rw [← HR1.out]; rfl), q⟩
      | 4, _ =>
        cases ho
        refine flow_fun 19 _ _ rfl (fun _ _ => by simp [go_sem]) #[] (by simp) ?_
        refine (dNums_any wq).mono ?_
        rintro x w' ⟨p, rfl, h1, q⟩
        exact ⟨_, rfl, ⟨p, rfl, h1⟩, q⟩
      | 5, _ =>
        cases ho
        exact flow_move (.tmp 0) rfl (hk 0 (by decide))
      | 6, _ =>
        cases ho
        have e0 : aq.tmps.getD 31 undef = .slice zno zns.length znc := hdep 5 31 rfl (by kernel_rfl)
        refine flow_fun 20 _ _ rfl (fun _ _ => by simp [go_sem]) #[.slice zno zns.length znc] (by rw [show (#[Operand.tmp 31] : Array Operand).map aq.eval = #[aq.tmps.getD 31 undef] from by simp [Act.eval], e0]) ?_
        refine (refNumbers_any (.slice zno zns.length znc) zns wq (hzn.keep (HB.out.trans ((hcB hc).mono HB.out.size))) (by omega)).mono ?_
        rintro x w' ⟨u, rfl, h1, q⟩
        exact ⟨_, rfl, ⟨nilS, u, rfl, vAt_nums h1 hzn.by64⟩, q⟩
      | 7, _ =>
        cases ho
        obtain ⟨p, e0, h0⟩ := hdep 4 30 rfl (by kernel_rfl)
        have h1 : IsV wq (aq.tmps.getD 32 undef) (numsV zns) := hdep 6 32 rfl (by kernel_rfl)
        refine flow_fun 9 _ _ rfl (fun _ _ => by simp [go_sem]) #[.pointer (some ⟨p, 0, none⟩), aq.tmps.getD 32 undef] (by rw [show (#[Operand.tmp 30, Operand.tmp 32] : Array Operand).map aq.eval = #[aq.tmps.getD 30 undef, aq.tmps.getD 32 undef] from by simp [Act.eval], e0]) ?_
        refine (rroot_any dNums (numsV zns) p _ wq HO1.out h0 h1).mono ?_
        rintro x w' ⟨rfl, q⟩
        exact ⟨_, rfl, (by rw [HE1.out]; rfl), q⟩
      | 8, _ =>
        cases ho
        have e0 : aq.tmps.getD 29 undef = .agg (nums .u8 R1) := hdep 3 29 rfl (by kernel_rfl)
        have e1 : aq.tmps.getD 33 undef = .agg (nums .u8 R1) := hdep 7 33 rfl (by kernel_rfl)
        exact flow_value _ (run_same_root (.tmp 29) (.tmp 33) rfl R1 hR1 e0 e1) rfl
      | 9, _ =>
        cases ho
        exact flow_move (.tmp 34) rfl (hdep 8 34 rfl (by kernel_rfl))
      | 10, _ =>
        cases ho
        have ep : aq.tmps.getD 5 undef = .pointer (some ⟨w.heap.size, 0, none⟩) := hk 5 (by decide)
        exact flow_value _ (run_mid 57 (.tmp 5) rfl (w.heap.size) 0 ep (etC zed zec) ((HX5.out.keep (hcB hc)).range 0 (etC zed zec) (fun j v hv => by rw [Nat.zero_add]; exact hv)) _ Tryd.underlying57 rfl (by rw [etC_length zed zec hzed.len]; kernel_rfl)) rfl
      | 11, _ =>
        cases ho
        have e0 : aq.tmps.getD 36 undef = .agg (etC zed zec).toArray := hdep 10 36 rfl (by kernel_rfl)
        refine flow_fun 21 _ _ rfl (fun _ _ => by simp [go_sem]) #[.agg (etC zed zec).toArray] (by rw [show (#[Operand.tmp 36] : Array Operand).map aq.eval = #[aq.tmps.getD 36 undef] from by simp [Act.eval], e0]) ?_
        refine (etR_any zed zec hzed hzec wq (HT.out.keep (hcB hc))).mono ?_
        rintro x w' ⟨rfl, q⟩
        exact ⟨_, rfl, (by rw [← HR2.out]; rfl), q⟩
      | 12, _ =>
        cases ho
        refine flow_fun 22 _ _ rfl (fun _ _ => by simp [go_sem]) #[] (by simp) ?_
        refine (etD_any wq).mono ?_
        rintro x w' ⟨p, rfl, h1, q⟩
        exact ⟨_, rfl, ⟨p, rfl, h1⟩, q⟩
      | 13, _ =>
        cases ho
        have ep : aq.tmps.getD 5 undef = .pointer (some ⟨w.heap.size, 0, none⟩) := hk 5 (by decide)
        exact flow_value _ (run_mid 57 (.tmp 5) rfl (w.heap.size) 0 ep (etC zed zec) ((HX5.out.keep (hcB hc)).range 0 (etC zed zec) (fun j v hv => by rw [Nat.zero_add]; exact hv)) _ Tryd.underlying57 rfl (by rw [etC_length zed zec hzed.len]; kernel_rfl)) rfl
      | 14, _ =>
        cases ho
        have e0 : aq.tmps.getD 39 undef = .agg (etC zed zec).toArray := hdep 13 39 rfl (by kernel_rfl)
        refine flow_fun 23 _ _ rfl (fun _ _ => by simp [go_sem]) #[.agg (etC zed zec).toArray] (by rw [show (#[Operand.tmp 39] : Array Operand).map aq.eval = #[aq.tmps.getD 39 undef] from by simp [Act.eval], e0]) ?_
        refine (etW_any (fun _ => True) zed zec hzed hzec wq (fun _ _ => trivial)).mono ?_
        rintro x w' ⟨v, rfl, h1, q⟩
        exact ⟨v, rfl, h1.isV, q⟩
      | 15, _ =>
        cases ho
        obtain ⟨p, e0, h0⟩ := hdep 12 38 rfl (by kernel_rfl)
        have h1 : IsV wq (aq.tmps.getD 40 undef) (etU zed zec) := hdep 14 40 rfl (by kernel_rfl)
        refine flow_fun 9 _ _ rfl (fun _ _ => by simp [go_sem]) #[.pointer (some ⟨p, 0, none⟩), aq.tmps.getD 40 undef] (by rw [show (#[Operand.tmp 38, Operand.tmp 40] : Array Operand).map aq.eval = #[aq.tmps.getD 38 undef, aq.tmps.getD 40 undef] from by simp [Act.eval], e0]) ?_
        refine (rroot_any etD (etU zed zec) p _ wq HO2.out h0 h1).mono ?_
        rintro x w' ⟨rfl, q⟩
        exact ⟨_, rfl, (by rw [HE2.out]; rfl), q⟩
      | 16, _ =>
        cases ho
        have e0 : aq.tmps.getD 37 undef = .agg (nums .u8 R2) := hdep 11 37 rfl (by kernel_rfl)
        have e1 : aq.tmps.getD 41 undef = .agg (nums .u8 R2) := hdep 15 41 rfl (by kernel_rfl)
        exact flow_value _ (run_same_root (.tmp 37) (.tmp 41) rfl R2 hR2 e0 e1) rfl
      | 17, _ =>
        cases ho
        have e0 : aq.tmps.getD 35 undef = .bool true := hdep 9 35 rfl (by kernel_rfl)
        have e1 : aq.tmps.getD 42 undef = .bool true := hdep 16 42 rfl (by kernel_rfl)
        have e0' : aq.tmps[35]?.getD undef = .bool true := by simpa using e0
        have e1' : aq.tmps[42]?.getD undef = .bool true := by simpa using e1
        refine flow_value (.bool true) ?_ rfl
        unfold execOp
        simp [e0', e1', go_sem, Act.eval]
      | 18, _ =>
        cases ho
        exact flow_move (.tmp 43) rfl (hdep 17 43 rfl (by kernel_rfl))
      | 19, _ =>
        cases ho
        have ep : aq.tmps.getD 6 undef = .pointer (some ⟨w.heap.size + 1, 0, none⟩) := hk 6 (by decide)
        exact flow_value _ (run_mid 50 (.tmp 6) rfl (w.heap.size + 1) 0 ep (ddC zk zcr zam zsg) ((HX6.out.keep (hcB hc)).range 0 (ddC zk zcr zam zsg) (fun j v hv => by rw [Nat.zero_add]; exact hv)) _ Tryd.underlying50 rfl (by rw [ddC_length zk zcr zam zsg hzk.len hzcr.len hzsg.len]; kernel_rfl)) rfl
      | 20, _ =>
        cases ho
        have e0 : aq.tmps.getD 45 undef = .agg (ddC zk zcr zam zsg).toArray := hdep 19 45 rfl (by kernel_rfl)
        refine flow_fun 24 _ _ rfl (fun _ _ => by simp [go_sem]) #[.agg (ddC zk zcr zam zsg).toArray] (by rw [show (#[Operand.tmp 45] : Array Operand).map aq.eval = #[aq.tmps.getD 45 undef] from by simp [Act.eval], e0]) ?_
        refine (ddR_any zk zcr zam zsg hzk hzcr hzam hzsg wq (HT.out.keep (hcB hc))).mono ?_
        rintro x w' ⟨rfl, q⟩
        exact ⟨_, rfl, (by rw [← HR3.out]; rfl), q⟩
      | 21, _ =>
        cases ho
        refine flow_fun 25 _ _ rfl (fun _ _ => by simp [go_sem]) #[] (by simp) ?_
        refine (ddD_any wq).mono ?_
        rintro x w' ⟨p, rfl, h1, q⟩
        exact ⟨_, rfl, ⟨p, rfl, h1⟩, q⟩
      | 22, _ =>
        cases ho
        have ep : aq.tmps.getD 6 undef = .pointer (some ⟨w.heap.size + 1, 0, none⟩) := hk 6 (by decide)
        exact flow_value _ (run_mid 50 (.tmp 6) rfl (w.heap.size + 1) 0 ep (ddC zk zcr zam zsg) ((HX6.out.keep (hcB hc)).range 0 (ddC zk zcr zam zsg) (fun j v hv => by rw [Nat.zero_add]; exact hv)) _ Tryd.underlying50 rfl (by rw [ddC_length zk zcr zam zsg hzk.len hzcr.len hzsg.len]; kernel_rfl)) rfl
      | 23, _ =>
        cases ho
        have e0 : aq.tmps.getD 48 undef = .agg (ddC zk zcr zam zsg).toArray := hdep 22 48 rfl (by kernel_rfl)
        refine flow_fun 26 _ _ rfl (fun _ _ => by simp [go_sem]) #[.agg (ddC zk zcr zam zsg).toArray] (by rw [show (#[Operand.tmp 48] : Array Operand).map aq.eval = #[aq.tmps.getD 48 undef] from by simp [Act.eval], e0]) ?_
        refine (ddV_any zk zcr zam zsg hzk hzcr hzam hzsg wq).mono ?_
        rintro x w' ⟨v, rfl, h1, q⟩
        exact ⟨v, rfl, h1, q⟩
      | 24, _ =>
        cases ho
        obtain ⟨p, e0, h0⟩ := hdep 21 47 rfl (by kernel_rfl)
        have h1 : IsV wq (aq.tmps.getD 49 undef) (ddV zk zcr zam zsg) := hdep 23 49 rfl (by kernel_rfl)
        refine flow_fun 9 _ _ rfl (fun _ _ => by simp [go_sem]) #[.pointer (some ⟨p, 0, none⟩), aq.tmps.getD 49 undef] (by rw [show (#[Operand.tmp 47, Operand.tmp 49] : Array Operand).map aq.eval = #[aq.tmps.getD 47 undef, aq.tmps.getD 49 undef] from by simp [Act.eval], e0]) ?_
        refine (rroot_any ddD (ddV zk zcr zam zsg) p _ wq HO3.out h0 h1).mono ?_
        rintro x w' ⟨rfl, q⟩
        exact ⟨_, rfl, (by rw [HE3.out]; rfl), q⟩
      | 25, _ =>
        cases ho
        have e0 : aq.tmps.getD 46 undef = .agg (nums .u8 R3) := hdep 20 46 rfl (by kernel_rfl)
        have e1 : aq.tmps.getD 50 undef = .agg (nums .u8 R3) := hdep 24 50 rfl (by kernel_rfl)
        exact flow_value _ (run_same_root (.tmp 46) (.tmp 50) rfl R3 hR3 e0 e1) rfl
      | 26, _ =>
        cases ho
        have e0 : aq.tmps.getD 44 undef = .bool true := hdep 18 44 rfl (by kernel_rfl)
        have e1 : aq.tmps.getD 51 undef = .bool true := hdep 25 51 rfl (by kernel_rfl)
        have e0' : aq.tmps[44]?.getD undef = .bool true := by simpa using e0
        have e1' : aq.tmps[51]?.getD undef = .bool true := by simpa using e1
        refine flow_value (.bool true) ?_ rfl
        unfold execOp
        simp [e0', e1', go_sem, Act.eval]
      | 27, _ =>
        cases ho
        exact flow_move (.tmp 52) rfl (hdep 26 52 rfl (by kernel_rfl))
      | 28, _ =>
        cases ho
        have ep : aq.tmps.getD 6 undef = .pointer (some ⟨w.heap.size + 1, 0, none⟩) := hk 6 (by decide)
        exact flow_value _ (run_mid 50 (.tmp 6) rfl (w.heap.size + 1) 0 ep (ddC zk zcr zam zsg) ((HX6.out.keep (hcB hc)).range 0 (ddC zk zcr zam zsg) (fun j v hv => by rw [Nat.zero_add]; exact hv)) _ Tryd.underlying50 rfl (by rw [ddC_length zk zcr zam zsg hzk.len hzcr.len hzsg.len]; kernel_rfl)) rfl
      | 29, _ =>
        cases ho
        have e0 : aq.tmps.getD 54 undef = .agg (ddC zk zcr zam zsg).toArray := hdep 28 54 rfl (by kernel_rfl)
        refine flow_fun 27 _ _ rfl (fun _ _ => by simp [go_sem]) #[.agg (ddC zk zcr zam zsg).toArray] (by rw [show (#[Operand.tmp 54] : Array Operand).map aq.eval = #[aq.tmps.getD 54 undef] from by simp [Act.eval], e0]) ?_
        refine (dmR_any zk zcr zam zsg hzk hzcr hzam hzsg wq (HT.out.keep (hcB hc))).mono ?_
        rintro x w' ⟨rfl, q⟩
        exact ⟨_, rfl, (by rw [← HR4.out]; rfl), q⟩
      | 30, _ =>
        cases ho
        refine flow_fun 28 _ _ rfl (fun _ _ => by simp [go_sem]) #[] (by simp) ?_
        refine (dmD_any wq).mono ?_
        rintro x w' ⟨p, rfl, h1, q⟩
        exact ⟨_, rfl, ⟨p, rfl, h1⟩, q⟩
      | 31, _ =>
        cases ho
        have ep : aq.tmps.getD 9 undef = .pointer (some ⟨g9, 0, none⟩) := hk 9 (by decide)
        refine flow_value (.agg (valL 0 (zeros 32) nilS sm).toArray) (run_mid 40 (.tmp 9) rfl g9 0 ep (valL 0 (zeros 32) nilS sm) ((HX9.out.1.keep (hcB hc)).range 0 _ (fun j v hv => by rw [Nat.zero_add]; exact hv)) _ Tryd.underlying40 rfl (by rw [valL_length _ _ _ _ zeros32]; kernel_rfl)) ⟨nilS, sm, rfl, VAt.keep (hcB hc) _ HX9.out.2⟩
      | 32, _ =>
        cases ho
        obtain ⟨p, e0, h0⟩ := hdep 30 56 rfl (by kernel_rfl)
        have h1 : IsV wq (aq.tmps.getD 57 undef) (.mk 0 (zeros 32) [] [.mk 0 zk [] [], .mk 0 zcr [] [], .mk zam (zeros 32) [] []]) := hdep 31 57 rfl (by kernel_rfl)
        refine flow_fun 9 _ _ rfl (fun _ _ => by simp [go_sem]) #[.pointer (some ⟨p, 0, none⟩), aq.tmps.getD 57 undef] (by rw [show (#[Operand.tmp 56, Operand.tmp 57] : Array Operand).map aq.eval = #[aq.tmps.getD 56 undef, aq.tmps.getD 57 undef] from by simp [Act.eval], e0]) ?_
        refine (rroot_any dmD (.mk 0 (zeros 32) [] [.mk 0 zk [] [], .mk 0 zcr [] [], .mk zam (zeros 32) [] []]) p _ wq HO4.out h0 h1).mono ?_
        rintro x w' ⟨rfl, q⟩
        exact ⟨_, rfl, (by rw [HE4.out]; rfl), q⟩
      | 33, _ =>
        cases ho
        have e0 : aq.tmps.getD 55 undef = .agg (nums .u8 R4) := hdep 29 55 rfl (by kernel_rfl)
        have e1 : aq.tmps.getD 58 undef = .agg (nums .u8 R4) := hdep 32 58 rfl (by kernel_rfl)
        exact flow_value _ (run_same_root (.tmp 55) (.tmp 58) rfl R4 hR4 e0 e1) rfl
      | 34, _ =>
        cases ho
        have e0 : aq.tmps.getD 53 undef = .bool true := hdep 27 53 rfl (by kernel_rfl)
        have e1 : aq.tmps.getD 59 undef = .bool true := hdep 33 59 rfl (by kernel_rfl)
        have e0' : aq.tmps[53]?.getD undef = .bool true := by simpa using e0
        have e1' : aq.tmps[59]?.getD undef = .bool true := by simpa using e1
        refine flow_value (.bool true) ?_ rfl
        unfold execOp
        simp [e0', e1', go_sem, Act.eval]
      | 35, _ =>
        cases ho
        exact flow_move (.tmp 60) rfl (hdep 34 60 rfl (by kernel_rfl))
      | 36, _ =>
        cases ho
        have ep : aq.tmps.getD 7 undef = .pointer (some ⟨w.heap.size + 1 + 1, 0, none⟩) := hk 7 (by decide)
        exact flow_value _ (run_mid 59 (.tmp 7) rfl (w.heap.size + 1 + 1) 0 ep (exC zxe zxi) ((HX7.out.keep (hcB hc)).range 0 (exC zxe zxi) (fun j v hv => by rw [Nat.zero_add]; exact hv)) _ Tryd.underlying59 rfl (by rw [exC_length zxe zxi]; kernel_rfl)) rfl
      | 37, _ =>
        cases ho
        have e0 : aq.tmps.getD 62 undef = .agg (exC zxe zxi).toArray := hdep 36 62 rfl (by kernel_rfl)
        refine flow_fun 29 _ _ rfl (fun _ _ => by simp [go_sem]) #[.agg (exC zxe zxi).toArray] (by rw [show (#[Operand.tmp 62] : Array Operand).map aq.eval = #[aq.tmps.getD 62 undef] from by simp [Act.eval], e0]) ?_
        refine (exR_any zxe zxi hzxe hzxi wq (HT.out.keep (hcB hc))).mono ?_
        rintro x w' ⟨rfl, q⟩
        exact ⟨_, rfl, (by rw [← HR5.out]; rfl), q⟩
      | 38, _ =>
        cases ho
        refine flow_fun 30 _ _ rfl (fun _ _ => by simp [go_sem]) #[] (by simp) ?_
        refine (exD_any wq).mono ?_
        rintro x w' ⟨p, rfl, h1, q⟩
        exact ⟨_, rfl, ⟨p, rfl, h1⟩, q⟩
      | 39, _ =>
        cases ho
        have ep : aq.tmps.getD 7 undef = .pointer (some ⟨w.heap.size + 1 + 1, 0, none⟩) := hk 7 (by decide)
        exact flow_value _ (run_mid 59 (.tmp 7) rfl (w.heap.size + 1 + 1) 0 ep (exC zxe zxi) ((HX7.out.keep (hcB hc)).range 0 (exC zxe zxi) (fun j v hv => by rw [Nat.zero_add]; exact hv)) _ Tryd.underlying59 rfl (by rw [exC_length zxe zxi]; kernel_rfl)) rfl
      | 40, _ =>
        cases ho
        have e0 : aq.tmps.getD 65 undef = .agg (exC zxe zxi).toArray := hdep 39 65 rfl (by kernel_rfl)
        refine flow_fun 31 _ _ rfl (fun _ _ => by simp [go_sem]) #[.agg (exC zxe zxi).toArray] (by rw [show (#[Operand.tmp 65] : Array Operand).map aq.eval = #[aq.tmps.getD 65 undef] from by simp [Act.eval], e0]) ?_
        refine (exV_any zxe zxi hzxe hzxi wq).mono ?_
        rintro x w' ⟨v, rfl, h1, q⟩
        exact ⟨v, rfl, h1, q⟩
      | 41, _ =>
        cases ho
        obtain ⟨p, e0, h0⟩ := hdep 38 64 rfl (by kernel_rfl)
        have h1 : IsV wq (aq.tmps.getD 66 undef) (exV zxe zxi) := hdep 40 66 rfl (by kernel_rfl)
        refine flow_fun 9 _ _ rfl (fun _ _ => by simp [go_sem]) #[.pointer (some ⟨p, 0, none⟩), aq.tmps.getD 66 undef] (by rw [show (#[Operand.tmp 64, Operand.tmp 66] : Array Operand).map aq.eval = #[aq.tmps.getD 64 undef, aq.tmps.getD 66 undef] from by simp [Act.eval], e0]) ?_
        refine (rroot_any exD (exV zxe zxi) p _ wq HO5.out h0 h1).mono ?_
        rintro x w' ⟨rfl, q⟩
        exact ⟨_, rfl, (by rw [HE5.out]; rfl), q⟩
      | 42, _ =>
        cases ho
        have e0 : aq.tmps.getD 63 undef = .agg (nums .u8 R5) := hdep 37 63 rfl (by kernel_rfl)
        have e1 : aq.tmps.getD 67 undef = .agg (nums .u8 R5) := hdep 41 67 rfl (by kernel_rfl)
        exact flow_value _ (run_same_root (.tmp 63) (.tmp 67) rfl R5 hR5 e0 e1) rfl
      | 43, _ =>
        cases ho
        have e0 : aq.tmps.getD 61 undef = .bool true := hdep 35 61 rfl (by kernel_rfl)
        have e1 : aq.tmps.getD 68 undef = .bool true := hdep 42 68 rfl (by kernel_rfl)
        have e0' : aq.tmps[61]?.getD undef = .bool true := by simpa using e0
        have e1' : aq.tmps[68]?.getD undef = .bool true := by simpa using e1
        refine flow_value (.bool true) ?_ rfl
        unfold execOp
        simp [e0', e1', go_sem, Act.eval]
      | (k + 44), hk => exact absurd hk (by omega)
    · intro o h44 ho
      omega
    intro vf w9 hc hv
    have e43 : vf 43 = .bool true := hv 43 69 (by decide) rfl
    have B9 := HB.out.trans ((hcB hc).mono HB.out.size)
    clear hv hc
    simp only [List.take_succ_cons, List.take_zero, List.drop_succ_cons, List.drop_zero, putAll, Act.put, List.setIfInBounds_toArray, List.set_cons_succ, List.set_cons_zero]
    rw [e43]
    have HB9 := hid B9
    clear B9 e43 HB HX5 HX6 HX7 HX9 HT
    go_wp2_with fail
    go_ret
    exact ⟨rfl, HB9.out⟩
end Go.Proofs.YtfmecdmkepnlmaaDoor

/- From the rows' condition on the two tables to what the contracts ask of them. -/
namespace Go.Proofs.YtfmecdmkepnlmaaDoor
open Go.RowKit
set_option linter.unusedVariables false
set_option maxRecDepth 100000

def laidTwo : List (String × DataW Unit) := [("keystone/digest.starts", Rows.laid_keystone_digest_starts), ("keystone/digest.rounds", Rows.laid_keystone_digest_rounds)]
theorem gStarts : Tryd.prog.globalNamed "keystone/digest.starts" = some 0 := by kernel_rfl
theorem gRounds : Tryd.prog.globalNamed "keystone/digest.rounds" = some 1 := by kernel_rfl
theorem tStarts : (Tryd.prog.globals[0]?).map (·.type) = some 120 := by kernel_rfl
theorem tRounds : (Tryd.prog.globals[1]?).map (·.type) = some 124 := by kernel_rfl
theorem dStarts {H : Type} : (Rows.laid_keystone_digest_starts : DataW H) = Lib.tabData .u32 (startNums.map fun n : Nat => (n : Int)) := rfl
theorem dRounds {H : Type} : (Rows.laid_keystone_digest_rounds : DataW H) = Lib.tabData .u32 (kNums.map fun n : Nat => (n : Int)) := rfl

theorem tabs_of_laid {W : World} (h : laidMetH Tryd.prog laidTwo W) : Tabs W := by
  rw [MakeChecks.laidMetH_plain _ _ _ (by kernel_rfl)] at h
  have h1 := Lib.laidMet.reads h (n := "keystone/digest.starts") (d := Rows.laid_keystone_digest_starts) (.head _)
  have h2 := Lib.laidMet.reads h (n := "keystone/digest.rounds") (d := Rows.laid_keystone_digest_rounds) (.tail _ (.head _))
  refine ⟨fun i hi => ?_, fun i hi => ?_⟩
  · obtain ⟨g, t, cs, fuel, p, hg, hty, hvar, hd⟩ := h1
    obtain rfl := Option.some.inj (gStarts.symm.trans hg)
    obtain rfl := Option.some.inj (tStarts.symm.trans hty)
    rw [dStarts] at hd
    have hcs := Lib.cells_of_tab Tryd.underlying120 Tryd.underlying119 (by kernel_rfl) (by kernel_rfl) hd
    rw [World.var?_cell hg hvar i, ← Array.getElem?_toList, hcs, List.map_map, List.getElem?_map]
    have hl : i < startNums.length := hi
    rw [List.getElem?_eq_getElem hl]
    simp [hl]
  · obtain ⟨g, t, cs, fuel, p, hg, hty, hvar, hd⟩ := h2
    obtain rfl := Option.some.inj (gRounds.symm.trans hg)
    obtain rfl := Option.some.inj (tRounds.symm.trans hty)
    rw [dRounds] at hd
    have hcs := Lib.cells_of_tab Tryd.underlying124 Tryd.underlying119 (by kernel_rfl) (by kernel_rfl) hd
    rw [World.var?_cell hg hvar i, ← Array.getElem?_toList, hcs, List.map_map, List.getElem?_map]
    have hl : i < kNums.length := hi
    rw [List.getElem?_eq_getElem hl]
    simp [hl]
end Go.Proofs.YtfmecdmkepnlmaaDoor

/- The root of a struct (Vote), by the program. -/
namespace Go.Proofs.YtfmecdmkepnlmaaDoor
open Go.RowKit Go.Shelf
set_option linter.unusedVariables false
set_option linter.unusedSimpArgs false
set_option maxRecDepth 100000

def vtP (zs : Nat) (zi : Nat) (zb : List Nat) (zcze : Nat) (zczr : List Nat) (ztze : Nat) (ztzr : List Nat) : List (List Value) := [[.int .u64 (zs : Nat)], [.int .u64 (zi : Nat)], cellsB zb, cpC zcze zczr, cpC ztze ztzr]
def vtC (zs : Nat) (zi : Nat) (zb : List Nat) (zcze : Nat) (zczr : List Nat) (ztze : Nat) (ztzr : List Nat) : List Value := (vtP zs zi zb zcze zczr ztze ztzr).flatten
theorem vtC_length (zs : Nat) (zi : Nat) (zb : List Nat) (zcze : Nat) (zczr : List Nat) (ztze : Nat) (ztzr : List Nat) (hzb : zb.length = 32) (hzczr : zczr.length = 32) (hztzr : ztzr.length = 32) : (vtC zs zi zb zcze zczr ztze ztzr).length = 100 := by simp [vtC, vtP, cellsB_length, hzb, hzczr, hztzr, cpC_length zcze zczr hzczr, cpC_length ztze ztzr hztzr]
def vtR (zs : Nat) (zi : Nat) (zb : List Nat) (zcze : Nat) (zczr : List Nat) (ztze : Nat) (ztzr : List Nat) : List Nat := fullR (depth (([wUp zs 8, wUp zi 8, zb, cpR zcze zczr, cpR ztze ztzr] : List (List Nat)).length : Nat)) [wUp zs 8, wUp zi 8, zb, cpR zcze zczr, cpR ztze ztzr]
theorem vtR_rt (zs : Nat) (zi : Nat) (zb : List Nat) (zcze : Nat) (zczr : List Nat) (ztze : Nat) (ztzr : List Nat) (hzb : Rt zb) (hzczr : Rt zczr) (hztzr : Rt ztzr) : Rt (vtR zs zi zb zcze zczr ztze ztzr) := full_rt _ _ (Rts.more (wUp_rt zs 8) (Rts.more (wUp_rt zi 8) (Rts.more hzb (Rts.more (cpR_rt zcze zczr hzczr) (Rts.more (cpR_rt ztze ztzr hztzr) Rts.nil)))))
set_option maxHeartbeats 2000000 in
theorem vtR_any (zs : Nat) (zi : Nat) (zb : List Nat) (zcze : Nat) (zczr : List Nat) (ztze : Nat) (ztzr : List Nat) (hzs : zs < 18446744073709551616) (hzi : zi < 18446744073709551616) (hzb : Rt zb) (hzcze : zcze < 18446744073709551616) (hzczr : Rt zczr) (hztze : ztze < 18446744073709551616) (hztzr : Rt ztzr) (w : World) (hT : Tabs w) :
    Calls Tryd.prog 37 #[.agg (vtC zs zi zb zcze zczr ztze ztzr).toArray] w fun x w' => x = .returned (.agg (nums .u8 (vtR zs zi zb zcze zczr ztze ztzr))) ∧ Below w.heap.size w w' := by
  have hfr := vtR_rt zs zi zb zcze zczr ztze ztzr hzb hzczr hztzr
  obtain ⟨W, HW⟩ : ∃ W, Hid (vtR zs zi zb zcze zczr ztze ztzr = W) := ⟨_, hid rfl⟩
  rw [HW.out] at hfr ⊢
  go_enter Tryd.func37, Tryd.ntmps37
  go_wp2_with ((with_reducible refine at_list' ?_); first
    | (refine wpList_box_c rfl 1 rfl (.tmp 0) rfl (vtC zs zi zb zcze zczr ztze ztzr) rfl ?_; intro w1 H1 B1 S1)
    | (refine wpList_alloc_has rfl 2 rfl 25 rfl .u8 32 Tryd.zero25 ?_; intro w2 H2 B2 S2; rw [S1] at H2 S2; rw [S1]))
  have HX := hid (H1.keep B2)
  have HY := hid H2
  have HB := hid (B1.trans (B2.mono (by omega)))
  have HT := hid (hT.keep HB.out)
  have s2 : w2.heap.size = w.heap.size + 2 := by omega
  clear H1 B1 S1 H2 B2 S2
  try simp only [Act.put, List.setIfInBounds_toArray, List.set_cons_succ, List.set_cons_zero]
  refine wp_region_flow 16 16 (fun i v wq => match i with
    | 0 => v = .pointer (some ⟨w.heap.size, 0, none⟩)
    | 1 => v = .int .u64 (zs : Nat)
    | 2 => v = .agg (nums .u8 (wUp zs 8))
    | 3 => v = .pointer (some ⟨w.heap.size, 1, none⟩)
    | 4 => v = .int .u64 (zi : Nat)
    | 5 => v = .agg (nums .u8 (wUp zi 8))
    | 6 => v = .pointer (some ⟨w.heap.size, 2, none⟩)
    | 7 => v = .agg (nums .u8 zb)
    | 8 => v = .pointer (some ⟨w.heap.size, 34, none⟩)
    | 9 => v = .agg (cpC zcze zczr).toArray
    | 10 => v = .agg (nums .u8 (cpR zcze zczr))
    | 11 => v = .pointer (some ⟨w.heap.size, 67, none⟩)
    | 12 => v = .agg (cpC ztze ztzr).toArray
    | 13 => v = .agg (nums .u8 (cpR ztze ztzr))
    | 14 => ∃ b, v = .slice (some ⟨b, 0, none⟩) 5 5 ∧ RootsAt wq (some ⟨b, 0, none⟩) [wUp zs 8, wUp zi 8, zb, cpR zcze zczr, cpR ztze ztzr]
    | _ => v = .agg (nums .u8 W)) (by kernel_rfl) (by kernel_rfl) (fun _ d _ _ _ h => by cases d <;> exact h) ?_ ?_ ?_ ?_
  · intro i v wq wq' hi hv hb
    match i, hi with
    | 0, _ => exact hv
    | 1, _ => exact hv
    | 2, _ => exact hv
    | 3, _ => exact hv
    | 4, _ => exact hv
    | 5, _ => exact hv
    | 6, _ => exact hv
    | 7, _ => exact hv
    | 8, _ => exact hv
    | 9, _ => exact hv
    | 10, _ => exact hv
    | 11, _ => exact hv
    | 12, _ => exact hv
    | 13, _ => exact hv
    | 14, _ => obtain ⟨b, h1, h2⟩ := hv; exact ⟨b, h1, h2.keep hb⟩
    | 15, _ => exact hv
    | (k + 16), hk => exact absurd hk (by omega)
  · intro i o hi ho aq wq hc hk hdep
    match i, hi with
    | 0, _ =>
      cases ho
      have e1 : aq.tmps.getD 1 undef = .pointer (some ⟨w.heap.size, 0, none⟩) := hk 1 (by decide)
      exact flow_value _ (run_fieldAt 29 (.tmp 1) 0 rfl _ _ e1 (by kernel_rfl)) rfl
    | 1, _ =>
      cases ho
      have e0 : aq.tmps.getD 3 undef = .pointer (some ⟨w.heap.size, 0, none⟩) := hdep 0 3 rfl (by kernel_rfl)
      exact flow_value _ (run_cell 23 (.tmp 3) rfl _ e0 _ ((HX.out.keep (hcB hc)).cell (seg (ps := vtP zs zi zb zcze zczr ztze ztzr) (i := 0) (off := 0) rfl (by simp [vtP, cellsB_length, hzb.len, hzczr.len, hztzr.len, cpC_length zcze zczr hzczr.len, cpC_length ztze ztzr hztzr.len]) 0 _ rfl)) _ Tryd.underlying23 rfl) rfl
    | 2, _ =>
      cases ho
      have e0 : aq.tmps.getD 4 undef = .int .u64 (zs : Nat) := hdep 1 4 rfl (by kernel_rfl)
      refine flow_fun 58 _ _ rfl (fun _ _ => by simp [go_sem]) #[.int .u64 (zs : Nat)] (by rw [show (#[Operand.tmp 4] : Array Operand).map aq.eval = #[aq.tmps.getD 4 undef] from by simp [Act.eval], e0]) ?_
      refine (number_any zs hzs wq).mono ?_
      rintro x w' ⟨rfl, q⟩
      exact ⟨_, rfl, rfl, q⟩
    | 3, _ =>
      cases ho
      have e1 : aq.tmps.getD 1 undef = .pointer (some ⟨w.heap.size, 0, none⟩) := hk 1 (by decide)
      exact flow_value _ (run_fieldAt 29 (.tmp 1) 1 rfl _ _ e1 (by kernel_rfl)) rfl
    | 4, _ =>
      cases ho
      have e0 : aq.tmps.getD 6 undef = .pointer (some ⟨w.heap.size, 1, none⟩) := hdep 3 6 rfl (by kernel_rfl)
      exact flow_value _ (run_cell 23 (.tmp 6) rfl _ e0 _ ((HX.out.keep (hcB hc)).cell (seg (ps := vtP zs zi zb zcze zczr ztze ztzr) (i := 1) (off := 1) rfl (by simp [vtP, cellsB_length, hzb.len, hzczr.len, hztzr.len, cpC_length zcze zczr hzczr.len, cpC_length ztze ztzr hztzr.len]) 0 _ rfl)) _ Tryd.underlying23 rfl) rfl
    | 5, _ =>
      cases ho
      have e0 : aq.tmps.getD 7 undef = .int .u64 (zi : Nat) := hdep 4 7 rfl (by kernel_rfl)
      refine flow_fun 58 _ _ rfl (fun _ _ => by simp [go_sem]) #[.int .u64 (zi : Nat)] (by rw [show (#[Operand.tmp 7] : Array Operand).map aq.eval = #[aq.tmps.getD 7 undef] from by simp [Act.eval], e0]) ?_
      refine (number_any zi hzi wq).mono ?_
      rintro x w' ⟨rfl, q⟩
      exact ⟨_, rfl, rfl, q⟩
    | 6, _ =>
      cases ho
      have e1 : aq.tmps.getD 1 undef = .pointer (some ⟨w.heap.size, 0, none⟩) := hk 1 (by decide)
      exact flow_value _ (run_fieldAt 29 (.tmp 1) 2 rfl _ _ e1 (by kernel_rfl)) rfl
    | 7, _ =>
      cases ho
      have e0 : aq.tmps.getD 9 undef = .pointer (some ⟨w.heap.size, 2, none⟩) := hdep 6 9 rfl (by kernel_rfl)
      exact flow_value _ (run_mid 25 (.tmp 9) rfl w.heap.size 2 e0 (cellsB zb) ((HX.out.keep (hcB hc)).range 2 (cellsB zb) (seg (ps := vtP zs zi zb zcze zczr ztze ztzr) (i := 2) (off := 2) rfl (by simp [vtP, cellsB_length, hzb.len, hzczr.len, hztzr.len, cpC_length zcze zczr hzczr.len, cpC_length ztze ztzr hztzr.len]))) _ Tryd.und25 rfl (by rw [cellsB_length, hzb.len]; exact Tryd.size25)) rfl
    | 8, _ =>
      cases ho
      have e1 : aq.tmps.getD 1 undef = .pointer (some ⟨w.heap.size, 0, none⟩) := hk 1 (by decide)
      exact flow_value _ (run_fieldAt 29 (.tmp 1) 3 rfl _ _ e1 (by kernel_rfl)) rfl
    | 9, _ =>
      cases ho
      have e0 : aq.tmps.getD 11 undef = .pointer (some ⟨w.heap.size, 34, none⟩) := hdep 8 11 rfl (by kernel_rfl)
      exact flow_value _ (run_mid 27 (.tmp 11) rfl w.heap.size 34 e0 (cpC zcze zczr) ((HX.out.keep (hcB hc)).range 34 (cpC zcze zczr) (seg (ps := vtP zs zi zb zcze zczr ztze ztzr) (i := 3) (off := 34) rfl (by simp [vtP, cellsB_length, hzb.len, hzczr.len, hztzr.len, cpC_length zcze zczr hzczr.len, cpC_length ztze ztzr hztzr.len]))) _ Tryd.underlying27 rfl (by rw [cpC_length zcze zczr hzczr.len]; kernel_rfl)) rfl
    | 10, _ =>
      cases ho
      have e0 : aq.tmps.getD 12 undef = .agg (cpC zcze zczr).toArray := hdep 9 12 rfl (by kernel_rfl)
      refine flow_fun 33 _ _ rfl (fun _ _ => by simp [go_sem]) #[.agg (cpC zcze zczr).toArray] (by rw [show (#[Operand.tmp 12] : Array Operand).map aq.eval = #[aq.tmps.getD 12 undef] from by simp [Act.eval], e0]) ?_
      refine (cpR_any zcze zczr hzcze hzczr wq (HT.out.keep (hcB hc))).mono ?_
      rintro x w' ⟨rfl, q⟩
      exact ⟨_, rfl, rfl, q⟩
    | 11, _ =>
      cases ho
      have e1 : aq.tmps.getD 1 undef = .pointer (some ⟨w.heap.size, 0, none⟩) := hk 1 (by decide)
      exact flow_value _ (run_fieldAt 29 (.tmp 1) 4 rfl _ _ e1 (by kernel_rfl)) rfl
    | 12, _ =>
      cases ho
      have e0 : aq.tmps.getD 14 undef = .pointer (some ⟨w.heap.size, 67, none⟩) := hdep 11 14 rfl (by kernel_rfl)
      exact flow_value _ (run_mid 27 (.tmp 14) rfl w.heap.size 67 e0 (cpC ztze ztzr) ((HX.out.keep (hcB hc)).range 67 (cpC ztze ztzr) (seg (ps := vtP zs zi zb zcze zczr ztze ztzr) (i := 4) (off := 67) rfl (by simp [vtP, cellsB_length, hzb.len, hzczr.len, hztzr.len, cpC_length zcze zczr hzczr.len, cpC_length ztze ztzr hztzr.len]))) _ Tryd.underlying27 rfl (by rw [cpC_length ztze ztzr hztzr.len]; kernel_rfl)) rfl
    | 13, _ =>
      cases ho
      have e0 : aq.tmps.getD 15 undef = .agg (cpC ztze ztzr).toArray := hdep 12 15 rfl (by kernel_rfl)
      refine flow_fun 33 _ _ rfl (fun _ _ => by simp [go_sem]) #[.agg (cpC ztze ztzr).toArray] (by rw [show (#[Operand.tmp 15] : Array Operand).map aq.eval = #[aq.tmps.getD 15 undef] from by simp [Act.eval], e0]) ?_
      refine (cpR_any ztze ztzr hztze hztzr wq (HT.out.keep (hcB hc))).mono ?_
      rintro x w' ⟨rfl, q⟩
      exact ⟨_, rfl, rfl, q⟩
    | 14, _ =>
      cases ho
      have e0 : aq.tmps.getD 5 undef = .agg (nums .u8 (wUp zs 8)) := hdep 2 5 rfl (by kernel_rfl)
      have e1 : aq.tmps.getD 8 undef = .agg (nums .u8 (wUp zi 8)) := hdep 5 8 rfl (by kernel_rfl)
      have e2 : aq.tmps.getD 10 undef = .agg (nums .u8 zb) := hdep 7 10 rfl (by kernel_rfl)
      have e3 : aq.tmps.getD 13 undef = .agg (nums .u8 (cpR zcze zczr)) := hdep 10 13 rfl (by kernel_rfl)
      have e4 : aq.tmps.getD 16 undef = .agg (nums .u8 (cpR ztze ztzr)) := hdep 13 16 rfl (by kernel_rfl)
      exact flow_rows 96 25 5 32 _ rfl Tryd.underlying96 rootInfo6 [cellsB (wUp zs 8), cellsB (wUp zi 8), cellsB (zb), cellsB (cpR zcze zczr), cellsB (cpR ztze ztzr)] [.tmp 5, .tmp 8, .tmp 10, .tmp 13, .tmp 16] rfl (by rw [show [Operand.tmp 5, Operand.tmp 8, Operand.tmp 10, Operand.tmp 13, Operand.tmp 16].map aq.eval = [aq.tmps.getD 5 undef, aq.tmps.getD 8 undef, aq.tmps.getD 10 undef, aq.tmps.getD 13 undef, aq.tmps.getD 16 undef] from rfl, e0, e1, e2, e3, e4]; rfl) (by simp [cellsB_length, ((wUp_rt zs 8)).len, ((wUp_rt zi 8)).len, (hzb).len, ((cpR_rt zcze zczr hzczr)).len, ((cpR_rt ztze ztzr hztzr)).len]) rfl (by decide) (by decide) (by decide) (fun w' h => ⟨_, rfl, hasC_roots (rs := [wUp zs 8, wUp zi 8, zb, cpR zcze zczr, cpR ztze ztzr]) h (Rts.more (wUp_rt zs 8) (Rts.more (wUp_rt zi 8) (Rts.more hzb (Rts.more (cpR_rt zcze zczr hzczr) (Rts.more (cpR_rt ztze ztzr hztzr) Rts.nil)))))⟩)
    | 15, _ =>
      cases ho
      obtain ⟨b, e6, h6⟩ := hdep 14 17 rfl (by kernel_rfl)
      refine flow_fun 36 _ _ rfl (fun _ _ => by simp [go_sem]) #[.slice (some ⟨b, 0, none⟩) 5 5] (by rw [show (#[Operand.tmp 17] : Array Operand).map aq.eval = #[aq.tmps.getD 17 undef] from by simp [Act.eval], e6]) ?_
      refine (cont_any (some ⟨b, 0, none⟩) 5 [wUp zs 8, wUp zi 8, zb, cpR zcze zczr, cpR ztze ztzr] wq (HT.out.keep (hcB hc)) (Nat.le_refl _) (by decide) (by show 5 ≤ 1048576; decide) h6).mono ?_
      rintro x w' ⟨rfl, q⟩
      exact ⟨_, rfl, (by rw [← HW.out]; rfl), q⟩
    | (k + 16), hk => exact absurd hk (by omega)
  · intro o h16 ho
    omega
  intro vf w8 hc hv
  have e7 : vf 15 = _ := hv 15 18 (by decide) rfl
  have B8 := HB.out.trans ((hcB hc).mono (by omega))
  have H8v := HY.out.keep (hcB hc)
  have s8 := (hcB hc).size
  clear hv hc
  simp only [List.take_succ_cons, List.take_zero, List.drop_succ_cons, List.drop_zero, putAll, Act.put, List.setIfInBounds_toArray, List.set_cons_succ, List.set_cons_zero]
  rw [e7]
  have HB8 := hid B8
  clear B8 e7 HB
  go_wp2_with ((with_reducible refine at_list' ?_); first
    | (refine wpList_store_has rfl 25 (.tmp 2) (.tmp 18) rfl (w.heap.size + 1) .u8 W (zeros 32) rfl rfl 25 H8v (hfr.size _ Tryd.size25) (by rw [hfr.len, zeros_length]) ?_; intro w9 H9 O9))
  refine bodyPost_ret (results_has rfl _ _ (w.heap.size + 1) 25 .u8 W _ _ rfl H9 Tryd.und25 (hfr.size _ Tryd.size25)) rfl ?_
  exact ⟨rfl, below_only HB8.out O9 (by omega)⟩
end Go.Proofs.YtfmecdmkepnlmaaDoor

/- The root of a struct (Indexed), by the program. -/
namespace Go.Proofs.YtfmecdmkepnlmaaDoor
open Go.RowKit Go.Shelf
set_option linter.unusedVariables false
set_option linter.unusedSimpArgs false
set_option maxRecDepth 100000

def ixP (zno : Option Addr) (znc : Nat) (znl : List Nat) (zdzs : Nat) (zdzi : Nat) (zdzb : List Nat) (zdzcze : Nat) (zdzczr : List Nat) (zdztze : Nat) (zdztzr : List Nat) (zsg : List Nat) : List (List Value) := [[.slice zno znl.length znc], vtC zdzs zdzi zdzb zdzcze zdzczr zdztze zdztzr, cellsB zsg]
def ixC (zno : Option Addr) (znc : Nat) (znl : List Nat) (zdzs : Nat) (zdzi : Nat) (zdzb : List Nat) (zdzcze : Nat) (zdzczr : List Nat) (zdztze : Nat) (zdztzr : List Nat) (zsg : List Nat) : List Value := (ixP zno znc znl zdzs zdzi zdzb zdzcze zdzczr zdztze zdztzr zsg).flatten
theorem ixC_length (zno : Option Addr) (znc : Nat) (znl : List Nat) (zdzs : Nat) (zdzi : Nat) (zdzb : List Nat) (zdzcze : Nat) (zdzczr : List Nat) (zdztze : Nat) (zdztzr : List Nat) (zsg : List Nat) (hzdzb : zdzb.length = 32) (hzdzczr : zdzczr.length = 32) (hzdztzr : zdztzr.length = 32) (hzsg : zsg.length = 32) : (ixC zno znc znl zdzs zdzi zdzb zdzcze zdzczr zdztze zdztzr zsg).length = 133 := by simp [ixC, ixP, cellsB_length, hzdzb, hzdzczr, hzdztzr, hzsg, vtC_length zdzs zdzi zdzb zdzcze zdzczr zdztze zdztzr hzdzb hzdzczr hzdztzr]
def ixR (zno : Option Addr) (znc : Nat) (znl : List Nat) (zdzs : Nat) (zdzi : Nat) (zdzb : List Nat) (zdzcze : Nat) (zdzczr : List Nat) (zdztze : Nat) (zdztzr : List Nat) (zsg : List Nat) : List Nat := fullR (depth (([numR znl, vtR zdzs zdzi zdzb zdzcze zdzczr zdztze zdztzr, zsg] : List (List Nat)).length : Nat)) [numR znl, vtR zdzs zdzi zdzb zdzcze zdzczr zdztze zdztzr, zsg]
theorem ixR_rt (zno : Option Addr) (znc : Nat) (znl : List Nat) (zdzs : Nat) (zdzi : Nat) (zdzb : List Nat) (zdzcze : Nat) (zdzczr : List Nat) (zdztze : Nat) (zdztzr : List Nat) (zsg : List Nat) (hzdzb : Rt zdzb) (hzdzczr : Rt zdzczr) (hzdztzr : Rt zdztzr) (hzsg : Rt zsg) : Rt (ixR zno znc znl zdzs zdzi zdzb zdzcze zdzczr zdztze zdztzr zsg) := full_rt _ _ (Rts.more (numR_rt znl) (Rts.more (vtR_rt zdzs zdzi zdzb zdzcze zdzczr zdztze zdztzr hzdzb hzdzczr hzdztzr) (Rts.more hzsg Rts.nil)))
set_option maxHeartbeats 2000000 in
theorem ixR_any (zno : Option Addr) (znc : Nat) (znl : List Nat) (zdzs : Nat) (zdzi : Nat) (zdzb : List Nat) (zdzcze : Nat) (zdzczr : List Nat) (zdztze : Nat) (zdztzr : List Nat) (zsg : List Nat) (hzdzs : zdzs < 18446744073709551616) (hzdzi : zdzi < 18446744073709551616) (hzdzb : Rt zdzb) (hzdzcze : zdzcze < 18446744073709551616) (hzdzczr : Rt zdzczr) (hzdztze : zdztze < 18446744073709551616) (hzdztzr : Rt zdztzr) (hzsg : Rt zsg) (w : World) (hT : Tabs w) (hzn : IsN w (.slice zno znl.length znc) znl) (hznn : znl.length ≤ 500) :
    Calls Tryd.prog 8 #[.agg (ixC zno znc znl zdzs zdzi zdzb zdzcze zdzczr zdztze zdztzr zsg).toArray] w fun x w' => x = .returned (.agg (nums .u8 (ixR zno znc znl zdzs zdzi zdzb zdzcze zdzczr zdztze zdztzr zsg))) ∧ Below w.heap.size w w' := by
  have hfr := ixR_rt zno znc znl zdzs zdzi zdzb zdzcze zdzczr zdztze zdztzr zsg hzdzb hzdzczr hzdztzr hzsg
  obtain ⟨W, HW⟩ : ∃ W, Hid (ixR zno znc znl zdzs zdzi zdzb zdzcze zdzczr zdztze zdztzr zsg = W) := ⟨_, hid rfl⟩
  rw [HW.out] at hfr ⊢
  go_enter Tryd.func8, Tryd.ntmps8
  go_wp2_with ((with_reducible refine at_list' ?_); first
    | (refine wpList_box_c rfl 1 rfl (.tmp 0) rfl (ixC zno znc znl zdzs zdzi zdzb zdzcze zdzczr zdztze zdztzr zsg) rfl ?_; intro w1 H1 B1 S1)
    | (refine wpList_alloc_has rfl 2 rfl 25 rfl .u8 32 Tryd.zero25 ?_; intro w2 H2 B2 S2; rw [S1] at H2 S2; rw [S1]))
  have HX := hid (H1.keep B2)
  have HY := hid H2
  have HB := hid (B1.trans (B2.mono (by omega)))
  have HT := hid (hT.keep HB.out)
  have s2 : w2.heap.size = w.heap.size + 2 := by omega
  clear H1 B1 S1 H2 B2 S2
  try simp only [Act.put, List.setIfInBounds_toArray, List.set_cons_succ, List.set_cons_zero]
  refine wp_region_flow 10 10 (fun i v wq => match i with
    | 0 => v = .pointer (some ⟨w.heap.size, 0, none⟩)
    | 1 => v = .slice zno znl.length znc
    | 2 => v = .agg (nums .u8 (numR znl))
    | 3 => v = .pointer (some ⟨w.heap.size, 1, none⟩)
    | 4 => v = .agg (vtC zdzs zdzi zdzb zdzcze zdzczr zdztze zdztzr).toArray
    | 5 => v = .agg (nums .u8 (vtR zdzs zdzi zdzb zdzcze zdzczr zdztze zdztzr))
    | 6 => v = .pointer (some ⟨w.heap.size, 101, none⟩)
    | 7 => v = .agg (nums .u8 zsg)
    | 8 => ∃ b, v = .slice (some ⟨b, 0, none⟩) 3 3 ∧ RootsAt wq (some ⟨b, 0, none⟩) [numR znl, vtR zdzs zdzi zdzb zdzcze zdzczr zdztze zdztzr, zsg]
    | _ => v = .agg (nums .u8 W)) (by kernel_rfl) (by kernel_rfl) (fun _ d _ _ _ h => by cases d <;> exact h) ?_ ?_ ?_ ?_
  · intro i v wq wq' hi hv hb
    match i, hi with
    | 0, _ => exact hv
    | 1, _ => exact hv
    | 2, _ => exact hv
    | 3, _ => exact hv
    | 4, _ => exact hv
    | 5, _ => exact hv
    | 6, _ => exact hv
    | 7, _ => exact hv
    | 8, _ => obtain ⟨b, h1, h2⟩ := hv; exact ⟨b, h1, h2.keep hb⟩
    | 9, _ => exact hv
    | (k + 10), hk => exact absurd hk (by omega)
  · intro i o hi ho aq wq hc hk hdep
    match i, hi with
    | 0, _ =>
      cases ho
      have e1 : aq.tmps.getD 1 undef = .pointer (some ⟨w.heap.size, 0, none⟩) := hk 1 (by decide)
      exact flow_value _ (run_fieldAt 31 (.tmp 1) 0 rfl _ _ e1 (by kernel_rfl)) rfl
    | 1, _ =>
      cases ho
      have e0 : aq.tmps.getD 3 undef = .pointer (some ⟨w.heap.size, 0, none⟩) := hdep 0 3 rfl (by kernel_rfl)
      exact flow_value _ (run_cell 22 (.tmp 3) rfl _ e0 _ ((HX.out.keep (hcB hc)).cell (seg (ps := ixP zno znc znl zdzs zdzi zdzb zdzcze zdzczr zdztze zdztzr zsg) (i := 0) (off := 0) rfl (by simp [ixP, cellsB_length, hzdzb.len, hzdzczr.len, hzdztzr.len, hzsg.len, vtC_length zdzs zdzi zdzb zdzcze zdzczr zdztze zdztzr hzdzb.len hzdzczr.len hzdztzr.len]) 0 _ rfl)) _ Tryd.underlying22 rfl) rfl
    | 2, _ =>
      cases ho
      have e0 : aq.tmps.getD 4 undef = .slice zno znl.length znc := hdep 1 4 rfl (by kernel_rfl)
      refine flow_fun 18 _ _ rfl (fun _ _ => by simp [go_sem]) #[.slice zno znl.length znc] (by rw [show (#[Operand.tmp 4] : Array Operand).map aq.eval = #[aq.tmps.getD 4 undef] from by simp [Act.eval], e0]) ?_
      refine (numbersR_any (.slice zno znl.length znc) znl wq (HT.out.keep (hcB hc)) (hzn.keep (HB.out.trans ((hcB hc).mono HB.out.size))) (Nat.le_trans hznn (by decide))).mono ?_
      rintro x w' ⟨rfl, q⟩
      exact ⟨_, rfl, rfl, q⟩
    | 3, _ =>
      cases ho
      have e1 : aq.tmps.getD 1 undef = .pointer (some ⟨w.heap.size, 0, none⟩) := hk 1 (by decide)
      exact flow_value _ (run_fieldAt 31 (.tmp 1) 1 rfl _ _ e1 (by kernel_rfl)) rfl
    | 4, _ =>
      cases ho
      have e0 : aq.tmps.getD 6 undef = .pointer (some ⟨w.heap.size, 1, none⟩) := hdep 3 6 rfl (by kernel_rfl)
      exact flow_value _ (run_mid 29 (.tmp 6) rfl w.heap.size 1 e0 (vtC zdzs zdzi zdzb zdzcze zdzczr zdztze zdztzr) ((HX.out.keep (hcB hc)).range 1 (vtC zdzs zdzi zdzb zdzcze zdzczr zdztze zdztzr) (seg (ps := ixP zno znc znl zdzs zdzi zdzb zdzcze zdzczr zdztze zdztzr zsg) (i := 1) (off := 1) rfl (by simp [ixP, cellsB_length, hzdzb.len, hzdzczr.len, hzdztzr.len, hzsg.len, vtC_length zdzs zdzi zdzb zdzcze zdzczr zdztze zdztzr hzdzb.len hzdzczr.len hzdztzr.len]))) _ Tryd.underlying29 rfl (by rw [vtC_length zdzs zdzi zdzb zdzcze zdzczr zdztze zdztzr hzdzb.len hzdzczr.len hzdztzr.len]; kernel_rfl)) rfl
    | 5, _ =>
      cases ho
      have e0 : aq.tmps.getD 7 undef = .agg (vtC zdzs zdzi zdzb zdzcze zdzczr zdztze zdztzr).toArray := hdep 4 7 rfl (by kernel_rfl)
      refine flow_fun 37 _ _ rfl (fun _ _ => by simp [go_sem]) #[.agg (vtC zdzs zdzi zdzb zdzcze zdzczr zdztze zdztzr).toArray] (by rw [show (#[Operand.tmp 7] : Array Operand).map aq.eval = #[aq.tmps.getD 7 undef] from by simp [Act.eval], e0]) ?_
      refine (vtR_any zdzs zdzi zdzb zdzcze zdzczr zdztze zdztzr hzdzs hzdzi hzdzb hzdzcze hzdzczr hzdztze hzdztzr wq (HT.out.keep (hcB hc))).mono ?_
      rintro x w' ⟨rfl, q⟩
      exact ⟨_, rfl, rfl, q⟩
    | 6, _ =>
      cases ho
      have e1 : aq.tmps.getD 1 undef = .pointer (some ⟨w.heap.size, 0, none⟩) := hk 1 (by decide)
      exact flow_value _ (run_fieldAt 31 (.tmp 1) 2 rfl _ _ e1 (by kernel_rfl)) rfl
    | 7, _ =>
      cases ho
      have e0 : aq.tmps.getD 9 undef = .pointer (some ⟨w.heap.size, 101, none⟩) := hdep 6 9 rfl (by kernel_rfl)
      exact flow_value _ (run_mid 25 (.tmp 9) rfl w.heap.size 101 e0 (cellsB zsg) ((HX.out.keep (hcB hc)).range 101 (cellsB zsg) (seg (ps := ixP zno znc znl zdzs zdzi zdzb zdzcze zdzczr zdztze zdztzr zsg) (i := 2) (off := 101) rfl (by simp [ixP, cellsB_length, hzdzb.len, hzdzczr.len, hzdztzr.len, hzsg.len, vtC_length zdzs zdzi zdzb zdzcze zdzczr zdztze zdztzr hzdzb.len hzdzczr.len hzdztzr.len]))) _ Tryd.und25 rfl (by rw [cellsB_length, hzsg.len]; exact Tryd.size25)) rfl
    | 8, _ =>
      cases ho
      have e0 : aq.tmps.getD 5 undef = .agg (nums .u8 (numR znl)) := hdep 2 5 rfl (by kernel_rfl)
      have e1 : aq.tmps.getD 8 undef = .agg (nums .u8 (vtR zdzs zdzi zdzb zdzcze zdzczr zdztze zdztzr)) := hdep 5 8 rfl (by kernel_rfl)
      have e2 : aq.tmps.getD 10 undef = .agg (nums .u8 zsg) := hdep 7 10 rfl (by kernel_rfl)
      exact flow_rows 96 25 3 32 _ rfl Tryd.underlying96 rootInfo6 [cellsB (numR znl), cellsB (vtR zdzs zdzi zdzb zdzcze zdzczr zdztze zdztzr), cellsB (zsg)] [.tmp 5, .tmp 8, .tmp 10] rfl (by rw [show [Operand.tmp 5, Operand.tmp 8, Operand.tmp 10].map aq.eval = [aq.tmps.getD 5 undef, aq.tmps.getD 8 undef, aq.tmps.getD 10 undef] from rfl, e0, e1, e2]; rfl) (by simp [cellsB_length, ((numR_rt znl)).len, ((vtR_rt zdzs zdzi zdzb zdzcze zdzczr zdztze zdztzr hzdzb hzdzczr hzdztzr)).len, (hzsg).len]) rfl (by decide) (by decide) (by decide) (fun w' h => ⟨_, rfl, hasC_roots (rs := [numR znl, vtR zdzs zdzi zdzb zdzcze zdzczr zdztze zdztzr, zsg]) h (Rts.more (numR_rt znl) (Rts.more (vtR_rt zdzs zdzi zdzb zdzcze zdzczr zdztze zdztzr hzdzb hzdzczr hzdztzr) (Rts.more hzsg Rts.nil)))⟩)
    | 9, _ =>
      cases ho
      obtain ⟨b, e6, h6⟩ := hdep 8 11 rfl (by kernel_rfl)
      refine flow_fun 36 _ _ rfl (fun _ _ => by simp [go_sem]) #[.slice (some ⟨b, 0, none⟩) 3 3] (by rw [show (#[Operand.tmp 11] : Array Operand).map aq.eval = #[aq.tmps.getD 11 undef] from by simp [Act.eval], e6]) ?_
      refine (cont_any (some ⟨b, 0, none⟩) 3 [numR znl, vtR zdzs zdzi zdzb zdzcze zdzczr zdztze zdztzr, zsg] wq (HT.out.keep (hcB hc)) (Nat.le_refl _) (by decide) (by show 3 ≤ 1048576; decide) h6).mono ?_
      rintro x w' ⟨rfl, q⟩
      exact ⟨_, rfl, (by rw [← HW.out]; rfl), q⟩
    | (k + 10), hk => exact absurd hk (by omega)
  · intro o h10 ho
    omega
  intro vf w8 hc hv
  have e7 : vf 9 = _ := hv 9 12 (by decide) rfl
  have B8 := HB.out.trans ((hcB hc).mono (by omega))
  have H8v := HY.out.keep (hcB hc)
  have s8 := (hcB hc).size
  clear hv hc
  simp only [List.take_succ_cons, List.take_zero, List.drop_succ_cons, List.drop_zero, putAll, Act.put, List.setIfInBounds_toArray, List.set_cons_succ, List.set_cons_zero]
  rw [e7]
  have HB8 := hid B8
  clear B8 e7 HB
  go_wp2_with ((with_reducible refine at_list' ?_); first
    | (refine wpList_store_has rfl 25 (.tmp 2) (.tmp 12) rfl (w.heap.size + 1) .u8 W (zeros 32) rfl rfl 25 H8v (hfr.size _ Tryd.size25) (by rw [hfr.len, zeros_length]) ?_; intro w9 H9 O9))
  refine bodyPost_ret (results_has rfl _ _ (w.heap.size + 1) 25 .u8 W _ _ rfl H9 Tryd.und25 (hfr.size _ Tryd.size25)) rfl ?_
  exact ⟨rfl, below_only HB8.out O9 (by omega)⟩
end Go.Proofs.YtfmecdmkepnlmaaDoor

