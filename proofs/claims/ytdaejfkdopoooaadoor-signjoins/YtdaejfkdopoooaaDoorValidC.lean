/- Contracts of sign's tags and Valid. -/
import Derived.Test.YtdaejfkdopoooaaDoorSignC
import Derived.Test.YtdaejfkdopoooaaDoorJoinC
namespace Go.Proofs.YtdaejfkdopoooaaDoor
open Go.RowKit
set_option linter.unusedVariables false

theorem run_eq_root {o : Oper} {a : Act} {w : World} (x y : Operand) (ho : o.op = .binOp .eql 24 x y 24) (r s : List Nat) (hr : Rt r) (hs : Rt s) (hx : a.eval x = .agg (nums .u8 r)) (hy : a.eval y = .agg (nums .u8 s)) : (execOp a.eval o).run Tryd.prog w = .ok (.value (.bool (decide (r = s)))) w := by
  have h := eql_api r s hr.len hs.len hr.byte hs.byte w
  unfold execOp
  simp only [ho, hx, hy]
  simp [go_sem, h]
theorem run_neq_root {o : Oper} {a : Act} {w : World} (x y : Operand) (ho : o.op = .binOp .neq 24 x y 24) (r s : List Nat) (hr : Rt r) (hs : Rt s) (hx : a.eval x = .agg (nums .u8 r)) (hy : a.eval y = .agg (nums .u8 s)) : (execOp a.eval o).run Tryd.prog w = .ok (.value (.bool (!decide (r = s)))) w := by
  have h := eql_api r s hr.len hs.len hr.byte hs.byte w
  unfold execOp
  simp only [ho, hx, hy]
  simp [go_sem, h]
theorem run_len {o : Oper} {a : Act} {w : World} (x : Operand) (ho : o.op = .call { callee := .builtin .len, args := #[x], argTypes := #[22] }) (ao : Option Addr) (n cap : Nat) (hx : a.eval x = .slice ao n cap) : (execOp a.eval o).run Tryd.prog w = .ok (.value (.int .i64 (n : Int))) w := by
  have hl : (Builtin.len_ #[22] o.type #[.slice ao n cap]).run Tryd.prog w = .ok (.int .i64 (n : Int)) w := by simp [Builtin.len_, run_underlying Tryd.underlying22, goInt]
  unfold execOp
  simp only [ho, resolve, invoke, builtin, Sem.run_bind, Sem.run_pure, Result.andThen_ok, List.map_toArray, List.map_cons, List.map_nil, hx, hl]
theorem run_load_has {o : Oper} {a : Act} {w : World} (x : Operand) (ho : o.op = .load 24 x) (g : Nat) (r : List Nat) (hx : a.eval x = .pointer (some ⟨g, 0, none⟩)) (t : TypeId) (hg : Has w g t .u8 r) (hr : Rt r) : (execOp a.eval o).run Tryd.prog w = .ok (.value (.agg (nums .u8 r))) w := by
  have hl := run_loadVar_row w g t 24 (nums .u8 r) (0, 0) _ hg Tryd.und24 rfl (by rw [hr.size _ Tryd.size24, nums_size])
  unfold execOp
  simp only [ho, hx, Instr.loadAt, Instr.sureAddr, Sem.run_bind, Sem.run_pure, Result.andThen_ok, hl]
/-- Each key's tag. -/
def tagsR (rs : List (List Nat)) (m : List Nat) : List (List Nat) := rs.map fun k => pr k m
theorem tagsR_rts (rs : List (List Nat)) (m : List Nat) : Rts (tagsR rs m) := ⟨fun r hr => by obtain ⟨k, _, rfl⟩ := List.mem_map.1 hr; exact (pr_rt k m).len, fun r hr => by obtain ⟨k, _, rfl⟩ := List.mem_map.1 hr; exact (pr_rt k m).byte⟩
theorem tagsR_length (rs : List (List Nat)) (m : List Nat) : (tagsR rs m).length = rs.length := by simp [tagsR]
theorem tagsR_at (rs : List (List Nat)) (m : List Nat) (t : Nat) (ht : t < rs.length) (q : List Nat) (hq : Hid (rs.getD t [] = q)) : pr q m = (tagsR rs m).getD t [] := by
  rw [← hq.out]
  simp [tagsR, ht]

set_option maxRecDepth 100000 in
set_option maxHeartbeats 1000000 in
theorem tags_any (ao : Option Addr) (cap : Nat) (rs : List (List Nat)) (m : List Nat) (w : World) (hT : Tabs w) (hcap : rs.length ≤ cap) (hm : cap ≤ maxLen) (hlen : rs.length ≤ 1000) (hR : RootsAt w ao rs) (hmr : Rt m) :
    Calls Tryd.prog 17 #[.slice ao rs.length cap, .agg (nums .u8 m)] w fun e w' => ∃ g, e = .returned (.slice (some ⟨g, 0, none⟩) rs.length rs.length) ∧ RootsAt w' (some ⟨g, 0, none⟩) (tagsR rs m) ∧ Below w.heap.size w w' := by
  unfold maxLen at hm
  have hX := tagsR_rts rs m
  have hXl := tagsR_length rs m
  go_enter Tryd.func17, Tryd.ntmps17
  go_wp2_with (first
    | (refine wpList_box_has rfl 3 rfl 24 (.tmp 1) rfl .u8 m rfl ?_; intro w1 H1 B1 S1)
    | (refine wpList_make_roots rfl (.tmp 9) (.tmp 9) 22 rfl 24 Tryd.underlying22 Tryd.rootInfo .i64 .i64 _ _ rs.length rfl rfl (by omega) (by omega) (by omega) ?_; intro w3 H3 B3; have HW3 := below_more B1 B3 (Nat.le_refl _); have HA3 := H1.keep B3))
  rw [S1] at H3
  try rw [S1]
  rw [← upTo_zero (tagsR rs m) rs.length] at H3
  have lt3 := H3.lt
  clear H1 B1 B3 S1
  go_loopw [6, 7, 13] (fun _ _ i wr => ∃ t : Nat, t ≤ rs.length ∧ i = .int .i64 t ∧ Has wr (w.heap.size + 1) 24 .u8 (upTo (tagsR rs m) rs.length t).flatten ∧ Has wr w.heap.size 24 .u8 m ∧ Below w.heap.size w wr) (fun _ _ i _ => rs.length - (intOf i).toNat)
  case atStart => exact ⟨0, by omega, rfl, H3, HA3, HW3⟩
  case round =>
    clear H3 HA3 HW3
    obtain ⟨t, ht, rfl, HN, HA, HW⟩ := hrel
    by_cases hlt : t < rs.length
    · obtain ⟨b, off, rfl, _⟩ := hR.addr (by omega)
      obtain ⟨q, hq⟩ : ∃ q, Hid (rs.getD t [] = q) := ⟨_, hid rfl⟩
      have hqr : Rt q := by rw [← hq.out]; exact hR.rts.rt t hlt
      have hR' := hR.keep HW
      have hnx := hid (upTo_next (tagsR rs m) rs.length t hX hXl hlt _ (tagsR_at rs m t hlt q hq))
      have hfl := upTo_flat (tagsR rs m) rs.length t hX hXl ht
      have hpr := pr_rt q m
      have hn := HN.lt
      have hsz := HW.size
      have HTg := hid (fun wq (hq : Tabs wq) => tag_any q m hqr hmr wq hq)
      generalize (upTo (tagsR rs m) rs.length t).flatten = U at *
      generalize pr q m = pq at *
      go_wp2_with (first
        | (refine wpList_load_named rfl 24 (.tmp 16) rfl b off t rs q hq (by rw [Nat.mul_comm 32 t]; rfl) hR' hlt _ _ Tryd.und24 Tryd.size24 ?_)
        | (refine wpList_alloc_has rfl 7 rfl 24 rfl .u8 32 Tryd.zero24 ?_; intro w1 H1 B1 S1)
        | (refine wpList_store_has rfl 24 (.tmp 7) (.tmp 17) rfl wr.heap.size .u8 q (zeros 32) rfl rfl 24 H1 (hqr.size _ Tryd.size24) (by rw [hqr.len, zeros_length]) ?_; intro w2 H2 O2; have HN2 := (HN.keep B1).only O2 (by omega); have HA2 := (HA.keep B1).only O2 (by omega); have HW2 := below_only (below_more HW B1 (Nat.le_refl _)) O2 hsz)
        | (refine wpList_load_has rfl 24 (.tmp 7) rfl wr.heap.size .u8 q rfl 24 H2 _ _ Tryd.und24 (hqr.size _ Tryd.size24) ?_)
        | (refine wpList_load_has rfl 24 (.tmp 3) rfl w.heap.size .u8 m rfl 24 HA2 _ _ Tryd.und24 (hmr.size _ Tryd.size24) ?_)
        | (go_at_call 10; refine (HTg.out _ (hT.keep HW2)).mono ?_; rintro e w7 ⟨rfl, B7⟩)
        | (refine wpList_store_part rfl 24 (.tmp 23) (.tmp 22) rfl (w.heap.size + 1) t 24 U pq (by rw [Nat.mul_comm 32 t]; first | rfl | simp [Act.eval]) rfl (HN2.keep B7) hpr.len (by omega) Tryd.size24 ?_; intro w9 H9 O9))
      go_roundw
      case rel =>
        exact ⟨t + 1, by omega, by go_num, by rw [← hnx.out]; exact H9, (HA2.keep B7).only O9 (by omega), below_only (below_more HW2 B7 (Nat.le_refl _)) O9 (by omega)⟩
      case measure => simp [intOf]; omega
    · have ht2 : t = rs.length := by omega
      subst ht2
      rw [upTo_all _ _ hXl] at HN
      go_wp2_with fail
      go_ret
      exact ⟨_, rfl, HasR.at hX HN, HW⟩

set_option maxRecDepth 100000 in
set_option maxHeartbeats 1000000 in
theorem valid_any (ao : Option Addr) (cap : Nat) (rs : List (List Nat)) (m sg : List Nat) (w : World) (hT : Tabs w) (hcap : rs.length ≤ cap) (hm : cap ≤ maxLen) (hlen : rs.length ≤ 1000) (hR : RootsAt w ao rs) (hmr : Rt m) (hsr : Rt sg) :
    Calls Tryd.prog 12 #[.slice ao rs.length cap, .agg (nums .u8 m), .agg (nums .u8 sg)] w fun e w' => e = .returned (.bool (decide (0 < rs.length) && decide (sg = joinR (tagsR rs m)))) ∧ Below w.heap.size w w' := by
  have hjr := joinR_rt (tagsR_rts rs m)
  obtain ⟨J, hJ⟩ : ∃ J, Same (joinR (tagsR rs m)) J := ⟨_, ⟨rfl⟩⟩
  rw [hJ.out] at hjr ⊢
  by_cases h0 : 0 < rs.length
  · go_enter Tryd.func12, Tryd.ntmps12
    go_wp2_with (first
      | (refine wpList_box_has rfl 4 rfl 24 (.tmp 1) rfl .u8 m rfl ?_; intro w1 H1 B1 S1)
      | (refine wpList_box_has rfl 5 rfl 24 (.tmp 2) rfl .u8 sg rfl ?_; intro w2 H2 B2 S2; rw [S1] at H2 ⊢))
    have HA2 := H1.keep B2
    have HB2 := H2
    have HW2 := below_more B1 B2 (Nat.le_refl _)
    have hT2 := hT.keep HW2
    have HR2 := hR.keep HW2
    clear H1 B1 S1 H2 B2 S2
    try simp only [Act.put, List.setIfInBounds_toArray, List.set_cons_succ, List.set_cons_zero]
    refine wp_region_flow_guarded 11 11 (fun i v wq => match i with
      | 0 => v = .slice ao rs.length cap
      | 1 => v = .int .i64 (rs.length : Int)
      | 2 => v = .bool true
      | 3 => v = .bool true
      | 4 => v = .agg (nums .u8 sg)
      | 5 => v = .slice ao rs.length cap
      | 6 => v = .agg (nums .u8 m)
      | 7 => ∃ g, v = .slice (some ⟨g, 0, none⟩) (tagsR rs m).length (tagsR rs m).length ∧ RootsAt wq (some ⟨g, 0, none⟩) (tagsR rs m)
      | 8 => v = .agg (nums .u8 J)
      | 9 => v = .bool (decide (sg = J))
      | _ => v = .bool (decide (sg = J))) (by kernel_rfl) (by kernel_rfl) (fun _ d _ _ _ h => by cases d <;> exact h) ?_ ?_ ?_ ?_ ?_
    · intro i o g b hi ho hg v wq hv
      match i, hi with
      | 0, _ => cases ho; cases hg
      | 1, _ => cases ho; cases hg
      | 2, _ => cases ho; cases hg
      | 3, _ => cases ho; cases hg
      | 4, _ => cases ho; cases hg; exact hv
      | 5, _ => cases ho; cases hg; exact hv
      | 6, _ => cases ho; cases hg; exact hv
      | 7, _ => cases ho; cases hg; exact hv
      | 8, _ => cases ho; cases hg; exact hv
      | 9, _ => cases ho; cases hg; exact hv
      | 10, _ => cases ho; cases hg
      | (k + 11), hk => exact absurd hk (by omega)
    · intro i v wq wq' hi hv hb
      match i, hi with
      | 0, _ => exact hv
      | 1, _ => exact hv
      | 2, _ => exact hv
      | 3, _ => exact hv
      | 4, _ => exact hv
      | 5, _ => exact hv
      | 6, _ => exact hv
      | 7, _ => obtain ⟨g, h1, h2⟩ := hv; exact ⟨g, h1, h2.keep hb⟩
      | 8, _ => exact hv
      | 9, _ => exact hv
      | 10, _ => exact hv
      | (k + 11), hk => exact absurd hk (by omega)
    · intro i o hi ho aq wq hc hk hdep
      match i, hi with
      | 0, _ =>
        cases ho
        exact flow_move (.tmp 0) rfl (hk 0 (by decide))
      | 1, _ =>
        cases ho
        have e0 : aq.tmps.getD 7 undef = .slice ao rs.length cap := hdep 0 7 rfl (by kernel_rfl)
        exact flow_value _ (run_len (.tmp 7) rfl ao rs.length cap e0) rfl
      | 2, _ =>
        cases ho
        have e0 : aq.tmps.getD 8 undef = .int .i64 (rs.length : Int) := hdep 1 8 rfl (by kernel_rfl)
        refine flow_value (.bool true) ?_ rfl
        have e0' : aq.tmps[8]?.getD undef = .int .i64 (rs.length : Int) := by simpa using e0
        unfold execOp
        simp [e0', go_sem]
        omega
      | 3, _ =>
        cases ho
        exact flow_move (.tmp 9) rfl (hdep 2 9 rfl (by kernel_rfl))
      | 4, _ =>
        cases ho
        have e5 : aq.tmps.getD 5 undef = .pointer (some ⟨w.heap.size + 1, 0, none⟩) := hk 5 (by decide)
        exact flow_value _ (run_load_has (.tmp 5) rfl (w.heap.size + 1) sg e5 24 (HB2.keep hc.bel) hsr) rfl
      | 5, _ =>
        cases ho
        exact flow_move (.tmp 0) rfl (hk 0 (by decide))
      | 6, _ =>
        cases ho
        have e5 : aq.tmps.getD 4 undef = .pointer (some ⟨w.heap.size, 0, none⟩) := hk 4 (by decide)
        exact flow_value _ (run_load_has (.tmp 4) rfl w.heap.size m e5 24 (HA2.keep hc.bel) hmr) rfl
      | 7, _ =>
        cases ho
        have e0 : aq.tmps.getD 12 undef = .slice ao rs.length cap := hdep 5 12 rfl (by kernel_rfl)
        have e1 : aq.tmps.getD 13 undef = .agg (nums .u8 m) := hdep 6 13 rfl (by kernel_rfl)
        refine flow_fun 17 _ _ rfl (fun _ _ => by simp [go_sem]) #[.slice ao rs.length cap, .agg (nums .u8 m)] (by rw [show (#[Operand.tmp 12, Operand.tmp 13] : Array Operand).map aq.eval = #[aq.tmps.getD 12 undef, aq.tmps.getD 13 undef] from by simp [Act.eval], e0, e1]) ?_
        refine (tags_any ao cap rs m wq (hT2.keep hc.bel) hcap hm hlen (HR2.keep hc.bel) hmr).mono ?_
        rintro x w' ⟨g, rfl, h1, q⟩
        exact ⟨_, rfl, ⟨g, by rw [tagsR_length], h1⟩, q⟩
      | 8, _ =>
        cases ho
        obtain ⟨g, e0, h0⟩ := hdep 7 14 rfl (by kernel_rfl)
        refine flow_fun 8 _ _ rfl (fun _ _ => by simp [go_sem]) #[.slice (some ⟨g, 0, none⟩) (tagsR rs m).length (tagsR rs m).length] (by rw [show (#[Operand.tmp 14] : Array Operand).map aq.eval = #[aq.tmps.getD 14 undef] from by simp [Act.eval], e0]) ?_
        refine (join_any' (some ⟨g, 0, none⟩) _ (tagsR rs m) wq (Nat.le_refl _) (by rw [tagsR_length]; unfold maxLen; omega) h0).mono ?_
        rintro x w' ⟨rfl, q⟩
        exact ⟨_, rfl, congrArg (fun T => Value.agg (nums .u8 T)) hJ.out, q⟩
      | 9, _ =>
        cases ho
        have e0 : aq.tmps.getD 11 undef = .agg (nums .u8 sg) := hdep 4 11 rfl (by kernel_rfl)
        have e1 : aq.tmps.getD 15 undef = .agg (nums .u8 J) := hdep 8 15 rfl (by kernel_rfl)
        exact flow_value _ (run_eq_root (.tmp 11) (.tmp 15) rfl sg J hsr hjr e0 e1) rfl
      | 10, _ =>
        cases ho
        have e0 : aq.tmps.getD 10 undef = .bool true := hdep 3 10 rfl (by kernel_rfl)
        have e1 : aq.tmps.getD 16 undef = .bool (decide (sg = J)) := hdep 9 16 rfl (by kernel_rfl)
        refine flow_value _ ?_ rfl
        have e0' : aq.tmps[10]?.getD undef = .bool true := by simpa using e0
        have e1' : aq.tmps[16]?.getD undef = .bool (decide (sg = J)) := by simpa using e1
        unfold execOp
        simp [e0', e1', go_sem, Act.eval]
      | (k + 11), hk => exact absurd hk (by omega)
    · intro o h11 ho
      omega
    intro vf w8 hc hv
    have e10 : vf 10 = .bool (decide (sg = J)) := hv 10 17 (by decide) rfl
    have Bw8 := below_more HW2 hc.bel (Nat.le_refl _)
    clear hv
    simp only [List.take_succ_cons, List.take_zero, List.drop_succ_cons, List.drop_zero, putAll, Act.put, List.setIfInBounds_toArray, List.set_cons_succ, List.set_cons_zero]
    rw [e10]
    clear e10 hc
    go_wp2_with fail
    go_ret
    exact ⟨by rw [decide_eq_true h0, Bool.true_and]; rfl, Bw8⟩
  · obtain rfl : rs = [] := List.eq_nil_of_length_eq_zero (by omega)
    go_enter Tryd.func12, Tryd.ntmps12
    go_wp2_with (first
      | (refine wpList_box_has rfl 4 rfl 24 (.tmp 1) rfl .u8 m rfl ?_; intro w1 H1 B1 S1)
      | (refine wpList_box_has rfl 5 rfl 24 (.tmp 2) rfl .u8 sg rfl ?_; intro w2 H2 B2 S2; rw [S1] at H2 ⊢))
    have HW2 := below_more B1 B2 (Nat.le_refl _)
    clear H1 B1 S1 H2 B2 S2
    try simp only [Act.put, List.setIfInBounds_toArray, List.set_cons_succ, List.set_cons_zero]
    refine wp_region_cls_tail 11 (by kernel_rfl) (by kernel_rfl) ?_
    simp only [List.take_succ_cons, List.take_zero, List.drop_succ_cons, List.drop_zero]
    go_big_quiet_step (exact fun _ => rfl)
    go_big_quiet_step (exact fun _ => rfl)
    go_big_quiet_step (exact fun _ => rfl)
    go_big_quiet_step (exact fun _ => rfl)
    go_big_quiet_step (exact fun _ => rfl)
    go_big_quiet_step (exact fun _ => rfl)
    go_big_quiet_step (exact fun _ => rfl)
    go_big_quiet_step (exact fun _ => rfl)
    go_big_quiet_step (exact fun _ => rfl)
    go_big_quiet_step (exact fun _ => rfl)
    go_big_quiet_step (exact fun _ => rfl)
    refine wpQuiet_nil ?_
    intro w5 hq5
    go_wp2_with fail
    go_ret
    exact ⟨rfl, below_more HW2 hq5.bel (Nat.le_refl _)⟩
end Go.Proofs.YtdaejfkdopoooaaDoor
