/- Contract of the document's Verify. -/
import Derived.Test.YtfekefgaahoigaaDoorPlainC
import Derived.Test.YtfekefgaahoigaaDoorProvesW
namespace Go.Proofs.YtfekefgaahoigaaDoor
open Go.RowKit
set_option linter.unusedVariables false

theorem run_at26 {o : Oper} {a : Act} {w : World} (x y : Operand) (ho : o.op = .indexAddr 33 x y) (b off n cap i : Nat) (hx : a.eval x = .slice (some ⟨b, off, none⟩) n cap) (hy : a.eval y = .int .i64 (i : Int)) (hi : i < n) :
    (execOp a.eval o).run Tryd.prog w = .ok (.value (.pointer (some ⟨b, off + 32 * i, none⟩))) w := by
  rw [Nat.mul_comm]
  unfold execOp
  simp only [ho, hx, hy]
  go_simp

set_option maxRecDepth 100000 in
set_option maxHeartbeats 2000000 in
theorem rverify_any (x : List Nat) (ao : Option Addr) (cap : Nat) (rs : List (List Nat)) (i : Nat) (r : List Nat) (w : World) (hcap : rs.length ≤ cap) (hm : cap ≤ maxLen) (hR : RootsAt w ao rs) (hx : Rt x) (hr : Rt r) (hi : i < 18446744073709551616) :
    Calls Tryd.prog 24 #[.agg (nums .u8 x), .slice ao rs.length cap, .int .u64 i, .agg (nums .u8 r)] w fun e w' => e = .returned (.bool (decide (climbR x rs i = r))) ∧ Below w.heap.size w w' := by
  unfold maxLen at hm
  go_enter Tryd.func24, Tryd.ntmps24
  go_wp2_with (first
    | (refine wpList_box_has rfl 4 rfl 26 (.tmp 0) rfl .u8 x rfl ?_; intro w1 H1 B1 S1)
    | (refine wpList_box_has rfl 7 rfl 26 (.tmp 3) rfl .u8 r rfl ?_; intro w2 H2 B2 S2; rw [S1] at H2))
  have HW2 := below_more B1 B2 (Nat.le_refl _)
  have HA2 := H1.keep B2
  clear H1 B1 B2 S1 S2
  go_loopw [2, 9] (fun u v wr => ∃ t : Nat, t ≤ rs.length ∧ v = .int .i64 t ∧ u = .int .u64 ((i / 2 ^ t : Nat) : Int) ∧ Has wr w.heap.size 26 .u8 (climbR x (rs.take t) i) ∧ Has wr (w.heap.size + 1) 26 .u8 r ∧ Below w.heap.size w wr) (fun _ v _ => rs.length - (intOf v).toNat)
  case atStart => exact ⟨0, by omega, rfl, by simp, HA2, H2, HW2⟩
  case round =>
    clear HA2 H2 HW2
    obtain ⟨t, ht, rfl, rfl, HC, HB, HW⟩ := hrel
    have hc := climb_rt (rs.take t) x i hx
    by_cases hlt : t < rs.length
    · obtain ⟨b, off, rfl, _⟩ := hR.addr (by omega)
      have hstep := climb_take x rs i t hlt
      have hrt := hR.rts.rt t hlt
      obtain ⟨q, hq⟩ : ∃ q, Hid (rs.getD t [] = q) := ⟨_, hid rfl⟩
      rw [hq.out] at hstep hrt
      obtain ⟨c, hcq⟩ : ∃ c, Hid (climbR x (rs.take t) i = c) := ⟨_, hid rfl⟩
      have hc' : Rt c := by rw [← hcq.out]; exact hc
      rw [hcq.out] at HC hstep
      obtain ⟨j, hj⟩ : ∃ j, Hid (i / 2 ^ t = j) := ⟨_, hid rfl⟩
      have hjb : j < 18446744073709551616 := by rw [← hj.out]; exact Nat.lt_of_le_of_lt (Nat.div_le_self _ _) hi
      have hj2 : Hid (i / 2 ^ (t + 1) = j / 2) := hid (by rw [Nat.pow_succ, ← Nat.div_div_eq_div_mul, hj.out])
      rw [hj.out] at hstep ⊢
      have HRq := hid (fun wq (hq' : Cls wr wq) => (hR.keep HW).keep hq'.bel)
      have HCq := hid (fun wq (hq' : Cls wr wq) => HC.keep hq'.bel)
      clear hc hcq
      by_cases hb : j % 2 = 1
      · have hs : Same (climbR x (rs.take (t + 1)) i) (pr q c) := ⟨by rw [hstep, if_pos hb]⟩
        have hbi : (j : Int) % 2 = 1 := by omega
        have hprt := pr_rt q c
        clear hstep hb
        go_wp2_with fail
        refine wp_region_cls_tail 6 (by kernel_rfl) (by kernel_rfl) ?_
        simp only [List.take_succ_cons, List.take_zero, List.drop_succ_cons, List.drop_zero]
        go_big_quiet_step (fail)
        go_big_quiet_step (fail)
        go_big_quiet_want
        refine quiet_run _ (fun wq hwq => run_at26 (.tmp 19) (.tmp 20) rfl b off rs.length cap t rfl rfl hlt) ?_
        simp only [Act.put, List.setIfInBounds_toArray, List.set_cons_succ, List.set_cons_zero]
        go_big_quiet_on
        go_big_quiet_want
        refine quiet_load_named 26 (.tmp 21) rfl b off t rs q hq rfl HRq.out hlt _ _ Tryd.underlying26 Tryd.size26 ?_
        simp only [Act.put, List.setIfInBounds_toArray, List.set_cons_succ, List.set_cons_zero]
        go_big_quiet_on
        go_big_quiet_want
        refine quiet_load 26 (.tmp 4) rfl w.heap.size .u8 c rfl 26 HCq.out _ _ Tryd.underlying26 (hc'.size _ Tryd.size26) ?_
        simp only [Act.put, List.setIfInBounds_toArray, List.set_cons_succ, List.set_cons_zero]
        go_big_quiet_on
        go_big_quiet_want
        refine quiet_call 31 #[.agg (nums .u8 q), .agg (nums .u8 c)] (.agg (nums .u8 (pr q c))) (fun _ => by simp [go_sem]) (fun wq hq' => (rpair_any q c hrt.len hc'.len hrt.byte hc'.byte wq).mono fun e w' h => ⟨h.1, hq'.more h.2⟩) ?_
        simp only [Act.put, List.setIfInBounds_toArray, List.set_cons_succ, List.set_cons_zero]
        go_big_quiet_on
        refine wpQuiet_nil ?_
        intro w5 hq5
        refine wpList_store_has rfl 26 (.tmp 4) (.tmp 24) rfl w.heap.size .u8 (pr q c) c rfl rfl 26 (HC.keep hq5.bel) (hprt.size _ Tryd.size26) (by rw [hc'.len, hprt.len]) ?_
        intro w9 H9 O9
        go_wp2_with fail
        go_roundw
        case rel =>
          exact ⟨t + 1, by omega, by go_num, by rw [hj2.out]; go_num, by rw [hs.out]; exact H9, (HB.keep hq5.bel).only O9 (by omega), below_only (below_more HW hq5.bel (Nat.le_refl _)) O9 (Nat.le_refl _)⟩
        case measure => simp [intOf]; omega
      · have hs : Same (climbR x (rs.take (t + 1)) i) (pr c q) := ⟨by rw [hstep, if_neg hb]⟩
        have hbi : (j : Int) % 2 = 0 := by omega
        have hprt := pr_rt c q
        clear hstep hb
        go_wp2_with fail
        refine wp_region_cls_tail 6 (by kernel_rfl) (by kernel_rfl) ?_
        simp only [List.take_succ_cons, List.take_zero, List.drop_succ_cons, List.drop_zero]
        go_big_quiet_want
        refine quiet_load 26 (.tmp 4) rfl w.heap.size .u8 c rfl 26 HCq.out _ _ Tryd.underlying26 (hc'.size _ Tryd.size26) ?_
        simp only [Act.put, List.setIfInBounds_toArray, List.set_cons_succ, List.set_cons_zero]
        go_big_quiet_on
        go_big_quiet_step (fail)
        go_big_quiet_step (fail)
        go_big_quiet_want
        refine quiet_run _ (fun wq hwq => run_at26 (.tmp 26) (.tmp 27) rfl b off rs.length cap t rfl rfl hlt) ?_
        simp only [Act.put, List.setIfInBounds_toArray, List.set_cons_succ, List.set_cons_zero]
        go_big_quiet_on
        go_big_quiet_want
        refine quiet_load_named 26 (.tmp 28) rfl b off t rs q hq rfl HRq.out hlt _ _ Tryd.underlying26 Tryd.size26 ?_
        simp only [Act.put, List.setIfInBounds_toArray, List.set_cons_succ, List.set_cons_zero]
        go_big_quiet_on
        go_big_quiet_want
        refine quiet_call 31 #[.agg (nums .u8 c), .agg (nums .u8 q)] (.agg (nums .u8 (pr c q))) (fun _ => by simp [go_sem]) (fun wq hq' => (rpair_any c q hc'.len hrt.len hc'.byte hrt.byte wq).mono fun e w' h => ⟨h.1, hq'.more h.2⟩) ?_
        simp only [Act.put, List.setIfInBounds_toArray, List.set_cons_succ, List.set_cons_zero]
        go_big_quiet_on
        refine wpQuiet_nil ?_
        intro w5 hq5
        refine wpList_store_has rfl 26 (.tmp 4) (.tmp 30) rfl w.heap.size .u8 (pr c q) c rfl rfl 26 (HC.keep hq5.bel) (hprt.size _ Tryd.size26) (by rw [hc'.len, hprt.len]) ?_
        intro w9 H9 O9
        go_wp2_with fail
        go_roundw
        case rel =>
          exact ⟨t + 1, by omega, by go_num, by rw [hj2.out]; go_num, by rw [hs.out]; exact H9, (HB.keep hq5.bel).only O9 (by omega), below_only (below_more HW hq5.bel (Nat.le_refl _)) O9 (Nat.le_refl _)⟩
        case measure => simp [intOf]; omega
    · rw [List.take_of_length_le (by omega)] at HC hc
      have heq := eql_roots (climbR x rs i) r hc.len hr.len hc.byte hr.byte
      go_wp2_with (first
        | (refine wpList_load_has rfl 26 (.tmp 4) rfl w.heap.size .u8 (climbR x rs i) rfl 26 HC _ _ Tryd.underlying26 (hc.size _ Tryd.size26) ?_)
        | (refine wpList_load_has rfl 26 (.tmp 7) rfl (w.heap.size + 1) .u8 r rfl 26 HB _ _ Tryd.underlying26 (hr.size _ Tryd.size26) ?_))
      go_ret
      exact ⟨rfl, HW⟩
end Go.Proofs.YtfekefgaahoigaaDoor
