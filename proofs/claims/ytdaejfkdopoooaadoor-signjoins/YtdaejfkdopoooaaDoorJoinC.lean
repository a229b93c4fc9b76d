/- Contracts of both Join. -/
import Derived.Test.YtdaejfkdopoooaaDoorXor
import Derived.Laws.BitsAllLaws
namespace Go.Proofs.YtdaejfkdopoooaaDoor
open Go.RowKit
set_option linter.unusedVariables false

theorem index_runJ (l : List Nat) (hl : l.length = 32) (t : Nat) (h : t < 32) (w : World) :
    (Instr.index 24 (.agg (nums .u8 l)) (.int .i64 (t : Int))).run Tryd.prog w = .ok (.int .u8 (l.getD t 0 : Nat)) w := by
  have hg := nums_get .u8 l t (by omega)
  simp [Instr.index, asIntOf, run_underlying Tryd.und24, part, hg, go_sem]
  intro h2
  omega
theorem xorUp_at (A q : List Nat) (k : Nat) (hA : A.length = 32) (hk : k < 32) : (xorUp A q k).getD k 0 = A.getD k 0 := by
  rw [xorUp_getD A q k k (by omega), if_neg (by omega)]

set_option maxRecDepth 100000 in
set_option maxHeartbeats 1000000 in
theorem join_any' (ao : Option Addr) (cap : Nat) (rs : List (List Nat)) (w : World) (hcap : rs.length ≤ cap) (hm : cap ≤ maxLen) (hR : RootsAt w ao rs) :
    Calls Tryd.prog 8 #[.slice ao rs.length cap] w fun e w' => e = .returned (.agg (nums .u8 (joinR rs))) ∧ Below w.heap.size w w' := by
  unfold maxLen at hm
  go_enter Tryd.func8, Tryd.ntmps8
  go_wp2_with (first
    | (refine wpList_alloc_has rfl 2 rfl 24 rfl .u8 32 Tryd.zero24 ?_; intro w1 H1 B1 S1)
    | (refine wpList_alloc_has rfl 3 rfl 24 rfl .u8 32 Tryd.zero24 ?_; intro w2 H2 B2 S2; rw [S1] at H2 ⊢))
  have HR2 := H1.keep B2
  have HW2 := below_more B1 B2 (Nat.le_refl _)
  have lt2 := H2.lt
  clear H1 B1 S1 B2 S2
  go_loopw [5, 6, 7, 10] (fun _ _ _ i wr => ∃ t : Nat, t ≤ rs.length ∧ i = .int .i64 t ∧ Has wr (w.heap.size + 1) 24 .u8 (joinR (rs.take t)) ∧ Has wr w.heap.size 24 .u8 (zeros 32) ∧ Below w.heap.size w wr) (fun _ _ _ i _ => rs.length - (intOf i).toNat)
  case atStart => exact ⟨0, by omega, rfl, by rw [List.take_zero]; exact H2, HR2, HW2⟩
  case round =>
    clear H2 HR2 HW2
    obtain ⟨t, ht, rfl, HJ, HZ, HW⟩ := hrel
    by_cases hlt : t < rs.length
    · obtain ⟨b, off, rfl, _⟩ := hR.addr (by omega)
      obtain ⟨q, hq⟩ : ∃ q, Hid (rs.getD t [] = q) := ⟨_, hid rfl⟩
      have hqr : Rt q := by rw [← hq.out]; exact hR.rts.rt t hlt
      have hR' := hR.keep HW
      have hjr := joinR_rt (hR.rts.take t)
      have hnx : Same (joinR (rs.take (t + 1))) (xorUp (joinR (rs.take t)) q 32) := ⟨by rw [joinR_next t hlt, hq.out, xorUp_all _ _ hjr.len hqr.len]⟩
      generalize joinR (rs.take t) = A at *
      have hn := HJ.lt
      have hsz := HW.size
      go_wp2_with (first
        | (refine wpList_load_named rfl 24 (.tmp 12) rfl b off t rs q hq (by rw [Nat.mul_comm 32 t]; rfl) hR' hlt _ _ Tryd.und24 Tryd.size24 ?_)
        | (refine wpList_alloc_has rfl 5 rfl 24 rfl .u8 32 Tryd.zero24 ?_; intro w1 H1 B1 S1)
        | (refine wpList_store_has rfl 24 (.tmp 5) (.tmp 13) rfl wr.heap.size .u8 q (zeros 32) rfl rfl 24 H1 (hqr.size _ Tryd.size24) (by rw [hqr.len, zeros_length]) ?_; intro w2 H2 O2)
        | (refine wpList_load_has rfl 24 (.tmp 5) rfl wr.heap.size .u8 q rfl 24 H2 _ _ Tryd.und24 (hqr.size _ Tryd.size24) ?_))
      have HJ2 := (HJ.keep B1).only O2 (by omega)
      have HZ2 := (HZ.keep B1).only O2 (by omega)
      have HW2 := below_only (below_more HW B1 (Nat.le_refl _)) O2 hsz
      clear H1 B1 S1 H2 O2 HJ HZ HW hR'
      go_loopw [6, 7, 15] (fun _ _ j wi => ∃ k : Nat, k ≤ 32 ∧ j = .int .i64 k ∧ Has wi (w.heap.size + 1) 24 .u8 (xorUp A q k) ∧ Has wi w.heap.size 24 .u8 (zeros 32) ∧ Below w.heap.size w wi) (fun _ _ j _ => 32 - (intOf j).toNat)
      case atStart => exact ⟨0, by omega, rfl, HJ2, HZ2, HW2⟩
      case round =>
        clear HJ2 HZ2 HW2
        obtain ⟨k, hk, rfl, HX, HZk, HWk⟩ := hrel
        by_cases hk32 : k < 32
        · have hix := index_runJ q hqr.len k hk32
          have c2 := HX.cell k (by rw [xorUp_length, hjr.len]; exact hk32)
          rw [xorUp_at A q k hjr.len hk32] at c2
          have f2 := HX.frozen k
          have hxo := u8_xor_nat (A.getD k 0) (q.getD k 0) (hjr.getD k) (hqr.getD k)
          have HS : Same (xorUp A q (k + 1)) ((xorUp A q k).set k (A.getD k 0 ^^^ q.getD k 0)) := ⟨by rw [xorUp]⟩
          generalize A.getD k 0 ^^^ q.getD k 0 = z at *
          generalize A.getD k 0 = x at *
          generalize q.getD k 0 = y at *
          generalize xorUp A q k = xl at *
          go_wp2
          go_roundw
          case rel =>
            have HO := Only.setCell wr (w.heap.size + 1) k (.int .u8 (z : Nat))
            exact ⟨k + 1, by omega, by go_num, by rw [HS.out]; exact HX.set k _, HZk.only HO (by omega), below_only HWk HO (by omega)⟩
          case measure => simp [intOf]; omega
        · have hk2 : k = 32 := by omega
          subst hk2
          go_wp2
          go_roundw
          case rel => exact ⟨t + 1, by omega, by go_num, by rw [hnx.out]; exact HX, HZk, HWk⟩
          case measure => simp [intOf]; omega
    · have ht2 : t = rs.length := by omega
      subst ht2
      rw [List.take_of_length_le (Nat.le_refl _)] at HJ
      have hjr := joinR_rt hR.rts
      go_wp2_with (first
        | (refine wpList_load_has rfl 24 (.tmp 3) rfl (w.heap.size + 1) .u8 (joinR rs) rfl 24 HJ _ _ Tryd.und24 (hjr.size _ Tryd.size24) ?_)
        | (refine wpList_store_has rfl 24 (.tmp 2) (.tmp 27) rfl w.heap.size .u8 (joinR rs) (zeros 32) rfl rfl 24 HZ (hjr.size _ Tryd.size24) (by rw [hjr.len, zeros_length]) ?_; intro w9 H9 O9))
      refine bodyPost_ret (results_has rfl _ _ w.heap.size 24 .u8 (joinR rs) _ _ rfl H9 Tryd.und24 (hjr.size _ Tryd.size24)) rfl ?_
      exact ⟨rfl, below_only HW O9 (Nat.le_refl _)⟩

set_option maxRecDepth 100000 in
set_option maxHeartbeats 1000000 in
theorem rjoin_any' (ao : Option Addr) (cap : Nat) (rs : List (List Nat)) (w : World) (hcap : rs.length ≤ cap) (hm : cap ≤ maxLen) (hR : RootsAt w ao rs) :
    Calls Tryd.prog 9 #[.slice ao rs.length cap] w fun e w' => e = .returned (.agg (nums .u8 (joinR rs))) ∧ Below w.heap.size w w' := by
  have hzr := zero_rt
  unfold maxLen at hm
  go_enter Tryd.func9, Tryd.ntmps9
  go_wp2_with (first
    | (refine wpList_alloc_has rfl 2 rfl 24 rfl .u8 32 Tryd.zero24 ?_; intro w1 H1 B1 S1)
    | (refine wpList_build_has rfl 24 _ rfl .u8 (zeros 32) (by kernel_rfl) ?_)
    | (refine wpList_alloc_has rfl 3 rfl 24 rfl .u8 32 Tryd.zero24 ?_; intro w2 H2 B2 S2; rw [S1] at H2 ⊢)
    | (refine wpList_store_has rfl 24 (.tmp 3) (.tmp 6) rfl (w.heap.size + 1) .u8 (zeros 32) (zeros 32) rfl rfl 24 H2 (hzr.size _ Tryd.size24) rfl ?_; intro w3 H3 O3))
  have HR2 := (H1.keep B2).only O3 (by omega)
  have HW2 := below_only (below_more B1 B2 (Nat.le_refl _)) O3 (by omega)
  have lt2 := H3.lt
  clear H1 B1 S1 H2 B2 S2 O3
  go_loopw [4, 5] (fun i _ wr => ∃ t : Nat, t ≤ rs.length ∧ i = .int .i64 t ∧ Has wr (w.heap.size + 1) 24 .u8 (joinR (rs.take t)) ∧ Has wr w.heap.size 24 .u8 (zeros 32) ∧ Below w.heap.size w wr) (fun i _ _ => rs.length - (intOf i).toNat)
  case atStart => exact ⟨0, by omega, rfl, by rw [List.take_zero]; exact H3, HR2, HW2⟩
  case round =>
    clear H3 HR2 HW2
    obtain ⟨t, ht, rfl, HJ, HZ, HW⟩ := hrel
    by_cases hlt : t < rs.length
    · obtain ⟨b, off, rfl, hcell⟩ := hR.addr (by omega)
      obtain ⟨q, hq⟩ : ∃ q, Hid (rs.getD t [] = q) := ⟨_, hid rfl⟩
      have hqr : Rt q := by rw [← hq.out]; exact hR.rts.rt t hlt
      have hjr := joinR_rt (hR.rts.take t)
      have hnx : Same (joinR (rs.take (t + 1))) (xorUp (joinR (rs.take t)) q 32) := ⟨by rw [joinR_next t hlt, hq.out, xorUp_all _ _ hjr.len hqr.len]⟩
      generalize joinR (rs.take t) = A at *
      have hqc : ∀ wq, Below w.heap.size w wq → ∀ k, k < 32 → wq.cell? ⟨b, off + t * 32 + k, none⟩ = some (.int .u8 (q.getD k 0 : Nat)) := fun wq hw k hk => by
        obtain ⟨b', off', e, hc⟩ := (hR.keep hw).addr (by omega)
        cases e
        rw [Nat.add_assoc, hc (t * 32 + k) (by omega), Nat.mul_comm, flat_getD rs hR.rts t k hlt hk, hq.out]
      have HQ := hid hqc
      clear hqc hcell
      go_wp2
      go_loopw [5] (fun j wi => ∃ k : Nat, k ≤ 32 ∧ j = .int .i64 k ∧ Has wi (w.heap.size + 1) 24 .u8 (xorUp A q k) ∧ Has wi w.heap.size 24 .u8 (zeros 32) ∧ Below w.heap.size w wi) (fun j _ => 32 - (intOf j).toNat)
      case atStart => exact ⟨0, by omega, rfl, HJ, HZ, HW⟩
      case round =>
        clear HJ HZ HW
        obtain ⟨k, hk, rfl, HX, HZk, HWk⟩ := hrel
        by_cases hk32 : k < 32
        · have c2 := HX.cell k (by rw [xorUp_length, hjr.len]; exact hk32)
          rw [xorUp_at A q k hjr.len hk32] at c2
          have HC2 := hid (fun wq (hq' : Cls wr wq) => (hq'.bel.cell (p := ⟨w.heap.size + 1, k, none⟩) HX.lt).trans c2)
          have HC3 := hid (fun wq (hq' : Cls wr wq) => HQ.out wq (below_more HWk hq'.bel (Nat.le_refl _)) k hk32)
          have hxo := u8_xor_nat (A.getD k 0) (q.getD k 0) (hjr.getD k) (hqr.getD k)
          have HS : Same (xorUp A q (k + 1)) ((xorUp A q k).set k (A.getD k 0 ^^^ q.getD k 0)) := ⟨by rw [xorUp]⟩
          clear c2
          have hxl : k < (xorUp A q k).length := by rw [xorUp_length, hjr.len]; exact hk32
          generalize A.getD k 0 ^^^ q.getD k 0 = z at *
          generalize A.getD k 0 = x at *
          generalize q.getD k 0 = y at *
          generalize xorUp A q k = xl at *
          go_wp2
          refine wp_region_cls_tail 12 (by kernel_rfl) (by kernel_rfl) ?_
          simp only [List.take_succ_cons, List.take_zero, List.drop_succ_cons, List.drop_zero]
          go_big_quiet_step (fail)
          go_big_quiet_step (fail)
          go_big_quiet_want
          refine quiet_run (.pointer (some ⟨w.heap.size + 1, k, none⟩)) (fun wq hwq => by unfold execOp; simp [go_sem]; intro h; omega) ?_
          simp only [Act.put, List.setIfInBounds_toArray, List.set_cons_succ, List.set_cons_zero]
          go_big_quiet_on
          go_big_quiet_want
          refine quiet_run (.int .u8 (x : Int)) (fun wq hwq => by have hc := HC2.out wq hwq; unfold execOp; simp [go_sem, hc]) ?_
          simp only [Act.put, List.setIfInBounds_toArray, List.set_cons_succ, List.set_cons_zero]
          go_big_quiet_on
          go_big_quiet_step (fail)
          go_big_quiet_step (fail)
          go_big_quiet_step (fail)
          go_big_quiet_want
          refine quiet_run (.pointer (some ⟨b, off + t * 32, none⟩)) (fun wq hwq => by unfold execOp; simp [go_sem, hlt]) ?_
          simp only [Act.put, List.setIfInBounds_toArray, List.set_cons_succ, List.set_cons_zero]
          go_big_quiet_on
          go_big_quiet_want
          refine quiet_run (.pointer (some ⟨b, off + t * 32 + k, none⟩)) (fun wq hwq => by unfold execOp; simp [go_sem]; intro h; omega) ?_
          simp only [Act.put, List.setIfInBounds_toArray, List.set_cons_succ, List.set_cons_zero]
          go_big_quiet_on
          go_big_quiet_want
          refine quiet_run (.int .u8 (y : Int)) (fun wq hwq => by have hc := HC3.out wq hwq; unfold execOp; simp [go_sem, hc]) ?_
          simp only [Act.put, List.setIfInBounds_toArray, List.set_cons_succ, List.set_cons_zero]
          go_big_quiet_on
          go_big_quiet_want
          refine quiet_run (.int .u8 (z : Int)) (fun wq hwq => by unfold execOp; simp [go_sem, hxo]) ?_
          simp only [Act.put, List.setIfInBounds_toArray, List.set_cons_succ, List.set_cons_zero]
          go_big_quiet_on
          go_big_quiet_want
          refine quiet_run (.pointer (some ⟨w.heap.size + 1, k, none⟩)) (fun wq hwq => by unfold execOp; simp [go_sem]; intro h; omega) ?_
          simp only [Act.put, List.setIfInBounds_toArray, List.set_cons_succ, List.set_cons_zero]
          go_big_quiet_on
          refine wpQuiet_nil ?_
          intro w5 hq5
          have HX5 := HX.keep hq5.bel
          have c5 := HX5.cell k hxl
          have f5 := HX5.frozen k
          have HZ5 := HZk.keep hq5.bel
          have HW5 := below_more HWk hq5.bel (Nat.le_refl _)
          go_wp2
          go_roundw
          case rel =>
            have HO := Only.setCell w5 (w.heap.size + 1) k (.int .u8 (z : Nat))
            exact ⟨k + 1, by omega, by go_num, by rw [HS.out]; exact HX5.set k _, HZ5.only HO (by omega), below_only HW5 HO (by omega)⟩
          case measure => simp [intOf]; omega
        · have hk2 : k = 32 := by omega
          subst hk2
          go_wp2
          go_roundw
          case rel => exact ⟨t + 1, by omega, by go_num, by rw [hnx.out]; exact HX, HZk, HWk⟩
          case measure => simp [intOf]; omega
    · have ht2 : t = rs.length := by omega
      subst ht2
      rw [List.take_of_length_le (Nat.le_refl _)] at HJ
      have hjr := joinR_rt hR.rts
      go_wp2_with (first
        | (refine wpList_load_has rfl 24 (.tmp 3) rfl (w.heap.size + 1) .u8 (joinR rs) rfl 24 HJ _ _ Tryd.und24 (hjr.size _ Tryd.size24) ?_)
        | (refine wpList_store_has rfl 24 (.tmp 2) (.tmp 29) rfl w.heap.size .u8 (joinR rs) (zeros 32) rfl rfl 24 HZ (hjr.size _ Tryd.size24) (by rw [hjr.len, zeros_length]) ?_; intro w9 H9 O9))
      refine bodyPost_ret (results_has rfl _ _ w.heap.size 24 .u8 (joinR rs) _ _ rfl H9 Tryd.und24 (hjr.size _ Tryd.size24)) rfl ?_
      exact ⟨rfl, below_only HW O9 (Nat.le_refl _)⟩
end Go.Proofs.YtdaejfkdopoooaaDoor
