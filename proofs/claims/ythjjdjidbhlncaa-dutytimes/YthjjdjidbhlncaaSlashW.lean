/- DutySlashable's walk. -/
import Derived.Test.YthjjdjidbhlncaaAw9
import Derived.Test.YthjjdjidbhlncaaSlashR
namespace Go.Proofs.Ythjjdjidbhlncaa
open Go.RowKit
set_option linter.unusedVariables false
set_option linter.unusedSimpArgs false
set_option maxRecDepth 100000

set_option maxHeartbeats 4000000 in
theorem slashW_0 (A B : List Value) (es et es' et' : Nat) (w : World)
    (hlA : Shut (A.length = (vtX 0 0 (zeros 32) 0 (zeros 32) 0 (zeros 32)).length)) (hlB : Shut (B.length = (vtX 0 0 (zeros 32) 0 (zeros 32) 0 (zeros 32)).length))
    (hA : Shut (A[34]? = some (.int .u64 (es : Nat)) ∧ A[67]? = some (.int .u64 (et : Nat)))) (hB : Shut (B[34]? = some (.int .u64 (es' : Nat)) ∧ B[67]? = some (.int .u64 (et' : Nat))))
    (hNAB : Shut (∀ (o : Oper) (a : Act) (w : World) (x y : Operand), o.op = .binOp .neq 50 x y 50 → a.eval x = .agg A.toArray → a.eval y = .agg B.toArray → (execOp a.eval o).run Try.prog w = .ok (.value (.bool true)) w)) (hNBA : Shut (∀ (o : Oper) (a : Act) (w : World) (x y : Operand), o.op = .binOp .neq 50 x y 50 → a.eval x = .agg B.toArray → a.eval y = .agg A.toArray → (execOp a.eval o).run Try.prog w = .ok (.value (.bool true)) w)) (hT : decide (et = et') = true)
    (HAB : Shut (∀ wq, Calls Try.prog 13 #[.agg A.toArray, .agg B.toArray] wq fun e w' => e = .returned (.bool true) ∧ Below wq.heap.size wq w')) (HBA : Shut (∀ wq, Calls Try.prog 13 #[.agg B.toArray, .agg A.toArray] wq fun e w' => e = .returned (.bool true) ∧ Below wq.heap.size wq w')) (HAA : Shut (∀ wq, Calls Try.prog 13 #[.agg A.toArray, .agg A.toArray] wq fun e w' => e = .returned (.bool false) ∧ Below wq.heap.size wq w')) (RAB : Shut (∀ wq, Calls Try.prog 14 #[.agg A.toArray, .agg B.toArray] wq fun e w' => e = .returned (.bool true) ∧ Below wq.heap.size wq w')) (RBA : Shut (∀ wq, Calls Try.prog 14 #[.agg B.toArray, .agg A.toArray] wq fun e w' => e = .returned (.bool true) ∧ Below wq.heap.size wq w')) :
    Calls Try.prog 4 #[.agg A.toArray, .agg B.toArray] w fun e w' => e = .returned (.bool true) ∧ Below w.heap.size w w' := by
  go_enter Try.func4, Try.ntmps4
  go_wp2_with ((with_reducible refine at_list' ?_); first
    | (refine wpList_box_c rfl 2 rfl (.tmp 0) rfl A rfl ?_; intro w1 H1 B1 S1)
    | (refine wpList_box_c rfl 3 rfl (.tmp 1) rfl B rfl ?_; intro w2 H2 B2 S2; have X1 := H1.keep B2; have BB := shut (below_more B1 B2 (Nat.le_refl _)); have hd1 := shut X1; have hd2 := shut H2; clear H1 B1 B2 X1 H2 S1 S2))
  refine (awake_any w2).mono ?_
  rintro x w3 ⟨rfl, B3⟩
  have BC := shut (below_more BB.out B3 (Nat.le_refl _))
  have hd1 := shut (hd1.out.keep B3)
  have hd2 := shut (hd2.out.keep B3)
  clear B3 BB
  go_wp2
  refine wp_region_flowN 20 (fun _ => false) (fun i v wq => match i with
    | 0 => v = .agg (A).toArray
    | 1 => v = .agg (B).toArray
    | 2 => v = .bool true
    | 3 => v = .agg (A).toArray
    | 4 => v = .agg (B).toArray
    | 5 => v = .bool true
    | 6 => v = .bool false
    | 7 => v = .bool false
    | 8 => v = .agg (B).toArray
    | 9 => v = .agg (A).toArray
    | 10 => v = .bool true
    | 11 => v = .agg (B).toArray
    | 12 => v = .agg (A).toArray
    | 13 => v = .bool true
    | 14 => v = .bool false
    | 15 => v = .bool false
    | 16 => v = .bool false
    | 17 => v = .agg (A).toArray
    | 18 => v = .agg (A).toArray
    | _ => v = .bool false) (by kernel_rfl) (by kernel_rfl) ?_ ?_ ?_ ?_ ?_ ?_
  · intro i o g b hi ho hg v wq hv
    match i, hi with
    | 0, _ => cases ho; cases hg
    | 1, _ => cases ho; cases hg
    | 2, _ => cases ho; cases hg
    | 3, _ => cases ho; cases hg
    | 4, _ => cases ho; cases hg
    | 5, _ => cases ho; cases hg
    | 6, _ => cases ho; cases hg
    | 7, _ => cases ho; cases hg
    | 8, _ => cases ho; cases hg; exact (if_neg (by decide)).mpr hv
    | 9, _ => cases ho; cases hg; exact (if_neg (by decide)).mpr hv
    | 10, _ => cases ho; cases hg; exact (if_neg (by decide)).mpr hv
    | 11, _ => cases ho; cases hg; exact (if_neg (by decide)).mpr hv
    | 12, _ => cases ho; cases hg; exact (if_neg (by decide)).mpr hv
    | 13, _ => cases ho; cases hg; exact (if_neg (by decide)).mpr hv
    | 14, _ => cases ho; cases hg; exact (if_neg (by decide)).mpr hv
    | 15, _ => cases ho; cases hg
    | 16, _ => cases ho; cases hg
    | 17, _ => cases ho; cases hg; exact (if_neg (by decide)).mpr hv
    | 18, _ => cases ho; cases hg; exact (if_neg (by decide)).mpr hv
    | 19, _ => cases ho; cases hg; exact (if_neg (by decide)).mpr hv
    | (k + 20), hk => exact absurd hk (by omega)
  · intro i o hi ho hg
    match i, hi with
    | 0, _ => rfl
    | 1, _ => rfl
    | 2, _ => rfl
    | 3, _ => rfl
    | 4, _ => rfl
    | 5, _ => rfl
    | 6, _ => rfl
    | 7, _ => rfl
    | 8, _ => cases ho; cases hg
    | 9, _ => cases ho; cases hg
    | 10, _ => cases ho; cases hg
    | 11, _ => cases ho; cases hg
    | 12, _ => cases ho; cases hg
    | 13, _ => cases ho; cases hg
    | 14, _ => cases ho; cases hg
    | 15, _ => rfl
    | 16, _ => rfl
    | 17, _ => cases ho; cases hg
    | 18, _ => cases ho; cases hg
    | 19, _ => cases ho; cases hg
    | (k + 20), hk => exact absurd hk (by omega)
  · intro i wq hi hs
    match i, hi with
    | 0, _ => cases hs
    | 1, _ => cases hs
    | 2, _ => cases hs
    | 3, _ => cases hs
    | 4, _ => cases hs
    | 5, _ => cases hs
    | 6, _ => cases hs
    | 7, _ => cases hs
    | 8, _ => cases hs
    | 9, _ => cases hs
    | 10, _ => cases hs
    | 11, _ => cases hs
    | 12, _ => cases hs
    | 13, _ => cases hs
    | 14, _ => cases hs
    | 15, _ => cases hs
    | 16, _ => cases hs
    | 17, _ => cases hs
    | 18, _ => cases hs
    | 19, _ => cases hs
    | (k + 20), hk => exact absurd hk (by omega)
  · intro i v wq wq' hi hv hb
    match i, hi with
    | 0, _ => exact hv
    | 1, _ => exact hv
    | 2, _ => exact hv
    | 3, _ => exact hv
    | 4, _ => exact hv
    | 5, _ => exact hv
    | 6, _ => exact hv
    | 7, _ => exact hv
    | 8, _ => exact hv
    | 9, _ => exact hv
    | 10, _ => exact hv
    | 11, _ => exact hv
    | 12, _ => exact hv
    | 13, _ => exact hv
    | 14, _ => exact hv
    | 15, _ => exact hv
    | 16, _ => exact hv
    | 17, _ => exact hv
    | 18, _ => exact hv
    | 19, _ => exact hv
    | (k + 20), hk => exact absurd hk (by omega)
  · intro i o hi ho hs aq wq hc hk hdep
    match i, hi with
    | 0, _ =>
      cases ho
      have e2_1 : aq.eval (.tmp 2) = .pointer (some ⟨w.heap.size, 0, none⟩) := hk 2 (by decide)
      exact flow_value _ (run_mid 50 (.tmp 2) rfl w.heap.size 0 e2_1 (A) ((HasC.keep (hd1.out) hc.bel).range 0 _ (fun j v hv => by rw [Nat.zero_add]; exact hv)) _ Try.underlying50 rfl (by rw [hlA.out]; exact Try.tyVote.size)) rfl
    | 1, _ =>
      cases ho
      have e3_2 : aq.eval (.tmp 3) = .pointer (some ⟨w1.heap.size, 0, none⟩) := hk 3 (by decide)
      exact flow_value _ (run_mid 50 (.tmp 3) rfl w1.heap.size 0 e3_2 (B) ((HasC.keep (hd2.out) hc.bel).range 0 _ (fun j v hv => by rw [Nat.zero_add]; exact hv)) _ Try.underlying50 rfl (by rw [hlB.out]; exact Try.tyVote.size)) rfl
    | 2, _ =>
      cases ho
      have e7_3 : aq.eval (.tmp 7) = .agg (A).toArray := hdep 0 7 rfl (by kernel_rfl)
      have e8_4 : aq.eval (.tmp 8) = .agg (B).toArray := hdep 1 8 rfl (by kernel_rfl)
      refine flow_fun 13 _ _ rfl (fun _ _ => by simp [go_sem]) #[.agg (A).toArray, .agg (B).toArray] (by simp only [List.map_toArray, List.map_cons, List.map_nil, e7_3, e8_4]) ?_
      refine ((HAB).out wq).mono ?_
      rintro e w' ⟨rfl, B⟩
      exact ⟨_, rfl, rfl, B⟩
    | 3, _ =>
      cases ho
      have e2_5 : aq.eval (.tmp 2) = .pointer (some ⟨w.heap.size, 0, none⟩) := hk 2 (by decide)
      exact flow_value _ (run_mid 50 (.tmp 2) rfl w.heap.size 0 e2_5 (A) ((HasC.keep (hd1.out) hc.bel).range 0 _ (fun j v hv => by rw [Nat.zero_add]; exact hv)) _ Try.underlying50 rfl (by rw [hlA.out]; exact Try.tyVote.size)) rfl
    | 4, _ =>
      cases ho
      have e3_6 : aq.eval (.tmp 3) = .pointer (some ⟨w1.heap.size, 0, none⟩) := hk 3 (by decide)
      exact flow_value _ (run_mid 50 (.tmp 3) rfl w1.heap.size 0 e3_6 (B) ((HasC.keep (hd2.out) hc.bel).range 0 _ (fun j v hv => by rw [Nat.zero_add]; exact hv)) _ Try.underlying50 rfl (by rw [hlB.out]; exact Try.tyVote.size)) rfl
    | 5, _ =>
      cases ho
      have e10_7 : aq.eval (.tmp 10) = .agg (A).toArray := hdep 3 10 rfl (by kernel_rfl)
      have e11_8 : aq.eval (.tmp 11) = .agg (B).toArray := hdep 4 11 rfl (by kernel_rfl)
      refine flow_fun 14 _ _ rfl (fun _ _ => by simp [go_sem]) #[.agg (A).toArray, .agg (B).toArray] (by simp only [List.map_toArray, List.map_cons, List.map_nil, e10_7, e11_8]) ?_
      refine ((RAB).out wq).mono ?_
      rintro e w' ⟨rfl, B⟩
      exact ⟨_, rfl, rfl, B⟩
    | 6, _ =>
      cases ho
      have e9_9 : aq.eval (.tmp 9) = .bool true := hdep 2 9 rfl (by kernel_rfl)
      have e12_10 : aq.eval (.tmp 12) = .bool true := hdep 5 12 rfl (by kernel_rfl)
      exact flow_value _ (run_neB (.tmp 9) (.tmp 12) rfl true true e9_9 e12_10) rfl
    | 7, _ =>
      cases ho
      have e13_11 : aq.eval (.tmp 13) = .bool false := hdep 6 13 rfl (by kernel_rfl)
      exact flow_move (.tmp 13) rfl e13_11
    | 8, _ =>
      cases ho
      have e3_12 : aq.eval (.tmp 3) = .pointer (some ⟨w1.heap.size, 0, none⟩) := hk 3 (by decide)
      exact flow_value _ (run_mid 50 (.tmp 3) rfl w1.heap.size 0 e3_12 (B) ((HasC.keep (hd2.out) hc.bel).range 0 _ (fun j v hv => by rw [Nat.zero_add]; exact hv)) _ Try.underlying50 rfl (by rw [hlB.out]; exact Try.tyVote.size)) rfl
    | 9, _ =>
      cases ho
      have e2_13 : aq.eval (.tmp 2) = .pointer (some ⟨w.heap.size, 0, none⟩) := hk 2 (by decide)
      exact flow_value _ (run_mid 50 (.tmp 2) rfl w.heap.size 0 e2_13 (A) ((HasC.keep (hd1.out) hc.bel).range 0 _ (fun j v hv => by rw [Nat.zero_add]; exact hv)) _ Try.underlying50 rfl (by rw [hlA.out]; exact Try.tyVote.size)) rfl
    | 10, _ =>
      cases ho
      have e15_14 : aq.eval (.tmp 15) = .agg (B).toArray := hdep 8 15 rfl (by kernel_rfl)
      have e16_15 : aq.eval (.tmp 16) = .agg (A).toArray := hdep 9 16 rfl (by kernel_rfl)
      refine flow_fun 13 _ _ rfl (fun _ _ => by simp [go_sem]) #[.agg (B).toArray, .agg (A).toArray] (by simp only [List.map_toArray, List.map_cons, List.map_nil, e15_14, e16_15]) ?_
      refine ((HBA).out wq).mono ?_
      rintro e w' ⟨rfl, B⟩
      exact ⟨_, rfl, rfl, B⟩
    | 11, _ =>
      cases ho
      have e3_16 : aq.eval (.tmp 3) = .pointer (some ⟨w1.heap.size, 0, none⟩) := hk 3 (by decide)
      exact flow_value _ (run_mid 50 (.tmp 3) rfl w1.heap.size 0 e3_16 (B) ((HasC.keep (hd2.out) hc.bel).range 0 _ (fun j v hv => by rw [Nat.zero_add]; exact hv)) _ Try.underlying50 rfl (by rw [hlB.out]; exact Try.tyVote.size)) rfl
    | 12, _ =>
      cases ho
      have e2_17 : aq.eval (.tmp 2) = .pointer (some ⟨w.heap.size, 0, none⟩) := hk 2 (by decide)
      exact flow_value _ (run_mid 50 (.tmp 2) rfl w.heap.size 0 e2_17 (A) ((HasC.keep (hd1.out) hc.bel).range 0 _ (fun j v hv => by rw [Nat.zero_add]; exact hv)) _ Try.underlying50 rfl (by rw [hlA.out]; exact Try.tyVote.size)) rfl
    | 13, _ =>
      cases ho
      have e18_18 : aq.eval (.tmp 18) = .agg (B).toArray := hdep 11 18 rfl (by kernel_rfl)
      have e19_19 : aq.eval (.tmp 19) = .agg (A).toArray := hdep 12 19 rfl (by kernel_rfl)
      refine flow_fun 14 _ _ rfl (fun _ _ => by simp [go_sem]) #[.agg (B).toArray, .agg (A).toArray] (by simp only [List.map_toArray, List.map_cons, List.map_nil, e18_18, e19_19]) ?_
      refine ((RBA).out wq).mono ?_
      rintro e w' ⟨rfl, B⟩
      exact ⟨_, rfl, rfl, B⟩
    | 14, _ =>
      cases ho
      have e17_20 : aq.eval (.tmp 17) = .bool true := hdep 10 17 rfl (by kernel_rfl)
      have e20_21 : aq.eval (.tmp 20) = .bool true := hdep 13 20 rfl (by kernel_rfl)
      exact flow_value _ (run_neB (.tmp 17) (.tmp 20) rfl true true e17_20 e20_21) rfl
    | 15, _ =>
      cases ho
      have e14_22 : aq.eval (.tmp 14) = .bool false := hdep 7 14 rfl (by kernel_rfl)
      have e21_23 : aq.eval (.tmp 21) = .bool false := hdep 14 21 rfl (by kernel_rfl)
      exact flow_value _ (run_pick0 (.tmp 14) (.const (.bool true)) (.tmp 21) rfl _ e14_22 e21_23) rfl
    | 16, _ =>
      cases ho
      have e22_24 : aq.eval (.tmp 22) = .bool false := hdep 15 22 rfl (by kernel_rfl)
      exact flow_move (.tmp 22) rfl e22_24
    | 17, _ =>
      cases ho
      have e2_25 : aq.eval (.tmp 2) = .pointer (some ⟨w.heap.size, 0, none⟩) := hk 2 (by decide)
      exact flow_value _ (run_mid 50 (.tmp 2) rfl w.heap.size 0 e2_25 (A) ((HasC.keep (hd1.out) hc.bel).range 0 _ (fun j v hv => by rw [Nat.zero_add]; exact hv)) _ Try.underlying50 rfl (by rw [hlA.out]; exact Try.tyVote.size)) rfl
    | 18, _ =>
      cases ho
      have e2_26 : aq.eval (.tmp 2) = .pointer (some ⟨w.heap.size, 0, none⟩) := hk 2 (by decide)
      exact flow_value _ (run_mid 50 (.tmp 2) rfl w.heap.size 0 e2_26 (A) ((HasC.keep (hd1.out) hc.bel).range 0 _ (fun j v hv => by rw [Nat.zero_add]; exact hv)) _ Try.underlying50 rfl (by rw [hlA.out]; exact Try.tyVote.size)) rfl
    | 19, _ =>
      cases ho
      have e24_27 : aq.eval (.tmp 24) = .agg (A).toArray := hdep 17 24 rfl (by kernel_rfl)
      have e25_28 : aq.eval (.tmp 25) = .agg (A).toArray := hdep 18 25 rfl (by kernel_rfl)
      refine flow_fun 13 _ _ rfl (fun _ _ => by simp [go_sem]) #[.agg (A).toArray, .agg (A).toArray] (by simp only [List.map_toArray, List.map_cons, List.map_nil, e24_27, e25_28]) ?_
      refine ((HAA).out wq).mono ?_
      rintro e w' ⟨rfl, B⟩
      exact ⟨_, rfl, rfl, B⟩
    | (k + 20), hk => exact absurd hk (by omega)
  intro vf wv hc hv
  have f23 : vf 16 = .bool false := hv 16 23 (by decide) rfl
  have f26 : vf 19 = .bool false := hv 19 26 (by decide) rfl
  clear hv
  simp only [List.take_succ_cons, List.take_zero, List.drop_succ_cons, List.drop_zero, putAll, Act.put, List.setIfInBounds_toArray, List.set_cons_succ, List.set_cons_zero]
  rw [f23, f26]
  clear f23 f26
  have hd1 := shut (hd1.out.keep hc.bel)
  have hd2 := shut (hd2.out.keep hc.bel)
  have BC := shut (below_more BC.out hc.bel (Nat.le_refl _))
  clear hc
  go_wp2
  refine wp_region_flowN 25 (fun _ => false) (fun i v wq => match i with
    | 0 => v = .pointer (some ⟨w.heap.size, 67, none⟩)
    | 1 => v = .pointer (some ⟨w.heap.size, 67, none⟩)
    | 2 => v = .int .u64 ((et : Nat) : Int)
    | 3 => v = .pointer (some ⟨w1.heap.size, 67, none⟩)
    | 4 => v = .pointer (some ⟨w1.heap.size, 67, none⟩)
    | 5 => v = .int .u64 ((et' : Nat) : Int)
    | 6 => v = .bool false
    | 7 => v = .bool false
    | 8 => v = .agg (A).toArray
    | 9 => v = .agg (B).toArray
    | 10 => v = .bool true
    | 11 => v = .agg (A).toArray
    | 12 => v = .agg (B).toArray
    | 13 => v = .bool true
    | 14 => v = .bool true
    | 15 => v = .bool true
    | 16 => v = .agg (B).toArray
    | 17 => v = .agg (A).toArray
    | 18 => v = .bool true
    | 19 => v = .agg (A).toArray
    | 20 => v = .agg (B).toArray
    | 21 => v = .bool true
    | 22 => v = .bool true
    | 23 => v = .bool true
    | _ => v = .bool true) (by kernel_rfl) (by kernel_rfl) ?_ ?_ ?_ ?_ ?_ ?_
  · intro i o g b hi ho hg v wq hv
    match i, hi with
    | 0, _ => cases ho; cases hg
    | 1, _ => cases ho; cases hg
    | 2, _ => cases ho; cases hg
    | 3, _ => cases ho; cases hg
    | 4, _ => cases ho; cases hg
    | 5, _ => cases ho; cases hg
    | 6, _ => cases ho; cases hg
    | 7, _ => cases ho; cases hg
    | 8, _ => cases ho; cases hg; exact (if_neg (by decide)).mpr hv
    | 9, _ => cases ho; cases hg; exact (if_neg (by decide)).mpr hv
    | 10, _ => cases ho; cases hg; exact (if_neg (by decide)).mpr hv
    | 11, _ => cases ho; cases hg; exact (if_neg (by decide)).mpr hv
    | 12, _ => cases ho; cases hg; exact (if_neg (by decide)).mpr hv
    | 13, _ => cases ho; cases hg; exact (if_neg (by decide)).mpr hv
    | 14, _ => cases ho; cases hg; exact (if_neg (by decide)).mpr hv
    | 15, _ => cases ho; cases hg; exact (if_neg (by decide)).mpr hv
    | 16, _ => cases ho; cases hg; exact (if_neg (by decide)).mpr hv
    | 17, _ => cases ho; cases hg; exact (if_neg (by decide)).mpr hv
    | 18, _ => cases ho; cases hg; exact (if_neg (by decide)).mpr hv
    | 19, _ => cases ho; cases hg; exact (if_neg (by decide)).mpr hv
    | 20, _ => cases ho; cases hg; exact (if_neg (by decide)).mpr hv
    | 21, _ => cases ho; cases hg; exact (if_neg (by decide)).mpr hv
    | 22, _ => cases ho; cases hg; exact (if_neg (by decide)).mpr hv
    | 23, _ => cases ho; cases hg; exact (if_neg (by decide)).mpr hv
    | 24, _ => cases ho; cases hg
    | (k + 25), hk => exact absurd hk (by omega)
  · intro i o hi ho hg
    match i, hi with
    | 0, _ => rfl
    | 1, _ => rfl
    | 2, _ => rfl
    | 3, _ => rfl
    | 4, _ => rfl
    | 5, _ => rfl
    | 6, _ => rfl
    | 7, _ => rfl
    | 8, _ => cases ho; cases hg
    | 9, _ => cases ho; cases hg
    | 10, _ => cases ho; cases hg
    | 11, _ => cases ho; cases hg
    | 12, _ => cases ho; cases hg
    | 13, _ => cases ho; cases hg
    | 14, _ => cases ho; cases hg
    | 15, _ => cases ho; cases hg
    | 16, _ => cases ho; cases hg
    | 17, _ => cases ho; cases hg
    | 18, _ => cases ho; cases hg
    | 19, _ => cases ho; cases hg
    | 20, _ => cases ho; cases hg
    | 21, _ => cases ho; cases hg
    | 22, _ => cases ho; cases hg
    | 23, _ => cases ho; cases hg
    | 24, _ => rfl
    | (k + 25), hk => exact absurd hk (by omega)
  · intro i wq hi hs
    match i, hi with
    | 0, _ => cases hs
    | 1, _ => cases hs
    | 2, _ => cases hs
    | 3, _ => cases hs
    | 4, _ => cases hs
    | 5, _ => cases hs
    | 6, _ => cases hs
    | 7, _ => cases hs
    | 8, _ => cases hs
    | 9, _ => cases hs
    | 10, _ => cases hs
    | 11, _ => cases hs
    | 12, _ => cases hs
    | 13, _ => cases hs
    | 14, _ => cases hs
    | 15, _ => cases hs
    | 16, _ => cases hs
    | 17, _ => cases hs
    | 18, _ => cases hs
    | 19, _ => cases hs
    | 20, _ => cases hs
    | 21, _ => cases hs
    | 22, _ => cases hs
    | 23, _ => cases hs
    | 24, _ => cases hs
    | (k + 25), hk => exact absurd hk (by omega)
  · intro i v wq wq' hi hv hb
    match i, hi with
    | 0, _ => exact hv
    | 1, _ => exact hv
    | 2, _ => exact hv
    | 3, _ => exact hv
    | 4, _ => exact hv
    | 5, _ => exact hv
    | 6, _ => exact hv
    | 7, _ => exact hv
    | 8, _ => exact hv
    | 9, _ => exact hv
    | 10, _ => exact hv
    | 11, _ => exact hv
    | 12, _ => exact hv
    | 13, _ => exact hv
    | 14, _ => exact hv
    | 15, _ => exact hv
    | 16, _ => exact hv
    | 17, _ => exact hv
    | 18, _ => exact hv
    | 19, _ => exact hv
    | 20, _ => exact hv
    | 21, _ => exact hv
    | 22, _ => exact hv
    | 23, _ => exact hv
    | 24, _ => exact hv
    | (k + 25), hk => exact absurd hk (by omega)
  · intro i o hi ho hs aq wq hc hk hdep
    match i, hi with
    | 0, _ =>
      cases ho
      have e2_1 : aq.eval (.tmp 2) = .pointer (some ⟨w.heap.size, 0, none⟩) := hk 2 (by decide)
      exact flow_value _ (run_fieldAt 50 (.tmp 2) 4 rfl _ _ e2_1 (by kernel_rfl)) rfl
    | 1, _ =>
      cases ho
      have e28_2 : aq.eval (.tmp 28) = .pointer (some ⟨w.heap.size, 67, none⟩) := hdep 0 28 rfl (by kernel_rfl)
      exact flow_value _ (run_fieldAt 41 (.tmp 28) 0 rfl _ _ e28_2 (by kernel_rfl)) rfl
    | 2, _ =>
      cases ho
      have e29_3 : aq.eval (.tmp 29) = .pointer (some ⟨w.heap.size, 67, none⟩) := hdep 1 29 rfl (by kernel_rfl)
      exact flow_value _ (run_cell 22 (.tmp 29) rfl _ e29_3 _ ((HasC.keep (hd1.out) hc.bel).cell (j := 67) hA.out.2) _ Try.underlying22 rfl) rfl
    | 3, _ =>
      cases ho
      have e3_4 : aq.eval (.tmp 3) = .pointer (some ⟨w1.heap.size, 0, none⟩) := hk 3 (by decide)
      exact flow_value _ (run_fieldAt 50 (.tmp 3) 4 rfl _ _ e3_4 (by kernel_rfl)) rfl
    | 4, _ =>
      cases ho
      have e31_5 : aq.eval (.tmp 31) = .pointer (some ⟨w1.heap.size, 67, none⟩) := hdep 3 31 rfl (by kernel_rfl)
      exact flow_value _ (run_fieldAt 41 (.tmp 31) 0 rfl _ _ e31_5 (by kernel_rfl)) rfl
    | 5, _ =>
      cases ho
      have e32_6 : aq.eval (.tmp 32) = .pointer (some ⟨w1.heap.size, 67, none⟩) := hdep 4 32 rfl (by kernel_rfl)
      exact flow_value _ (run_cell 22 (.tmp 32) rfl _ e32_6 _ ((HasC.keep (hd2.out) hc.bel).cell (j := 67) hB.out.2) _ Try.underlying22 rfl) rfl
    | 6, _ =>
      cases ho
      have e30_7 : aq.eval (.tmp 30) = .int .u64 ((et : Nat) : Int) := hdep 2 30 rfl (by kernel_rfl)
      have e33_8 : aq.eval (.tmp 33) = .int .u64 ((et' : Nat) : Int) := hdep 5 33 rfl (by kernel_rfl)
      exact flow_value _ (run_neH (.tmp 30) (.tmp 33) rfl (et) (et') false (by rw [hT]; rfl) e30_7 e33_8) rfl
    | 7, _ =>
      cases ho
      have e34_9 : aq.eval (.tmp 34) = .bool false := hdep 6 34 rfl (by kernel_rfl)
      exact flow_move (.tmp 34) rfl e34_9
    | 8, _ =>
      cases ho
      have e2_10 : aq.eval (.tmp 2) = .pointer (some ⟨w.heap.size, 0, none⟩) := hk 2 (by decide)
      exact flow_value _ (run_mid 50 (.tmp 2) rfl w.heap.size 0 e2_10 (A) ((HasC.keep (hd1.out) hc.bel).range 0 _ (fun j v hv => by rw [Nat.zero_add]; exact hv)) _ Try.underlying50 rfl (by rw [hlA.out]; exact Try.tyVote.size)) rfl
    | 9, _ =>
      cases ho
      have e3_11 : aq.eval (.tmp 3) = .pointer (some ⟨w1.heap.size, 0, none⟩) := hk 3 (by decide)
      exact flow_value _ (run_mid 50 (.tmp 3) rfl w1.heap.size 0 e3_11 (B) ((HasC.keep (hd2.out) hc.bel).range 0 _ (fun j v hv => by rw [Nat.zero_add]; exact hv)) _ Try.underlying50 rfl (by rw [hlB.out]; exact Try.tyVote.size)) rfl
    | 10, _ =>
      cases ho
      have e36_12 : aq.eval (.tmp 36) = .agg (A).toArray := hdep 8 36 rfl (by kernel_rfl)
      have e37_13 : aq.eval (.tmp 37) = .agg (B).toArray := hdep 9 37 rfl (by kernel_rfl)
      refine flow_fun 13 _ _ rfl (fun _ _ => by simp [go_sem]) #[.agg (A).toArray, .agg (B).toArray] (by simp only [List.map_toArray, List.map_cons, List.map_nil, e36_12, e37_13]) ?_
      refine ((HAB).out wq).mono ?_
      rintro e w' ⟨rfl, B⟩
      exact ⟨_, rfl, rfl, B⟩
    | 11, _ =>
      cases ho
      have e2_14 : aq.eval (.tmp 2) = .pointer (some ⟨w.heap.size, 0, none⟩) := hk 2 (by decide)
      exact flow_value _ (run_mid 50 (.tmp 2) rfl w.heap.size 0 e2_14 (A) ((HasC.keep (hd1.out) hc.bel).range 0 _ (fun j v hv => by rw [Nat.zero_add]; exact hv)) _ Try.underlying50 rfl (by rw [hlA.out]; exact Try.tyVote.size)) rfl
    | 12, _ =>
      cases ho
      have e3_15 : aq.eval (.tmp 3) = .pointer (some ⟨w1.heap.size, 0, none⟩) := hk 3 (by decide)
      exact flow_value _ (run_mid 50 (.tmp 3) rfl w1.heap.size 0 e3_15 (B) ((HasC.keep (hd2.out) hc.bel).range 0 _ (fun j v hv => by rw [Nat.zero_add]; exact hv)) _ Try.underlying50 rfl (by rw [hlB.out]; exact Try.tyVote.size)) rfl
    | 13, _ =>
      cases ho
      have e39_16 : aq.eval (.tmp 39) = .agg (A).toArray := hdep 11 39 rfl (by kernel_rfl)
      have e40_17 : aq.eval (.tmp 40) = .agg (B).toArray := hdep 12 40 rfl (by kernel_rfl)
      exact flow_value _ ((hNAB.out _ _ _ (.tmp 39) (.tmp 40) rfl e39_16 e40_17)) rfl
    | 14, _ =>
      cases ho
      have e38_18 : aq.eval (.tmp 38) = .bool true := hdep 10 38 rfl (by kernel_rfl)
      have e41_19 : aq.eval (.tmp 41) = .bool true := hdep 13 41 rfl (by kernel_rfl)
      exact flow_value _ (run_eqB (.tmp 38) (.tmp 41) rfl true true e38_18 e41_19) rfl
    | 15, _ =>
      cases ho
      have e42_20 : aq.eval (.tmp 42) = .bool true := hdep 14 42 rfl (by kernel_rfl)
      exact flow_move (.tmp 42) rfl e42_20
    | 16, _ =>
      cases ho
      have e3_21 : aq.eval (.tmp 3) = .pointer (some ⟨w1.heap.size, 0, none⟩) := hk 3 (by decide)
      exact flow_value _ (run_mid 50 (.tmp 3) rfl w1.heap.size 0 e3_21 (B) ((HasC.keep (hd2.out) hc.bel).range 0 _ (fun j v hv => by rw [Nat.zero_add]; exact hv)) _ Try.underlying50 rfl (by rw [hlB.out]; exact Try.tyVote.size)) rfl
    | 17, _ =>
      cases ho
      have e2_22 : aq.eval (.tmp 2) = .pointer (some ⟨w.heap.size, 0, none⟩) := hk 2 (by decide)
      exact flow_value _ (run_mid 50 (.tmp 2) rfl w.heap.size 0 e2_22 (A) ((HasC.keep (hd1.out) hc.bel).range 0 _ (fun j v hv => by rw [Nat.zero_add]; exact hv)) _ Try.underlying50 rfl (by rw [hlA.out]; exact Try.tyVote.size)) rfl
    | 18, _ =>
      cases ho
      have e44_23 : aq.eval (.tmp 44) = .agg (B).toArray := hdep 16 44 rfl (by kernel_rfl)
      have e45_24 : aq.eval (.tmp 45) = .agg (A).toArray := hdep 17 45 rfl (by kernel_rfl)
      refine flow_fun 13 _ _ rfl (fun _ _ => by simp [go_sem]) #[.agg (B).toArray, .agg (A).toArray] (by simp only [List.map_toArray, List.map_cons, List.map_nil, e44_23, e45_24]) ?_
      refine ((HBA).out wq).mono ?_
      rintro e w' ⟨rfl, B⟩
      exact ⟨_, rfl, rfl, B⟩
    | 19, _ =>
      cases ho
      have e2_25 : aq.eval (.tmp 2) = .pointer (some ⟨w.heap.size, 0, none⟩) := hk 2 (by decide)
      exact flow_value _ (run_mid 50 (.tmp 2) rfl w.heap.size 0 e2_25 (A) ((HasC.keep (hd1.out) hc.bel).range 0 _ (fun j v hv => by rw [Nat.zero_add]; exact hv)) _ Try.underlying50 rfl (by rw [hlA.out]; exact Try.tyVote.size)) rfl
    | 20, _ =>
      cases ho
      have e3_26 : aq.eval (.tmp 3) = .pointer (some ⟨w1.heap.size, 0, none⟩) := hk 3 (by decide)
      exact flow_value _ (run_mid 50 (.tmp 3) rfl w1.heap.size 0 e3_26 (B) ((HasC.keep (hd2.out) hc.bel).range 0 _ (fun j v hv => by rw [Nat.zero_add]; exact hv)) _ Try.underlying50 rfl (by rw [hlB.out]; exact Try.tyVote.size)) rfl
    | 21, _ =>
      cases ho
      have e47_27 : aq.eval (.tmp 47) = .agg (A).toArray := hdep 19 47 rfl (by kernel_rfl)
      have e48_28 : aq.eval (.tmp 48) = .agg (B).toArray := hdep 20 48 rfl (by kernel_rfl)
      exact flow_value _ ((hNAB.out _ _ _ (.tmp 47) (.tmp 48) rfl e47_27 e48_28)) rfl
    | 22, _ =>
      cases ho
      have e46_29 : aq.eval (.tmp 46) = .bool true := hdep 18 46 rfl (by kernel_rfl)
      have e49_30 : aq.eval (.tmp 49) = .bool true := hdep 21 49 rfl (by kernel_rfl)
      exact flow_value _ (run_eqB (.tmp 46) (.tmp 49) rfl true true e46_29 e49_30) rfl
    | 23, _ =>
      cases ho
      have e43_31 : aq.eval (.tmp 43) = .bool true := hdep 15 43 rfl (by kernel_rfl)
      have e50_32 : aq.eval (.tmp 50) = .bool true := hdep 22 50 rfl (by kernel_rfl)
      exact flow_value _ (run_pick1 (.tmp 43) (.tmp 50) (.const (.bool false)) rfl _ e43_31 e50_32) rfl
    | 24, _ =>
      cases ho
      have e35_33 : aq.eval (.tmp 35) = .bool false := hdep 7 35 rfl (by kernel_rfl)
      have e51_34 : aq.eval (.tmp 51) = .bool true := hdep 23 51 rfl (by kernel_rfl)
      exact flow_value _ (run_pick0 (.tmp 35) (.const (.bool true)) (.tmp 51) rfl _ e35_33 e51_34) rfl
    | (k + 25), hk => exact absurd hk (by omega)
  intro vf wv hc hv
  have f52 : vf 24 = .bool true := hv 24 52 (by decide) rfl
  clear hv
  simp only [List.take_succ_cons, List.take_zero, List.drop_succ_cons, List.drop_zero, putAll, Act.put, List.setIfInBounds_toArray, List.set_cons_succ, List.set_cons_zero]
  rw [f52]
  clear f52
  have BC := shut (below_more BC.out hc.bel (Nat.le_refl _))
  clear hc
  go_wp2
  go_ret
  exact ⟨rfl, BC.out⟩
set_option maxHeartbeats 4000000 in
theorem slashW_1 (A B : List Value) (es et es' et' : Nat) (w : World)
    (hlA : Shut (A.length = (vtX 0 0 (zeros 32) 0 (zeros 32) 0 (zeros 32)).length)) (hlB : Shut (B.length = (vtX 0 0 (zeros 32) 0 (zeros 32) 0 (zeros 32)).length))
    (hA : Shut (A[34]? = some (.int .u64 (es : Nat)) ∧ A[67]? = some (.int .u64 (et : Nat)))) (hB : Shut (B[34]? = some (.int .u64 (es' : Nat)) ∧ B[67]? = some (.int .u64 (et' : Nat))))
    (hNAB : Shut (∀ (o : Oper) (a : Act) (w : World) (x y : Operand), o.op = .binOp .neq 50 x y 50 → a.eval x = .agg A.toArray → a.eval y = .agg B.toArray → (execOp a.eval o).run Try.prog w = .ok (.value (.bool false)) w)) (hNBA : Shut (∀ (o : Oper) (a : Act) (w : World) (x y : Operand), o.op = .binOp .neq 50 x y 50 → a.eval x = .agg B.toArray → a.eval y = .agg A.toArray → (execOp a.eval o).run Try.prog w = .ok (.value (.bool false)) w)) (hT : decide (et = et') = true)
    (HAB : Shut (∀ wq, Calls Try.prog 13 #[.agg A.toArray, .agg B.toArray] wq fun e w' => e = .returned (.bool false) ∧ Below wq.heap.size wq w')) (HBA : Shut (∀ wq, Calls Try.prog 13 #[.agg B.toArray, .agg A.toArray] wq fun e w' => e = .returned (.bool false) ∧ Below wq.heap.size wq w')) (HAA : Shut (∀ wq, Calls Try.prog 13 #[.agg A.toArray, .agg A.toArray] wq fun e w' => e = .returned (.bool false) ∧ Below wq.heap.size wq w')) (RAB : Shut (∀ wq, Calls Try.prog 14 #[.agg A.toArray, .agg B.toArray] wq fun e w' => e = .returned (.bool false) ∧ Below wq.heap.size wq w')) (RBA : Shut (∀ wq, Calls Try.prog 14 #[.agg B.toArray, .agg A.toArray] wq fun e w' => e = .returned (.bool false) ∧ Below wq.heap.size wq w')) :
    Calls Try.prog 4 #[.agg A.toArray, .agg B.toArray] w fun e w' => e = .returned (.bool true) ∧ Below w.heap.size w w' := by
  go_enter Try.func4, Try.ntmps4
  go_wp2_with ((with_reducible refine at_list' ?_); first
    | (refine wpList_box_c rfl 2 rfl (.tmp 0) rfl A rfl ?_; intro w1 H1 B1 S1)
    | (refine wpList_box_c rfl 3 rfl (.tmp 1) rfl B rfl ?_; intro w2 H2 B2 S2; have X1 := H1.keep B2; have BB := shut (below_more B1 B2 (Nat.le_refl _)); have hd1 := shut X1; have hd2 := shut H2; clear H1 B1 B2 X1 H2 S1 S2))
  refine (awake_any w2).mono ?_
  rintro x w3 ⟨rfl, B3⟩
  have BC := shut (below_more BB.out B3 (Nat.le_refl _))
  have hd1 := shut (hd1.out.keep B3)
  have hd2 := shut (hd2.out.keep B3)
  clear B3 BB
  go_wp2
  refine wp_region_flowN 20 (fun _ => false) (fun i v wq => match i with
    | 0 => v = .agg (A).toArray
    | 1 => v = .agg (B).toArray
    | 2 => v = .bool false
    | 3 => v = .agg (A).toArray
    | 4 => v = .agg (B).toArray
    | 5 => v = .bool false
    | 6 => v = .bool false
    | 7 => v = .bool false
    | 8 => v = .agg (B).toArray
    | 9 => v = .agg (A).toArray
    | 10 => v = .bool false
    | 11 => v = .agg (B).toArray
    | 12 => v = .agg (A).toArray
    | 13 => v = .bool false
    | 14 => v = .bool false
    | 15 => v = .bool false
    | 16 => v = .bool false
    | 17 => v = .agg (A).toArray
    | 18 => v = .agg (A).toArray
    | _ => v = .bool false) (by kernel_rfl) (by kernel_rfl) ?_ ?_ ?_ ?_ ?_ ?_
  · intro i o g b hi ho hg v wq hv
    match i, hi with
    | 0, _ => cases ho; cases hg
    | 1, _ => cases ho; cases hg
    | 2, _ => cases ho; cases hg
    | 3, _ => cases ho; cases hg
    | 4, _ => cases ho; cases hg
    | 5, _ => cases ho; cases hg
    | 6, _ => cases ho; cases hg
    | 7, _ => cases ho; cases hg
    | 8, _ => cases ho; cases hg; exact (if_neg (by decide)).mpr hv
    | 9, _ => cases ho; cases hg; exact (if_neg (by decide)).mpr hv
    | 10, _ => cases ho; cases hg; exact (if_neg (by decide)).mpr hv
    | 11, _ => cases ho; cases hg; exact (if_neg (by decide)).mpr hv
    | 12, _ => cases ho; cases hg; exact (if_neg (by decide)).mpr hv
    | 13, _ => cases ho; cases hg; exact (if_neg (by decide)).mpr hv
    | 14, _ => cases ho; cases hg; exact (if_neg (by decide)).mpr hv
    | 15, _ => cases ho; cases hg
    | 16, _ => cases ho; cases hg
    | 17, _ => cases ho; cases hg; exact (if_neg (by decide)).mpr hv
    | 18, _ => cases ho; cases hg; exact (if_neg (by decide)).mpr hv
    | 19, _ => cases ho; cases hg; exact (if_neg (by decide)).mpr hv
    | (k + 20), hk => exact absurd hk (by omega)
  · intro i o hi ho hg
    match i, hi with
    | 0, _ => rfl
    | 1, _ => rfl
    | 2, _ => rfl
    | 3, _ => rfl
    | 4, _ => rfl
    | 5, _ => rfl
    | 6, _ => rfl
    | 7, _ => rfl
    | 8, _ => cases ho; cases hg
    | 9, _ => cases ho; cases hg
    | 10, _ => cases ho; cases hg
    | 11, _ => cases ho; cases hg
    | 12, _ => cases ho; cases hg
    | 13, _ => cases ho; cases hg
    | 14, _ => cases ho; cases hg
    | 15, _ => rfl
    | 16, _ => rfl
    | 17, _ => cases ho; cases hg
    | 18, _ => cases ho; cases hg
    | 19, _ => cases ho; cases hg
    | (k + 20), hk => exact absurd hk (by omega)
  · intro i wq hi hs
    match i, hi with
    | 0, _ => cases hs
    | 1, _ => cases hs
    | 2, _ => cases hs
    | 3, _ => cases hs
    | 4, _ => cases hs
    | 5, _ => cases hs
    | 6, _ => cases hs
    | 7, _ => cases hs
    | 8, _ => cases hs
    | 9, _ => cases hs
    | 10, _ => cases hs
    | 11, _ => cases hs
    | 12, _ => cases hs
    | 13, _ => cases hs
    | 14, _ => cases hs
    | 15, _ => cases hs
    | 16, _ => cases hs
    | 17, _ => cases hs
    | 18, _ => cases hs
    | 19, _ => cases hs
    | (k + 20), hk => exact absurd hk (by omega)
  · intro i v wq wq' hi hv hb
    match i, hi with
    | 0, _ => exact hv
    | 1, _ => exact hv
    | 2, _ => exact hv
    | 3, _ => exact hv
    | 4, _ => exact hv
    | 5, _ => exact hv
    | 6, _ => exact hv
    | 7, _ => exact hv
    | 8, _ => exact hv
    | 9, _ => exact hv
    | 10, _ => exact hv
    | 11, _ => exact hv
    | 12, _ => exact hv
    | 13, _ => exact hv
    | 14, _ => exact hv
    | 15, _ => exact hv
    | 16, _ => exact hv
    | 17, _ => exact hv
    | 18, _ => exact hv
    | 19, _ => exact hv
    | (k + 20), hk => exact absurd hk (by omega)
  · intro i o hi ho hs aq wq hc hk hdep
    match i, hi with
    | 0, _ =>
      cases ho
      have e2_1 : aq.eval (.tmp 2) = .pointer (some ⟨w.heap.size, 0, none⟩) := hk 2 (by decide)
      exact flow_value _ (run_mid 50 (.tmp 2) rfl w.heap.size 0 e2_1 (A) ((HasC.keep (hd1.out) hc.bel).range 0 _ (fun j v hv => by rw [Nat.zero_add]; exact hv)) _ Try.underlying50 rfl (by rw [hlA.out]; exact Try.tyVote.size)) rfl
    | 1, _ =>
      cases ho
      have e3_2 : aq.eval (.tmp 3) = .pointer (some ⟨w1.heap.size, 0, none⟩) := hk 3 (by decide)
      exact flow_value _ (run_mid 50 (.tmp 3) rfl w1.heap.size 0 e3_2 (B) ((HasC.keep (hd2.out) hc.bel).range 0 _ (fun j v hv => by rw [Nat.zero_add]; exact hv)) _ Try.underlying50 rfl (by rw [hlB.out]; exact Try.tyVote.size)) rfl
    | 2, _ =>
      cases ho
      have e7_3 : aq.eval (.tmp 7) = .agg (A).toArray := hdep 0 7 rfl (by kernel_rfl)
      have e8_4 : aq.eval (.tmp 8) = .agg (B).toArray := hdep 1 8 rfl (by kernel_rfl)
      refine flow_fun 13 _ _ rfl (fun _ _ => by simp [go_sem]) #[.agg (A).toArray, .agg (B).toArray] (by simp only [List.map_toArray, List.map_cons, List.map_nil, e7_3, e8_4]) ?_
      refine ((HAB).out wq).mono ?_
      rintro e w' ⟨rfl, B⟩
      exact ⟨_, rfl, rfl, B⟩
    | 3, _ =>
      cases ho
      have e2_5 : aq.eval (.tmp 2) = .pointer (some ⟨w.heap.size, 0, none⟩) := hk 2 (by decide)
      exact flow_value _ (run_mid 50 (.tmp 2) rfl w.heap.size 0 e2_5 (A) ((HasC.keep (hd1.out) hc.bel).range 0 _ (fun j v hv => by rw [Nat.zero_add]; exact hv)) _ Try.underlying50 rfl (by rw [hlA.out]; exact Try.tyVote.size)) rfl
    | 4, _ =>
      cases ho
      have e3_6 : aq.eval (.tmp 3) = .pointer (some ⟨w1.heap.size, 0, none⟩) := hk 3 (by decide)
      exact flow_value _ (run_mid 50 (.tmp 3) rfl w1.heap.size 0 e3_6 (B) ((HasC.keep (hd2.out) hc.bel).range 0 _ (fun j v hv => by rw [Nat.zero_add]; exact hv)) _ Try.underlying50 rfl (by rw [hlB.out]; exact Try.tyVote.size)) rfl
    | 5, _ =>
      cases ho
      have e10_7 : aq.eval (.tmp 10) = .agg (A).toArray := hdep 3 10 rfl (by kernel_rfl)
      have e11_8 : aq.eval (.tmp 11) = .agg (B).toArray := hdep 4 11 rfl (by kernel_rfl)
      refine flow_fun 14 _ _ rfl (fun _ _ => by simp [go_sem]) #[.agg (A).toArray, .agg (B).toArray] (by simp only [List.map_toArray, List.map_cons, List.map_nil, e10_7, e11_8]) ?_
      refine ((RAB).out wq).mono ?_
      rintro e w' ⟨rfl, B⟩
      exact ⟨_, rfl, rfl, B⟩
    | 6, _ =>
      cases ho
      have e9_9 : aq.eval (.tmp 9) = .bool false := hdep 2 9 rfl (by kernel_rfl)
      have e12_10 : aq.eval (.tmp 12) = .bool false := hdep 5 12 rfl (by kernel_rfl)
      exact flow_value _ (run_neB (.tmp 9) (.tmp 12) rfl false false e9_9 e12_10) rfl
    | 7, _ =>
      cases ho
      have e13_11 : aq.eval (.tmp 13) = .bool false := hdep 6 13 rfl (by kernel_rfl)
      exact flow_move (.tmp 13) rfl e13_11
    | 8, _ =>
      cases ho
      have e3_12 : aq.eval (.tmp 3) = .pointer (some ⟨w1.heap.size, 0, none⟩) := hk 3 (by decide)
      exact flow_value _ (run_mid 50 (.tmp 3) rfl w1.heap.size 0 e3_12 (B) ((HasC.keep (hd2.out) hc.bel).range 0 _ (fun j v hv => by rw [Nat.zero_add]; exact hv)) _ Try.underlying50 rfl (by rw [hlB.out]; exact Try.tyVote.size)) rfl
    | 9, _ =>
      cases ho
      have e2_13 : aq.eval (.tmp 2) = .pointer (some ⟨w.heap.size, 0, none⟩) := hk 2 (by decide)
      exact flow_value _ (run_mid 50 (.tmp 2) rfl w.heap.size 0 e2_13 (A) ((HasC.keep (hd1.out) hc.bel).range 0 _ (fun j v hv => by rw [Nat.zero_add]; exact hv)) _ Try.underlying50 rfl (by rw [hlA.out]; exact Try.tyVote.size)) rfl
    | 10, _ =>
      cases ho
      have e15_14 : aq.eval (.tmp 15) = .agg (B).toArray := hdep 8 15 rfl (by kernel_rfl)
      have e16_15 : aq.eval (.tmp 16) = .agg (A).toArray := hdep 9 16 rfl (by kernel_rfl)
      refine flow_fun 13 _ _ rfl (fun _ _ => by simp [go_sem]) #[.agg (B).toArray, .agg (A).toArray] (by simp only [List.map_toArray, List.map_cons, List.map_nil, e15_14, e16_15]) ?_
      refine ((HBA).out wq).mono ?_
      rintro e w' ⟨rfl, B⟩
      exact ⟨_, rfl, rfl, B⟩
    | 11, _ =>
      cases ho
      have e3_16 : aq.eval (.tmp 3) = .pointer (some ⟨w1.heap.size, 0, none⟩) := hk 3 (by decide)
      exact flow_value _ (run_mid 50 (.tmp 3) rfl w1.heap.size 0 e3_16 (B) ((HasC.keep (hd2.out) hc.bel).range 0 _ (fun j v hv => by rw [Nat.zero_add]; exact hv)) _ Try.underlying50 rfl (by rw [hlB.out]; exact Try.tyVote.size)) rfl
    | 12, _ =>
      cases ho
      have e2_17 : aq.eval (.tmp 2) = .pointer (some ⟨w.heap.size, 0, none⟩) := hk 2 (by decide)
      exact flow_value _ (run_mid 50 (.tmp 2) rfl w.heap.size 0 e2_17 (A) ((HasC.keep (hd1.out) hc.bel).range 0 _ (fun j v hv => by rw [Nat.zero_add]; exact hv)) _ Try.underlying50 rfl (by rw [hlA.out]; exact Try.tyVote.size)) rfl
    | 13, _ =>
      cases ho
      have e18_18 : aq.eval (.tmp 18) = .agg (B).toArray := hdep 11 18 rfl (by kernel_rfl)
      have e19_19 : aq.eval (.tmp 19) = .agg (A).toArray := hdep 12 19 rfl (by kernel_rfl)
      refine flow_fun 14 _ _ rfl (fun _ _ => by simp [go_sem]) #[.agg (B).toArray, .agg (A).toArray] (by simp only [List.map_toArray, List.map_cons, List.map_nil, e18_18, e19_19]) ?_
      refine ((RBA).out wq).mono ?_
      rintro e w' ⟨rfl, B⟩
      exact ⟨_, rfl, rfl, B⟩
    | 14, _ =>
      cases ho
      have e17_20 : aq.eval (.tmp 17) = .bool false := hdep 10 17 rfl (by kernel_rfl)
      have e20_21 : aq.eval (.tmp 20) = .bool false := hdep 13 20 rfl (by kernel_rfl)
      exact flow_value _ (run_neB (.tmp 17) (.tmp 20) rfl false false e17_20 e20_21) rfl
    | 15, _ =>
      cases ho
      have e14_22 : aq.eval (.tmp 14) = .bool false := hdep 7 14 rfl (by kernel_rfl)
      have e21_23 : aq.eval (.tmp 21) = .bool false := hdep 14 21 rfl (by kernel_rfl)
      exact flow_value _ (run_pick0 (.tmp 14) (.const (.bool true)) (.tmp 21) rfl _ e14_22 e21_23) rfl
    | 16, _ =>
      cases ho
      have e22_24 : aq.eval (.tmp 22) = .bool false := hdep 15 22 rfl (by kernel_rfl)
      exact flow_move (.tmp 22) rfl e22_24
    | 17, _ =>
      cases ho
      have e2_25 : aq.eval (.tmp 2) = .pointer (some ⟨w.heap.size, 0, none⟩) := hk 2 (by decide)
      exact flow_value _ (run_mid 50 (.tmp 2) rfl w.heap.size 0 e2_25 (A) ((HasC.keep (hd1.out) hc.bel).range 0 _ (fun j v hv => by rw [Nat.zero_add]; exact hv)) _ Try.underlying50 rfl (by rw [hlA.out]; exact Try.tyVote.size)) rfl
    | 18, _ =>
      cases ho
      have e2_26 : aq.eval (.tmp 2) = .pointer (some ⟨w.heap.size, 0, none⟩) := hk 2 (by decide)
      exact flow_value _ (run_mid 50 (.tmp 2) rfl w.heap.size 0 e2_26 (A) ((HasC.keep (hd1.out) hc.bel).range 0 _ (fun j v hv => by rw [Nat.zero_add]; exact hv)) _ Try.underlying50 rfl (by rw [hlA.out]; exact Try.tyVote.size)) rfl
    | 19, _ =>
      cases ho
      have e24_27 : aq.eval (.tmp 24) = .agg (A).toArray := hdep 17 24 rfl (by kernel_rfl)
      have e25_28 : aq.eval (.tmp 25) = .agg (A).toArray := hdep 18 25 rfl (by kernel_rfl)
      refine flow_fun 13 _ _ rfl (fun _ _ => by simp [go_sem]) #[.agg (A).toArray, .agg (A).toArray] (by simp only [List.map_toArray, List.map_cons, List.map_nil, e24_27, e25_28]) ?_
      refine ((HAA).out wq).mono ?_
      rintro e w' ⟨rfl, B⟩
      exact ⟨_, rfl, rfl, B⟩
    | (k + 20), hk => exact absurd hk (by omega)
  intro vf wv hc hv
  have f23 : vf 16 = .bool false := hv 16 23 (by decide) rfl
  have f26 : vf 19 = .bool false := hv 19 26 (by decide) rfl
  clear hv
  simp only [List.take_succ_cons, List.take_zero, List.drop_succ_cons, List.drop_zero, putAll, Act.put, List.setIfInBounds_toArray, List.set_cons_succ, List.set_cons_zero]
  rw [f23, f26]
  clear f23 f26
  have hd1 := shut (hd1.out.keep hc.bel)
  have hd2 := shut (hd2.out.keep hc.bel)
  have BC := shut (below_more BC.out hc.bel (Nat.le_refl _))
  clear hc
  go_wp2
  refine wp_region_flowN 25 (fun _ => false) (fun i v wq => match i with
    | 0 => v = .pointer (some ⟨w.heap.size, 67, none⟩)
    | 1 => v = .pointer (some ⟨w.heap.size, 67, none⟩)
    | 2 => v = .int .u64 ((et : Nat) : Int)
    | 3 => v = .pointer (some ⟨w1.heap.size, 67, none⟩)
    | 4 => v = .pointer (some ⟨w1.heap.size, 67, none⟩)
    | 5 => v = .int .u64 ((et' : Nat) : Int)
    | 6 => v = .bool false
    | 7 => v = .bool false
    | 8 => v = .agg (A).toArray
    | 9 => v = .agg (B).toArray
    | 10 => v = .bool false
    | 11 => v = .agg (A).toArray
    | 12 => v = .agg (B).toArray
    | 13 => v = .bool false
    | 14 => v = .bool true
    | 15 => v = .bool true
    | 16 => v = .agg (B).toArray
    | 17 => v = .agg (A).toArray
    | 18 => v = .bool false
    | 19 => v = .agg (A).toArray
    | 20 => v = .agg (B).toArray
    | 21 => v = .bool false
    | 22 => v = .bool true
    | 23 => v = .bool true
    | _ => v = .bool true) (by kernel_rfl) (by kernel_rfl) ?_ ?_ ?_ ?_ ?_ ?_
  · intro i o g b hi ho hg v wq hv
    match i, hi with
    | 0, _ => cases ho; cases hg
    | 1, _ => cases ho; cases hg
    | 2, _ => cases ho; cases hg
    | 3, _ => cases ho; cases hg
    | 4, _ => cases ho; cases hg
    | 5, _ => cases ho; cases hg
    | 6, _ => cases ho; cases hg
    | 7, _ => cases ho; cases hg
    | 8, _ => cases ho; cases hg; exact (if_neg (by decide)).mpr hv
    | 9, _ => cases ho; cases hg; exact (if_neg (by decide)).mpr hv
    | 10, _ => cases ho; cases hg; exact (if_neg (by decide)).mpr hv
    | 11, _ => cases ho; cases hg; exact (if_neg (by decide)).mpr hv
    | 12, _ => cases ho; cases hg; exact (if_neg (by decide)).mpr hv
    | 13, _ => cases ho; cases hg; exact (if_neg (by decide)).mpr hv
    | 14, _ => cases ho; cases hg; exact (if_neg (by decide)).mpr hv
    | 15, _ => cases ho; cases hg; exact (if_neg (by decide)).mpr hv
    | 16, _ => cases ho; cases hg; exact (if_neg (by decide)).mpr hv
    | 17, _ => cases ho; cases hg; exact (if_neg (by decide)).mpr hv
    | 18, _ => cases ho; cases hg; exact (if_neg (by decide)).mpr hv
    | 19, _ => cases ho; cases hg; exact (if_neg (by decide)).mpr hv
    | 20, _ => cases ho; cases hg; exact (if_neg (by decide)).mpr hv
    | 21, _ => cases ho; cases hg; exact (if_neg (by decide)).mpr hv
    | 22, _ => cases ho; cases hg; exact (if_neg (by decide)).mpr hv
    | 23, _ => cases ho; cases hg; exact (if_neg (by decide)).mpr hv
    | 24, _ => cases ho; cases hg
    | (k + 25), hk => exact absurd hk (by omega)
  · intro i o hi ho hg
    match i, hi with
    | 0, _ => rfl
    | 1, _ => rfl
    | 2, _ => rfl
    | 3, _ => rfl
    | 4, _ => rfl
    | 5, _ => rfl
    | 6, _ => rfl
    | 7, _ => rfl
    | 8, _ => cases ho; cases hg
    | 9, _ => cases ho; cases hg
    | 10, _ => cases ho; cases hg
    | 11, _ => cases ho; cases hg
    | 12, _ => cases ho; cases hg
    | 13, _ => cases ho; cases hg
    | 14, _ => cases ho; cases hg
    | 15, _ => cases ho; cases hg
    | 16, _ => cases ho; cases hg
    | 17, _ => cases ho; cases hg
    | 18, _ => cases ho; cases hg
    | 19, _ => cases ho; cases hg
    | 20, _ => cases ho; cases hg
    | 21, _ => cases ho; cases hg
    | 22, _ => cases ho; cases hg
    | 23, _ => cases ho; cases hg
    | 24, _ => rfl
    | (k + 25), hk => exact absurd hk (by omega)
  · intro i wq hi hs
    match i, hi with
    | 0, _ => cases hs
    | 1, _ => cases hs
    | 2, _ => cases hs
    | 3, _ => cases hs
    | 4, _ => cases hs
    | 5, _ => cases hs
    | 6, _ => cases hs
    | 7, _ => cases hs
    | 8, _ => cases hs
    | 9, _ => cases hs
    | 10, _ => cases hs
    | 11, _ => cases hs
    | 12, _ => cases hs
    | 13, _ => cases hs
    | 14, _ => cases hs
    | 15, _ => cases hs
    | 16, _ => cases hs
    | 17, _ => cases hs
    | 18, _ => cases hs
    | 19, _ => cases hs
    | 20, _ => cases hs
    | 21, _ => cases hs
    | 22, _ => cases hs
    | 23, _ => cases hs
    | 24, _ => cases hs
    | (k + 25), hk => exact absurd hk (by omega)
  · intro i v wq wq' hi hv hb
    match i, hi with
    | 0, _ => exact hv
    | 1, _ => exact hv
    | 2, _ => exact hv
    | 3, _ => exact hv
    | 4, _ => exact hv
    | 5, _ => exact hv
    | 6, _ => exact hv
    | 7, _ => exact hv
    | 8, _ => exact hv
    | 9, _ => exact hv
    | 10, _ => exact hv
    | 11, _ => exact hv
    | 12, _ => exact hv
    | 13, _ => exact hv
    | 14, _ => exact hv
    | 15, _ => exact hv
    | 16, _ => exact hv
    | 17, _ => exact hv
    | 18, _ => exact hv
    | 19, _ => exact hv
    | 20, _ => exact hv
    | 21, _ => exact hv
    | 22, _ => exact hv
    | 23, _ => exact hv
    | 24, _ => exact hv
    | (k + 25), hk => exact absurd hk (by omega)
  · intro i o hi ho hs aq wq hc hk hdep
    match i, hi with
    | 0, _ =>
      cases ho
      have e2_1 : aq.eval (.tmp 2) = .pointer (some ⟨w.heap.size, 0, none⟩) := hk 2 (by decide)
      exact flow_value _ (run_fieldAt 50 (.tmp 2) 4 rfl _ _ e2_1 (by kernel_rfl)) rfl
    | 1, _ =>
      cases ho
      have e28_2 : aq.eval (.tmp 28) = .pointer (some ⟨w.heap.size, 67, none⟩) := hdep 0 28 rfl (by kernel_rfl)
      exact flow_value _ (run_fieldAt 41 (.tmp 28) 0 rfl _ _ e28_2 (by kernel_rfl)) rfl
    | 2, _ =>
      cases ho
      have e29_3 : aq.eval (.tmp 29) = .pointer (some ⟨w.heap.size, 67, none⟩) := hdep 1 29 rfl (by kernel_rfl)
      exact flow_value _ (run_cell 22 (.tmp 29) rfl _ e29_3 _ ((HasC.keep (hd1.out) hc.bel).cell (j := 67) hA.out.2) _ Try.underlying22 rfl) rfl
    | 3, _ =>
      cases ho
      have e3_4 : aq.eval (.tmp 3) = .pointer (some ⟨w1.heap.size, 0, none⟩) := hk 3 (by decide)
      exact flow_value _ (run_fieldAt 50 (.tmp 3) 4 rfl _ _ e3_4 (by kernel_rfl)) rfl
    | 4, _ =>
      cases ho
      have e31_5 : aq.eval (.tmp 31) = .pointer (some ⟨w1.heap.size, 67, none⟩) := hdep 3 31 rfl (by kernel_rfl)
      exact flow_value _ (run_fieldAt 41 (.tmp 31) 0 rfl _ _ e31_5 (by kernel_rfl)) rfl
    | 5, _ =>
      cases ho
      have e32_6 : aq.eval (.tmp 32) = .pointer (some ⟨w1.heap.size, 67, none⟩) := hdep 4 32 rfl (by kernel_rfl)
      exact flow_value _ (run_cell 22 (.tmp 32) rfl _ e32_6 _ ((HasC.keep (hd2.out) hc.bel).cell (j := 67) hB.out.2) _ Try.underlying22 rfl) rfl
    | 6, _ =>
      cases ho
      have e30_7 : aq.eval (.tmp 30) = .int .u64 ((et : Nat) : Int) := hdep 2 30 rfl (by kernel_rfl)
      have e33_8 : aq.eval (.tmp 33) = .int .u64 ((et' : Nat) : Int) := hdep 5 33 rfl (by kernel_rfl)
      exact flow_value _ (run_neH (.tmp 30) (.tmp 33) rfl (et) (et') false (by rw [hT]; rfl) e30_7 e33_8) rfl
    | 7, _ =>
      cases ho
      have e34_9 : aq.eval (.tmp 34) = .bool false := hdep 6 34 rfl (by kernel_rfl)
      exact flow_move (.tmp 34) rfl e34_9
    | 8, _ =>
      cases ho
      have e2_10 : aq.eval (.tmp 2) = .pointer (some ⟨w.heap.size, 0, none⟩) := hk 2 (by decide)
      exact flow_value _ (run_mid 50 (.tmp 2) rfl w.heap.size 0 e2_10 (A) ((HasC.keep (hd1.out) hc.bel).range 0 _ (fun j v hv => by rw [Nat.zero_add]; exact hv)) _ Try.underlying50 rfl (by rw [hlA.out]; exact Try.tyVote.size)) rfl
    | 9, _ =>
      cases ho
      have e3_11 : aq.eval (.tmp 3) = .pointer (some ⟨w1.heap.size, 0, none⟩) := hk 3 (by decide)
      exact flow_value _ (run_mid 50 (.tmp 3) rfl w1.heap.size 0 e3_11 (B) ((HasC.keep (hd2.out) hc.bel).range 0 _ (fun j v hv => by rw [Nat.zero_add]; exact hv)) _ Try.underlying50 rfl (by rw [hlB.out]; exact Try.tyVote.size)) rfl
    | 10, _ =>
      cases ho
      have e36_12 : aq.eval (.tmp 36) = .agg (A).toArray := hdep 8 36 rfl (by kernel_rfl)
      have e37_13 : aq.eval (.tmp 37) = .agg (B).toArray := hdep 9 37 rfl (by kernel_rfl)
      refine flow_fun 13 _ _ rfl (fun _ _ => by simp [go_sem]) #[.agg (A).toArray, .agg (B).toArray] (by simp only [List.map_toArray, List.map_cons, List.map_nil, e36_12, e37_13]) ?_
      refine ((HAB).out wq).mono ?_
      rintro e w' ⟨rfl, B⟩
      exact ⟨_, rfl, rfl, B⟩
    | 11, _ =>
      cases ho
      have e2_14 : aq.eval (.tmp 2) = .pointer (some ⟨w.heap.size, 0, none⟩) := hk 2 (by decide)
      exact flow_value _ (run_mid 50 (.tmp 2) rfl w.heap.size 0 e2_14 (A) ((HasC.keep (hd1.out) hc.bel).range 0 _ (fun j v hv => by rw [Nat.zero_add]; exact hv)) _ Try.underlying50 rfl (by rw [hlA.out]; exact Try.tyVote.size)) rfl
    | 12, _ =>
      cases ho
      have e3_15 : aq.eval (.tmp 3) = .pointer (some ⟨w1.heap.size, 0, none⟩) := hk 3 (by decide)
      exact flow_value _ (run_mid 50 (.tmp 3) rfl w1.heap.size 0 e3_15 (B) ((HasC.keep (hd2.out) hc.bel).range 0 _ (fun j v hv => by rw [Nat.zero_add]; exact hv)) _ Try.underlying50 rfl (by rw [hlB.out]; exact Try.tyVote.size)) rfl
    | 13, _ =>
      cases ho
      have e39_16 : aq.eval (.tmp 39) = .agg (A).toArray := hdep 11 39 rfl (by kernel_rfl)
      have e40_17 : aq.eval (.tmp 40) = .agg (B).toArray := hdep 12 40 rfl (by kernel_rfl)
      exact flow_value _ ((hNAB.out _ _ _ (.tmp 39) (.tmp 40) rfl e39_16 e40_17)) rfl
    | 14, _ =>
      cases ho
      have e38_18 : aq.eval (.tmp 38) = .bool false := hdep 10 38 rfl (by kernel_rfl)
      have e41_19 : aq.eval (.tmp 41) = .bool false := hdep 13 41 rfl (by kernel_rfl)
      exact flow_value _ (run_eqB (.tmp 38) (.tmp 41) rfl false false e38_18 e41_19) rfl
    | 15, _ =>
      cases ho
      have e42_20 : aq.eval (.tmp 42) = .bool true := hdep 14 42 rfl (by kernel_rfl)
      exact flow_move (.tmp 42) rfl e42_20
    | 16, _ =>
      cases ho
      have e3_21 : aq.eval (.tmp 3) = .pointer (some ⟨w1.heap.size, 0, none⟩) := hk 3 (by decide)
      exact flow_value _ (run_mid 50 (.tmp 3) rfl w1.heap.size 0 e3_21 (B) ((HasC.keep (hd2.out) hc.bel).range 0 _ (fun j v hv => by rw [Nat.zero_add]; exact hv)) _ Try.underlying50 rfl (by rw [hlB.out]; exact Try.tyVote.size)) rfl
    | 17, _ =>
      cases ho
      have e2_22 : aq.eval (.tmp 2) = .pointer (some ⟨w.heap.size, 0, none⟩) := hk 2 (by decide)
      exact flow_value _ (run_mid 50 (.tmp 2) rfl w.heap.size 0 e2_22 (A) ((HasC.keep (hd1.out) hc.bel).range 0 _ (fun j v hv => by rw [Nat.zero_add]; exact hv)) _ Try.underlying50 rfl (by rw [hlA.out]; exact Try.tyVote.size)) rfl
    | 18, _ =>
      cases ho
      have e44_23 : aq.eval (.tmp 44) = .agg (B).toArray := hdep 16 44 rfl (by kernel_rfl)
      have e45_24 : aq.eval (.tmp 45) = .agg (A).toArray := hdep 17 45 rfl (by kernel_rfl)
      refine flow_fun 13 _ _ rfl (fun _ _ => by simp [go_sem]) #[.agg (B).toArray, .agg (A).toArray] (by simp only [List.map_toArray, List.map_cons, List.map_nil, e44_23, e45_24]) ?_
      refine ((HBA).out wq).mono ?_
      rintro e w' ⟨rfl, B⟩
      exact ⟨_, rfl, rfl, B⟩
    | 19, _ =>
      cases ho
      have e2_25 : aq.eval (.tmp 2) = .pointer (some ⟨w.heap.size, 0, none⟩) := hk 2 (by decide)
      exact flow_value _ (run_mid 50 (.tmp 2) rfl w.heap.size 0 e2_25 (A) ((HasC.keep (hd1.out) hc.bel).range 0 _ (fun j v hv => by rw [Nat.zero_add]; exact hv)) _ Try.underlying50 rfl (by rw [hlA.out]; exact Try.tyVote.size)) rfl
    | 20, _ =>
      cases ho
      have e3_26 : aq.eval (.tmp 3) = .pointer (some ⟨w1.heap.size, 0, none⟩) := hk 3 (by decide)
      exact flow_value _ (run_mid 50 (.tmp 3) rfl w1.heap.size 0 e3_26 (B) ((HasC.keep (hd2.out) hc.bel).range 0 _ (fun j v hv => by rw [Nat.zero_add]; exact hv)) _ Try.underlying50 rfl (by rw [hlB.out]; exact Try.tyVote.size)) rfl
    | 21, _ =>
      cases ho
      have e47_27 : aq.eval (.tmp 47) = .agg (A).toArray := hdep 19 47 rfl (by kernel_rfl)
      have e48_28 : aq.eval (.tmp 48) = .agg (B).toArray := hdep 20 48 rfl (by kernel_rfl)
      exact flow_value _ ((hNAB.out _ _ _ (.tmp 47) (.tmp 48) rfl e47_27 e48_28)) rfl
    | 22, _ =>
      cases ho
      have e46_29 : aq.eval (.tmp 46) = .bool false := hdep 18 46 rfl (by kernel_rfl)
      have e49_30 : aq.eval (.tmp 49) = .bool false := hdep 21 49 rfl (by kernel_rfl)
      exact flow_value _ (run_eqB (.tmp 46) (.tmp 49) rfl false false e46_29 e49_30) rfl
    | 23, _ =>
      cases ho
      have e43_31 : aq.eval (.tmp 43) = .bool true := hdep 15 43 rfl (by kernel_rfl)
      have e50_32 : aq.eval (.tmp 50) = .bool true := hdep 22 50 rfl (by kernel_rfl)
      exact flow_value _ (run_pick1 (.tmp 43) (.tmp 50) (.const (.bool false)) rfl _ e43_31 e50_32) rfl
    | 24, _ =>
      cases ho
      have e35_33 : aq.eval (.tmp 35) = .bool false := hdep 7 35 rfl (by kernel_rfl)
      have e51_34 : aq.eval (.tmp 51) = .bool true := hdep 23 51 rfl (by kernel_rfl)
      exact flow_value _ (run_pick0 (.tmp 35) (.const (.bool true)) (.tmp 51) rfl _ e35_33 e51_34) rfl
    | (k + 25), hk => exact absurd hk (by omega)
  intro vf wv hc hv
  have f52 : vf 24 = .bool true := hv 24 52 (by decide) rfl
  clear hv
  simp only [List.take_succ_cons, List.take_zero, List.drop_succ_cons, List.drop_zero, putAll, Act.put, List.setIfInBounds_toArray, List.set_cons_succ, List.set_cons_zero]
  rw [f52]
  clear f52
  have BC := shut (below_more BC.out hc.bel (Nat.le_refl _))
  clear hc
  go_wp2
  go_ret
  exact ⟨rfl, BC.out⟩
set_option maxHeartbeats 4000000 in
theorem slashW_2 (A B : List Value) (es et es' et' : Nat) (w : World)
    (hlA : Shut (A.length = (vtX 0 0 (zeros 32) 0 (zeros 32) 0 (zeros 32)).length)) (hlB : Shut (B.length = (vtX 0 0 (zeros 32) 0 (zeros 32) 0 (zeros 32)).length))
    (hA : Shut (A[34]? = some (.int .u64 (es : Nat)) ∧ A[67]? = some (.int .u64 (et : Nat)))) (hB : Shut (B[34]? = some (.int .u64 (es' : Nat)) ∧ B[67]? = some (.int .u64 (et' : Nat))))
    (hNAB : Shut (∀ (o : Oper) (a : Act) (w : World) (x y : Operand), o.op = .binOp .neq 50 x y 50 → a.eval x = .agg A.toArray → a.eval y = .agg B.toArray → (execOp a.eval o).run Try.prog w = .ok (.value (.bool true)) w)) (hNBA : Shut (∀ (o : Oper) (a : Act) (w : World) (x y : Operand), o.op = .binOp .neq 50 x y 50 → a.eval x = .agg B.toArray → a.eval y = .agg A.toArray → (execOp a.eval o).run Try.prog w = .ok (.value (.bool true)) w)) (hT : decide (et = et') = false)
    (HAB : Shut (∀ wq, Calls Try.prog 13 #[.agg A.toArray, .agg B.toArray] wq fun e w' => e = .returned (.bool false) ∧ Below wq.heap.size wq w')) (HBA : Shut (∀ wq, Calls Try.prog 13 #[.agg B.toArray, .agg A.toArray] wq fun e w' => e = .returned (.bool false) ∧ Below wq.heap.size wq w')) (HAA : Shut (∀ wq, Calls Try.prog 13 #[.agg A.toArray, .agg A.toArray] wq fun e w' => e = .returned (.bool false) ∧ Below wq.heap.size wq w')) (RAB : Shut (∀ wq, Calls Try.prog 14 #[.agg A.toArray, .agg B.toArray] wq fun e w' => e = .returned (.bool false) ∧ Below wq.heap.size wq w')) (RBA : Shut (∀ wq, Calls Try.prog 14 #[.agg B.toArray, .agg A.toArray] wq fun e w' => e = .returned (.bool false) ∧ Below wq.heap.size wq w')) :
    Calls Try.prog 4 #[.agg A.toArray, .agg B.toArray] w fun e w' => e = .returned (.bool true) ∧ Below w.heap.size w w' := by
  go_enter Try.func4, Try.ntmps4
  go_wp2_with ((with_reducible refine at_list' ?_); first
    | (refine wpList_box_c rfl 2 rfl (.tmp 0) rfl A rfl ?_; intro w1 H1 B1 S1)
    | (refine wpList_box_c rfl 3 rfl (.tmp 1) rfl B rfl ?_; intro w2 H2 B2 S2; have X1 := H1.keep B2; have BB := shut (below_more B1 B2 (Nat.le_refl _)); have hd1 := shut X1; have hd2 := shut H2; clear H1 B1 B2 X1 H2 S1 S2))
  refine (awake_any w2).mono ?_
  rintro x w3 ⟨rfl, B3⟩
  have BC := shut (below_more BB.out B3 (Nat.le_refl _))
  have hd1 := shut (hd1.out.keep B3)
  have hd2 := shut (hd2.out.keep B3)
  clear B3 BB
  go_wp2
  refine wp_region_flowN 20 (fun _ => false) (fun i v wq => match i with
    | 0 => v = .agg (A).toArray
    | 1 => v = .agg (B).toArray
    | 2 => v = .bool false
    | 3 => v = .agg (A).toArray
    | 4 => v = .agg (B).toArray
    | 5 => v = .bool false
    | 6 => v = .bool false
    | 7 => v = .bool false
    | 8 => v = .agg (B).toArray
    | 9 => v = .agg (A).toArray
    | 10 => v = .bool false
    | 11 => v = .agg (B).toArray
    | 12 => v = .agg (A).toArray
    | 13 => v = .bool false
    | 14 => v = .bool false
    | 15 => v = .bool false
    | 16 => v = .bool false
    | 17 => v = .agg (A).toArray
    | 18 => v = .agg (A).toArray
    | _ => v = .bool false) (by kernel_rfl) (by kernel_rfl) ?_ ?_ ?_ ?_ ?_ ?_
  · intro i o g b hi ho hg v wq hv
    match i, hi with
    | 0, _ => cases ho; cases hg
    | 1, _ => cases ho; cases hg
    | 2, _ => cases ho; cases hg
    | 3, _ => cases ho; cases hg
    | 4, _ => cases ho; cases hg
    | 5, _ => cases ho; cases hg
    | 6, _ => cases ho; cases hg
    | 7, _ => cases ho; cases hg
    | 8, _ => cases ho; cases hg; exact (if_neg (by decide)).mpr hv
    | 9, _ => cases ho; cases hg; exact (if_neg (by decide)).mpr hv
    | 10, _ => cases ho; cases hg; exact (if_neg (by decide)).mpr hv
    | 11, _ => cases ho; cases hg; exact (if_neg (by decide)).mpr hv
    | 12, _ => cases ho; cases hg; exact (if_neg (by decide)).mpr hv
    | 13, _ => cases ho; cases hg; exact (if_neg (by decide)).mpr hv
    | 14, _ => cases ho; cases hg; exact (if_neg (by decide)).mpr hv
    | 15, _ => cases ho; cases hg
    | 16, _ => cases ho; cases hg
    | 17, _ => cases ho; cases hg; exact (if_neg (by decide)).mpr hv
    | 18, _ => cases ho; cases hg; exact (if_neg (by decide)).mpr hv
    | 19, _ => cases ho; cases hg; exact (if_neg (by decide)).mpr hv
    | (k + 20), hk => exact absurd hk (by omega)
  · intro i o hi ho hg
    match i, hi with
    | 0, _ => rfl
    | 1, _ => rfl
    | 2, _ => rfl
    | 3, _ => rfl
    | 4, _ => rfl
    | 5, _ => rfl
    | 6, _ => rfl
    | 7, _ => rfl
    | 8, _ => cases ho; cases hg
    | 9, _ => cases ho; cases hg
    | 10, _ => cases ho; cases hg
    | 11, _ => cases ho; cases hg
    | 12, _ => cases ho; cases hg
    | 13, _ => cases ho; cases hg
    | 14, _ => cases ho; cases hg
    | 15, _ => rfl
    | 16, _ => rfl
    | 17, _ => cases ho; cases hg
    | 18, _ => cases ho; cases hg
    | 19, _ => cases ho; cases hg
    | (k + 20), hk => exact absurd hk (by omega)
  · intro i wq hi hs
    match i, hi with
    | 0, _ => cases hs
    | 1, _ => cases hs
    | 2, _ => cases hs
    | 3, _ => cases hs
    | 4, _ => cases hs
    | 5, _ => cases hs
    | 6, _ => cases hs
    | 7, _ => cases hs
    | 8, _ => cases hs
    | 9, _ => cases hs
    | 10, _ => cases hs
    | 11, _ => cases hs
    | 12, _ => cases hs
    | 13, _ => cases hs
    | 14, _ => cases hs
    | 15, _ => cases hs
    | 16, _ => cases hs
    | 17, _ => cases hs
    | 18, _ => cases hs
    | 19, _ => cases hs
    | (k + 20), hk => exact absurd hk (by omega)
  · intro i v wq wq' hi hv hb
    match i, hi with
    | 0, _ => exact hv
    | 1, _ => exact hv
    | 2, _ => exact hv
    | 3, _ => exact hv
    | 4, _ => exact hv
    | 5, _ => exact hv
    | 6, _ => exact hv
    | 7, _ => exact hv
    | 8, _ => exact hv
    | 9, _ => exact hv
    | 10, _ => exact hv
    | 11, _ => exact hv
    | 12, _ => exact hv
    | 13, _ => exact hv
    | 14, _ => exact hv
    | 15, _ => exact hv
    | 16, _ => exact hv
    | 17, _ => exact hv
    | 18, _ => exact hv
    | 19, _ => exact hv
    | (k + 20), hk => exact absurd hk (by omega)
  · intro i o hi ho hs aq wq hc hk hdep
    match i, hi with
    | 0, _ =>
      cases ho
      have e2_1 : aq.eval (.tmp 2) = .pointer (some ⟨w.heap.size, 0, none⟩) := hk 2 (by decide)
      exact flow_value _ (run_mid 50 (.tmp 2) rfl w.heap.size 0 e2_1 (A) ((HasC.keep (hd1.out) hc.bel).range 0 _ (fun j v hv => by rw [Nat.zero_add]; exact hv)) _ Try.underlying50 rfl (by rw [hlA.out]; exact Try.tyVote.size)) rfl
    | 1, _ =>
      cases ho
      have e3_2 : aq.eval (.tmp 3) = .pointer (some ⟨w1.heap.size, 0, none⟩) := hk 3 (by decide)
      exact flow_value _ (run_mid 50 (.tmp 3) rfl w1.heap.size 0 e3_2 (B) ((HasC.keep (hd2.out) hc.bel).range 0 _ (fun j v hv => by rw [Nat.zero_add]; exact hv)) _ Try.underlying50 rfl (by rw [hlB.out]; exact Try.tyVote.size)) rfl
    | 2, _ =>
      cases ho
      have e7_3 : aq.eval (.tmp 7) = .agg (A).toArray := hdep 0 7 rfl (by kernel_rfl)
      have e8_4 : aq.eval (.tmp 8) = .agg (B).toArray := hdep 1 8 rfl (by kernel_rfl)
      refine flow_fun 13 _ _ rfl (fun _ _ => by simp [go_sem]) #[.agg (A).toArray, .agg (B).toArray] (by simp only [List.map_toArray, List.map_cons, List.map_nil, e7_3, e8_4]) ?_
      refine ((HAB).out wq).mono ?_
      rintro e w' ⟨rfl, B⟩
      exact ⟨_, rfl, rfl, B⟩
    | 3, _ =>
      cases ho
      have e2_5 : aq.eval (.tmp 2) = .pointer (some ⟨w.heap.size, 0, none⟩) := hk 2 (by decide)
      exact flow_value _ (run_mid 50 (.tmp 2) rfl w.heap.size 0 e2_5 (A) ((HasC.keep (hd1.out) hc.bel).range 0 _ (fun j v hv => by rw [Nat.zero_add]; exact hv)) _ Try.underlying50 rfl (by rw [hlA.out]; exact Try.tyVote.size)) rfl
    | 4, _ =>
      cases ho
      have e3_6 : aq.eval (.tmp 3) = .pointer (some ⟨w1.heap.size, 0, none⟩) := hk 3 (by decide)
      exact flow_value _ (run_mid 50 (.tmp 3) rfl w1.heap.size 0 e3_6 (B) ((HasC.keep (hd2.out) hc.bel).range 0 _ (fun j v hv => by rw [Nat.zero_add]; exact hv)) _ Try.underlying50 rfl (by rw [hlB.out]; exact Try.tyVote.size)) rfl
    | 5, _ =>
      cases ho
      have e10_7 : aq.eval (.tmp 10) = .agg (A).toArray := hdep 3 10 rfl (by kernel_rfl)
      have e11_8 : aq.eval (.tmp 11) = .agg (B).toArray := hdep 4 11 rfl (by kernel_rfl)
      refine flow_fun 14 _ _ rfl (fun _ _ => by simp [go_sem]) #[.agg (A).toArray, .agg (B).toArray] (by simp only [List.map_toArray, List.map_cons, List.map_nil, e10_7, e11_8]) ?_
      refine ((RAB).out wq).mono ?_
      rintro e w' ⟨rfl, B⟩
      exact ⟨_, rfl, rfl, B⟩
    | 6, _ =>
      cases ho
      have e9_9 : aq.eval (.tmp 9) = .bool false := hdep 2 9 rfl (by kernel_rfl)
      have e12_10 : aq.eval (.tmp 12) = .bool false := hdep 5 12 rfl (by kernel_rfl)
      exact flow_value _ (run_neB (.tmp 9) (.tmp 12) rfl false false e9_9 e12_10) rfl
    | 7, _ =>
      cases ho
      have e13_11 : aq.eval (.tmp 13) = .bool false := hdep 6 13 rfl (by kernel_rfl)
      exact flow_move (.tmp 13) rfl e13_11
    | 8, _ =>
      cases ho
      have e3_12 : aq.eval (.tmp 3) = .pointer (some ⟨w1.heap.size, 0, none⟩) := hk 3 (by decide)
      exact flow_value _ (run_mid 50 (.tmp 3) rfl w1.heap.size 0 e3_12 (B) ((HasC.keep (hd2.out) hc.bel).range 0 _ (fun j v hv => by rw [Nat.zero_add]; exact hv)) _ Try.underlying50 rfl (by rw [hlB.out]; exact Try.tyVote.size)) rfl
    | 9, _ =>
      cases ho
      have e2_13 : aq.eval (.tmp 2) = .pointer (some ⟨w.heap.size, 0, none⟩) := hk 2 (by decide)
      exact flow_value _ (run_mid 50 (.tmp 2) rfl w.heap.size 0 e2_13 (A) ((HasC.keep (hd1.out) hc.bel).range 0 _ (fun j v hv => by rw [Nat.zero_add]; exact hv)) _ Try.underlying50 rfl (by rw [hlA.out]; exact Try.tyVote.size)) rfl
    | 10, _ =>
      cases ho
      have e15_14 : aq.eval (.tmp 15) = .agg (B).toArray := hdep 8 15 rfl (by kernel_rfl)
      have e16_15 : aq.eval (.tmp 16) = .agg (A).toArray := hdep 9 16 rfl (by kernel_rfl)
      refine flow_fun 13 _ _ rfl (fun _ _ => by simp [go_sem]) #[.agg (B).toArray, .agg (A).toArray] (by simp only [List.map_toArray, List.map_cons, List.map_nil, e15_14, e16_15]) ?_
      refine ((HBA).out wq).mono ?_
      rintro e w' ⟨rfl, B⟩
      exact ⟨_, rfl, rfl, B⟩
    | 11, _ =>
      cases ho
      have e3_16 : aq.eval (.tmp 3) = .pointer (some ⟨w1.heap.size, 0, none⟩) := hk 3 (by decide)
      exact flow_value _ (run_mid 50 (.tmp 3) rfl w1.heap.size 0 e3_16 (B) ((HasC.keep (hd2.out) hc.bel).range 0 _ (fun j v hv => by rw [Nat.zero_add]; exact hv)) _ Try.underlying50 rfl (by rw [hlB.out]; exact Try.tyVote.size)) rfl
    | 12, _ =>
      cases ho
      have e2_17 : aq.eval (.tmp 2) = .pointer (some ⟨w.heap.size, 0, none⟩) := hk 2 (by decide)
      exact flow_value _ (run_mid 50 (.tmp 2) rfl w.heap.size 0 e2_17 (A) ((HasC.keep (hd1.out) hc.bel).range 0 _ (fun j v hv => by rw [Nat.zero_add]; exact hv)) _ Try.underlying50 rfl (by rw [hlA.out]; exact Try.tyVote.size)) rfl
    | 13, _ =>
      cases ho
      have e18_18 : aq.eval (.tmp 18) = .agg (B).toArray := hdep 11 18 rfl (by kernel_rfl)
      have e19_19 : aq.eval (.tmp 19) = .agg (A).toArray := hdep 12 19 rfl (by kernel_rfl)
      refine flow_fun 14 _ _ rfl (fun _ _ => by simp [go_sem]) #[.agg (B).toArray, .agg (A).toArray] (by simp only [List.map_toArray, List.map_cons, List.map_nil, e18_18, e19_19]) ?_
      refine ((RBA).out wq).mono ?_
      rintro e w' ⟨rfl, B⟩
      exact ⟨_, rfl, rfl, B⟩
    | 14, _ =>
      cases ho
      have e17_20 : aq.eval (.tmp 17) = .bool false := hdep 10 17 rfl (by kernel_rfl)
      have e20_21 : aq.eval (.tmp 20) = .bool false := hdep 13 20 rfl (by kernel_rfl)
      exact flow_value _ (run_neB (.tmp 17) (.tmp 20) rfl false false e17_20 e20_21) rfl
    | 15, _ =>
      cases ho
      have e14_22 : aq.eval (.tmp 14) = .bool false := hdep 7 14 rfl (by kernel_rfl)
      have e21_23 : aq.eval (.tmp 21) = .bool false := hdep 14 21 rfl (by kernel_rfl)
      exact flow_value _ (run_pick0 (.tmp 14) (.const (.bool true)) (.tmp 21) rfl _ e14_22 e21_23) rfl
    | 16, _ =>
      cases ho
      have e22_24 : aq.eval (.tmp 22) = .bool false := hdep 15 22 rfl (by kernel_rfl)
      exact flow_move (.tmp 22) rfl e22_24
    | 17, _ =>
      cases ho
      have e2_25 : aq.eval (.tmp 2) = .pointer (some ⟨w.heap.size, 0, none⟩) := hk 2 (by decide)
      exact flow_value _ (run_mid 50 (.tmp 2) rfl w.heap.size 0 e2_25 (A) ((HasC.keep (hd1.out) hc.bel).range 0 _ (fun j v hv => by rw [Nat.zero_add]; exact hv)) _ Try.underlying50 rfl (by rw [hlA.out]; exact Try.tyVote.size)) rfl
    | 18, _ =>
      cases ho
      have e2_26 : aq.eval (.tmp 2) = .pointer (some ⟨w.heap.size, 0, none⟩) := hk 2 (by decide)
      exact flow_value _ (run_mid 50 (.tmp 2) rfl w.heap.size 0 e2_26 (A) ((HasC.keep (hd1.out) hc.bel).range 0 _ (fun j v hv => by rw [Nat.zero_add]; exact hv)) _ Try.underlying50 rfl (by rw [hlA.out]; exact Try.tyVote.size)) rfl
    | 19, _ =>
      cases ho
      have e24_27 : aq.eval (.tmp 24) = .agg (A).toArray := hdep 17 24 rfl (by kernel_rfl)
      have e25_28 : aq.eval (.tmp 25) = .agg (A).toArray := hdep 18 25 rfl (by kernel_rfl)
      refine flow_fun 13 _ _ rfl (fun _ _ => by simp [go_sem]) #[.agg (A).toArray, .agg (A).toArray] (by simp only [List.map_toArray, List.map_cons, List.map_nil, e24_27, e25_28]) ?_
      refine ((HAA).out wq).mono ?_
      rintro e w' ⟨rfl, B⟩
      exact ⟨_, rfl, rfl, B⟩
    | (k + 20), hk => exact absurd hk (by omega)
  intro vf wv hc hv
  have f23 : vf 16 = .bool false := hv 16 23 (by decide) rfl
  have f26 : vf 19 = .bool false := hv 19 26 (by decide) rfl
  clear hv
  simp only [List.take_succ_cons, List.take_zero, List.drop_succ_cons, List.drop_zero, putAll, Act.put, List.setIfInBounds_toArray, List.set_cons_succ, List.set_cons_zero]
  rw [f23, f26]
  clear f23 f26
  have hd1 := shut (hd1.out.keep hc.bel)
  have hd2 := shut (hd2.out.keep hc.bel)
  have BC := shut (below_more BC.out hc.bel (Nat.le_refl _))
  clear hc
  go_wp2
  refine wp_region_flowN 25 (fun j => decide (j ∈ [8, 9, 10, 11, 12, 13, 14, 15, 16, 17, 18, 19, 20, 21, 22, 23])) (fun i v wq => match i with
    | 0 => v = .pointer (some ⟨w.heap.size, 67, none⟩)
    | 1 => v = .pointer (some ⟨w.heap.size, 67, none⟩)
    | 2 => v = .int .u64 ((et : Nat) : Int)
    | 3 => v = .pointer (some ⟨w1.heap.size, 67, none⟩)
    | 4 => v = .pointer (some ⟨w1.heap.size, 67, none⟩)
    | 5 => v = .int .u64 ((et' : Nat) : Int)
    | 6 => v = .bool true
    | 7 => v = .bool true
    | 8 => v = undef
    | 9 => v = undef
    | 10 => v = undef
    | 11 => v = undef
    | 12 => v = undef
    | 13 => v = undef
    | 14 => v = undef
    | 15 => v = undef
    | 16 => v = undef
    | 17 => v = undef
    | 18 => v = undef
    | 19 => v = undef
    | 20 => v = undef
    | 21 => v = undef
    | 22 => v = undef
    | 23 => v = undef
    | _ => v = .bool true) (by kernel_rfl) (by kernel_rfl) ?_ ?_ ?_ ?_ ?_ ?_
  · intro i o g b hi ho hg v wq hv
    match i, hi with
    | 0, _ => cases ho; cases hg
    | 1, _ => cases ho; cases hg
    | 2, _ => cases ho; cases hg
    | 3, _ => cases ho; cases hg
    | 4, _ => cases ho; cases hg
    | 5, _ => cases ho; cases hg
    | 6, _ => cases ho; cases hg
    | 7, _ => cases ho; cases hg
    | 8, _ => cases ho; cases hg; have hv' : v = _ := hv; rw [hv']; exact (if_pos (by decide)).mpr (fun h => by cases h)
    | 9, _ => cases ho; cases hg; have hv' : v = _ := hv; rw [hv']; exact (if_pos (by decide)).mpr (fun h => by cases h)
    | 10, _ => cases ho; cases hg; have hv' : v = _ := hv; rw [hv']; exact (if_pos (by decide)).mpr (fun h => by cases h)
    | 11, _ => cases ho; cases hg; have hv' : v = _ := hv; rw [hv']; exact (if_pos (by decide)).mpr (fun h => by cases h)
    | 12, _ => cases ho; cases hg; have hv' : v = _ := hv; rw [hv']; exact (if_pos (by decide)).mpr (fun h => by cases h)
    | 13, _ => cases ho; cases hg; have hv' : v = _ := hv; rw [hv']; exact (if_pos (by decide)).mpr (fun h => by cases h)
    | 14, _ => cases ho; cases hg; have hv' : v = _ := hv; rw [hv']; exact (if_pos (by decide)).mpr (fun h => by cases h)
    | 15, _ => cases ho; cases hg; have hv' : v = _ := hv; rw [hv']; exact (if_pos (by decide)).mpr (fun h => by cases h)
    | 16, _ => cases ho; cases hg; have hv' : v = undef := hv; rw [hv']; exact (if_pos (by decide)).mpr (fun h => by cases h)
    | 17, _ => cases ho; cases hg; have hv' : v = undef := hv; rw [hv']; exact (if_pos (by decide)).mpr (fun h => by cases h)
    | 18, _ => cases ho; cases hg; have hv' : v = undef := hv; rw [hv']; exact (if_pos (by decide)).mpr (fun h => by cases h)
    | 19, _ => cases ho; cases hg; have hv' : v = undef := hv; rw [hv']; exact (if_pos (by decide)).mpr (fun h => by cases h)
    | 20, _ => cases ho; cases hg; have hv' : v = undef := hv; rw [hv']; exact (if_pos (by decide)).mpr (fun h => by cases h)
    | 21, _ => cases ho; cases hg; have hv' : v = undef := hv; rw [hv']; exact (if_pos (by decide)).mpr (fun h => by cases h)
    | 22, _ => cases ho; cases hg; have hv' : v = undef := hv; rw [hv']; exact (if_pos (by decide)).mpr (fun h => by cases h)
    | 23, _ => cases ho; cases hg; have hv' : v = _ := hv; rw [hv']; exact (if_pos (by decide)).mpr (fun h => by cases h)
    | 24, _ => cases ho; cases hg
    | (k + 25), hk => exact absurd hk (by omega)
  · intro i o hi ho hg
    match i, hi with
    | 0, _ => rfl
    | 1, _ => rfl
    | 2, _ => rfl
    | 3, _ => rfl
    | 4, _ => rfl
    | 5, _ => rfl
    | 6, _ => rfl
    | 7, _ => rfl
    | 8, _ => cases ho; cases hg
    | 9, _ => cases ho; cases hg
    | 10, _ => cases ho; cases hg
    | 11, _ => cases ho; cases hg
    | 12, _ => cases ho; cases hg
    | 13, _ => cases ho; cases hg
    | 14, _ => cases ho; cases hg
    | 15, _ => cases ho; cases hg
    | 16, _ => cases ho; cases hg
    | 17, _ => cases ho; cases hg
    | 18, _ => cases ho; cases hg
    | 19, _ => cases ho; cases hg
    | 20, _ => cases ho; cases hg
    | 21, _ => cases ho; cases hg
    | 22, _ => cases ho; cases hg
    | 23, _ => cases ho; cases hg
    | 24, _ => rfl
    | (k + 25), hk => exact absurd hk (by omega)
  · intro i wq hi hs
    match i, hi with
    | 0, _ => cases hs
    | 1, _ => cases hs
    | 2, _ => cases hs
    | 3, _ => cases hs
    | 4, _ => cases hs
    | 5, _ => cases hs
    | 6, _ => cases hs
    | 7, _ => cases hs
    | 8, _ => rfl
    | 9, _ => rfl
    | 10, _ => rfl
    | 11, _ => rfl
    | 12, _ => rfl
    | 13, _ => rfl
    | 14, _ => rfl
    | 15, _ => rfl
    | 16, _ => rfl
    | 17, _ => rfl
    | 18, _ => rfl
    | 19, _ => rfl
    | 20, _ => rfl
    | 21, _ => rfl
    | 22, _ => rfl
    | 23, _ => rfl
    | 24, _ => cases hs
    | (k + 25), hk => exact absurd hk (by omega)
  · intro i v wq wq' hi hv hb
    match i, hi with
    | 0, _ => exact hv
    | 1, _ => exact hv
    | 2, _ => exact hv
    | 3, _ => exact hv
    | 4, _ => exact hv
    | 5, _ => exact hv
    | 6, _ => exact hv
    | 7, _ => exact hv
    | 8, _ => exact hv
    | 9, _ => exact hv
    | 10, _ => exact hv
    | 11, _ => exact hv
    | 12, _ => exact hv
    | 13, _ => exact hv
    | 14, _ => exact hv
    | 15, _ => exact hv
    | 16, _ => exact hv
    | 17, _ => exact hv
    | 18, _ => exact hv
    | 19, _ => exact hv
    | 20, _ => exact hv
    | 21, _ => exact hv
    | 22, _ => exact hv
    | 23, _ => exact hv
    | 24, _ => exact hv
    | (k + 25), hk => exact absurd hk (by omega)
  · intro i o hi ho hs aq wq hc hk hdep
    match i, hi with
    | 0, _ =>
      cases ho
      have e2_1 : aq.eval (.tmp 2) = .pointer (some ⟨w.heap.size, 0, none⟩) := hk 2 (by decide)
      exact flow_value _ (run_fieldAt 50 (.tmp 2) 4 rfl _ _ e2_1 (by kernel_rfl)) rfl
    | 1, _ =>
      cases ho
      have e28_2 : aq.eval (.tmp 28) = .pointer (some ⟨w.heap.size, 67, none⟩) := hdep 0 28 rfl (by kernel_rfl)
      exact flow_value _ (run_fieldAt 41 (.tmp 28) 0 rfl _ _ e28_2 (by kernel_rfl)) rfl
    | 2, _ =>
      cases ho
      have e29_3 : aq.eval (.tmp 29) = .pointer (some ⟨w.heap.size, 67, none⟩) := hdep 1 29 rfl (by kernel_rfl)
      exact flow_value _ (run_cell 22 (.tmp 29) rfl _ e29_3 _ ((HasC.keep (hd1.out) hc.bel).cell (j := 67) hA.out.2) _ Try.underlying22 rfl) rfl
    | 3, _ =>
      cases ho
      have e3_4 : aq.eval (.tmp 3) = .pointer (some ⟨w1.heap.size, 0, none⟩) := hk 3 (by decide)
      exact flow_value _ (run_fieldAt 50 (.tmp 3) 4 rfl _ _ e3_4 (by kernel_rfl)) rfl
    | 4, _ =>
      cases ho
      have e31_5 : aq.eval (.tmp 31) = .pointer (some ⟨w1.heap.size, 67, none⟩) := hdep 3 31 rfl (by kernel_rfl)
      exact flow_value _ (run_fieldAt 41 (.tmp 31) 0 rfl _ _ e31_5 (by kernel_rfl)) rfl
    | 5, _ =>
      cases ho
      have e32_6 : aq.eval (.tmp 32) = .pointer (some ⟨w1.heap.size, 67, none⟩) := hdep 4 32 rfl (by kernel_rfl)
      exact flow_value _ (run_cell 22 (.tmp 32) rfl _ e32_6 _ ((HasC.keep (hd2.out) hc.bel).cell (j := 67) hB.out.2) _ Try.underlying22 rfl) rfl
    | 6, _ =>
      cases ho
      have e30_7 : aq.eval (.tmp 30) = .int .u64 ((et : Nat) : Int) := hdep 2 30 rfl (by kernel_rfl)
      have e33_8 : aq.eval (.tmp 33) = .int .u64 ((et' : Nat) : Int) := hdep 5 33 rfl (by kernel_rfl)
      exact flow_value _ (run_neH (.tmp 30) (.tmp 33) rfl (et) (et') true (by rw [hT]; rfl) e30_7 e33_8) rfl
    | 7, _ =>
      cases ho
      have e34_9 : aq.eval (.tmp 34) = .bool true := hdep 6 34 rfl (by kernel_rfl)
      exact flow_move (.tmp 34) rfl e34_9
    | 8, _ => cases hs
    | 9, _ => cases hs
    | 10, _ => cases hs
    | 11, _ => cases hs
    | 12, _ => cases hs
    | 13, _ => cases hs
    | 14, _ => cases hs
    | 15, _ => cases hs
    | 16, _ => cases hs
    | 17, _ => cases hs
    | 18, _ => cases hs
    | 19, _ => cases hs
    | 20, _ => cases hs
    | 21, _ => cases hs
    | 22, _ => cases hs
    | 23, _ => cases hs
    | 24, _ =>
      cases ho
      have e35_10 : aq.eval (.tmp 35) = .bool true := hdep 7 35 rfl (by kernel_rfl)
      exact flow_value _ (run_pick1 (.tmp 35) (.const (.bool true)) (.tmp 51) rfl _ e35_10 rfl) rfl
    | (k + 25), hk => exact absurd hk (by omega)
  intro vf wv hc hv
  have f52 : vf 24 = .bool true := hv 24 52 (by decide) rfl
  clear hv
  simp only [List.take_succ_cons, List.take_zero, List.drop_succ_cons, List.drop_zero, putAll, Act.put, List.setIfInBounds_toArray, List.set_cons_succ, List.set_cons_zero]
  rw [f52]
  clear f52
  have BC := shut (below_more BC.out hc.bel (Nat.le_refl _))
  clear hc
  go_wp2
  go_ret
  exact ⟨rfl, BC.out⟩
set_option maxHeartbeats 4000000 in
theorem slashW_3 (A B : List Value) (es et es' et' : Nat) (w : World)
    (hlA : Shut (A.length = (vtX 0 0 (zeros 32) 0 (zeros 32) 0 (zeros 32)).length)) (hlB : Shut (B.length = (vtX 0 0 (zeros 32) 0 (zeros 32) 0 (zeros 32)).length))
    (hA : Shut (A[34]? = some (.int .u64 (es : Nat)) ∧ A[67]? = some (.int .u64 (et : Nat)))) (hB : Shut (B[34]? = some (.int .u64 (es' : Nat)) ∧ B[67]? = some (.int .u64 (et' : Nat))))
    (hNAB : Shut (∀ (o : Oper) (a : Act) (w : World) (x y : Operand), o.op = .binOp .neq 50 x y 50 → a.eval x = .agg A.toArray → a.eval y = .agg B.toArray → (execOp a.eval o).run Try.prog w = .ok (.value (.bool true)) w)) (hNBA : Shut (∀ (o : Oper) (a : Act) (w : World) (x y : Operand), o.op = .binOp .neq 50 x y 50 → a.eval x = .agg B.toArray → a.eval y = .agg A.toArray → (execOp a.eval o).run Try.prog w = .ok (.value (.bool true)) w)) (hT : decide (et = et') = false)
    (HAB : Shut (∀ wq, Calls Try.prog 13 #[.agg A.toArray, .agg B.toArray] wq fun e w' => e = .returned (.bool false) ∧ Below wq.heap.size wq w')) (HBA : Shut (∀ wq, Calls Try.prog 13 #[.agg B.toArray, .agg A.toArray] wq fun e w' => e = .returned (.bool true) ∧ Below wq.heap.size wq w')) (HAA : Shut (∀ wq, Calls Try.prog 13 #[.agg A.toArray, .agg A.toArray] wq fun e w' => e = .returned (.bool false) ∧ Below wq.heap.size wq w')) (RAB : Shut (∀ wq, Calls Try.prog 14 #[.agg A.toArray, .agg B.toArray] wq fun e w' => e = .returned (.bool false) ∧ Below wq.heap.size wq w')) (RBA : Shut (∀ wq, Calls Try.prog 14 #[.agg B.toArray, .agg A.toArray] wq fun e w' => e = .returned (.bool true) ∧ Below wq.heap.size wq w')) :
    Calls Try.prog 4 #[.agg A.toArray, .agg B.toArray] w fun e w' => e = .returned (.bool true) ∧ Below w.heap.size w w' := by
  go_enter Try.func4, Try.ntmps4
  go_wp2_with ((with_reducible refine at_list' ?_); first
    | (refine wpList_box_c rfl 2 rfl (.tmp 0) rfl A rfl ?_; intro w1 H1 B1 S1)
    | (refine wpList_box_c rfl 3 rfl (.tmp 1) rfl B rfl ?_; intro w2 H2 B2 S2; have X1 := H1.keep B2; have BB := shut (below_more B1 B2 (Nat.le_refl _)); have hd1 := shut X1; have hd2 := shut H2; clear H1 B1 B2 X1 H2 S1 S2))
  refine (awake_any w2).mono ?_
  rintro x w3 ⟨rfl, B3⟩
  have BC := shut (below_more BB.out B3 (Nat.le_refl _))
  have hd1 := shut (hd1.out.keep B3)
  have hd2 := shut (hd2.out.keep B3)
  clear B3 BB
  go_wp2
  refine wp_region_flowN 20 (fun _ => false) (fun i v wq => match i with
    | 0 => v = .agg (A).toArray
    | 1 => v = .agg (B).toArray
    | 2 => v = .bool false
    | 3 => v = .agg (A).toArray
    | 4 => v = .agg (B).toArray
    | 5 => v = .bool false
    | 6 => v = .bool false
    | 7 => v = .bool false
    | 8 => v = .agg (B).toArray
    | 9 => v = .agg (A).toArray
    | 10 => v = .bool true
    | 11 => v = .agg (B).toArray
    | 12 => v = .agg (A).toArray
    | 13 => v = .bool true
    | 14 => v = .bool false
    | 15 => v = .bool false
    | 16 => v = .bool false
    | 17 => v = .agg (A).toArray
    | 18 => v = .agg (A).toArray
    | _ => v = .bool false) (by kernel_rfl) (by kernel_rfl) ?_ ?_ ?_ ?_ ?_ ?_
  · intro i o g b hi ho hg v wq hv
    match i, hi with
    | 0, _ => cases ho; cases hg
    | 1, _ => cases ho; cases hg
    | 2, _ => cases ho; cases hg
    | 3, _ => cases ho; cases hg
    | 4, _ => cases ho; cases hg
    | 5, _ => cases ho; cases hg
    | 6, _ => cases ho; cases hg
    | 7, _ => cases ho; cases hg
    | 8, _ => cases ho; cases hg; exact (if_neg (by decide)).mpr hv
    | 9, _ => cases ho; cases hg; exact (if_neg (by decide)).mpr hv
    | 10, _ => cases ho; cases hg; exact (if_neg (by decide)).mpr hv
    | 11, _ => cases ho; cases hg; exact (if_neg (by decide)).mpr hv
    | 12, _ => cases ho; cases hg; exact (if_neg (by decide)).mpr hv
    | 13, _ => cases ho; cases hg; exact (if_neg (by decide)).mpr hv
    | 14, _ => cases ho; cases hg; exact (if_neg (by decide)).mpr hv
    | 15, _ => cases ho; cases hg
    | 16, _ => cases ho; cases hg
    | 17, _ => cases ho; cases hg; exact (if_neg (by decide)).mpr hv
    | 18, _ => cases ho; cases hg; exact (if_neg (by decide)).mpr hv
    | 19, _ => cases ho; cases hg; exact (if_neg (by decide)).mpr hv
    | (k + 20), hk => exact absurd hk (by omega)
  · intro i o hi ho hg
    match i, hi with
    | 0, _ => rfl
    | 1, _ => rfl
    | 2, _ => rfl
    | 3, _ => rfl
    | 4, _ => rfl
    | 5, _ => rfl
    | 6, _ => rfl
    | 7, _ => rfl
    | 8, _ => cases ho; cases hg
    | 9, _ => cases ho; cases hg
    | 10, _ => cases ho; cases hg
    | 11, _ => cases ho; cases hg
    | 12, _ => cases ho; cases hg
    | 13, _ => cases ho; cases hg
    | 14, _ => cases ho; cases hg
    | 15, _ => rfl
    | 16, _ => rfl
    | 17, _ => cases ho; cases hg
    | 18, _ => cases ho; cases hg
    | 19, _ => cases ho; cases hg
    | (k + 20), hk => exact absurd hk (by omega)
  · intro i wq hi hs
    match i, hi with
    | 0, _ => cases hs
    | 1, _ => cases hs
    | 2, _ => cases hs
    | 3, _ => cases hs
    | 4, _ => cases hs
    | 5, _ => cases hs
    | 6, _ => cases hs
    | 7, _ => cases hs
    | 8, _ => cases hs
    | 9, _ => cases hs
    | 10, _ => cases hs
    | 11, _ => cases hs
    | 12, _ => cases hs
    | 13, _ => cases hs
    | 14, _ => cases hs
    | 15, _ => cases hs
    | 16, _ => cases hs
    | 17, _ => cases hs
    | 18, _ => cases hs
    | 19, _ => cases hs
    | (k + 20), hk => exact absurd hk (by omega)
  · intro i v wq wq' hi hv hb
    match i, hi with
    | 0, _ => exact hv
    | 1, _ => exact hv
    | 2, _ => exact hv
    | 3, _ => exact hv
    | 4, _ => exact hv
    | 5, _ => exact hv
    | 6, _ => exact hv
    | 7, _ => exact hv
    | 8, _ => exact hv
    | 9, _ => exact hv
    | 10, _ => exact hv
    | 11, _ => exact hv
    | 12, _ => exact hv
    | 13, _ => exact hv
    | 14, _ => exact hv
    | 15, _ => exact hv
    | 16, _ => exact hv
    | 17, _ => exact hv
    | 18, _ => exact hv
    | 19, _ => exact hv
    | (k + 20), hk => exact absurd hk (by omega)
  · intro i o hi ho hs aq wq hc hk hdep
    match i, hi with
    | 0, _ =>
      cases ho
      have e2_1 : aq.eval (.tmp 2) = .pointer (some ⟨w.heap.size, 0, none⟩) := hk 2 (by decide)
      exact flow_value _ (run_mid 50 (.tmp 2) rfl w.heap.size 0 e2_1 (A) ((HasC.keep (hd1.out) hc.bel).range 0 _ (fun j v hv => by rw [Nat.zero_add]; exact hv)) _ Try.underlying50 rfl (by rw [hlA.out]; exact Try.tyVote.size)) rfl
    | 1, _ =>
      cases ho
      have e3_2 : aq.eval (.tmp 3) = .pointer (some ⟨w1.heap.size, 0, none⟩) := hk 3 (by decide)
      exact flow_value _ (run_mid 50 (.tmp 3) rfl w1.heap.size 0 e3_2 (B) ((HasC.keep (hd2.out) hc.bel).range 0 _ (fun j v hv => by rw [Nat.zero_add]; exact hv)) _ Try.underlying50 rfl (by rw [hlB.out]; exact Try.tyVote.size)) rfl
    | 2, _ =>
      cases ho
      have e7_3 : aq.eval (.tmp 7) = .agg (A).toArray := hdep 0 7 rfl (by kernel_rfl)
      have e8_4 : aq.eval (.tmp 8) = .agg (B).toArray := hdep 1 8 rfl (by kernel_rfl)
      refine flow_fun 13 _ _ rfl (fun _ _ => by simp [go_sem]) #[.agg (A).toArray, .agg (B).toArray] (by simp only [List.map_toArray, List.map_cons, List.map_nil, e7_3, e8_4]) ?_
      refine ((HAB).out wq).mono ?_
      rintro e w' ⟨rfl, B⟩
      exact ⟨_, rfl, rfl, B⟩
    | 3, _ =>
      cases ho
      have e2_5 : aq.eval (.tmp 2) = .pointer (some ⟨w.heap.size, 0, none⟩) := hk 2 (by decide)
      exact flow_value _ (run_mid 50 (.tmp 2) rfl w.heap.size 0 e2_5 (A) ((HasC.keep (hd1.out) hc.bel).range 0 _ (fun j v hv => by rw [Nat.zero_add]; exact hv)) _ Try.underlying50 rfl (by rw [hlA.out]; exact Try.tyVote.size)) rfl
    | 4, _ =>
      cases ho
      have e3_6 : aq.eval (.tmp 3) = .pointer (some ⟨w1.heap.size, 0, none⟩) := hk 3 (by decide)
      exact flow_value _ (run_mid 50 (.tmp 3) rfl w1.heap.size 0 e3_6 (B) ((HasC.keep (hd2.out) hc.bel).range 0 _ (fun j v hv => by rw [Nat.zero_add]; exact hv)) _ Try.underlying50 rfl (by rw [hlB.out]; exact Try.tyVote.size)) rfl
    | 5, _ =>
      cases ho
      have e10_7 : aq.eval (.tmp 10) = .agg (A).toArray := hdep 3 10 rfl (by kernel_rfl)
      have e11_8 : aq.eval (.tmp 11) = .agg (B).toArray := hdep 4 11 rfl (by kernel_rfl)
      refine flow_fun 14 _ _ rfl (fun _ _ => by simp [go_sem]) #[.agg (A).toArray, .agg (B).toArray] (by simp only [List.map_toArray, List.map_cons, List.map_nil, e10_7, e11_8]) ?_
      refine ((RAB).out wq).mono ?_
      rintro e w' ⟨rfl, B⟩
      exact ⟨_, rfl, rfl, B⟩
    | 6, _ =>
      cases ho
      have e9_9 : aq.eval (.tmp 9) = .bool false := hdep 2 9 rfl (by kernel_rfl)
      have e12_10 : aq.eval (.tmp 12) = .bool false := hdep 5 12 rfl (by kernel_rfl)
      exact flow_value _ (run_neB (.tmp 9) (.tmp 12) rfl false false e9_9 e12_10) rfl
    | 7, _ =>
      cases ho
      have e13_11 : aq.eval (.tmp 13) = .bool false := hdep 6 13 rfl (by kernel_rfl)
      exact flow_move (.tmp 13) rfl e13_11
    | 8, _ =>
      cases ho
      have e3_12 : aq.eval (.tmp 3) = .pointer (some ⟨w1.heap.size, 0, none⟩) := hk 3 (by decide)
      exact flow_value _ (run_mid 50 (.tmp 3) rfl w1.heap.size 0 e3_12 (B) ((HasC.keep (hd2.out) hc.bel).range 0 _ (fun j v hv => by rw [Nat.zero_add]; exact hv)) _ Try.underlying50 rfl (by rw [hlB.out]; exact Try.tyVote.size)) rfl
    | 9, _ =>
      cases ho
      have e2_13 : aq.eval (.tmp 2) = .pointer (some ⟨w.heap.size, 0, none⟩) := hk 2 (by decide)
      exact flow_value _ (run_mid 50 (.tmp 2) rfl w.heap.size 0 e2_13 (A) ((HasC.keep (hd1.out) hc.bel).range 0 _ (fun j v hv => by rw [Nat.zero_add]; exact hv)) _ Try.underlying50 rfl (by rw [hlA.out]; exact Try.tyVote.size)) rfl
    | 10, _ =>
      cases ho
      have e15_14 : aq.eval (.tmp 15) = .agg (B).toArray := hdep 8 15 rfl (by kernel_rfl)
      have e16_15 : aq.eval (.tmp 16) = .agg (A).toArray := hdep 9 16 rfl (by kernel_rfl)
      refine flow_fun 13 _ _ rfl (fun _ _ => by simp [go_sem]) #[.agg (B).toArray, .agg (A).toArray] (by simp only [List.map_toArray, List.map_cons, List.map_nil, e15_14, e16_15]) ?_
      refine ((HBA).out wq).mono ?_
      rintro e w' ⟨rfl, B⟩
      exact ⟨_, rfl, rfl, B⟩
    | 11, _ =>
      cases ho
      have e3_16 : aq.eval (.tmp 3) = .pointer (some ⟨w1.heap.size, 0, none⟩) := hk 3 (by decide)
      exact flow_value _ (run_mid 50 (.tmp 3) rfl w1.heap.size 0 e3_16 (B) ((HasC.keep (hd2.out) hc.bel).range 0 _ (fun j v hv => by rw [Nat.zero_add]; exact hv)) _ Try.underlying50 rfl (by rw [hlB.out]; exact Try.tyVote.size)) rfl
    | 12, _ =>
      cases ho
      have e2_17 : aq.eval (.tmp 2) = .pointer (some ⟨w.heap.size, 0, none⟩) := hk 2 (by decide)
      exact flow_value _ (run_mid 50 (.tmp 2) rfl w.heap.size 0 e2_17 (A) ((HasC.keep (hd1.out) hc.bel).range 0 _ (fun j v hv => by rw [Nat.zero_add]; exact hv)) _ Try.underlying50 rfl (by rw [hlA.out]; exact Try.tyVote.size)) rfl
    | 13, _ =>
      cases ho
      have e18_18 : aq.eval (.tmp 18) = .agg (B).toArray := hdep 11 18 rfl (by kernel_rfl)
      have e19_19 : aq.eval (.tmp 19) = .agg (A).toArray := hdep 12 19 rfl (by kernel_rfl)
      refine flow_fun 14 _ _ rfl (fun _ _ => by simp [go_sem]) #[.agg (B).toArray, .agg (A).toArray] (by simp only [List.map_toArray, List.map_cons, List.map_nil, e18_18, e19_19]) ?_
      refine ((RBA).out wq).mono ?_
      rintro e w' ⟨rfl, B⟩
      exact ⟨_, rfl, rfl, B⟩
    | 14, _ =>
      cases ho
      have e17_20 : aq.eval (.tmp 17) = .bool true := hdep 10 17 rfl (by kernel_rfl)
      have e20_21 : aq.eval (.tmp 20) = .bool true := hdep 13 20 rfl (by kernel_rfl)
      exact flow_value _ (run_neB (.tmp 17) (.tmp 20) rfl true true e17_20 e20_21) rfl
    | 15, _ =>
      cases ho
      have e14_22 : aq.eval (.tmp 14) = .bool false := hdep 7 14 rfl (by kernel_rfl)
      have e21_23 : aq.eval (.tmp 21) = .bool false := hdep 14 21 rfl (by kernel_rfl)
      exact flow_value _ (run_pick0 (.tmp 14) (.const (.bool true)) (.tmp 21) rfl _ e14_22 e21_23) rfl
    | 16, _ =>
      cases ho
      have e22_24 : aq.eval (.tmp 22) = .bool false := hdep 15 22 rfl (by kernel_rfl)
      exact flow_move (.tmp 22) rfl e22_24
    | 17, _ =>
      cases ho
      have e2_25 : aq.eval (.tmp 2) = .pointer (some ⟨w.heap.size, 0, none⟩) := hk 2 (by decide)
      exact flow_value _ (run_mid 50 (.tmp 2) rfl w.heap.size 0 e2_25 (A) ((HasC.keep (hd1.out) hc.bel).range 0 _ (fun j v hv => by rw [Nat.zero_add]; exact hv)) _ Try.underlying50 rfl (by rw [hlA.out]; exact Try.tyVote.size)) rfl
    | 18, _ =>
      cases ho
      have e2_26 : aq.eval (.tmp 2) = .pointer (some ⟨w.heap.size, 0, none⟩) := hk 2 (by decide)
      exact flow_value _ (run_mid 50 (.tmp 2) rfl w.heap.size 0 e2_26 (A) ((HasC.keep (hd1.out) hc.bel).range 0 _ (fun j v hv => by rw [Nat.zero_add]; exact hv)) _ Try.underlying50 rfl (by rw [hlA.out]; exact Try.tyVote.size)) rfl
    | 19, _ =>
      cases ho
      have e24_27 : aq.eval (.tmp 24) = .agg (A).toArray := hdep 17 24 rfl (by kernel_rfl)
      have e25_28 : aq.eval (.tmp 25) = .agg (A).toArray := hdep 18 25 rfl (by kernel_rfl)
      refine flow_fun 13 _ _ rfl (fun _ _ => by simp [go_sem]) #[.agg (A).toArray, .agg (A).toArray] (by simp only [List.map_toArray, List.map_cons, List.map_nil, e24_27, e25_28]) ?_
      refine ((HAA).out wq).mono ?_
      rintro e w' ⟨rfl, B⟩
      exact ⟨_, rfl, rfl, B⟩
    | (k + 20), hk => exact absurd hk (by omega)
  intro vf wv hc hv
  have f23 : vf 16 = .bool false := hv 16 23 (by decide) rfl
  have f26 : vf 19 = .bool false := hv 19 26 (by decide) rfl
  clear hv
  simp only [List.take_succ_cons, List.take_zero, List.drop_succ_cons, List.drop_zero, putAll, Act.put, List.setIfInBounds_toArray, List.set_cons_succ, List.set_cons_zero]
  rw [f23, f26]
  clear f23 f26
  have hd1 := shut (hd1.out.keep hc.bel)
  have hd2 := shut (hd2.out.keep hc.bel)
  have BC := shut (below_more BC.out hc.bel (Nat.le_refl _))
  clear hc
  go_wp2
  refine wp_region_flowN 25 (fun j => decide (j ∈ [8, 9, 10, 11, 12, 13, 14, 15, 16, 17, 18, 19, 20, 21, 22, 23])) (fun i v wq => match i with
    | 0 => v = .pointer (some ⟨w.heap.size, 67, none⟩)
    | 1 => v = .pointer (some ⟨w.heap.size, 67, none⟩)
    | 2 => v = .int .u64 ((et : Nat) : Int)
    | 3 => v = .pointer (some ⟨w1.heap.size, 67, none⟩)
    | 4 => v = .pointer (some ⟨w1.heap.size, 67, none⟩)
    | 5 => v = .int .u64 ((et' : Nat) : Int)
    | 6 => v = .bool true
    | 7 => v = .bool true
    | 8 => v = undef
    | 9 => v = undef
    | 10 => v = undef
    | 11 => v = undef
    | 12 => v = undef
    | 13 => v = undef
    | 14 => v = undef
    | 15 => v = undef
    | 16 => v = undef
    | 17 => v = undef
    | 18 => v = undef
    | 19 => v = undef
    | 20 => v = undef
    | 21 => v = undef
    | 22 => v = undef
    | 23 => v = undef
    | _ => v = .bool true) (by kernel_rfl) (by kernel_rfl) ?_ ?_ ?_ ?_ ?_ ?_
  · intro i o g b hi ho hg v wq hv
    match i, hi with
    | 0, _ => cases ho; cases hg
    | 1, _ => cases ho; cases hg
    | 2, _ => cases ho; cases hg
    | 3, _ => cases ho; cases hg
    | 4, _ => cases ho; cases hg
    | 5, _ => cases ho; cases hg
    | 6, _ => cases ho; cases hg
    | 7, _ => cases ho; cases hg
    | 8, _ => cases ho; cases hg; have hv' : v = _ := hv; rw [hv']; exact (if_pos (by decide)).mpr (fun h => by cases h)
    | 9, _ => cases ho; cases hg; have hv' : v = _ := hv; rw [hv']; exact (if_pos (by decide)).mpr (fun h => by cases h)
    | 10, _ => cases ho; cases hg; have hv' : v = _ := hv; rw [hv']; exact (if_pos (by decide)).mpr (fun h => by cases h)
    | 11, _ => cases ho; cases hg; have hv' : v = _ := hv; rw [hv']; exact (if_pos (by decide)).mpr (fun h => by cases h)
    | 12, _ => cases ho; cases hg; have hv' : v = _ := hv; rw [hv']; exact (if_pos (by decide)).mpr (fun h => by cases h)
    | 13, _ => cases ho; cases hg; have hv' : v = _ := hv; rw [hv']; exact (if_pos (by decide)).mpr (fun h => by cases h)
    | 14, _ => cases ho; cases hg; have hv' : v = _ := hv; rw [hv']; exact (if_pos (by decide)).mpr (fun h => by cases h)
    | 15, _ => cases ho; cases hg; have hv' : v = _ := hv; rw [hv']; exact (if_pos (by decide)).mpr (fun h => by cases h)
    | 16, _ => cases ho; cases hg; have hv' : v = undef := hv; rw [hv']; exact (if_pos (by decide)).mpr (fun h => by cases h)
    | 17, _ => cases ho; cases hg; have hv' : v = undef := hv; rw [hv']; exact (if_pos (by decide)).mpr (fun h => by cases h)
    | 18, _ => cases ho; cases hg; have hv' : v = undef := hv; rw [hv']; exact (if_pos (by decide)).mpr (fun h => by cases h)
    | 19, _ => cases ho; cases hg; have hv' : v = undef := hv; rw [hv']; exact (if_pos (by decide)).mpr (fun h => by cases h)
    | 20, _ => cases ho; cases hg; have hv' : v = undef := hv; rw [hv']; exact (if_pos (by decide)).mpr (fun h => by cases h)
    | 21, _ => cases ho; cases hg; have hv' : v = undef := hv; rw [hv']; exact (if_pos (by decide)).mpr (fun h => by cases h)
    | 22, _ => cases ho; cases hg; have hv' : v = undef := hv; rw [hv']; exact (if_pos (by decide)).mpr (fun h => by cases h)
    | 23, _ => cases ho; cases hg; have hv' : v = _ := hv; rw [hv']; exact (if_pos (by decide)).mpr (fun h => by cases h)
    | 24, _ => cases ho; cases hg
    | (k + 25), hk => exact absurd hk (by omega)
  · intro i o hi ho hg
    match i, hi with
    | 0, _ => rfl
    | 1, _ => rfl
    | 2, _ => rfl
    | 3, _ => rfl
    | 4, _ => rfl
    | 5, _ => rfl
    | 6, _ => rfl
    | 7, _ => rfl
    | 8, _ => cases ho; cases hg
    | 9, _ => cases ho; cases hg
    | 10, _ => cases ho; cases hg
    | 11, _ => cases ho; cases hg
    | 12, _ => cases ho; cases hg
    | 13, _ => cases ho; cases hg
    | 14, _ => cases ho; cases hg
    | 15, _ => cases ho; cases hg
    | 16, _ => cases ho; cases hg
    | 17, _ => cases ho; cases hg
    | 18, _ => cases ho; cases hg
    | 19, _ => cases ho; cases hg
    | 20, _ => cases ho; cases hg
    | 21, _ => cases ho; cases hg
    | 22, _ => cases ho; cases hg
    | 23, _ => cases ho; cases hg
    | 24, _ => rfl
    | (k + 25), hk => exact absurd hk (by omega)
  · intro i wq hi hs
    match i, hi with
    | 0, _ => cases hs
    | 1, _ => cases hs
    | 2, _ => cases hs
    | 3, _ => cases hs
    | 4, _ => cases hs
    | 5, _ => cases hs
    | 6, _ => cases hs
    | 7, _ => cases hs
    | 8, _ => rfl
    | 9, _ => rfl
    | 10, _ => rfl
    | 11, _ => rfl
    | 12, _ => rfl
    | 13, _ => rfl
    | 14, _ => rfl
    | 15, _ => rfl
    | 16, _ => rfl
    | 17, _ => rfl
    | 18, _ => rfl
    | 19, _ => rfl
    | 20, _ => rfl
    | 21, _ => rfl
    | 22, _ => rfl
    | 23, _ => rfl
    | 24, _ => cases hs
    | (k + 25), hk => exact absurd hk (by omega)
  · intro i v wq wq' hi hv hb
    match i, hi with
    | 0, _ => exact hv
    | 1, _ => exact hv
    | 2, _ => exact hv
    | 3, _ => exact hv
    | 4, _ => exact hv
    | 5, _ => exact hv
    | 6, _ => exact hv
    | 7, _ => exact hv
    | 8, _ => exact hv
    | 9, _ => exact hv
    | 10, _ => exact hv
    | 11, _ => exact hv
    | 12, _ => exact hv
    | 13, _ => exact hv
    | 14, _ => exact hv
    | 15, _ => exact hv
    | 16, _ => exact hv
    | 17, _ => exact hv
    | 18, _ => exact hv
    | 19, _ => exact hv
    | 20, _ => exact hv
    | 21, _ => exact hv
    | 22, _ => exact hv
    | 23, _ => exact hv
    | 24, _ => exact hv
    | (k + 25), hk => exact absurd hk (by omega)
  · intro i o hi ho hs aq wq hc hk hdep
    match i, hi with
    | 0, _ =>
      cases ho
      have e2_1 : aq.eval (.tmp 2) = .pointer (some ⟨w.heap.size, 0, none⟩) := hk 2 (by decide)
      exact flow_value _ (run_fieldAt 50 (.tmp 2) 4 rfl _ _ e2_1 (by kernel_rfl)) rfl
    | 1, _ =>
      cases ho
      have e28_2 : aq.eval (.tmp 28) = .pointer (some ⟨w.heap.size, 67, none⟩) := hdep 0 28 rfl (by kernel_rfl)
      exact flow_value _ (run_fieldAt 41 (.tmp 28) 0 rfl _ _ e28_2 (by kernel_rfl)) rfl
    | 2, _ =>
      cases ho
      have e29_3 : aq.eval (.tmp 29) = .pointer (some ⟨w.heap.size, 67, none⟩) := hdep 1 29 rfl (by kernel_rfl)
      exact flow_value _ (run_cell 22 (.tmp 29) rfl _ e29_3 _ ((HasC.keep (hd1.out) hc.bel).cell (j := 67) hA.out.2) _ Try.underlying22 rfl) rfl
    | 3, _ =>
      cases ho
      have e3_4 : aq.eval (.tmp 3) = .pointer (some ⟨w1.heap.size, 0, none⟩) := hk 3 (by decide)
      exact flow_value _ (run_fieldAt 50 (.tmp 3) 4 rfl _ _ e3_4 (by kernel_rfl)) rfl
    | 4, _ =>
      cases ho
      have e31_5 : aq.eval (.tmp 31) = .pointer (some ⟨w1.heap.size, 67, none⟩) := hdep 3 31 rfl (by kernel_rfl)
      exact flow_value _ (run_fieldAt 41 (.tmp 31) 0 rfl _ _ e31_5 (by kernel_rfl)) rfl
    | 5, _ =>
      cases ho
      have e32_6 : aq.eval (.tmp 32) = .pointer (some ⟨w1.heap.size, 67, none⟩) := hdep 4 32 rfl (by kernel_rfl)
      exact flow_value _ (run_cell 22 (.tmp 32) rfl _ e32_6 _ ((HasC.keep (hd2.out) hc.bel).cell (j := 67) hB.out.2) _ Try.underlying22 rfl) rfl
    | 6, _ =>
      cases ho
      have e30_7 : aq.eval (.tmp 30) = .int .u64 ((et : Nat) : Int) := hdep 2 30 rfl (by kernel_rfl)
      have e33_8 : aq.eval (.tmp 33) = .int .u64 ((et' : Nat) : Int) := hdep 5 33 rfl (by kernel_rfl)
      exact flow_value _ (run_neH (.tmp 30) (.tmp 33) rfl (et) (et') true (by rw [hT]; rfl) e30_7 e33_8) rfl
    | 7, _ =>
      cases ho
      have e34_9 : aq.eval (.tmp 34) = .bool true := hdep 6 34 rfl (by kernel_rfl)
      exact flow_move (.tmp 34) rfl e34_9
    | 8, _ => cases hs
    | 9, _ => cases hs
    | 10, _ => cases hs
    | 11, _ => cases hs
    | 12, _ => cases hs
    | 13, _ => cases hs
    | 14, _ => cases hs
    | 15, _ => cases hs
    | 16, _ => cases hs
    | 17, _ => cases hs
    | 18, _ => cases hs
    | 19, _ => cases hs
    | 20, _ => cases hs
    | 21, _ => cases hs
    | 22, _ => cases hs
    | 23, _ => cases hs
    | 24, _ =>
      cases ho
      have e35_10 : aq.eval (.tmp 35) = .bool true := hdep 7 35 rfl (by kernel_rfl)
      exact flow_value _ (run_pick1 (.tmp 35) (.const (.bool true)) (.tmp 51) rfl _ e35_10 rfl) rfl
    | (k + 25), hk => exact absurd hk (by omega)
  intro vf wv hc hv
  have f52 : vf 24 = .bool true := hv 24 52 (by decide) rfl
  clear hv
  simp only [List.take_succ_cons, List.take_zero, List.drop_succ_cons, List.drop_zero, putAll, Act.put, List.setIfInBounds_toArray, List.set_cons_succ, List.set_cons_zero]
  rw [f52]
  clear f52
  have BC := shut (below_more BC.out hc.bel (Nat.le_refl _))
  clear hc
  go_wp2
  go_ret
  exact ⟨rfl, BC.out⟩
set_option maxHeartbeats 4000000 in
theorem slashW_4 (A B : List Value) (es et es' et' : Nat) (w : World)
    (hlA : Shut (A.length = (vtX 0 0 (zeros 32) 0 (zeros 32) 0 (zeros 32)).length)) (hlB : Shut (B.length = (vtX 0 0 (zeros 32) 0 (zeros 32) 0 (zeros 32)).length))
    (hA : Shut (A[34]? = some (.int .u64 (es : Nat)) ∧ A[67]? = some (.int .u64 (et : Nat)))) (hB : Shut (B[34]? = some (.int .u64 (es' : Nat)) ∧ B[67]? = some (.int .u64 (et' : Nat))))
    (hNAB : Shut (∀ (o : Oper) (a : Act) (w : World) (x y : Operand), o.op = .binOp .neq 50 x y 50 → a.eval x = .agg A.toArray → a.eval y = .agg B.toArray → (execOp a.eval o).run Try.prog w = .ok (.value (.bool true)) w)) (hNBA : Shut (∀ (o : Oper) (a : Act) (w : World) (x y : Operand), o.op = .binOp .neq 50 x y 50 → a.eval x = .agg B.toArray → a.eval y = .agg A.toArray → (execOp a.eval o).run Try.prog w = .ok (.value (.bool true)) w)) (hT : decide (et = et') = false)
    (HAB : Shut (∀ wq, Calls Try.prog 13 #[.agg A.toArray, .agg B.toArray] wq fun e w' => e = .returned (.bool true) ∧ Below wq.heap.size wq w')) (HBA : Shut (∀ wq, Calls Try.prog 13 #[.agg B.toArray, .agg A.toArray] wq fun e w' => e = .returned (.bool false) ∧ Below wq.heap.size wq w')) (HAA : Shut (∀ wq, Calls Try.prog 13 #[.agg A.toArray, .agg A.toArray] wq fun e w' => e = .returned (.bool false) ∧ Below wq.heap.size wq w')) (RAB : Shut (∀ wq, Calls Try.prog 14 #[.agg A.toArray, .agg B.toArray] wq fun e w' => e = .returned (.bool true) ∧ Below wq.heap.size wq w')) (RBA : Shut (∀ wq, Calls Try.prog 14 #[.agg B.toArray, .agg A.toArray] wq fun e w' => e = .returned (.bool false) ∧ Below wq.heap.size wq w')) :
    Calls Try.prog 4 #[.agg A.toArray, .agg B.toArray] w fun e w' => e = .returned (.bool true) ∧ Below w.heap.size w w' := by
  go_enter Try.func4, Try.ntmps4
  go_wp2_with ((with_reducible refine at_list' ?_); first
    | (refine wpList_box_c rfl 2 rfl (.tmp 0) rfl A rfl ?_; intro w1 H1 B1 S1)
    | (refine wpList_box_c rfl 3 rfl (.tmp 1) rfl B rfl ?_; intro w2 H2 B2 S2; have X1 := H1.keep B2; have BB := shut (below_more B1 B2 (Nat.le_refl _)); have hd1 := shut X1; have hd2 := shut H2; clear H1 B1 B2 X1 H2 S1 S2))
  refine (awake_any w2).mono ?_
  rintro x w3 ⟨rfl, B3⟩
  have BC := shut (below_more BB.out B3 (Nat.le_refl _))
  have hd1 := shut (hd1.out.keep B3)
  have hd2 := shut (hd2.out.keep B3)
  clear B3 BB
  go_wp2
  refine wp_region_flowN 20 (fun _ => false) (fun i v wq => match i with
    | 0 => v = .agg (A).toArray
    | 1 => v = .agg (B).toArray
    | 2 => v = .bool true
    | 3 => v = .agg (A).toArray
    | 4 => v = .agg (B).toArray
    | 5 => v = .bool true
    | 6 => v = .bool false
    | 7 => v = .bool false
    | 8 => v = .agg (B).toArray
    | 9 => v = .agg (A).toArray
    | 10 => v = .bool false
    | 11 => v = .agg (B).toArray
    | 12 => v = .agg (A).toArray
    | 13 => v = .bool false
    | 14 => v = .bool false
    | 15 => v = .bool false
    | 16 => v = .bool false
    | 17 => v = .agg (A).toArray
    | 18 => v = .agg (A).toArray
    | _ => v = .bool false) (by kernel_rfl) (by kernel_rfl) ?_ ?_ ?_ ?_ ?_ ?_
  · intro i o g b hi ho hg v wq hv
    match i, hi with
    | 0, _ => cases ho; cases hg
    | 1, _ => cases ho; cases hg
    | 2, _ => cases ho; cases hg
    | 3, _ => cases ho; cases hg
    | 4, _ => cases ho; cases hg
    | 5, _ => cases ho; cases hg
    | 6, _ => cases ho; cases hg
    | 7, _ => cases ho; cases hg
    | 8, _ => cases ho; cases hg; exact (if_neg (by decide)).mpr hv
    | 9, _ => cases ho; cases hg; exact (if_neg (by decide)).mpr hv
    | 10, _ => cases ho; cases hg; exact (if_neg (by decide)).mpr hv
    | 11, _ => cases ho; cases hg; exact (if_neg (by decide)).mpr hv
    | 12, _ => cases ho; cases hg; exact (if_neg (by decide)).mpr hv
    | 13, _ => cases ho; cases hg; exact (if_neg (by decide)).mpr hv
    | 14, _ => cases ho; cases hg; exact (if_neg (by decide)).mpr hv
    | 15, _ => cases ho; cases hg
    | 16, _ => cases ho; cases hg
    | 17, _ => cases ho; cases hg; exact (if_neg (by decide)).mpr hv
    | 18, _ => cases ho; cases hg; exact (if_neg (by decide)).mpr hv
    | 19, _ => cases ho; cases hg; exact (if_neg (by decide)).mpr hv
    | (k + 20), hk => exact absurd hk (by omega)
  · intro i o hi ho hg
    match i, hi with
    | 0, _ => rfl
    | 1, _ => rfl
    | 2, _ => rfl
    | 3, _ => rfl
    | 4, _ => rfl
    | 5, _ => rfl
    | 6, _ => rfl
    | 7, _ => rfl
    | 8, _ => cases ho; cases hg
    | 9, _ => cases ho; cases hg
    | 10, _ => cases ho; cases hg
    | 11, _ => cases ho; cases hg
    | 12, _ => cases ho; cases hg
    | 13, _ => cases ho; cases hg
    | 14, _ => cases ho; cases hg
    | 15, _ => rfl
    | 16, _ => rfl
    | 17, _ => cases ho; cases hg
    | 18, _ => cases ho; cases hg
    | 19, _ => cases ho; cases hg
    | (k + 20), hk => exact absurd hk (by omega)
  · intro i wq hi hs
    match i, hi with
    | 0, _ => cases hs
    | 1, _ => cases hs
    | 2, _ => cases hs
    | 3, _ => cases hs
    | 4, _ => cases hs
    | 5, _ => cases hs
    | 6, _ => cases hs
    | 7, _ => cases hs
    | 8, _ => cases hs
    | 9, _ => cases hs
    | 10, _ => cases hs
    | 11, _ => cases hs
    | 12, _ => cases hs
    | 13, _ => cases hs
    | 14, _ => cases hs
    | 15, _ => cases hs
    | 16, _ => cases hs
    | 17, _ => cases hs
    | 18, _ => cases hs
    | 19, _ => cases hs
    | (k + 20), hk => exact absurd hk (by omega)
  · intro i v wq wq' hi hv hb
    match i, hi with
    | 0, _ => exact hv
    | 1, _ => exact hv
    | 2, _ => exact hv
    | 3, _ => exact hv
    | 4, _ => exact hv
    | 5, _ => exact hv
    | 6, _ => exact hv
    | 7, _ => exact hv
    | 8, _ => exact hv
    | 9, _ => exact hv
    | 10, _ => exact hv
    | 11, _ => exact hv
    | 12, _ => exact hv
    | 13, _ => exact hv
    | 14, _ => exact hv
    | 15, _ => exact hv
    | 16, _ => exact hv
    | 17, _ => exact hv
    | 18, _ => exact hv
    | 19, _ => exact hv
    | (k + 20), hk => exact absurd hk (by omega)
  · intro i o hi ho hs aq wq hc hk hdep
    match i, hi with
    | 0, _ =>
      cases ho
      have e2_1 : aq.eval (.tmp 2) = .pointer (some ⟨w.heap.size, 0, none⟩) := hk 2 (by decide)
      exact flow_value _ (run_mid 50 (.tmp 2) rfl w.heap.size 0 e2_1 (A) ((HasC.keep (hd1.out) hc.bel).range 0 _ (fun j v hv => by rw [Nat.zero_add]; exact hv)) _ Try.underlying50 rfl (by rw [hlA.out]; exact Try.tyVote.size)) rfl
    | 1, _ =>
      cases ho
      have e3_2 : aq.eval (.tmp 3) = .pointer (some ⟨w1.heap.size, 0, none⟩) := hk 3 (by decide)
      exact flow_value _ (run_mid 50 (.tmp 3) rfl w1.heap.size 0 e3_2 (B) ((HasC.keep (hd2.out) hc.bel).range 0 _ (fun j v hv => by rw [Nat.zero_add]; exact hv)) _ Try.underlying50 rfl (by rw [hlB.out]; exact Try.tyVote.size)) rfl
    | 2, _ =>
      cases ho
      have e7_3 : aq.eval (.tmp 7) = .agg (A).toArray := hdep 0 7 rfl (by kernel_rfl)
      have e8_4 : aq.eval (.tmp 8) = .agg (B).toArray := hdep 1 8 rfl (by kernel_rfl)
      refine flow_fun 13 _ _ rfl (fun _ _ => by simp [go_sem]) #[.agg (A).toArray, .agg (B).toArray] (by simp only [List.map_toArray, List.map_cons, List.map_nil, e7_3, e8_4]) ?_
      refine ((HAB).out wq).mono ?_
      rintro e w' ⟨rfl, B⟩
      exact ⟨_, rfl, rfl, B⟩
    | 3, _ =>
      cases ho
      have e2_5 : aq.eval (.tmp 2) = .pointer (some ⟨w.heap.size, 0, none⟩) := hk 2 (by decide)
      exact flow_value _ (run_mid 50 (.tmp 2) rfl w.heap.size 0 e2_5 (A) ((HasC.keep (hd1.out) hc.bel).range 0 _ (fun j v hv => by rw [Nat.zero_add]; exact hv)) _ Try.underlying50 rfl (by rw [hlA.out]; exact Try.tyVote.size)) rfl
    | 4, _ =>
      cases ho
      have e3_6 : aq.eval (.tmp 3) = .pointer (some ⟨w1.heap.size, 0, none⟩) := hk 3 (by decide)
      exact flow_value _ (run_mid 50 (.tmp 3) rfl w1.heap.size 0 e3_6 (B) ((HasC.keep (hd2.out) hc.bel).range 0 _ (fun j v hv => by rw [Nat.zero_add]; exact hv)) _ Try.underlying50 rfl (by rw [hlB.out]; exact Try.tyVote.size)) rfl
    | 5, _ =>
      cases ho
      have e10_7 : aq.eval (.tmp 10) = .agg (A).toArray := hdep 3 10 rfl (by kernel_rfl)
      have e11_8 : aq.eval (.tmp 11) = .agg (B).toArray := hdep 4 11 rfl (by kernel_rfl)
      refine flow_fun 14 _ _ rfl (fun _ _ => by simp [go_sem]) #[.agg (A).toArray, .agg (B).toArray] (by simp only [List.map_toArray, List.map_cons, List.map_nil, e10_7, e11_8]) ?_
      refine ((RAB).out wq).mono ?_
      rintro e w' ⟨rfl, B⟩
      exact ⟨_, rfl, rfl, B⟩
    | 6, _ =>
      cases ho
      have e9_9 : aq.eval (.tmp 9) = .bool true := hdep 2 9 rfl (by kernel_rfl)
      have e12_10 : aq.eval (.tmp 12) = .bool true := hdep 5 12 rfl (by kernel_rfl)
      exact flow_value _ (run_neB (.tmp 9) (.tmp 12) rfl true true e9_9 e12_10) rfl
    | 7, _ =>
      cases ho
      have e13_11 : aq.eval (.tmp 13) = .bool false := hdep 6 13 rfl (by kernel_rfl)
      exact flow_move (.tmp 13) rfl e13_11
    | 8, _ =>
      cases ho
      have e3_12 : aq.eval (.tmp 3) = .pointer (some ⟨w1.heap.size, 0, none⟩) := hk 3 (by decide)
      exact flow_value _ (run_mid 50 (.tmp 3) rfl w1.heap.size 0 e3_12 (B) ((HasC.keep (hd2.out) hc.bel).range 0 _ (fun j v hv => by rw [Nat.zero_add]; exact hv)) _ Try.underlying50 rfl (by rw [hlB.out]; exact Try.tyVote.size)) rfl
    | 9, _ =>
      cases ho
      have e2_13 : aq.eval (.tmp 2) = .pointer (some ⟨w.heap.size, 0, none⟩) := hk 2 (by decide)
      exact flow_value _ (run_mid 50 (.tmp 2) rfl w.heap.size 0 e2_13 (A) ((HasC.keep (hd1.out) hc.bel).range 0 _ (fun j v hv => by rw [Nat.zero_add]; exact hv)) _ Try.underlying50 rfl (by rw [hlA.out]; exact Try.tyVote.size)) rfl
    | 10, _ =>
      cases ho
      have e15_14 : aq.eval (.tmp 15) = .agg (B).toArray := hdep 8 15 rfl (by kernel_rfl)
      have e16_15 : aq.eval (.tmp 16) = .agg (A).toArray := hdep 9 16 rfl (by kernel_rfl)
      refine flow_fun 13 _ _ rfl (fun _ _ => by simp [go_sem]) #[.agg (B).toArray, .agg (A).toArray] (by simp only [List.map_toArray, List.map_cons, List.map_nil, e15_14, e16_15]) ?_
      refine ((HBA).out wq).mono ?_
      rintro e w' ⟨rfl, B⟩
      exact ⟨_, rfl, rfl, B⟩
    | 11, _ =>
      cases ho
      have e3_16 : aq.eval (.tmp 3) = .pointer (some ⟨w1.heap.size, 0, none⟩) := hk 3 (by decide)
      exact flow_value _ (run_mid 50 (.tmp 3) rfl w1.heap.size 0 e3_16 (B) ((HasC.keep (hd2.out) hc.bel).range 0 _ (fun j v hv => by rw [Nat.zero_add]; exact hv)) _ Try.underlying50 rfl (by rw [hlB.out]; exact Try.tyVote.size)) rfl
    | 12, _ =>
      cases ho
      have e2_17 : aq.eval (.tmp 2) = .pointer (some ⟨w.heap.size, 0, none⟩) := hk 2 (by decide)
      exact flow_value _ (run_mid 50 (.tmp 2) rfl w.heap.size 0 e2_17 (A) ((HasC.keep (hd1.out) hc.bel).range 0 _ (fun j v hv => by rw [Nat.zero_add]; exact hv)) _ Try.underlying50 rfl (by rw [hlA.out]; exact Try.tyVote.size)) rfl
    | 13, _ =>
      cases ho
      have e18_18 : aq.eval (.tmp 18) = .agg (B).toArray := hdep 11 18 rfl (by kernel_rfl)
      have e19_19 : aq.eval (.tmp 19) = .agg (A).toArray := hdep 12 19 rfl (by kernel_rfl)
      refine flow_fun 14 _ _ rfl (fun _ _ => by simp [go_sem]) #[.agg (B).toArray, .agg (A).toArray] (by simp only [List.map_toArray, List.map_cons, List.map_nil, e18_18, e19_19]) ?_
      refine ((RBA).out wq).mono ?_
      rintro e w' ⟨rfl, B⟩
      exact ⟨_, rfl, rfl, B⟩
    | 14, _ =>
      cases ho
      have e17_20 : aq.eval (.tmp 17) = .bool false := hdep 10 17 rfl (by kernel_rfl)
      have e20_21 : aq.eval (.tmp 20) = .bool false := hdep 13 20 rfl (by kernel_rfl)
      exact flow_value _ (run_neB (.tmp 17) (.tmp 20) rfl false false e17_20 e20_21) rfl
    | 15, _ =>
      cases ho
      have e14_22 : aq.eval (.tmp 14) = .bool false := hdep 7 14 rfl (by kernel_rfl)
      have e21_23 : aq.eval (.tmp 21) = .bool false := hdep 14 21 rfl (by kernel_rfl)
      exact flow_value _ (run_pick0 (.tmp 14) (.const (.bool true)) (.tmp 21) rfl _ e14_22 e21_23) rfl
    | 16, _ =>
      cases ho
      have e22_24 : aq.eval (.tmp 22) = .bool false := hdep 15 22 rfl (by kernel_rfl)
      exact flow_move (.tmp 22) rfl e22_24
    | 17, _ =>
      cases ho
      have e2_25 : aq.eval (.tmp 2) = .pointer (some ⟨w.heap.size, 0, none⟩) := hk 2 (by decide)
      exact flow_value _ (run_mid 50 (.tmp 2) rfl w.heap.size 0 e2_25 (A) ((HasC.keep (hd1.out) hc.bel).range 0 _ (fun j v hv => by rw [Nat.zero_add]; exact hv)) _ Try.underlying50 rfl (by rw [hlA.out]; exact Try.tyVote.size)) rfl
    | 18, _ =>
      cases ho
      have e2_26 : aq.eval (.tmp 2) = .pointer (some ⟨w.heap.size, 0, none⟩) := hk 2 (by decide)
      exact flow_value _ (run_mid 50 (.tmp 2) rfl w.heap.size 0 e2_26 (A) ((HasC.keep (hd1.out) hc.bel).range 0 _ (fun j v hv => by rw [Nat.zero_add]; exact hv)) _ Try.underlying50 rfl (by rw [hlA.out]; exact Try.tyVote.size)) rfl
    | 19, _ =>
      cases ho
      have e24_27 : aq.eval (.tmp 24) = .agg (A).toArray := hdep 17 24 rfl (by kernel_rfl)
      have e25_28 : aq.eval (.tmp 25) = .agg (A).toArray := hdep 18 25 rfl (by kernel_rfl)
      refine flow_fun 13 _ _ rfl (fun _ _ => by simp [go_sem]) #[.agg (A).toArray, .agg (A).toArray] (by simp only [List.map_toArray, List.map_cons, List.map_nil, e24_27, e25_28]) ?_
      refine ((HAA).out wq).mono ?_
      rintro e w' ⟨rfl, B⟩
      exact ⟨_, rfl, rfl, B⟩
    | (k + 20), hk => exact absurd hk (by omega)
  intro vf wv hc hv
  have f23 : vf 16 = .bool false := hv 16 23 (by decide) rfl
  have f26 : vf 19 = .bool false := hv 19 26 (by decide) rfl
  clear hv
  simp only [List.take_succ_cons, List.take_zero, List.drop_succ_cons, List.drop_zero, putAll, Act.put, List.setIfInBounds_toArray, List.set_cons_succ, List.set_cons_zero]
  rw [f23, f26]
  clear f23 f26
  have hd1 := shut (hd1.out.keep hc.bel)
  have hd2 := shut (hd2.out.keep hc.bel)
  have BC := shut (below_more BC.out hc.bel (Nat.le_refl _))
  clear hc
  go_wp2
  refine wp_region_flowN 25 (fun j => decide (j ∈ [8, 9, 10, 11, 12, 13, 14, 15, 16, 17, 18, 19, 20, 21, 22, 23])) (fun i v wq => match i with
    | 0 => v = .pointer (some ⟨w.heap.size, 67, none⟩)
    | 1 => v = .pointer (some ⟨w.heap.size, 67, none⟩)
    | 2 => v = .int .u64 ((et : Nat) : Int)
    | 3 => v = .pointer (some ⟨w1.heap.size, 67, none⟩)
    | 4 => v = .pointer (some ⟨w1.heap.size, 67, none⟩)
    | 5 => v = .int .u64 ((et' : Nat) : Int)
    | 6 => v = .bool true
    | 7 => v = .bool true
    | 8 => v = undef
    | 9 => v = undef
    | 10 => v = undef
    | 11 => v = undef
    | 12 => v = undef
    | 13 => v = undef
    | 14 => v = undef
    | 15 => v = undef
    | 16 => v = undef
    | 17 => v = undef
    | 18 => v = undef
    | 19 => v = undef
    | 20 => v = undef
    | 21 => v = undef
    | 22 => v = undef
    | 23 => v = undef
    | _ => v = .bool true) (by kernel_rfl) (by kernel_rfl) ?_ ?_ ?_ ?_ ?_ ?_
  · intro i o g b hi ho hg v wq hv
    match i, hi with
    | 0, _ => cases ho; cases hg
    | 1, _ => cases ho; cases hg
    | 2, _ => cases ho; cases hg
    | 3, _ => cases ho; cases hg
    | 4, _ => cases ho; cases hg
    | 5, _ => cases ho; cases hg
    | 6, _ => cases ho; cases hg
    | 7, _ => cases ho; cases hg
    | 8, _ => cases ho; cases hg; have hv' : v = _ := hv; rw [hv']; exact (if_pos (by decide)).mpr (fun h => by cases h)
    | 9, _ => cases ho; cases hg; have hv' : v = _ := hv; rw [hv']; exact (if_pos (by decide)).mpr (fun h => by cases h)
    | 10, _ => cases ho; cases hg; have hv' : v = _ := hv; rw [hv']; exact (if_pos (by decide)).mpr (fun h => by cases h)
    | 11, _ => cases ho; cases hg; have hv' : v = _ := hv; rw [hv']; exact (if_pos (by decide)).mpr (fun h => by cases h)
    | 12, _ => cases ho; cases hg; have hv' : v = _ := hv; rw [hv']; exact (if_pos (by decide)).mpr (fun h => by cases h)
    | 13, _ => cases ho; cases hg; have hv' : v = _ := hv; rw [hv']; exact (if_pos (by decide)).mpr (fun h => by cases h)
    | 14, _ => cases ho; cases hg; have hv' : v = _ := hv; rw [hv']; exact (if_pos (by decide)).mpr (fun h => by cases h)
    | 15, _ => cases ho; cases hg; have hv' : v = _ := hv; rw [hv']; exact (if_pos (by decide)).mpr (fun h => by cases h)
    | 16, _ => cases ho; cases hg; have hv' : v = undef := hv; rw [hv']; exact (if_pos (by decide)).mpr (fun h => by cases h)
    | 17, _ => cases ho; cases hg; have hv' : v = undef := hv; rw [hv']; exact (if_pos (by decide)).mpr (fun h => by cases h)
    | 18, _ => cases ho; cases hg; have hv' : v = undef := hv; rw [hv']; exact (if_pos (by decide)).mpr (fun h => by cases h)
    | 19, _ => cases ho; cases hg; have hv' : v = undef := hv; rw [hv']; exact (if_pos (by decide)).mpr (fun h => by cases h)
    | 20, _ => cases ho; cases hg; have hv' : v = undef := hv; rw [hv']; exact (if_pos (by decide)).mpr (fun h => by cases h)
    | 21, _ => cases ho; cases hg; have hv' : v = undef := hv; rw [hv']; exact (if_pos (by decide)).mpr (fun h => by cases h)
    | 22, _ => cases ho; cases hg; have hv' : v = undef := hv; rw [hv']; exact (if_pos (by decide)).mpr (fun h => by cases h)
    | 23, _ => cases ho; cases hg; have hv' : v = _ := hv; rw [hv']; exact (if_pos (by decide)).mpr (fun h => by cases h)
    | 24, _ => cases ho; cases hg
    | (k + 25), hk => exact absurd hk (by omega)
  · intro i o hi ho hg
    match i, hi with
    | 0, _ => rfl
    | 1, _ => rfl
    | 2, _ => rfl
    | 3, _ => rfl
    | 4, _ => rfl
    | 5, _ => rfl
    | 6, _ => rfl
    | 7, _ => rfl
    | 8, _ => cases ho; cases hg
    | 9, _ => cases ho; cases hg
    | 10, _ => cases ho; cases hg
    | 11, _ => cases ho; cases hg
    | 12, _ => cases ho; cases hg
    | 13, _ => cases ho; cases hg
    | 14, _ => cases ho; cases hg
    | 15, _ => cases ho; cases hg
    | 16, _ => cases ho; cases hg
    | 17, _ => cases ho; cases hg
    | 18, _ => cases ho; cases hg
    | 19, _ => cases ho; cases hg
    | 20, _ => cases ho; cases hg
    | 21, _ => cases ho; cases hg
    | 22, _ => cases ho; cases hg
    | 23, _ => cases ho; cases hg
    | 24, _ => rfl
    | (k + 25), hk => exact absurd hk (by omega)
  · intro i wq hi hs
    match i, hi with
    | 0, _ => cases hs
    | 1, _ => cases hs
    | 2, _ => cases hs
    | 3, _ => cases hs
    | 4, _ => cases hs
    | 5, _ => cases hs
    | 6, _ => cases hs
    | 7, _ => cases hs
    | 8, _ => rfl
    | 9, _ => rfl
    | 10, _ => rfl
    | 11, _ => rfl
    | 12, _ => rfl
    | 13, _ => rfl
    | 14, _ => rfl
    | 15, _ => rfl
    | 16, _ => rfl
    | 17, _ => rfl
    | 18, _ => rfl
    | 19, _ => rfl
    | 20, _ => rfl
    | 21, _ => rfl
    | 22, _ => rfl
    | 23, _ => rfl
    | 24, _ => cases hs
    | (k + 25), hk => exact absurd hk (by omega)
  · intro i v wq wq' hi hv hb
    match i, hi with
    | 0, _ => exact hv
    | 1, _ => exact hv
    | 2, _ => exact hv
    | 3, _ => exact hv
    | 4, _ => exact hv
    | 5, _ => exact hv
    | 6, _ => exact hv
    | 7, _ => exact hv
    | 8, _ => exact hv
    | 9, _ => exact hv
    | 10, _ => exact hv
    | 11, _ => exact hv
    | 12, _ => exact hv
    | 13, _ => exact hv
    | 14, _ => exact hv
    | 15, _ => exact hv
    | 16, _ => exact hv
    | 17, _ => exact hv
    | 18, _ => exact hv
    | 19, _ => exact hv
    | 20, _ => exact hv
    | 21, _ => exact hv
    | 22, _ => exact hv
    | 23, _ => exact hv
    | 24, _ => exact hv
    | (k + 25), hk => exact absurd hk (by omega)
  · intro i o hi ho hs aq wq hc hk hdep
    match i, hi with
    | 0, _ =>
      cases ho
      have e2_1 : aq.eval (.tmp 2) = .pointer (some ⟨w.heap.size, 0, none⟩) := hk 2 (by decide)
      exact flow_value _ (run_fieldAt 50 (.tmp 2) 4 rfl _ _ e2_1 (by kernel_rfl)) rfl
    | 1, _ =>
      cases ho
      have e28_2 : aq.eval (.tmp 28) = .pointer (some ⟨w.heap.size, 67, none⟩) := hdep 0 28 rfl (by kernel_rfl)
      exact flow_value _ (run_fieldAt 41 (.tmp 28) 0 rfl _ _ e28_2 (by kernel_rfl)) rfl
    | 2, _ =>
      cases ho
      have e29_3 : aq.eval (.tmp 29) = .pointer (some ⟨w.heap.size, 67, none⟩) := hdep 1 29 rfl (by kernel_rfl)
      exact flow_value _ (run_cell 22 (.tmp 29) rfl _ e29_3 _ ((HasC.keep (hd1.out) hc.bel).cell (j := 67) hA.out.2) _ Try.underlying22 rfl) rfl
    | 3, _ =>
      cases ho
      have e3_4 : aq.eval (.tmp 3) = .pointer (some ⟨w1.heap.size, 0, none⟩) := hk 3 (by decide)
      exact flow_value _ (run_fieldAt 50 (.tmp 3) 4 rfl _ _ e3_4 (by kernel_rfl)) rfl
    | 4, _ =>
      cases ho
      have e31_5 : aq.eval (.tmp 31) = .pointer (some ⟨w1.heap.size, 67, none⟩) := hdep 3 31 rfl (by kernel_rfl)
      exact flow_value _ (run_fieldAt 41 (.tmp 31) 0 rfl _ _ e31_5 (by kernel_rfl)) rfl
    | 5, _ =>
      cases ho
      have e32_6 : aq.eval (.tmp 32) = .pointer (some ⟨w1.heap.size, 67, none⟩) := hdep 4 32 rfl (by kernel_rfl)
      exact flow_value _ (run_cell 22 (.tmp 32) rfl _ e32_6 _ ((HasC.keep (hd2.out) hc.bel).cell (j := 67) hB.out.2) _ Try.underlying22 rfl) rfl
    | 6, _ =>
      cases ho
      have e30_7 : aq.eval (.tmp 30) = .int .u64 ((et : Nat) : Int) := hdep 2 30 rfl (by kernel_rfl)
      have e33_8 : aq.eval (.tmp 33) = .int .u64 ((et' : Nat) : Int) := hdep 5 33 rfl (by kernel_rfl)
      exact flow_value _ (run_neH (.tmp 30) (.tmp 33) rfl (et) (et') true (by rw [hT]; rfl) e30_7 e33_8) rfl
    | 7, _ =>
      cases ho
      have e34_9 : aq.eval (.tmp 34) = .bool true := hdep 6 34 rfl (by kernel_rfl)
      exact flow_move (.tmp 34) rfl e34_9
    | 8, _ => cases hs
    | 9, _ => cases hs
    | 10, _ => cases hs
    | 11, _ => cases hs
    | 12, _ => cases hs
    | 13, _ => cases hs
    | 14, _ => cases hs
    | 15, _ => cases hs
    | 16, _ => cases hs
    | 17, _ => cases hs
    | 18, _ => cases hs
    | 19, _ => cases hs
    | 20, _ => cases hs
    | 21, _ => cases hs
    | 22, _ => cases hs
    | 23, _ => cases hs
    | 24, _ =>
      cases ho
      have e35_10 : aq.eval (.tmp 35) = .bool true := hdep 7 35 rfl (by kernel_rfl)
      exact flow_value _ (run_pick1 (.tmp 35) (.const (.bool true)) (.tmp 51) rfl _ e35_10 rfl) rfl
    | (k + 25), hk => exact absurd hk (by omega)
  intro vf wv hc hv
  have f52 : vf 24 = .bool true := hv 24 52 (by decide) rfl
  clear hv
  simp only [List.take_succ_cons, List.take_zero, List.drop_succ_cons, List.drop_zero, putAll, Act.put, List.setIfInBounds_toArray, List.set_cons_succ, List.set_cons_zero]
  rw [f52]
  clear f52
  have BC := shut (below_more BC.out hc.bel (Nat.le_refl _))
  clear hc
  go_wp2
  go_ret
  exact ⟨rfl, BC.out⟩
theorem slashable_walk (sl ix : Nat) (b : List Nat) (es : Nat) (rs : List Nat) (et : Nat) (rt : List Nat) (sl' ix' : Nat) (b' : List Nat) (es' : Nat) (rs' : List Nat) (et' : Nat) (rt' : List Nat) (hb : Rq b) (hs : Rq rs) (ht : Rq rt) (hb' : Rq b') (hs' : Rq rs') (ht' : Rq rt') (w : World) :
    Calls Try.prog 4 #[.agg (vtX sl ix b es rs et rt).toArray, .agg (vtX sl' ix' b' es' rs' et' rt').toArray] w fun e w' => e = .returned (.bool true) ∧ Below w.heap.size w w' := by
  have hlA := shut (vt_lz sl ix b es rs et rt hb hs ht)
  have hlB := shut (vt_lz sl' ix' b' es' rs' et' rt' hb' hs' ht')
  have hA := shut (vt_at sl ix b es rs et rt hb hs)
  have hB := shut (vt_at sl' ix' b' es' rs' et' rt' hb' hs')
  have nAB := fun (o : Oper) (a : Act) (w : World) (x y : Operand) ho hx hy => run_neV (o := o) (a := a) (w := w) x y ho sl ix b es rs et rt sl' ix' b' es' rs' et' rt' hb hs ht hb' hs' ht' hx hy
  have nBA := fun (o : Oper) (a : Act) (w : World) (x y : Operand) ho hx hy => run_neV (o := o) (a := a) (w := w) x y ho sl' ix' b' es' rs' et' rt' sl ix b es rs et rt hb' hs' ht' hb hs ht hx hy
  have hab := fun wq => slashable_any sl ix b es rs et rt sl' ix' b' es' rs' et' rt' hb hs ht hb' hs' ht' wq
  have hba := fun wq => slashable_any sl' ix' b' es' rs' et' rt' sl ix b es rs et rt hb' hs' ht' hb hs ht wq
  have haa := fun wq => slashable_any sl ix b es rs et rt sl ix b es rs et rt hb hs ht hb hs ht wq
  have rab := fun wq => rslashable_any sl ix b es rs et rt sl' ix' b' es' rs' et' rt' hb hs ht hb' hs' ht' wq
  have rba := fun wq => rslashable_any sl' ix' b' es' rs' et' rt' sl ix b es rs et rt hb' hs' ht' hb hs ht wq
  have eAB : slV sl ix b es rs et rt sl' ix' b' es' rs' et' rt' = (!eqVt sl ix b es rs et rt sl' ix' b' es' rs' et' rt' && decide (et = et') || decide (es < es') && decide (et' < et)) := rfl
  have eBA : slV sl' ix' b' es' rs' et' rt' sl ix b es rs et rt = (!eqVt sl ix b es rs et rt sl' ix' b' es' rs' et' rt' && decide (et = et') || decide (es' < es) && decide (et < et')) := by
    unfold slV
    rw [eqVt_comm sl' ix' b' es' rs' et' rt' sl ix b es rs et rt, show decide (et' = et) = decide (et = et') by simp [eq_comm]]
  have eAA : slV sl ix b es rs et rt sl ix b es rs et rt = false := by
    unfold slV
    rw [eqVt_self]
    simp
  rw [eqVt_comm sl' ix' b' es' rs' et' rt' sl ix b es rs et rt] at nBA
  rw [eAB] at hab rab
  rw [eBA] at hba rba
  rw [eAA] at haa
  have hE : eqVt sl ix b es rs et rt sl' ix' b' es' rs' et' rt' = true → et = et' := fun h => by
    unfold eqVt at h
    simp only [Bool.and_eq_true, decide_eq_true_eq] at h
    exact h.2.2.2.2.1
  clear eAB eBA eAA
  generalize vtX sl ix b es rs et rt = A at *
  generalize vtX sl' ix' b' es' rs' et' rt' = B at *
  by_cases hT : et = et'
  · have hn : ¬ et' < et := by omega
    have hn' : ¬ et < et' := by omega
    simp only [hn, hn', decide_false, Bool.and_false, Bool.or_false] at hab hba rab rba
    rw [show decide (et = et') = true by simp [hT]] at hab hba rab rba
    cases hEv : eqVt sl ix b es rs et rt sl' ix' b' es' rs' et' rt'
    · rw [hEv] at nAB nBA hab hba rab rba
      exact slashW_0 A B es et es' et' w hlA hlB hA hB (shut nAB) (shut nBA) (by simp [hT]) (shut hab) (shut hba) (shut haa) (shut rab) (shut rba)
    · rw [hEv] at nAB nBA hab hba rab rba
      exact slashW_1 A B es et es' et' w hlA hlB hA hB (shut nAB) (shut nBA) (by simp [hT]) (shut hab) (shut hba) (shut haa) (shut rab) (shut rba)
  · have hEv : eqVt sl ix b es rs et rt sl' ix' b' es' rs' et' rt' = false := by
      cases h : eqVt sl ix b es rs et rt sl' ix' b' es' rs' et' rt'
      · rfl
      · exact absurd (hE h) hT
    rw [hEv] at nAB nBA hab hba rab rba
    have hTf : decide (et = et') = false := by simp [hT]
    rw [hTf] at hab hba rab rba
    simp only [Bool.and_false, Bool.false_or] at hab hba rab rba
    cases h1 : (decide (es < es') && decide (et' < et)) <;> cases h2 : (decide (es' < es) && decide (et < et')) <;> rw [h1] at hab rab <;> rw [h2] at hba rba
    · exact slashW_2 A B es et es' et' w hlA hlB hA hB (shut nAB) (shut nBA) hTf (shut hab) (shut hba) (shut haa) (shut rab) (shut rba)
    · exact slashW_3 A B es et es' et' w hlA hlB hA hB (shut nAB) (shut nBA) hTf (shut hab) (shut hba) (shut haa) (shut rab) (shut rba)
    · exact slashW_4 A B es et es' et' w hlA hlB hA hB (shut nAB) (shut nBA) hTf (shut hab) (shut hba) (shut haa) (shut rab) (shut rba)
    · simp only [Bool.and_eq_true, decide_eq_true_eq] at h1 h2; omega
end Go.Proofs.Ythjjdjidbhlncaa
