/- DutyTimes' walk. -/
import Derived.Test.YthjjdjidbhlncaaActW
namespace Go.Proofs.Ythjjdjidbhlncaa
open Go.RowKit
set_option linter.unusedVariables false
set_option linter.unusedSimpArgs false
set_option maxRecDepth 100000

theorem Try.tyVal : Ty Try.prog 26 (vaX (zeros 32) (zeros 32) 0 false 0 0 0 0) := ⟨by kernel_rfl, _, Try.underlying26, rfl⟩
set_option maxHeartbeats 4000000 in
theorem timesW_f (n ep : Nat) (V Z : List Value) (w : World) (hn : Shut (n < 18446744073709551616)) (hlV : Shut (V.length = (vaX (zeros 32) (zeros 32) 0 false 0 0 0 0).length)) (hlZ : Shut (Z.length = zsState.length)) (h1Z : Shut (Z.toArray.all (·.oneCell') = true))
    (hb : Shut (Try.prog.built 43 [(0, .int .u64 (n : Nat))] = some Z.toArray))
    (HEp : Shut (∀ wq, Calls Try.prog 6 #[.int .u64 ((n : Nat) : Int)] wq fun e w' => e = .returned (.int .u64 ((n / 4 : Nat) : Int)) ∧ Below wq.heap.size wq w')) (HSt : Shut (∀ wq, Calls Try.prog 7 #[.int .u64 ((ep : Nat) : Int)] wq fun e w' => e = .returned (.int .u64 ((4 * ep % 18446744073709551616 : Nat) : Int)) ∧ Below wq.heap.size wq w')) (HNo : Shut (∀ wq, Calls Try.prog 8 #[.agg Z.toArray] wq fun e w' => e = .returned (.int .u64 ((n / 4 : Nat) : Int)) ∧ Below wq.heap.size wq w')) (HBe : Shut (∀ wq, Calls Try.prog 9 #[.agg Z.toArray] wq fun e w' => e = .returned (.int .u64 ((befV n : Nat) : Int)) ∧ Below wq.heap.size wq w')) (HRl : Shut (∀ wq, Calls Try.prog 10 #[.int .u64 ((n / 4 : Nat) : Int), .int .u64 ((1 : Nat) : Int)] wq fun e w' => e = .returned (.int .u64 ((befV n : Nat) : Int)) ∧ Below wq.heap.size wq w')) (HAc : Shut (∀ wq, Calls Try.prog 11 #[.agg V.toArray, .int .u64 ((ep : Nat) : Int)] wq fun e w' => e = .returned (.bool false) ∧ Below wq.heap.size wq w')) (HRa : Shut (∀ wq, Calls Try.prog 12 #[.agg V.toArray, .int .u64 ((ep : Nat) : Int)] wq fun e w' => e = .returned (.bool false) ∧ Below wq.heap.size wq w')) :
    Calls Try.prog 3 #[.int .u64 (n : Nat), .int .u64 (ep : Nat), .agg V.toArray] w fun e w' => e = .returned (.bool true) ∧ Below w.heap.size w w' := by
  go_enter Try.func3, Try.ntmps3
  go_wp2_with ((with_reducible refine at_list' ?_); refine wpList_box_c rfl 5 rfl (.tmp 2) rfl V rfl ?_; intro w1 H1 B1 S1)
  refine (awake_any w1).mono ?_
  rintro x w2 ⟨rfl, B2⟩
  have BB := shut (below_more B1 B2 (Nat.le_refl _))
  have hd1 := shut (H1.keep B2)
  clear H1 B1 S1 B2
  go_wp2_with ((with_reducible refine at_list' ?_); refine wpList_built rfl 43 #[(0, .tmp 10)] rfl Z (by simp [Act.eval, Act.put]; with_reducible exact hb.out) ?_; refine Shut.out ?_)
  refine Shut.mk ?_
  refine wpList_alloc_c Try.tyState rfl 7 rfl rfl ?_
  intro w3 H3 B3 S3
  simp only [Act.put, List.setIfInBounds_toArray, List.set_cons_succ, List.set_cons_zero]
  refine wpList_store_c Try.tyState rfl (.tmp 7) (.tmp 11) rfl w2.heap.size Z rfl rfl hlZ.out h1Z.out _ H3 rfl ?_
  intro w4 H4 O4
  have B24 := below_only B3 O4 (Nat.le_refl _)
  have BC := shut (below_more BB.out B24 (Nat.le_refl _))
  have hd1 := shut (hd1.out.keep B24)
  have hd2 := shut H4
  clear H3 B3 O4 S3 H4 B24 BB
  simp only [Act.put]
  obtain ⟨gs, hgs⟩ : ∃ g, w2.heap.size = g := ⟨_, rfl⟩
  rw [hgs] at hd2 ⊢
  clear hgs
  go_wp2
  refine wp_region_flowN 36 (fun _ => false) (fun i v wq => match i with
    | 0 => v = .int .u64 ((n : Nat) : Int)
    | 1 => v = .int .u64 ((n / 4 : Nat) : Int)
    | 2 => v = .int .u64 ((n : Nat) : Int)
    | 3 => v = .int .u64 ((n / 4 : Nat) : Int)
    | 4 => v = .bool true
    | 5 => v = .bool true
    | 6 => v = .int .u64 ((ep : Nat) : Int)
    | 7 => v = .int .u64 ((4 * ep % 18446744073709551616 : Nat) : Int)
    | 8 => v = .int .u64 ((ep : Nat) : Int)
    | 9 => v = .int .u64 ((4 * ep % 18446744073709551616 : Nat) : Int)
    | 10 => v = .bool true
    | 11 => v = .bool true
    | 12 => v = .bool true
    | 13 => v = .agg (Z).toArray
    | 14 => v = .int .u64 ((n / 4 : Nat) : Int)
    | 15 => v = .int .u64 ((n : Nat) : Int)
    | 16 => v = .int .u64 ((n / 4 : Nat) : Int)
    | 17 => v = .bool true
    | 18 => v = .bool true
    | 19 => v = .bool true
    | 20 => v = .agg (Z).toArray
    | 21 => v = .int .u64 ((befV n : Nat) : Int)
    | 22 => v = .int .u64 ((n : Nat) : Int)
    | 23 => v = .int .u64 ((n / 4 : Nat) : Int)
    | 24 => v = .int .u64 ((befV n : Nat) : Int)
    | 25 => v = .bool true
    | 26 => v = .bool true
    | 27 => v = .bool true
    | 28 => v = .agg (V).toArray
    | 29 => v = .int .u64 ((ep : Nat) : Int)
    | 30 => v = .bool false
    | 31 => v = .agg (V).toArray
    | 32 => v = .int .u64 ((ep : Nat) : Int)
    | 33 => v = .bool false
    | 34 => v = .bool true
    | _ => v = .bool true) (by kernel_rfl) (by kernel_rfl) ?_ ?_ ?_ ?_ ?_ ?_
  · intro i o g b hi ho hg v wq hv
    match i, hi with
    | 0, _ => cases ho; cases hg
    | 1, _ => cases ho; cases hg
    | 2, _ => cases ho; cases hg
    | 3, _ => cases ho; cases hg
    | 4, _ => cases ho; cases hg
    | 5, _ => cases ho; cases hg
    | 6, _ => cases ho; cases hg; exact (if_neg (by decide)).mpr hv
    | 7, _ => cases ho; cases hg; exact (if_neg (by decide)).mpr hv
    | 8, _ => cases ho; cases hg; exact (if_neg (by decide)).mpr hv
    | 9, _ => cases ho; cases hg; exact (if_neg (by decide)).mpr hv
    | 10, _ => cases ho; cases hg; exact (if_neg (by decide)).mpr hv
    | 11, _ => cases ho; cases hg
    | 12, _ => cases ho; cases hg
    | 13, _ => cases ho; cases hg; exact (if_neg (by decide)).mpr hv
    | 14, _ => cases ho; cases hg; exact (if_neg (by decide)).mpr hv
    | 15, _ => cases ho; cases hg; exact (if_neg (by decide)).mpr hv
    | 16, _ => cases ho; cases hg; exact (if_neg (by decide)).mpr hv
    | 17, _ => cases ho; cases hg; exact (if_neg (by decide)).mpr hv
    | 18, _ => cases ho; cases hg
    | 19, _ => cases ho; cases hg
    | 20, _ => cases ho; cases hg; exact (if_neg (by decide)).mpr hv
    | 21, _ => cases ho; cases hg; exact (if_neg (by decide)).mpr hv
    | 22, _ => cases ho; cases hg; exact (if_neg (by decide)).mpr hv
    | 23, _ => cases ho; cases hg; exact (if_neg (by decide)).mpr hv
    | 24, _ => cases ho; cases hg; exact (if_neg (by decide)).mpr hv
    | 25, _ => cases ho; cases hg; exact (if_neg (by decide)).mpr hv
    | 26, _ => cases ho; cases hg
    | 27, _ => cases ho; cases hg
    | 28, _ => cases ho; cases hg; exact (if_neg (by decide)).mpr hv
    | 29, _ => cases ho; cases hg; exact (if_neg (by decide)).mpr hv
    | 30, _ => cases ho; cases hg; exact (if_neg (by decide)).mpr hv
    | 31, _ => cases ho; cases hg; exact (if_neg (by decide)).mpr hv
    | 32, _ => cases ho; cases hg; exact (if_neg (by decide)).mpr hv
    | 33, _ => cases ho; cases hg; exact (if_neg (by decide)).mpr hv
    | 34, _ => cases ho; cases hg; exact (if_neg (by decide)).mpr hv
    | 35, _ => cases ho; cases hg
    | (k + 36), hk => exact absurd hk (by omega)
  · intro i o hi ho hg
    match i, hi with
    | 0, _ => rfl
    | 1, _ => rfl
    | 2, _ => rfl
    | 3, _ => rfl
    | 4, _ => rfl
    | 5, _ => rfl
    | 6, _ => cases ho; cases hg
    | 7, _ => cases ho; cases hg
    | 8, _ => cases ho; cases hg
    | 9, _ => cases ho; cases hg
    | 10, _ => cases ho; cases hg
    | 11, _ => rfl
    | 12, _ => rfl
    | 13, _ => cases ho; cases hg
    | 14, _ => cases ho; cases hg
    | 15, _ => cases ho; cases hg
    | 16, _ => cases ho; cases hg
    | 17, _ => cases ho; cases hg
    | 18, _ => rfl
    | 19, _ => rfl
    | 20, _ => cases ho; cases hg
    | 21, _ => cases ho; cases hg
    | 22, _ => cases ho; cases hg
    | 23, _ => cases ho; cases hg
    | 24, _ => cases ho; cases hg
    | 25, _ => cases ho; cases hg
    | 26, _ => rfl
    | 27, _ => rfl
    | 28, _ => cases ho; cases hg
    | 29, _ => cases ho; cases hg
    | 30, _ => cases ho; cases hg
    | 31, _ => cases ho; cases hg
    | 32, _ => cases ho; cases hg
    | 33, _ => cases ho; cases hg
    | 34, _ => cases ho; cases hg
    | 35, _ => rfl
    | (k + 36), hk => exact absurd hk (by omega)
  · intro i wq hi hs
    match i, hi with
    | 0, _ => cases hs
    | 1, _ => cases hs
    | 2, _ => cases hs
    | 3, _ => cases hs
    | 4, _ => cases hs
    | 5, _ => cases hs
    | 6, _ => cases hs
    | 7, _ => cases hs
    | 8, _ => cases hs
    | 9, _ => cases hs
    | 10, _ => cases hs
    | 11, _ => cases hs
    | 12, _ => cases hs
    | 13, _ => cases hs
    | 14, _ => cases hs
    | 15, _ => cases hs
    | 16, _ => cases hs
    | 17, _ => cases hs
    | 18, _ => cases hs
    | 19, _ => cases hs
    | 20, _ => cases hs
    | 21, _ => cases hs
    | 22, _ => cases hs
    | 23, _ => cases hs
    | 24, _ => cases hs
    | 25, _ => cases hs
    | 26, _ => cases hs
    | 27, _ => cases hs
    | 28, _ => cases hs
    | 29, _ => cases hs
    | 30, _ => cases hs
    | 31, _ => cases hs
    | 32, _ => cases hs
    | 33, _ => cases hs
    | 34, _ => cases hs
    | 35, _ => cases hs
    | (k + 36), hk => exact absurd hk (by omega)
  · intro i v wq wq' hi hv hb
    match i, hi with
    | 0, _ => exact hv
    | 1, _ => exact hv
    | 2, _ => exact hv
    | 3, _ => exact hv
    | 4, _ => exact hv
    | 5, _ => exact hv
    | 6, _ => exact hv
    | 7, _ => exact hv
    | 8, _ => exact hv
    | 9, _ => exact hv
    | 10, _ => exact hv
    | 11, _ => exact hv
    | 12, _ => exact hv
    | 13, _ => exact hv
    | 14, _ => exact hv
    | 15, _ => exact hv
    | 16, _ => exact hv
    | 17, _ => exact hv
    | 18, _ => exact hv
    | 19, _ => exact hv
    | 20, _ => exact hv
    | 21, _ => exact hv
    | 22, _ => exact hv
    | 23, _ => exact hv
    | 24, _ => exact hv
    | 25, _ => exact hv
    | 26, _ => exact hv
    | 27, _ => exact hv
    | 28, _ => exact hv
    | 29, _ => exact hv
    | 30, _ => exact hv
    | 31, _ => exact hv
    | 32, _ => exact hv
    | 33, _ => exact hv
    | 34, _ => exact hv
    | 35, _ => exact hv
    | (k + 36), hk => exact absurd hk (by omega)
  · intro i o hi ho hs aq wq hc hk hdep
    match i, hi with
    | 0, _ =>
      cases ho
      have e0_1 : aq.eval (.tmp 0) = .int .u64 ((n : Nat) : Int) := hk 0 (by decide)
      exact flow_move (.tmp 0) rfl e0_1
    | 1, _ =>
      cases ho
      have e12_2 : aq.eval (.tmp 12) = .int .u64 ((n : Nat) : Int) := hdep 0 12 rfl (by kernel_rfl)
      refine flow_fun 6 _ _ rfl (fun _ _ => by simp [go_sem]) #[.int .u64 ((n : Nat) : Int)] (by simp only [List.map_toArray, List.map_cons, List.map_nil, e12_2]) ?_
      refine ((HEp).out wq).mono ?_
      rintro e w' ⟨rfl, B⟩
      exact ⟨_, rfl, rfl, B⟩
    | 2, _ =>
      cases ho
      have e0_3 : aq.eval (.tmp 0) = .int .u64 ((n : Nat) : Int) := hk 0 (by decide)
      exact flow_move (.tmp 0) rfl e0_3
    | 3, _ =>
      cases ho
      have e14_4 : aq.eval (.tmp 14) = .int .u64 ((n : Nat) : Int) := hdep 2 14 rfl (by kernel_rfl)
      exact flow_value _ (run_quo4 (.tmp 14) (.const (.int .u64 4)) rfl n hn.out e14_4 rfl) rfl
    | 4, _ =>
      cases ho
      have e13_5 : aq.eval (.tmp 13) = .int .u64 ((n / 4 : Nat) : Int) := hdep 1 13 rfl (by kernel_rfl)
      have e15_6 : aq.eval (.tmp 15) = .int .u64 ((n / 4 : Nat) : Int) := hdep 3 15 rfl (by kernel_rfl)
      exact flow_value _ (run_eqH (.tmp 13) (.tmp 15) rfl (n / 4) (n / 4) true (decide_eq_true rfl) e13_5 e15_6) rfl
    | 5, _ =>
      cases ho
      have e16_7 : aq.eval (.tmp 16) = .bool true := hdep 4 16 rfl (by kernel_rfl)
      exact flow_move (.tmp 16) rfl e16_7
    | 6, _ =>
      cases ho
      have e1_8 : aq.eval (.tmp 1) = .int .u64 ((ep : Nat) : Int) := hk 1 (by decide)
      exact flow_move (.tmp 1) rfl e1_8
    | 7, _ =>
      cases ho
      have e18_9 : aq.eval (.tmp 18) = .int .u64 ((ep : Nat) : Int) := hdep 6 18 rfl (by kernel_rfl)
      refine flow_fun 7 _ _ rfl (fun _ _ => by simp [go_sem]) #[.int .u64 ((ep : Nat) : Int)] (by simp only [List.map_toArray, List.map_cons, List.map_nil, e18_9]) ?_
      refine ((HSt).out wq).mono ?_
      rintro e w' ⟨rfl, B⟩
      exact ⟨_, rfl, rfl, B⟩
    | 8, _ =>
      cases ho
      have e1_10 : aq.eval (.tmp 1) = .int .u64 ((ep : Nat) : Int) := hk 1 (by decide)
      exact flow_move (.tmp 1) rfl e1_10
    | 9, _ =>
      cases ho
      have e20_11 : aq.eval (.tmp 20) = .int .u64 ((ep : Nat) : Int) := hdep 8 20 rfl (by kernel_rfl)
      exact flow_value _ (run_mul4 (.const (.int .u64 4)) (.tmp 20) rfl ep rfl e20_11) rfl
    | 10, _ =>
      cases ho
      have e19_12 : aq.eval (.tmp 19) = .int .u64 ((4 * ep % 18446744073709551616 : Nat) : Int) := hdep 7 19 rfl (by kernel_rfl)
      have e21_13 : aq.eval (.tmp 21) = .int .u64 ((4 * ep % 18446744073709551616 : Nat) : Int) := hdep 9 21 rfl (by kernel_rfl)
      exact flow_value _ (run_eqH (.tmp 19) (.tmp 21) rfl (4 * ep % 18446744073709551616) (4 * ep % 18446744073709551616) true (decide_eq_true rfl) e19_12 e21_13) rfl
    | 11, _ =>
      cases ho
      have e17_14 : aq.eval (.tmp 17) = .bool true := hdep 5 17 rfl (by kernel_rfl)
      have e22_15 : aq.eval (.tmp 22) = .bool true := hdep 10 22 rfl (by kernel_rfl)
      exact flow_value _ (run_pick1 (.tmp 17) (.tmp 22) (.const (.bool false)) rfl _ e17_14 e22_15) rfl
    | 12, _ =>
      cases ho
      have e23_16 : aq.eval (.tmp 23) = .bool true := hdep 11 23 rfl (by kernel_rfl)
      exact flow_move (.tmp 23) rfl e23_16
    | 13, _ =>
      cases ho
      have e7_17 : aq.eval (.tmp 7) = .pointer (some ⟨gs, 0, none⟩) := hk 7 (by decide)
      exact flow_value _ (run_mid 43 (.tmp 7) rfl gs 0 e7_17 (Z) ((HasC.keep (hd2.out) hc.bel).range 0 _ (fun j v hv => by rw [Nat.zero_add]; exact hv)) _ Try.underlying43 rfl (by rw [hlZ.out]; exact Try.tyState.size)) rfl
    | 14, _ =>
      cases ho
      have e25_18 : aq.eval (.tmp 25) = .agg (Z).toArray := hdep 13 25 rfl (by kernel_rfl)
      refine flow_fun 8 _ _ rfl (fun _ _ => by simp [go_sem]) #[.agg (Z).toArray] (by simp only [List.map_toArray, List.map_cons, List.map_nil, e25_18]) ?_
      refine ((HNo).out wq).mono ?_
      rintro e w' ⟨rfl, B⟩
      exact ⟨_, rfl, rfl, B⟩
    | 15, _ =>
      cases ho
      have e0_19 : aq.eval (.tmp 0) = .int .u64 ((n : Nat) : Int) := hk 0 (by decide)
      exact flow_move (.tmp 0) rfl e0_19
    | 16, _ =>
      cases ho
      have e27_20 : aq.eval (.tmp 27) = .int .u64 ((n : Nat) : Int) := hdep 15 27 rfl (by kernel_rfl)
      exact flow_value _ (run_quo4 (.tmp 27) (.const (.int .u64 4)) rfl n hn.out e27_20 rfl) rfl
    | 17, _ =>
      cases ho
      have e26_21 : aq.eval (.tmp 26) = .int .u64 ((n / 4 : Nat) : Int) := hdep 14 26 rfl (by kernel_rfl)
      have e28_22 : aq.eval (.tmp 28) = .int .u64 ((n / 4 : Nat) : Int) := hdep 16 28 rfl (by kernel_rfl)
      exact flow_value _ (run_eqH (.tmp 26) (.tmp 28) rfl (n / 4) (n / 4) true (decide_eq_true rfl) e26_21 e28_22) rfl
    | 18, _ =>
      cases ho
      have e24_23 : aq.eval (.tmp 24) = .bool true := hdep 12 24 rfl (by kernel_rfl)
      have e29_24 : aq.eval (.tmp 29) = .bool true := hdep 17 29 rfl (by kernel_rfl)
      exact flow_value _ (run_pick1 (.tmp 24) (.tmp 29) (.const (.bool false)) rfl _ e24_23 e29_24) rfl
    | 19, _ =>
      cases ho
      have e30_25 : aq.eval (.tmp 30) = .bool true := hdep 18 30 rfl (by kernel_rfl)
      exact flow_move (.tmp 30) rfl e30_25
    | 20, _ =>
      cases ho
      have e7_26 : aq.eval (.tmp 7) = .pointer (some ⟨gs, 0, none⟩) := hk 7 (by decide)
      exact flow_value _ (run_mid 43 (.tmp 7) rfl gs 0 e7_26 (Z) ((HasC.keep (hd2.out) hc.bel).range 0 _ (fun j v hv => by rw [Nat.zero_add]; exact hv)) _ Try.underlying43 rfl (by rw [hlZ.out]; exact Try.tyState.size)) rfl
    | 21, _ =>
      cases ho
      have e32_27 : aq.eval (.tmp 32) = .agg (Z).toArray := hdep 20 32 rfl (by kernel_rfl)
      refine flow_fun 9 _ _ rfl (fun _ _ => by simp [go_sem]) #[.agg (Z).toArray] (by simp only [List.map_toArray, List.map_cons, List.map_nil, e32_27]) ?_
      refine ((HBe).out wq).mono ?_
      rintro e w' ⟨rfl, B⟩
      exact ⟨_, rfl, rfl, B⟩
    | 22, _ =>
      cases ho
      have e0_28 : aq.eval (.tmp 0) = .int .u64 ((n : Nat) : Int) := hk 0 (by decide)
      exact flow_move (.tmp 0) rfl e0_28
    | 23, _ =>
      cases ho
      have e34_29 : aq.eval (.tmp 34) = .int .u64 ((n : Nat) : Int) := hdep 22 34 rfl (by kernel_rfl)
      exact flow_value _ (run_quo4 (.tmp 34) (.const (.int .u64 4)) rfl n hn.out e34_29 rfl) rfl
    | 24, _ =>
      cases ho
      have e35_30 : aq.eval (.tmp 35) = .int .u64 ((n / 4 : Nat) : Int) := hdep 23 35 rfl (by kernel_rfl)
      refine flow_fun 10 _ _ rfl (fun _ _ => by simp [go_sem]) #[.int .u64 ((n / 4 : Nat) : Int), .int .u64 ((1 : Nat) : Int)] (by simp only [List.map_toArray, List.map_cons, List.map_nil, e35_30]; rfl) ?_
      refine ((HRl).out wq).mono ?_
      rintro e w' ⟨rfl, B⟩
      exact ⟨_, rfl, rfl, B⟩
    | 25, _ =>
      cases ho
      have e33_31 : aq.eval (.tmp 33) = .int .u64 ((befV n : Nat) : Int) := hdep 21 33 rfl (by kernel_rfl)
      have e36_32 : aq.eval (.tmp 36) = .int .u64 ((befV n : Nat) : Int) := hdep 24 36 rfl (by kernel_rfl)
      exact flow_value _ (run_eqH (.tmp 33) (.tmp 36) rfl (befV n) (befV n) true (decide_eq_true rfl) e33_31 e36_32) rfl
    | 26, _ =>
      cases ho
      have e31_33 : aq.eval (.tmp 31) = .bool true := hdep 19 31 rfl (by kernel_rfl)
      have e37_34 : aq.eval (.tmp 37) = .bool true := hdep 25 37 rfl (by kernel_rfl)
      exact flow_value _ (run_pick1 (.tmp 31) (.tmp 37) (.const (.bool false)) rfl _ e31_33 e37_34) rfl
    | 27, _ =>
      cases ho
      have e38_35 : aq.eval (.tmp 38) = .bool true := hdep 26 38 rfl (by kernel_rfl)
      exact flow_move (.tmp 38) rfl e38_35
    | 28, _ =>
      cases ho
      have e5_36 : aq.eval (.tmp 5) = .pointer (some ⟨w.heap.size, 0, none⟩) := hk 5 (by decide)
      exact flow_value _ (run_mid 26 (.tmp 5) rfl w.heap.size 0 e5_36 (V) ((HasC.keep (hd1.out) hc.bel).range 0 _ (fun j v hv => by rw [Nat.zero_add]; exact hv)) _ Try.underlying26 rfl (by rw [hlV.out]; exact Try.tyVal.size)) rfl
    | 29, _ =>
      cases ho
      have e1_37 : aq.eval (.tmp 1) = .int .u64 ((ep : Nat) : Int) := hk 1 (by decide)
      exact flow_move (.tmp 1) rfl e1_37
    | 30, _ =>
      cases ho
      have e40_38 : aq.eval (.tmp 40) = .agg (V).toArray := hdep 28 40 rfl (by kernel_rfl)
      have e41_39 : aq.eval (.tmp 41) = .int .u64 ((ep : Nat) : Int) := hdep 29 41 rfl (by kernel_rfl)
      refine flow_fun 11 _ _ rfl (fun _ _ => by simp [go_sem]) #[.agg (V).toArray, .int .u64 ((ep : Nat) : Int)] (by simp only [List.map_toArray, List.map_cons, List.map_nil, e40_38, e41_39]) ?_
      refine ((HAc).out wq).mono ?_
      rintro e w' ⟨rfl, B⟩
      exact ⟨_, rfl, rfl, B⟩
    | 31, _ =>
      cases ho
      have e5_40 : aq.eval (.tmp 5) = .pointer (some ⟨w.heap.size, 0, none⟩) := hk 5 (by decide)
      exact flow_value _ (run_mid 26 (.tmp 5) rfl w.heap.size 0 e5_40 (V) ((HasC.keep (hd1.out) hc.bel).range 0 _ (fun j v hv => by rw [Nat.zero_add]; exact hv)) _ Try.underlying26 rfl (by rw [hlV.out]; exact Try.tyVal.size)) rfl
    | 32, _ =>
      cases ho
      have e1_41 : aq.eval (.tmp 1) = .int .u64 ((ep : Nat) : Int) := hk 1 (by decide)
      exact flow_move (.tmp 1) rfl e1_41
    | 33, _ =>
      cases ho
      have e43_42 : aq.eval (.tmp 43) = .agg (V).toArray := hdep 31 43 rfl (by kernel_rfl)
      have e44_43 : aq.eval (.tmp 44) = .int .u64 ((ep : Nat) : Int) := hdep 32 44 rfl (by kernel_rfl)
      refine flow_fun 12 _ _ rfl (fun _ _ => by simp [go_sem]) #[.agg (V).toArray, .int .u64 ((ep : Nat) : Int)] (by simp only [List.map_toArray, List.map_cons, List.map_nil, e43_42, e44_43]) ?_
      refine ((HRa).out wq).mono ?_
      rintro e w' ⟨rfl, B⟩
      exact ⟨_, rfl, rfl, B⟩
    | 34, _ =>
      cases ho
      have e42_44 : aq.eval (.tmp 42) = .bool false := hdep 30 42 rfl (by kernel_rfl)
      have e45_45 : aq.eval (.tmp 45) = .bool false := hdep 33 45 rfl (by kernel_rfl)
      exact flow_value _ (run_eqB (.tmp 42) (.tmp 45) rfl false false e42_44 e45_45) rfl
    | 35, _ =>
      cases ho
      have e39_46 : aq.eval (.tmp 39) = .bool true := hdep 27 39 rfl (by kernel_rfl)
      have e46_47 : aq.eval (.tmp 46) = .bool true := hdep 34 46 rfl (by kernel_rfl)
      exact flow_value _ (run_pick1 (.tmp 39) (.tmp 46) (.const (.bool false)) rfl _ e39_46 e46_47) rfl
    | (k + 36), hk => exact absurd hk (by omega)
  intro vf wv hc hv
  have f47 : vf 35 = .bool true := hv 35 47 (by decide) rfl
  clear hv
  simp only [List.take_succ_cons, List.take_zero, List.drop_succ_cons, List.drop_zero, putAll, Act.put, List.setIfInBounds_toArray, List.set_cons_succ, List.set_cons_zero]
  rw [f47]
  clear f47
  have BD := shut (below_more BC.out hc.bel (Nat.le_refl _))
  clear hc
  go_wp2
  go_ret
  exact ⟨rfl, BD.out⟩
set_option maxHeartbeats 4000000 in
theorem timesW_t (n ep : Nat) (V Z : List Value) (w : World) (hn : Shut (n < 18446744073709551616)) (hlV : Shut (V.length = (vaX (zeros 32) (zeros 32) 0 false 0 0 0 0).length)) (hlZ : Shut (Z.length = zsState.length)) (h1Z : Shut (Z.toArray.all (·.oneCell') = true))
    (hb : Shut (Try.prog.built 43 [(0, .int .u64 (n : Nat))] = some Z.toArray))
    (HEp : Shut (∀ wq, Calls Try.prog 6 #[.int .u64 ((n : Nat) : Int)] wq fun e w' => e = .returned (.int .u64 ((n / 4 : Nat) : Int)) ∧ Below wq.heap.size wq w')) (HSt : Shut (∀ wq, Calls Try.prog 7 #[.int .u64 ((ep : Nat) : Int)] wq fun e w' => e = .returned (.int .u64 ((4 * ep % 18446744073709551616 : Nat) : Int)) ∧ Below wq.heap.size wq w')) (HNo : Shut (∀ wq, Calls Try.prog 8 #[.agg Z.toArray] wq fun e w' => e = .returned (.int .u64 ((n / 4 : Nat) : Int)) ∧ Below wq.heap.size wq w')) (HBe : Shut (∀ wq, Calls Try.prog 9 #[.agg Z.toArray] wq fun e w' => e = .returned (.int .u64 ((befV n : Nat) : Int)) ∧ Below wq.heap.size wq w')) (HRl : Shut (∀ wq, Calls Try.prog 10 #[.int .u64 ((n / 4 : Nat) : Int), .int .u64 ((1 : Nat) : Int)] wq fun e w' => e = .returned (.int .u64 ((befV n : Nat) : Int)) ∧ Below wq.heap.size wq w')) (HAc : Shut (∀ wq, Calls Try.prog 11 #[.agg V.toArray, .int .u64 ((ep : Nat) : Int)] wq fun e w' => e = .returned (.bool true) ∧ Below wq.heap.size wq w')) (HRa : Shut (∀ wq, Calls Try.prog 12 #[.agg V.toArray, .int .u64 ((ep : Nat) : Int)] wq fun e w' => e = .returned (.bool true) ∧ Below wq.heap.size wq w')) :
    Calls Try.prog 3 #[.int .u64 (n : Nat), .int .u64 (ep : Nat), .agg V.toArray] w fun e w' => e = .returned (.bool true) ∧ Below w.heap.size w w' := by
  go_enter Try.func3, Try.ntmps3
  go_wp2_with ((with_reducible refine at_list' ?_); refine wpList_box_c rfl 5 rfl (.tmp 2) rfl V rfl ?_; intro w1 H1 B1 S1)
  refine (awake_any w1).mono ?_
  rintro x w2 ⟨rfl, B2⟩
  have BB := shut (below_more B1 B2 (Nat.le_refl _))
  have hd1 := shut (H1.keep B2)
  clear H1 B1 S1 B2
  go_wp2_with ((with_reducible refine at_list' ?_); refine wpList_built rfl 43 #[(0, .tmp 10)] rfl Z (by simp [Act.eval, Act.put]; with_reducible exact hb.out) ?_; refine Shut.out ?_)
  refine Shut.mk ?_
  refine wpList_alloc_c Try.tyState rfl 7 rfl rfl ?_
  intro w3 H3 B3 S3
  simp only [Act.put, List.setIfInBounds_toArray, List.set_cons_succ, List.set_cons_zero]
  refine wpList_store_c Try.tyState rfl (.tmp 7) (.tmp 11) rfl w2.heap.size Z rfl rfl hlZ.out h1Z.out _ H3 rfl ?_
  intro w4 H4 O4
  have B24 := below_only B3 O4 (Nat.le_refl _)
  have BC := shut (below_more BB.out B24 (Nat.le_refl _))
  have hd1 := shut (hd1.out.keep B24)
  have hd2 := shut H4
  clear H3 B3 O4 S3 H4 B24 BB
  simp only [Act.put]
  obtain ⟨gs, hgs⟩ : ∃ g, w2.heap.size = g := ⟨_, rfl⟩
  rw [hgs] at hd2 ⊢
  clear hgs
  go_wp2
  refine wp_region_flowN 36 (fun _ => false) (fun i v wq => match i with
    | 0 => v = .int .u64 ((n : Nat) : Int)
    | 1 => v = .int .u64 ((n / 4 : Nat) : Int)
    | 2 => v = .int .u64 ((n : Nat) : Int)
    | 3 => v = .int .u64 ((n / 4 : Nat) : Int)
    | 4 => v = .bool true
    | 5 => v = .bool true
    | 6 => v = .int .u64 ((ep : Nat) : Int)
    | 7 => v = .int .u64 ((4 * ep % 18446744073709551616 : Nat) : Int)
    | 8 => v = .int .u64 ((ep : Nat) : Int)
    | 9 => v = .int .u64 ((4 * ep % 18446744073709551616 : Nat) : Int)
    | 10 => v = .bool true
    | 11 => v = .bool true
    | 12 => v = .bool true
    | 13 => v = .agg (Z).toArray
    | 14 => v = .int .u64 ((n / 4 : Nat) : Int)
    | 15 => v = .int .u64 ((n : Nat) : Int)
    | 16 => v = .int .u64 ((n / 4 : Nat) : Int)
    | 17 => v = .bool true
    | 18 => v = .bool true
    | 19 => v = .bool true
    | 20 => v = .agg (Z).toArray
    | 21 => v = .int .u64 ((befV n : Nat) : Int)
    | 22 => v = .int .u64 ((n : Nat) : Int)
    | 23 => v = .int .u64 ((n / 4 : Nat) : Int)
    | 24 => v = .int .u64 ((befV n : Nat) : Int)
    | 25 => v = .bool true
    | 26 => v = .bool true
    | 27 => v = .bool true
    | 28 => v = .agg (V).toArray
    | 29 => v = .int .u64 ((ep : Nat) : Int)
    | 30 => v = .bool true
    | 31 => v = .agg (V).toArray
    | 32 => v = .int .u64 ((ep : Nat) : Int)
    | 33 => v = .bool true
    | 34 => v = .bool true
    | _ => v = .bool true) (by kernel_rfl) (by kernel_rfl) ?_ ?_ ?_ ?_ ?_ ?_
  · intro i o g b hi ho hg v wq hv
    match i, hi with
    | 0, _ => cases ho; cases hg
    | 1, _ => cases ho; cases hg
    | 2, _ => cases ho; cases hg
    | 3, _ => cases ho; cases hg
    | 4, _ => cases ho; cases hg
    | 5, _ => cases ho; cases hg
    | 6, _ => cases ho; cases hg; exact (if_neg (by decide)).mpr hv
    | 7, _ => cases ho; cases hg; exact (if_neg (by decide)).mpr hv
    | 8, _ => cases ho; cases hg; exact (if_neg (by decide)).mpr hv
    | 9, _ => cases ho; cases hg; exact (if_neg (by decide)).mpr hv
    | 10, _ => cases ho; cases hg; exact (if_neg (by decide)).mpr hv
    | 11, _ => cases ho; cases hg
    | 12, _ => cases ho; cases hg
    | 13, _ => cases ho; cases hg; exact (if_neg (by decide)).mpr hv
    | 14, _ => cases ho; cases hg; exact (if_neg (by decide)).mpr hv
    | 15, _ => cases ho; cases hg; exact (if_neg (by decide)).mpr hv
    | 16, _ => cases ho; cases hg; exact (if_neg (by decide)).mpr hv
    | 17, _ => cases ho; cases hg; exact (if_neg (by decide)).mpr hv
    | 18, _ => cases ho; cases hg
    | 19, _ => cases ho; cases hg
    | 20, _ => cases ho; cases hg; exact (if_neg (by decide)).mpr hv
    | 21, _ => cases ho; cases hg; exact (if_neg (by decide)).mpr hv
    | 22, _ => cases ho; cases hg; exact (if_neg (by decide)).mpr hv
    | 23, _ => cases ho; cases hg; exact (if_neg (by decide)).mpr hv
    | 24, _ => cases ho; cases hg; exact (if_neg (by decide)).mpr hv
    | 25, _ => cases ho; cases hg; exact (if_neg (by decide)).mpr hv
    | 26, _ => cases ho; cases hg
    | 27, _ => cases ho; cases hg
    | 28, _ => cases ho; cases hg; exact (if_neg (by decide)).mpr hv
    | 29, _ => cases ho; cases hg; exact (if_neg (by decide)).mpr hv
    | 30, _ => cases ho; cases hg; exact (if_neg (by decide)).mpr hv
    | 31, _ => cases ho; cases hg; exact (if_neg (by decide)).mpr hv
    | 32, _ => cases ho; cases hg; exact (if_neg (by decide)).mpr hv
    | 33, _ => cases ho; cases hg; exact (if_neg (by decide)).mpr hv
    | 34, _ => cases ho; cases hg; exact (if_neg (by decide)).mpr hv
    | 35, _ => cases ho; cases hg
    | (k + 36), hk => exact absurd hk (by omega)
  · intro i o hi ho hg
    match i, hi with
    | 0, _ => rfl
    | 1, _ => rfl
    | 2, _ => rfl
    | 3, _ => rfl
    | 4, _ => rfl
    | 5, _ => rfl
    | 6, _ => cases ho; cases hg
    | 7, _ => cases ho; cases hg
    | 8, _ => cases ho; cases hg
    | 9, _ => cases ho; cases hg
    | 10, _ => cases ho; cases hg
    | 11, _ => rfl
    | 12, _ => rfl
    | 13, _ => cases ho; cases hg
    | 14, _ => cases ho; cases hg
    | 15, _ => cases ho; cases hg
    | 16, _ => cases ho; cases hg
    | 17, _ => cases ho; cases hg
    | 18, _ => rfl
    | 19, _ => rfl
    | 20, _ => cases ho; cases hg
    | 21, _ => cases ho; cases hg
    | 22, _ => cases ho; cases hg
    | 23, _ => cases ho; cases hg
    | 24, _ => cases ho; cases hg
    | 25, _ => cases ho; cases hg
    | 26, _ => rfl
    | 27, _ => rfl
    | 28, _ => cases ho; cases hg
    | 29, _ => cases ho; cases hg
    | 30, _ => cases ho; cases hg
    | 31, _ => cases ho; cases hg
    | 32, _ => cases ho; cases hg
    | 33, _ => cases ho; cases hg
    | 34, _ => cases ho; cases hg
    | 35, _ => rfl
    | (k + 36), hk => exact absurd hk (by omega)
  · intro i wq hi hs
    match i, hi with
    | 0, _ => cases hs
    | 1, _ => cases hs
    | 2, _ => cases hs
    | 3, _ => cases hs
    | 4, _ => cases hs
    | 5, _ => cases hs
    | 6, _ => cases hs
    | 7, _ => cases hs
    | 8, _ => cases hs
    | 9, _ => cases hs
    | 10, _ => cases hs
    | 11, _ => cases hs
    | 12, _ => cases hs
    | 13, _ => cases hs
    | 14, _ => cases hs
    | 15, _ => cases hs
    | 16, _ => cases hs
    | 17, _ => cases hs
    | 18, _ => cases hs
    | 19, _ => cases hs
    | 20, _ => cases hs
    | 21, _ => cases hs
    | 22, _ => cases hs
    | 23, _ => cases hs
    | 24, _ => cases hs
    | 25, _ => cases hs
    | 26, _ => cases hs
    | 27, _ => cases hs
    | 28, _ => cases hs
    | 29, _ => cases hs
    | 30, _ => cases hs
    | 31, _ => cases hs
    | 32, _ => cases hs
    | 33, _ => cases hs
    | 34, _ => cases hs
    | 35, _ => cases hs
    | (k + 36), hk => exact absurd hk (by omega)
  · intro i v wq wq' hi hv hb
    match i, hi with
    | 0, _ => exact hv
    | 1, _ => exact hv
    | 2, _ => exact hv
    | 3, _ => exact hv
    | 4, _ => exact hv
    | 5, _ => exact hv
    | 6, _ => exact hv
    | 7, _ => exact hv
    | 8, _ => exact hv
    | 9, _ => exact hv
    | 10, _ => exact hv
    | 11, _ => exact hv
    | 12, _ => exact hv
    | 13, _ => exact hv
    | 14, _ => exact hv
    | 15, _ => exact hv
    | 16, _ => exact hv
    | 17, _ => exact hv
    | 18, _ => exact hv
    | 19, _ => exact hv
    | 20, _ => exact hv
    | 21, _ => exact hv
    | 22, _ => exact hv
    | 23, _ => exact hv
    | 24, _ => exact hv
    | 25, _ => exact hv
    | 26, _ => exact hv
    | 27, _ => exact hv
    | 28, _ => exact hv
    | 29, _ => exact hv
    | 30, _ => exact hv
    | 31, _ => exact hv
    | 32, _ => exact hv
    | 33, _ => exact hv
    | 34, _ => exact hv
    | 35, _ => exact hv
    | (k + 36), hk => exact absurd hk (by omega)
  · intro i o hi ho hs aq wq hc hk hdep
    match i, hi with
    | 0, _ =>
      cases ho
      have e0_1 : aq.eval (.tmp 0) = .int .u64 ((n : Nat) : Int) := hk 0 (by decide)
      exact flow_move (.tmp 0) rfl e0_1
    | 1, _ =>
      cases ho
      have e12_2 : aq.eval (.tmp 12) = .int .u64 ((n : Nat) : Int) := hdep 0 12 rfl (by kernel_rfl)
      refine flow_fun 6 _ _ rfl (fun _ _ => by simp [go_sem]) #[.int .u64 ((n : Nat) : Int)] (by simp only [List.map_toArray, List.map_cons, List.map_nil, e12_2]) ?_
      refine ((HEp).out wq).mono ?_
      rintro e w' ⟨rfl, B⟩
      exact ⟨_, rfl, rfl, B⟩
    | 2, _ =>
      cases ho
      have e0_3 : aq.eval (.tmp 0) = .int .u64 ((n : Nat) : Int) := hk 0 (by decide)
      exact flow_move (.tmp 0) rfl e0_3
    | 3, _ =>
      cases ho
      have e14_4 : aq.eval (.tmp 14) = .int .u64 ((n : Nat) : Int) := hdep 2 14 rfl (by kernel_rfl)
      exact flow_value _ (run_quo4 (.tmp 14) (.const (.int .u64 4)) rfl n hn.out e14_4 rfl) rfl
    | 4, _ =>
      cases ho
      have e13_5 : aq.eval (.tmp 13) = .int .u64 ((n / 4 : Nat) : Int) := hdep 1 13 rfl (by kernel_rfl)
      have e15_6 : aq.eval (.tmp 15) = .int .u64 ((n / 4 : Nat) : Int) := hdep 3 15 rfl (by kernel_rfl)
      exact flow_value _ (run_eqH (.tmp 13) (.tmp 15) rfl (n / 4) (n / 4) true (decide_eq_true rfl) e13_5 e15_6) rfl
    | 5, _ =>
      cases ho
      have e16_7 : aq.eval (.tmp 16) = .bool true := hdep 4 16 rfl (by kernel_rfl)
      exact flow_move (.tmp 16) rfl e16_7
    | 6, _ =>
      cases ho
      have e1_8 : aq.eval (.tmp 1) = .int .u64 ((ep : Nat) : Int) := hk 1 (by decide)
      exact flow_move (.tmp 1) rfl e1_8
    | 7, _ =>
      cases ho
      have e18_9 : aq.eval (.tmp 18) = .int .u64 ((ep : Nat) : Int) := hdep 6 18 rfl (by kernel_rfl)
      refine flow_fun 7 _ _ rfl (fun _ _ => by simp [go_sem]) #[.int .u64 ((ep : Nat) : Int)] (by simp only [List.map_toArray, List.map_cons, List.map_nil, e18_9]) ?_
      refine ((HSt).out wq).mono ?_
      rintro e w' ⟨rfl, B⟩
      exact ⟨_, rfl, rfl, B⟩
    | 8, _ =>
      cases ho
      have e1_10 : aq.eval (.tmp 1) = .int .u64 ((ep : Nat) : Int) := hk 1 (by decide)
      exact flow_move (.tmp 1) rfl e1_10
    | 9, _ =>
      cases ho
      have e20_11 : aq.eval (.tmp 20) = .int .u64 ((ep : Nat) : Int) := hdep 8 20 rfl (by kernel_rfl)
      exact flow_value _ (run_mul4 (.const (.int .u64 4)) (.tmp 20) rfl ep rfl e20_11) rfl
    | 10, _ =>
      cases ho
      have e19_12 : aq.eval (.tmp 19) = .int .u64 ((4 * ep % 18446744073709551616 : Nat) : Int) := hdep 7 19 rfl (by kernel_rfl)
      have e21_13 : aq.eval (.tmp 21) = .int .u64 ((4 * ep % 18446744073709551616 : Nat) : Int) := hdep 9 21 rfl (by kernel_rfl)
      exact flow_value _ (run_eqH (.tmp 19) (.tmp 21) rfl (4 * ep % 18446744073709551616) (4 * ep % 18446744073709551616) true (decide_eq_true rfl) e19_12 e21_13) rfl
    | 11, _ =>
      cases ho
      have e17_14 : aq.eval (.tmp 17) = .bool true := hdep 5 17 rfl (by kernel_rfl)
      have e22_15 : aq.eval (.tmp 22) = .bool true := hdep 10 22 rfl (by kernel_rfl)
      exact flow_value _ (run_pick1 (.tmp 17) (.tmp 22) (.const (.bool false)) rfl _ e17_14 e22_15) rfl
    | 12, _ =>
      cases ho
      have e23_16 : aq.eval (.tmp 23) = .bool true := hdep 11 23 rfl (by kernel_rfl)
      exact flow_move (.tmp 23) rfl e23_16
    | 13, _ =>
      cases ho
      have e7_17 : aq.eval (.tmp 7) = .pointer (some ⟨gs, 0, none⟩) := hk 7 (by decide)
      exact flow_value _ (run_mid 43 (.tmp 7) rfl gs 0 e7_17 (Z) ((HasC.keep (hd2.out) hc.bel).range 0 _ (fun j v hv => by rw [Nat.zero_add]; exact hv)) _ Try.underlying43 rfl (by rw [hlZ.out]; exact Try.tyState.size)) rfl
    | 14, _ =>
      cases ho
      have e25_18 : aq.eval (.tmp 25) = .agg (Z).toArray := hdep 13 25 rfl (by kernel_rfl)
      refine flow_fun 8 _ _ rfl (fun _ _ => by simp [go_sem]) #[.agg (Z).toArray] (by simp only [List.map_toArray, List.map_cons, List.map_nil, e25_18]) ?_
      refine ((HNo).out wq).mono ?_
      rintro e w' ⟨rfl, B⟩
      exact ⟨_, rfl, rfl, B⟩
    | 15, _ =>
      cases ho
      have e0_19 : aq.eval (.tmp 0) = .int .u64 ((n : Nat) : Int) := hk 0 (by decide)
      exact flow_move (.tmp 0) rfl e0_19
    | 16, _ =>
      cases ho
      have e27_20 : aq.eval (.tmp 27) = .int .u64 ((n : Nat) : Int) := hdep 15 27 rfl (by kernel_rfl)
      exact flow_value _ (run_quo4 (.tmp 27) (.const (.int .u64 4)) rfl n hn.out e27_20 rfl) rfl
    | 17, _ =>
      cases ho
      have e26_21 : aq.eval (.tmp 26) = .int .u64 ((n / 4 : Nat) : Int) := hdep 14 26 rfl (by kernel_rfl)
      have e28_22 : aq.eval (.tmp 28) = .int .u64 ((n / 4 : Nat) : Int) := hdep 16 28 rfl (by kernel_rfl)
      exact flow_value _ (run_eqH (.tmp 26) (.tmp 28) rfl (n / 4) (n / 4) true (decide_eq_true rfl) e26_21 e28_22) rfl
    | 18, _ =>
      cases ho
      have e24_23 : aq.eval (.tmp 24) = .bool true := hdep 12 24 rfl (by kernel_rfl)
      have e29_24 : aq.eval (.tmp 29) = .bool true := hdep 17 29 rfl (by kernel_rfl)
      exact flow_value _ (run_pick1 (.tmp 24) (.tmp 29) (.const (.bool false)) rfl _ e24_23 e29_24) rfl
    | 19, _ =>
      cases ho
      have e30_25 : aq.eval (.tmp 30) = .bool true := hdep 18 30 rfl (by kernel_rfl)
      exact flow_move (.tmp 30) rfl e30_25
    | 20, _ =>
      cases ho
      have e7_26 : aq.eval (.tmp 7) = .pointer (some ⟨gs, 0, none⟩) := hk 7 (by decide)
      exact flow_value _ (run_mid 43 (.tmp 7) rfl gs 0 e7_26 (Z) ((HasC.keep (hd2.out) hc.bel).range 0 _ (fun j v hv => by rw [Nat.zero_add]; exact hv)) _ Try.underlying43 rfl (by rw [hlZ.out]; exact Try.tyState.size)) rfl
    | 21, _ =>
      cases ho
      have e32_27 : aq.eval (.tmp 32) = .agg (Z).toArray := hdep 20 32 rfl (by kernel_rfl)
      refine flow_fun 9 _ _ rfl (fun _ _ => by simp [go_sem]) #[.agg (Z).toArray] (by simp only [List.map_toArray, List.map_cons, List.map_nil, e32_27]) ?_
      refine ((HBe).out wq).mono ?_
      rintro e w' ⟨rfl, B⟩
      exact ⟨_, rfl, rfl, B⟩
    | 22, _ =>
      cases ho
      have e0_28 : aq.eval (.tmp 0) = .int .u64 ((n : Nat) : Int) := hk 0 (by decide)
      exact flow_move (.tmp 0) rfl e0_28
    | 23, _ =>
      cases ho
      have e34_29 : aq.eval (.tmp 34) = .int .u64 ((n : Nat) : Int) := hdep 22 34 rfl (by kernel_rfl)
      exact flow_value _ (run_quo4 (.tmp 34) (.const (.int .u64 4)) rfl n hn.out e34_29 rfl) rfl
    | 24, _ =>
      cases ho
      have e35_30 : aq.eval (.tmp 35) = .int .u64 ((n / 4 : Nat) : Int) := hdep 23 35 rfl (by kernel_rfl)
      refine flow_fun 10 _ _ rfl (fun _ _ => by simp [go_sem]) #[.int .u64 ((n / 4 : Nat) : Int), .int .u64 ((1 : Nat) : Int)] (by simp only [List.map_toArray, List.map_cons, List.map_nil, e35_30]; rfl) ?_
      refine ((HRl).out wq).mono ?_
      rintro e w' ⟨rfl, B⟩
      exact ⟨_, rfl, rfl, B⟩
    | 25, _ =>
      cases ho
      have e33_31 : aq.eval (.tmp 33) = .int .u64 ((befV n : Nat) : Int) := hdep 21 33 rfl (by kernel_rfl)
      have e36_32 : aq.eval (.tmp 36) = .int .u64 ((befV n : Nat) : Int) := hdep 24 36 rfl (by kernel_rfl)
      exact flow_value _ (run_eqH (.tmp 33) (.tmp 36) rfl (befV n) (befV n) true (decide_eq_true rfl) e33_31 e36_32) rfl
    | 26, _ =>
      cases ho
      have e31_33 : aq.eval (.tmp 31) = .bool true := hdep 19 31 rfl (by kernel_rfl)
      have e37_34 : aq.eval (.tmp 37) = .bool true := hdep 25 37 rfl (by kernel_rfl)
      exact flow_value _ (run_pick1 (.tmp 31) (.tmp 37) (.const (.bool false)) rfl _ e31_33 e37_34) rfl
    | 27, _ =>
      cases ho
      have e38_35 : aq.eval (.tmp 38) = .bool true := hdep 26 38 rfl (by kernel_rfl)
      exact flow_move (.tmp 38) rfl e38_35
    | 28, _ =>
      cases ho
      have e5_36 : aq.eval (.tmp 5) = .pointer (some ⟨w.heap.size, 0, none⟩) := hk 5 (by decide)
      exact flow_value _ (run_mid 26 (.tmp 5) rfl w.heap.size 0 e5_36 (V) ((HasC.keep (hd1.out) hc.bel).range 0 _ (fun j v hv => by rw [Nat.zero_add]; exact hv)) _ Try.underlying26 rfl (by rw [hlV.out]; exact Try.tyVal.size)) rfl
    | 29, _ =>
      cases ho
      have e1_37 : aq.eval (.tmp 1) = .int .u64 ((ep : Nat) : Int) := hk 1 (by decide)
      exact flow_move (.tmp 1) rfl e1_37
    | 30, _ =>
      cases ho
      have e40_38 : aq.eval (.tmp 40) = .agg (V).toArray := hdep 28 40 rfl (by kernel_rfl)
      have e41_39 : aq.eval (.tmp 41) = .int .u64 ((ep : Nat) : Int) := hdep 29 41 rfl (by kernel_rfl)
      refine flow_fun 11 _ _ rfl (fun _ _ => by simp [go_sem]) #[.agg (V).toArray, .int .u64 ((ep : Nat) : Int)] (by simp only [List.map_toArray, List.map_cons, List.map_nil, e40_38, e41_39]) ?_
      refine ((HAc).out wq).mono ?_
      rintro e w' ⟨rfl, B⟩
      exact ⟨_, rfl, rfl, B⟩
    | 31, _ =>
      cases ho
      have e5_40 : aq.eval (.tmp 5) = .pointer (some ⟨w.heap.size, 0, none⟩) := hk 5 (by decide)
      exact flow_value _ (run_mid 26 (.tmp 5) rfl w.heap.size 0 e5_40 (V) ((HasC.keep (hd1.out) hc.bel).range 0 _ (fun j v hv => by rw [Nat.zero_add]; exact hv)) _ Try.underlying26 rfl (by rw [hlV.out]; exact Try.tyVal.size)) rfl
    | 32, _ =>
      cases ho
      have e1_41 : aq.eval (.tmp 1) = .int .u64 ((ep : Nat) : Int) := hk 1 (by decide)
      exact flow_move (.tmp 1) rfl e1_41
    | 33, _ =>
      cases ho
      have e43_42 : aq.eval (.tmp 43) = .agg (V).toArray := hdep 31 43 rfl (by kernel_rfl)
      have e44_43 : aq.eval (.tmp 44) = .int .u64 ((ep : Nat) : Int) := hdep 32 44 rfl (by kernel_rfl)
      refine flow_fun 12 _ _ rfl (fun _ _ => by simp [go_sem]) #[.agg (V).toArray, .int .u64 ((ep : Nat) : Int)] (by simp only [List.map_toArray, List.map_cons, List.map_nil, e43_42, e44_43]) ?_
      refine ((HRa).out wq).mono ?_
      rintro e w' ⟨rfl, B⟩
      exact ⟨_, rfl, rfl, B⟩
    | 34, _ =>
      cases ho
      have e42_44 : aq.eval (.tmp 42) = .bool true := hdep 30 42 rfl (by kernel_rfl)
      have e45_45 : aq.eval (.tmp 45) = .bool true := hdep 33 45 rfl (by kernel_rfl)
      exact flow_value _ (run_eqB (.tmp 42) (.tmp 45) rfl true true e42_44 e45_45) rfl
    | 35, _ =>
      cases ho
      have e39_46 : aq.eval (.tmp 39) = .bool true := hdep 27 39 rfl (by kernel_rfl)
      have e46_47 : aq.eval (.tmp 46) = .bool true := hdep 34 46 rfl (by kernel_rfl)
      exact flow_value _ (run_pick1 (.tmp 39) (.tmp 46) (.const (.bool false)) rfl _ e39_46 e46_47) rfl
    | (k + 36), hk => exact absurd hk (by omega)
  intro vf wv hc hv
  have f47 : vf 35 = .bool true := hv 35 47 (by decide) rfl
  clear hv
  simp only [List.take_succ_cons, List.take_zero, List.drop_succ_cons, List.drop_zero, putAll, Act.put, List.setIfInBounds_toArray, List.set_cons_succ, List.set_cons_zero]
  rw [f47]
  clear f47
  have BD := shut (below_more BC.out hc.bel (Nat.le_refl _))
  clear hc
  go_wp2
  go_ret
  exact ⟨rfl, BD.out⟩
theorem times_walk (n ep : Nat) (zk zr : List Nat) (ze : Nat) (zs : Bool) (zl za zx zw : Nat) (hn : n < 18446744073709551616) (hep : ep < 18446744073709551616) (hk : Rt zk) (hr : Rt zr) (ha : za < 18446744073709551616) (hx : zx < 18446744073709551616) (w : World) :
    Calls Try.prog 3 #[.int .u64 (n : Nat), .int .u64 (ep : Nat), .agg (vaX zk zr ze zs zl za zx zw).toArray] w fun e w' => e = .returned (.bool true) ∧ Below w.heap.size w w' := by
  obtain ⟨a67, a68, al⟩ := va_at zk zr ze zs zl za zx zw hk hr
  obtain ⟨_, _, zl0⟩ := va_at (zeros 32) (zeros 32) 0 false 0 0 0 0 zrq zrq
  have hlV := al.trans zl0.symm
  clear al zl0
  obtain ⟨V, hV⟩ : ∃ V, vaX zk zr ze zs zl za zx zw = V := ⟨_, rfl⟩
  rw [hV] at a67 a68 hlV ⊢
  clear hV
  obtain ⟨Z, hb, hZ0, hZl, hZ1⟩ := built_slot n
  have ac := fun wq => active_any V za zx ep a67 a68 wq
  have ra := fun wq => ractive_any V za zx ep a67 a68 wq
  have ep4 : ∀ wq, Calls Try.prog 6 #[.int .u64 ((n : Nat) : Int)] wq fun e w' => e = .returned (.int .u64 ((n / 4 : Nat) : Int)) ∧ Below wq.heap.size wq w' := fun wq => (epoch_any n hn wq).mono fun e w' ⟨he, hw⟩ => ⟨he, by rw [hw]; exact Below.refl _ _⟩
  have st4 : ∀ wq, Calls Try.prog 7 #[.int .u64 ((ep : Nat) : Int)] wq fun e w' => e = .returned (.int .u64 ((4 * ep % 18446744073709551616 : Nat) : Int)) ∧ Below wq.heap.size wq w' := fun wq => (start_any ep hep wq).mono fun e w' ⟨he, hw⟩ => ⟨he, by rw [hw]; exact Below.refl _ _⟩
  cases hA : actV za zx ep <;> rw [hA] at ac ra
  · exact timesW_f n ep V Z w (shut hn) (shut hlV) (shut hZl) (shut hZ1) (shut hb) (shut ep4) (shut st4) (shut fun wq => now_any Z n hn hZ0 wq) (shut fun wq => before_any Z n hn hZ0 hZl wq) (shut fun wq => refBef_any n hn wq) (shut ac) (shut ra)
  · exact timesW_t n ep V Z w (shut hn) (shut hlV) (shut hZl) (shut hZ1) (shut hb) (shut ep4) (shut st4) (shut fun wq => now_any Z n hn hZ0 wq) (shut fun wq => before_any Z n hn hZ0 hZl wq) (shut fun wq => refBef_any n hn wq) (shut ac) (shut ra)
end Go.Proofs.Ythjjdjidbhlncaa
