/- The lists of the protocol's values, at nothing. -/
import Derived.Test.YtpaamhmighgjeaaGreatPutH
namespace Go.Proofs.YtpaamhmighgjeaaGreat
open Go.RowKit Go.Shelf
set_option linter.unusedVariables false
set_option maxRecDepth 100000

theorem tyEth : Ty Tryz.prog 126 [.int .i64 0, .int .i64 0, .nilFunc, .nilFunc] := ⟨by kernel_rfl, _, Tryz.underlying126, rfl⟩
set_option maxHeartbeats 1000000 in
theorem lstEth (w : World) : Calls Tryz.prog 53 #[] w fun e w' => e = .returned (.agg ([.int .i64 40, .int .i64 8, .func (.func 93) #[] #[], .func (.func 95) #[] #[]] : List Value).toArray) ∧ Below w.heap.size w w' := by
  go_enter Tryz.func53, Tryz.ntmps53
  go_wp2_with ((with_reducible refine at_list' ?_); first
    | (refine wpList_alloc_c tyEth rfl 0 rfl rfl ?_; intro w1 H1 B1 S1)
    | (refine wpList_build_c rfl #[(0, .const (.int .i64 40)), (1, .const (.int .i64 8)), (2, .func 93), (3, .func 95)] rfl #[(0, .int .i64 40), (1, .int .i64 8), (2, .func (.func 93) #[] #[]), (3, .func (.func 95) #[] #[])] (by simp [Act.eval]) (.agg ([.int .i64 40, .int .i64 8, .func (.func 93) #[] #[], .func (.func 95) #[] #[]] : List Value).toArray) (by kernel_rfl) ?_)
    | (refine wpList_store_c tyEth rfl (.tmp 0) (.tmp 1) rfl w.heap.size [.int .i64 40, .int .i64 8, .func (.func 93) #[] #[], .func (.func 95) #[] #[]] rfl rfl rfl (by simp [Value.oneCell']) _ H1 rfl ?_; intro w2 H2 O2))
  refine bodyPost_ret (results_c1 tyEth rfl _ _ w.heap.size [.int .i64 40, .int .i64 8, .func (.func 93) #[] #[], .func (.func 95) #[] #[]] rfl H2 rfl) rfl ?_
  exact ⟨rfl, below_only B1 O2 (Nat.le_refl _)⟩
set_option maxHeartbeats 1000000 in
theorem enc0Eth (s l : Int) (f1 f2 : Value) (hs : 0 ≤ s) (w : World) : Calls Tryz.prog 54 #[.agg ([.int .i64 s, .int .i64 l, f1, f2] : List Value).toArray, .slice none 0 0] w fun e w' => ∃ v, e = .returned v ∧ Row w' w.heap.size v [] ∧ Below w.heap.size w w' := by
  go_enter Tryz.func54, Tryz.ntmps54
  go_wp2_with ((with_reducible refine at_list' ?_); first
    | (refine wpList_box_c rfl 2 rfl (.tmp 0) rfl [.int .i64 s, .int .i64 l, f1, f2] rfl ?_; intro w1 H1 B1 S1; have hc0 := H1.cell (j := 0) (v := .int .i64 s) rfl))
  have W1 := hid (wr_new w1)
  have B2 := hid (B1.trans (((Below.refl _ w1).alloc (Nat.le_refl _) (.cells #[.int .i64 0, .pointer none] 84)).mono (by omega)))
  rw [S1] at W1
  clear H1 B1 hc0
  generalize w1.alloc (.cells #[.int .i64 0, .pointer none] 84) = w2 at *
  clear S1
  go_loopw [7, 13] (fun _ c wr => c = .int .i64 0 ∧ wr = w2) (fun _ _ _ => 0)
  case atStart => exact ⟨rfl, rfl⟩
  case round =>
    obtain ⟨rfl, hwr⟩ := hrel
    replace hwr := hwr.symm
    subst hwr
    go_wp2_with (go_at_call 30; refine (bytes_any _ _ [] w2 W1.out (by simp) (by simp [lenF])).mono ?_; rintro e w3 ⟨v, rfl, R3, B3⟩; have HR3 := hid R3; have HB3 := hid B3; clear R3 B3)
    go_ret
    exact ⟨_, rfl, HR3.out.base B2.out.size, below_more B2.out HB3.out (Nat.le_refl _)⟩

theorem tyVal : Ty Tryz.prog 132 [.int .i64 0, .int .i64 0, .nilFunc, .nilFunc] := ⟨by kernel_rfl, _, Tryz.underlying132, rfl⟩
set_option maxHeartbeats 1000000 in
theorem lstVal (w : World) : Calls Tryz.prog 55 #[] w fun e w' => e = .returned (.agg ([.int .i64 105, .int .i64 32, .func (.func 99) #[] #[], .func (.func 100) #[] #[]] : List Value).toArray) ∧ Below w.heap.size w w' := by
  go_enter Tryz.func55, Tryz.ntmps55
  go_wp2_with ((with_reducible refine at_list' ?_); first
    | (refine wpList_alloc_c tyVal rfl 0 rfl rfl ?_; intro w1 H1 B1 S1)
    | (refine wpList_build_c rfl #[(0, .const (.int .i64 105)), (1, .const (.int .i64 32)), (2, .func 99), (3, .func 100)] rfl #[(0, .int .i64 105), (1, .int .i64 32), (2, .func (.func 99) #[] #[]), (3, .func (.func 100) #[] #[])] (by simp [Act.eval]) (.agg ([.int .i64 105, .int .i64 32, .func (.func 99) #[] #[], .func (.func 100) #[] #[]] : List Value).toArray) (by kernel_rfl) ?_)
    | (refine wpList_store_c tyVal rfl (.tmp 0) (.tmp 1) rfl w.heap.size [.int .i64 105, .int .i64 32, .func (.func 99) #[] #[], .func (.func 100) #[] #[]] rfl rfl rfl (by simp [Value.oneCell']) _ H1 rfl ?_; intro w2 H2 O2))
  refine bodyPost_ret (results_c1 tyVal rfl _ _ w.heap.size [.int .i64 105, .int .i64 32, .func (.func 99) #[] #[], .func (.func 100) #[] #[]] rfl H2 rfl) rfl ?_
  exact ⟨rfl, below_only B1 O2 (Nat.le_refl _)⟩
set_option maxHeartbeats 1000000 in
theorem enc0Val (s l : Int) (f1 f2 : Value) (hs : 0 ≤ s) (w : World) : Calls Tryz.prog 56 #[.agg ([.int .i64 s, .int .i64 l, f1, f2] : List Value).toArray, .slice none 0 0] w fun e w' => ∃ v, e = .returned v ∧ Row w' w.heap.size v [] ∧ Below w.heap.size w w' := by
  go_enter Tryz.func56, Tryz.ntmps56
  go_wp2_with ((with_reducible refine at_list' ?_); first
    | (refine wpList_box_c rfl 2 rfl (.tmp 0) rfl [.int .i64 s, .int .i64 l, f1, f2] rfl ?_; intro w1 H1 B1 S1; have hc0 := H1.cell (j := 0) (v := .int .i64 s) rfl))
  have W1 := hid (wr_new w1)
  have B2 := hid (B1.trans (((Below.refl _ w1).alloc (Nat.le_refl _) (.cells #[.int .i64 0, .pointer none] 84)).mono (by omega)))
  rw [S1] at W1
  clear H1 B1 hc0
  generalize w1.alloc (.cells #[.int .i64 0, .pointer none] 84) = w2 at *
  clear S1
  go_loopw [7, 13] (fun _ c wr => c = .int .i64 0 ∧ wr = w2) (fun _ _ _ => 0)
  case atStart => exact ⟨rfl, rfl⟩
  case round =>
    obtain ⟨rfl, hwr⟩ := hrel
    replace hwr := hwr.symm
    subst hwr
    go_wp2_with (go_at_call 30; refine (bytes_any _ _ [] w2 W1.out (by simp) (by simp [lenF])).mono ?_; rintro e w3 ⟨v, rfl, R3, B3⟩; have HR3 := hid R3; have HB3 := hid B3; clear R3 B3)
    go_ret
    exact ⟨_, rfl, HR3.out.base B2.out.size, below_more B2.out HB3.out (Nat.le_refl _)⟩

theorem tyNum : Ty Tryz.prog 89 [.int .i64 0, .int .i64 0, .nilFunc, .nilFunc] := ⟨by kernel_rfl, _, Tryz.underlying89, rfl⟩
set_option maxHeartbeats 1000000 in
theorem lstNum (w : World) : Calls Tryz.prog 26 #[.int .i64 32] w fun e w' => e = .returned (.agg ([.int .i64 8, .int .i64 32, .func (.func 65) #[] #[], .func (.func 68) #[] #[]] : List Value).toArray) ∧ Below w.heap.size w w' := by
  go_enter Tryz.func26, Tryz.ntmps26
  go_wp2_with ((with_reducible refine at_list' ?_); first
    | (refine wpList_alloc_c tyNum rfl 2 rfl rfl ?_; intro w1 H1 B1 S1)
    | (refine wpList_build_c rfl #[(0, .const (.int .i64 8)), (1, .tmp 3), (2, .func 65), (3, .func 68)] rfl #[(0, .int .i64 8), (1, .int .i64 32), (2, .func (.func 65) #[] #[]), (3, .func (.func 68) #[] #[])] (by simp [Act.eval]) (.agg ([.int .i64 8, .int .i64 32, .func (.func 65) #[] #[], .func (.func 68) #[] #[]] : List Value).toArray) (by kernel_rfl) ?_)
    | (refine wpList_store_c tyNum rfl (.tmp 2) (.tmp 4) rfl w.heap.size [.int .i64 8, .int .i64 32, .func (.func 65) #[] #[], .func (.func 68) #[] #[]] rfl rfl rfl (by simp [Value.oneCell']) _ H1 rfl ?_; intro w2 H2 O2))
  refine bodyPost_ret (results_c1 tyNum rfl _ _ w.heap.size [.int .i64 8, .int .i64 32, .func (.func 65) #[] #[], .func (.func 68) #[] #[]] rfl H2 rfl) rfl ?_
  exact ⟨rfl, below_only B1 O2 (Nat.le_refl _)⟩
set_option maxHeartbeats 1000000 in
theorem enc0Num (s l : Int) (f1 f2 : Value) (hs : 0 ≤ s) (w : World) : Calls Tryz.prog 27 #[.agg ([.int .i64 s, .int .i64 l, f1, f2] : List Value).toArray, .slice none 0 0] w fun e w' => ∃ v, e = .returned v ∧ Row w' w.heap.size v [] ∧ Below w.heap.size w w' := by
  go_enter Tryz.func27, Tryz.ntmps27
  go_wp2_with ((with_reducible refine at_list' ?_); first
    | (refine wpList_box_c rfl 2 rfl (.tmp 0) rfl [.int .i64 s, .int .i64 l, f1, f2] rfl ?_; intro w1 H1 B1 S1; have hc0 := H1.cell (j := 0) (v := .int .i64 s) rfl))
  have W1 := hid (wr_new w1)
  have B2 := hid (B1.trans (((Below.refl _ w1).alloc (Nat.le_refl _) (.cells #[.int .i64 0, .pointer none] 84)).mono (by omega)))
  rw [S1] at W1
  clear H1 B1 hc0
  generalize w1.alloc (.cells #[.int .i64 0, .pointer none] 84) = w2 at *
  clear S1
  go_loopw [7, 13] (fun _ c wr => c = .int .i64 0 ∧ wr = w2) (fun _ _ _ => 0)
  case atStart => exact ⟨rfl, rfl⟩
  case round =>
    obtain ⟨rfl, hwr⟩ := hrel
    replace hwr := hwr.symm
    subst hwr
    go_wp2_with (go_at_call 30; refine (bytes_any _ _ [] w2 W1.out (by simp) (by simp [lenF])).mono ?_; rintro e w3 ⟨v, rfl, R3, B3⟩; have HR3 := hid R3; have HB3 := hid B3; clear R3 B3)
    go_ret
    exact ⟨_, rfl, HR3.out.base B2.out.size, below_more B2.out HB3.out (Nat.le_refl _)⟩

theorem tyPen : Ty Tryz.prog 140 [.int .i64 0, .int .i64 0, .nilFunc, .nilFunc] := ⟨by kernel_rfl, _, Tryz.underlying140, rfl⟩
set_option maxHeartbeats 1000000 in
theorem lstPen (w : World) : Calls Tryz.prog 57 #[] w fun e w' => e = .returned (.agg ([.int .i64 0, .int .i64 32, .func (.func 102) #[] #[], .func (.func 103) #[] #[]] : List Value).toArray) ∧ Below w.heap.size w w' := by
  go_enter Tryz.func57, Tryz.ntmps57
  go_wp2_with ((with_reducible refine at_list' ?_); first
    | (refine wpList_alloc_c tyPen rfl 0 rfl rfl ?_; intro w1 H1 B1 S1)
    | (refine wpList_build_c rfl #[(1, .const (.int .i64 32)), (2, .func 102), (3, .func 103)] rfl #[(1, .int .i64 32), (2, .func (.func 102) #[] #[]), (3, .func (.func 103) #[] #[])] (by simp [Act.eval]) (.agg ([.int .i64 0, .int .i64 32, .func (.func 102) #[] #[], .func (.func 103) #[] #[]] : List Value).toArray) (by kernel_rfl) ?_)
    | (refine wpList_store_c tyPen rfl (.tmp 0) (.tmp 1) rfl w.heap.size [.int .i64 0, .int .i64 32, .func (.func 102) #[] #[], .func (.func 103) #[] #[]] rfl rfl rfl (by simp [Value.oneCell']) _ H1 rfl ?_; intro w2 H2 O2))
  refine bodyPost_ret (results_c1 tyPen rfl _ _ w.heap.size [.int .i64 0, .int .i64 32, .func (.func 102) #[] #[], .func (.func 103) #[] #[]] rfl H2 rfl) rfl ?_
  exact ⟨rfl, below_only B1 O2 (Nat.le_refl _)⟩
set_option maxHeartbeats 1000000 in
theorem enc0Pen (s l : Int) (f1 f2 : Value) (hs : 0 ≤ s) (w : World) : Calls Tryz.prog 58 #[.agg ([.int .i64 s, .int .i64 l, f1, f2] : List Value).toArray, .slice none 0 0] w fun e w' => ∃ v, e = .returned v ∧ Row w' w.heap.size v [] ∧ Below w.heap.size w w' := by
  go_enter Tryz.func58, Tryz.ntmps58
  go_wp2_with ((with_reducible refine at_list' ?_); first
    | (refine wpList_box_c rfl 2 rfl (.tmp 0) rfl [.int .i64 s, .int .i64 l, f1, f2] rfl ?_; intro w1 H1 B1 S1; have hc0 := H1.cell (j := 0) (v := .int .i64 s) rfl))
  have W1 := hid (wr_new w1)
  have B2 := hid (B1.trans (((Below.refl _ w1).alloc (Nat.le_refl _) (.cells #[.int .i64 0, .pointer none] 84)).mono (by omega)))
  rw [S1] at W1
  clear H1 B1 hc0
  generalize w1.alloc (.cells #[.int .i64 0, .pointer none] 84) = w2 at *
  clear S1
  go_loopw [7, 13] (fun _ c wr => c = .int .i64 0 ∧ wr = w2) (fun _ _ _ => 0)
  case atStart => exact ⟨rfl, rfl⟩
  case round =>
    obtain ⟨rfl, hwr⟩ := hrel
    replace hwr := hwr.symm
    subst hwr
    go_wp2_with (go_at_call 30; refine (bytes_any _ _ [] w2 W1.out (by simp) (by simp [lenF])).mono ?_; rintro e w3 ⟨v, rfl, R3, B3⟩; have HR3 := hid R3; have HB3 := hid B3; clear R3 B3)
    go_ret
    exact ⟨_, rfl, HR3.out.base B2.out.size, below_more B2.out HB3.out (Nat.le_refl _)⟩
end Go.Proofs.YtpaamhmighgjeaaGreat
