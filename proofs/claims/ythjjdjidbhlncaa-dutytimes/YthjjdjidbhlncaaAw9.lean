/- The fixed facts that every statement of layer 9 asks first hold. -/
import Derived.Test.YthjjdjidbhlncaaSlash
import Derived.Test.YthjjdjidbhlncaaTot13
namespace Go.Proofs.Ythjjdjidbhlncaa
open Go.RowKit
set_option linter.unusedVariables false
set_option linter.unusedSimpArgs false
set_option maxRecDepth 100000

theorem wpList_built {P : Program} {w : World} {ops : Array Oper} {rest : List Oper} {o : Oper} {a : Act} {Q : Exit → Act → World → Prop} (hgd : o.guard = none) (t : TypeId) (ps : Array (Nat × Operand)) (ho : o.op = .build t ps) (cs : List Value) (hb : P.built t (ps.map fun (i, x) => (i, a.eval x)).toList = some cs.toArray)
    (h : wpList P ops Q rest (a.put o.dst (.agg cs.toArray)) w) : wpList P ops Q (o :: rest) a w :=
  wpList_plain hgd fun K hK => wp_build t ps ho (by rw [hb]; rfl) (by rw [hb]; exact hK _ _ h)
theorem built_state : ∃ Z, Try.prog.built 43 [] = some Z := Option.isSome_iff_exists.1 (show (Try.prog.built 43 []).isSome = true by kernel_rfl)
theorem wpList_funW {P : Program} {w : World} {ops : Array Oper} {rest : List Oper} {o : Oper} {a : Act} {Q : Exit → Act → World → Prop} (hw : Region.wanted o (yielded ops a.tmps) = true) (f : FuncId) (xs : Array Operand) (ts : Array TypeId) (ho : o.op = .call { callee := .value (.func f), args := xs, argTypes := ts }) (hf : ∀ args w, (callFunc f args).run P w = .ok (.enter f args) w) (args : Array Value) (hargs : xs.map a.eval = args) (v : Value)
    (hc : Calls P f args w fun e w' => e = .returned v ∧ Below w.heap.size w w') (h : ∀ w', Below w.heap.size w w' → wpList P ops Q rest (a.put o.dst v) w') : wpList P ops Q (o :: rest) a w :=
  BigFrame.wpList_want hw fun K hK => Oper.wp_mono (fun a' w' ⟨u, ha, hu, hb⟩ => by subst ha; subst hu; exact hK _ _ (h w' hb)) (flow_fun (I := fun u _ => u = v) f xs ts ho hf args hargs (hc.mono fun e w' ⟨he, hb⟩ => ⟨v, he, rfl, hb⟩))
abbrev vtZ (es et : Nat) : List Value := vtX 0 0 (zeros 32) es (zeros 32) et (zeros 32)
theorem vtZ_one (es et : Nat) : (vtZ es et).toArray.all (·.oneCell') = true := by
  simp [vtX, cpX, cellsB, Value.oneCell']
set_option maxHeartbeats 2000000 in
theorem awake_any (w : World) : Calls Try.prog 5 #[] w fun e w' => e = .returned (.bool true) ∧ Below w.heap.size w w' := by
  have HS1 := shut (fun wq => slashable_any 0 0 (zeros 32) 1 (zeros 32) 4 (zeros 32) 0 0 (zeros 32) 2 (zeros 32) 3 (zeros 32) zrq zrq zrq zrq zrq zrq wq)
  have HS2 := shut (fun wq => slashable_any 0 0 (zeros 32) 2 (zeros 32) 3 (zeros 32) 0 0 (zeros 32) 1 (zeros 32) 4 (zeros 32) zrq zrq zrq zrq zrq zrq wq)
  rw [show slV 0 0 (zeros 32) 1 (zeros 32) 4 (zeros 32) 0 0 (zeros 32) 2 (zeros 32) 3 (zeros 32) = true by decide +kernel] at HS1
  rw [show slV 0 0 (zeros 32) 2 (zeros 32) 3 (zeros 32) 0 0 (zeros 32) 1 (zeros 32) 4 (zeros 32) = false by decide +kernel] at HS2
  have hb1 : Try.prog.built 41 [(0, .int .u64 1)] = some (cpX 1 (zeros 32)).toArray := by kernel_rfl
  have hb4 : Try.prog.built 41 [(0, .int .u64 4)] = some (cpX 4 (zeros 32)).toArray := by kernel_rfl
  have hb2 : Try.prog.built 41 [(0, .int .u64 2)] = some (cpX 2 (zeros 32)).toArray := by kernel_rfl
  have hb3 : Try.prog.built 41 [(0, .int .u64 3)] = some (cpX 3 (zeros 32)).toArray := by kernel_rfl
  have hbA : Try.prog.built 50 [(3, .agg (cpX 1 (zeros 32)).toArray), (4, .agg (cpX 4 (zeros 32)).toArray)] = some (vtZ 1 4).toArray := by kernel_rfl
  have hbB : Try.prog.built 50 [(3, .agg (cpX 2 (zeros 32)).toArray), (4, .agg (cpX 3 (zeros 32)).toArray)] = some (vtZ 2 3).toArray := by kernel_rfl
  have hlA := shut (vt_lz 0 0 (zeros 32) 1 (zeros 32) 4 (zeros 32) zrq zrq zrq)
  have hlB := shut (vt_lz 0 0 (zeros 32) 2 (zeros 32) 3 (zeros 32) zrq zrq zrq)
  have h1A := shut (vtZ_one 1 4)
  have h1B := shut (vtZ_one 2 3)
  obtain ⟨A, hAe⟩ : ∃ A, vtX 0 0 (zeros 32) 1 (zeros 32) 4 (zeros 32) = A := ⟨_, rfl⟩
  obtain ⟨B, hBe⟩ : ∃ B, vtX 0 0 (zeros 32) 2 (zeros 32) 3 (zeros 32) = B := ⟨_, rfl⟩
  unfold vtZ at hbA hbB h1A h1B
  rw [hAe] at HS1 HS2 hbA hlA h1A
  rw [hBe] at HS1 HS2 hbB hlB h1B
  obtain ⟨c1, hc1⟩ : ∃ c, cpX 1 (zeros 32) = c := ⟨_, rfl⟩
  obtain ⟨c2, hc2⟩ : ∃ c, cpX 2 (zeros 32) = c := ⟨_, rfl⟩
  obtain ⟨c3, hc3⟩ : ∃ c, cpX 3 (zeros 32) = c := ⟨_, rfl⟩
  obtain ⟨c4, hc4⟩ : ∃ c, cpX 4 (zeros 32) = c := ⟨_, rfl⟩
  rw [hc1] at hb1 hbA
  rw [hc4] at hb4 hbA
  rw [hc2] at hb2 hbB
  rw [hc3] at hb3 hbB
  obtain ⟨Z, hZ⟩ := built_state
  have HZ := shut hZ
  have Hb1 := shut hb1
  have Hb2 := shut hb2
  have Hb3 := shut hb3
  have Hb4 := shut hb4
  have HbA := shut hbA
  have HbB := shut hbB
  clear hAe hBe hc1 hc2 hc3 hc4 hZ hb1 hb2 hb3 hb4 hbA hbB
  go_enter Try.func5, Try.ntmps5
  go_wp2_with ((with_reducible refine at_list' ?_); refine Shut.out ?_)
  refine Shut.mk ?_
  refine wpList_built rfl 41 #[(0, .const (.int .u64 1))] rfl c1 (by simp [Act.eval]; with_reducible exact Hb1.out) ?_
  simp only [Act.put, List.setIfInBounds_toArray, List.set_cons_succ, List.set_cons_zero]
  refine wpList_built rfl 41 #[(0, .const (.int .u64 4))] rfl c4 (by simp [Act.eval]; with_reducible exact Hb4.out) ?_
  simp only [Act.put, List.setIfInBounds_toArray, List.set_cons_succ, List.set_cons_zero]
  refine wpList_built rfl 50 #[(3, .tmp 3), (4, .tmp 4)] rfl A (by simp [Act.eval]; with_reducible exact HbA.out) ?_
  simp only [Act.put, List.setIfInBounds_toArray, List.set_cons_succ, List.set_cons_zero]
  refine wpList_alloc_c Try.tyVote rfl 1 rfl rfl ?_
  intro w1 H1 B1 S1
  simp only [Act.put, List.setIfInBounds_toArray, List.set_cons_succ, List.set_cons_zero]
  refine wpList_store_c Try.tyVote rfl (.tmp 1) (.tmp 5) rfl w.heap.size A rfl rfl hlA.out h1A.out _ H1 rfl ?_
  intro w2 H2 O2
  have BB := shut (below_only B1 O2 (Nat.le_refl _))
  have hd0 := shut H2
  clear H1 B1 O2 S1 H2
  simp only [Act.put]
  go_wp2_with ((with_reducible refine at_list' ?_); refine Shut.out ?_)
  refine Shut.mk ?_
  refine wpList_built rfl 41 #[(0, .const (.int .u64 2))] rfl c2 (by simp [Act.eval]; with_reducible exact Hb2.out) ?_
  simp only [Act.put, List.setIfInBounds_toArray, List.set_cons_succ, List.set_cons_zero]
  refine wpList_built rfl 41 #[(0, .const (.int .u64 3))] rfl c3 (by simp [Act.eval]; with_reducible exact Hb3.out) ?_
  simp only [Act.put, List.setIfInBounds_toArray, List.set_cons_succ, List.set_cons_zero]
  refine wpList_built rfl 50 #[(3, .tmp 6), (4, .tmp 7)] rfl B (by simp [Act.eval]; with_reducible exact HbB.out) ?_
  simp only [Act.put, List.setIfInBounds_toArray, List.set_cons_succ, List.set_cons_zero]
  refine wpList_alloc_c Try.tyVote rfl 2 rfl rfl ?_
  intro w3 H3 B3 S3
  simp only [Act.put, List.setIfInBounds_toArray, List.set_cons_succ, List.set_cons_zero]
  refine wpList_store_c Try.tyVote rfl (.tmp 2) (.tmp 8) rfl w2.heap.size B rfl rfl hlB.out h1B.out _ H3 rfl ?_
  intro w4 H4 O4
  have B24 := below_only B3 O4 (Nat.le_refl _)
  have BC := shut (below_more BB.out B24 (Nat.le_refl _))
  have hd1 := shut (hd0.out.keep B24)
  have hd2 := shut H4
  clear H3 B3 O4 S3 H4 B24 hd0 BB
  simp only [Act.put]
  go_wp2_with ((with_reducible refine at_list' ?_); refine Shut.out ?_)
  refine Shut.mk ?_
  refine wpList_wantV (by rfl) (.agg (A).toArray) (run_mid 50 (.tmp 1) rfl w.heap.size 0 rfl (A) ((hd1.out).range 0 _ (fun j v hv => by rw [Nat.zero_add]; exact hv)) _ Try.underlying50 rfl (by rw [hlA.out]; exact Try.tyVote.size)) ?_
  simp only [Act.put, List.setIfInBounds_toArray, List.set_cons_succ, List.set_cons_zero]
  refine wpList_wantV (by rfl) (.agg (B).toArray) (run_mid 50 (.tmp 2) rfl w2.heap.size 0 rfl (B) ((hd2.out).range 0 _ (fun j v hv => by rw [Nat.zero_add]; exact hv)) _ Try.underlying50 rfl (by rw [hlB.out]; exact Try.tyVote.size)) ?_
  simp only [Act.put, List.setIfInBounds_toArray, List.set_cons_succ, List.set_cons_zero]
  refine wpList_funW (by rfl) 13 _ _ rfl (fun _ _ => by simp [go_sem]) #[.agg (A).toArray, .agg (B).toArray] (by simp [Act.eval]) (.bool true) ?_ ?_
  · refine ((HS1).out _).mono ?_
    rintro e w' ⟨rfl, B⟩
    exact ⟨rfl, B⟩
  intro wq2 bq
  have hd1 := shut (hd1.out.keep bq)
  have hd2 := shut (hd2.out.keep bq)
  have BC := shut (below_more BC.out bq (Nat.le_refl _))
  clear bq
  simp only [Act.put, List.setIfInBounds_toArray, List.set_cons_succ, List.set_cons_zero]
  refine wpList_wantV (by rfl) (.bool true) (run_moveV (.tmp 11) rfl _ rfl) ?_
  simp only [Act.put, List.setIfInBounds_toArray, List.set_cons_succ, List.set_cons_zero]
  refine wpList_wantV (by rfl) (.agg (B).toArray) (run_mid 50 (.tmp 2) rfl w2.heap.size 0 rfl (B) ((hd2.out).range 0 _ (fun j v hv => by rw [Nat.zero_add]; exact hv)) _ Try.underlying50 rfl (by rw [hlB.out]; exact Try.tyVote.size)) ?_
  simp only [Act.put, List.setIfInBounds_toArray, List.set_cons_succ, List.set_cons_zero]
  refine wpList_wantV (by rfl) (.agg (A).toArray) (run_mid 50 (.tmp 1) rfl w.heap.size 0 rfl (A) ((hd1.out).range 0 _ (fun j v hv => by rw [Nat.zero_add]; exact hv)) _ Try.underlying50 rfl (by rw [hlA.out]; exact Try.tyVote.size)) ?_
  simp only [Act.put, List.setIfInBounds_toArray, List.set_cons_succ, List.set_cons_zero]
  refine wpList_funW (by rfl) 13 _ _ rfl (fun _ _ => by simp [go_sem]) #[.agg (B).toArray, .agg (A).toArray] (by simp [Act.eval]) (.bool false) ?_ ?_
  · refine ((HS2).out _).mono ?_
    rintro e w' ⟨rfl, B⟩
    exact ⟨rfl, B⟩
  intro wq6 bq
  have hd1 := shut (hd1.out.keep bq)
  have hd2 := shut (hd2.out.keep bq)
  have BC := shut (below_more BC.out bq (Nat.le_refl _))
  clear bq
  simp only [Act.put, List.setIfInBounds_toArray, List.set_cons_succ, List.set_cons_zero]
  refine wpList_wantV (by rfl) (.bool true) (run_notB (.tmp 15) rfl false rfl) ?_
  simp only [Act.put, List.setIfInBounds_toArray, List.set_cons_succ, List.set_cons_zero]
  refine wpList_wantV (by rfl) (.bool true) (run_pick1 (.tmp 12) (.tmp 16) (.const (.bool false)) rfl _ rfl rfl) ?_
  simp only [Act.put, List.setIfInBounds_toArray, List.set_cons_succ, List.set_cons_zero]
  refine wpList_wantV (by rfl) (.bool true) (run_moveV (.tmp 17) rfl _ rfl) ?_
  simp only [Act.put, List.setIfInBounds_toArray, List.set_cons_succ, List.set_cons_zero]
  refine wpList_wantV (by rfl) (.agg Z) (run_buildOp 43 #[] rfl #[] (by simp) _ (run_build _ 43 #[] Z HZ.out)) ?_
  simp only [Act.put, List.setIfInBounds_toArray, List.set_cons_succ, List.set_cons_zero]
  refine wpList_funW (by rfl) 15 _ _ rfl (fun _ _ => by simp [go_sem]) #[.agg Z, .slice none 0 0] (by simp [Act.eval]) (.int .u64 ((1000 : Nat) : Int)) ?_ ?_
  · refine (total_none Z _).mono ?_
    rintro e w' ⟨rfl, B⟩
    exact ⟨rfl, B⟩
  intro wq11 bq
  have hd1 := shut (hd1.out.keep bq)
  have hd2 := shut (hd2.out.keep bq)
  have BC := shut (below_more BC.out bq (Nat.le_refl _))
  clear bq
  simp only [Act.put, List.setIfInBounds_toArray, List.set_cons_succ, List.set_cons_zero]
  refine wpList_wantV (by rfl) (.bool true) (run_eqH (.tmp 20) (.const (.int .u64 ((1000 : Nat) : Int))) rfl (1000) (1000) true (by decide) rfl rfl) ?_
  simp only [Act.put, List.setIfInBounds_toArray, List.set_cons_succ, List.set_cons_zero]
  refine wpList_wantV (by rfl) (.bool true) (run_pick1 (.tmp 18) (.tmp 21) (.const (.bool false)) rfl _ rfl rfl) ?_
  simp only [Act.put, List.setIfInBounds_toArray, List.set_cons_succ, List.set_cons_zero]
  refine wpList_wantV (by rfl) (.bool true) (run_moveV (.tmp 22) rfl _ rfl) ?_
  simp only [Act.put, List.setIfInBounds_toArray, List.set_cons_succ, List.set_cons_zero]
  refine wpList_funW (by rfl) 6 _ _ rfl (fun _ _ => by simp [go_sem]) #[.int .u64 ((7 : Nat) : Int)] (by simp [Act.eval]) (.int .u64 ((1 : Nat) : Int)) ?_ ?_
  · refine (epoch_any 7 (by omega) _).mono ?_
    rintro e w' ⟨rfl, rfl⟩
    exact ⟨rfl, Below.refl _ _⟩
  intro wq15 bq
  have hd1 := shut (hd1.out.keep bq)
  have hd2 := shut (hd2.out.keep bq)
  have BC := shut (below_more BC.out bq (Nat.le_refl _))
  clear bq
  simp only [Act.put, List.setIfInBounds_toArray, List.set_cons_succ, List.set_cons_zero]
  refine wpList_wantV (by rfl) (.bool true) (run_eqH (.tmp 24) (.const (.int .u64 ((1 : Nat) : Int))) rfl (1) (1) true (by decide) rfl rfl) ?_
  simp only [Act.put, List.setIfInBounds_toArray, List.set_cons_succ, List.set_cons_zero]
  refine wpList_wantV (by rfl) (.bool true) (run_pick1 (.tmp 23) (.tmp 25) (.const (.bool false)) rfl _ rfl rfl) ?_
  simp only [Act.put, List.setIfInBounds_toArray, List.set_cons_succ, List.set_cons_zero]
  go_wp2
  go_ret
  exact ⟨rfl, BC.out⟩
end Go.Proofs.Ythjjdjidbhlncaa
