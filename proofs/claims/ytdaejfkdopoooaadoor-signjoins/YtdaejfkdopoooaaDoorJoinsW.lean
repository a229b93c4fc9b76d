/- The walk of SignJoins. -/
import Derived.Test.YtdaejfkdopoooaaDoorAppE
import Derived.Test.YtdaejfkdopoooaaDoorFlowG12
namespace Go.Proofs.YtdaejfkdopoooaaDoor
open Go.RowKit
set_option linter.unusedVariables false
set_option linter.unusedSimpArgs false
set_option maxRecDepth 100000

theorem own_base {w : World} {base base' n s : Nat} {e : TypeId} {v : Value} {xs : List Value} (h : w.ownsRow base e s v n xs) (hb : base' ≤ base) : w.ownsRow base' e s v n xs := by
  refine ⟨h.1, ?_⟩
  rcases h.2 with h1 | ⟨g, cap, cur, e1, h2, rest⟩
  · exact .inl h1
  · exact .inr ⟨g, cap, cur, e1, Nat.le_trans hb h2, rest⟩
theorem place_in (a : Int) (n : Nat) (hn : n ≤ 60) : ∃ d : Nat, IntKind.i64.wrap ((IntKind.u64.wrap a).tmod ((n : Int) + 1)) = (d : Int) ∧ d ≤ n := by
  rw [show IntKind.i64.wrap ((IntKind.u64.wrap a).tmod ((n : Int) + 1)) = wrap64 ((IntKind.u64.wrap a).tmod ((n : Int) + 1)) from by rw [IntKind.wrap_i64]; unfold wrap64; rfl]
  have h0 : (0 : Int) ≤ IntKind.u64.wrap a := by simp [IntKind.wrap, IntKind.bits, IntKind.signed]; omega
  rw [Int.tmod_eq_emod_of_nonneg h0]
  generalize IntKind.u64.wrap a = u at *
  have h1 := Int.emod_nonneg u (show (n : Int) + 1 ≠ 0 by omega)
  have h2 := Int.emod_lt_of_pos u (show (0 : Int) < (n : Int) + 1 by omega)
  refine ⟨(u % ((n : Int) + 1)).toNat, ?_, by omega⟩
  rw [IntWalk.wrap64_in _ (by omega)]
  omega
/-- A slice without elements, in a flow. -/
theorem flow_none {w : World} {o : Oper} {a : Act} {Q : Exit → Act → World → Prop} {I : Value → World → Prop} (ho : o.op = .buildSlice 22 0 #[]) (h1 : Tryd.prog.underlying 22 = some (.slice 24)) (h2 : (Tryd.prog.info? 24).map (fun i => (i.zero, i.size, i.bytes)) = some (some (.agg (nums .u8 (zeros 32))), 32, 32))
    (h : I (.slice (some ⟨w.heap.size, 0, none⟩) 0 0) (w.alloc (.cells #[] 24))) : o.wp Tryd.prog a w (fun a' w' => ∃ v, a' = a.put o.dst v ∧ I v w' ∧ Below w.heap.size w w') Q := by
  obtain ⟨i0, hi0, hz0, hz1, hz2⟩ : ∃ i, Tryd.prog.info? 24 = some i ∧ i.zero = some (.agg (nums .u8 (zeros 32))) ∧ i.size = 32 ∧ i.bytes = 32 := by
    cases hq : Tryd.prog.info? 24 with
    | none => simp [hq] at h2
    | some i => simp [hq] at h2; exact ⟨i, rfl, h2.1, h2.2.1, h2.2.2⟩
  have hB : Below w.heap.size w (w.alloc (.cells #[] 24)) := (Below.refl _ w).alloc (Nat.le_refl _) _
  unfold Oper.wp
  simp only [execOp, ho]
  simp [go_sem]
  exact ⟨_, rfl, h, hB⟩

set_option maxHeartbeats 2000000 in
theorem joins_walk (ao : Option Addr) (cap : Nat) (rs : List (List Nat)) (a1 : Int) (w : World) (hT : Tabs w) (hcap : rs.length ≤ cap) (hm : cap ≤ maxLen) (hnil : ao = none → cap = 0) (hR : RootsAt w ao rs) (b0 : -9223372036854775808 ≤ a1) (b1 : a1 ≤ 9223372036854775807) :
    Calls Tryd.prog 4 #[.slice ao rs.length cap, .int .i64 a1] w fun e w' => e = .returned (.bool true) ∧ Below w.heap.size w w' := by
  have hm' := hm
  unfold maxLen at hm
  have hzr := zero_rt
  go_enter Tryd.func4, Tryd.ntmps4
  go_wp2_with fail
  refine (awake_any w hT).mono ?_
  rintro e w2 ⟨rfl, B2⟩
  by_cases hlen : 60 < rs.length
  · go_wp2_with fail
    go_ret
    exact ⟨rfl, B2⟩
  · obtain ⟨c, hc, hcl⟩ := place_in a1 rs.length (by omega)
    have HD := hid hc
    clear hc
    obtain ⟨af, cf, f1, f2, f3, f4, f5⟩ := sub_from ao cap rs w hcap hm' hnil hR c hcl
    have RF := hid f4
    have HF := hid f5
    have HR2 := hR.keep B2
    clear f4 f5
    go_wp2_with (first
      | (refine wpList_run (o := ⟨some 19, .convert 35 3 (.tmp 18), _, _, _, _⟩) rfl (.int .i64 (c : Int)) (by rw [← HD.out]; unfold execOp; simp [go_sem]) ?_))
    try simp only [Act.put, List.setIfInBounds_toArray, List.set_cons_succ, List.set_cons_zero]
    refine wp_region_flow 8 8 (fun i v wq => match i with
      | 0 => (∃ g, v = .slice (some ⟨g, 0, none⟩) 0 0) ∧ wq.ownsRow w2.heap.size 24 32 v 0 (cellsOf [])
      | 1 => v = .slice ao rs.length cap
      | 2 => v = .int .i64 (c : Int)
      | 3 => v = .slice af (rs.length - c) cf
      | 4 => wq.ownsRow w2.heap.size 24 32 v (rs.length - c) (cellsOf (rs.drop c))
      | 5 => v = .slice ao rs.length cap
      | 6 => v = .int .i64 (c : Int)
      | _ => v = .slice ao c cap) (by kernel_rfl) (by kernel_rfl) (fun _ d _ _ _ h => by cases d <;> exact h) ?_ ?_ ?_ ?_
    · intro i v wq wq' hi hv hb
      match i, hi with
      | 0, _ => exact ⟨hv.1, own_keep hv.2 hb⟩
      | 1, _ => exact hv
      | 2, _ => exact hv
      | 3, _ => exact hv
      | 4, _ => exact own_keep hv hb
      | 5, _ => exact hv
      | 6, _ => exact hv
      | 7, _ => exact hv
      | (k + 8), hk => exact absurd hk (by omega)
    · intro i o hi ho aq wq hc hk hdep
      match i, hi with
      | 0, _ =>
        cases ho
        exact flow_none rfl (by kernel_rfl) (by kernel_rfl) ⟨⟨_, rfl⟩, own_base (own_none wq) hc.bel.size⟩
      | 1, _ =>
        cases ho
        exact flow_move (.tmp 0) rfl (hk 0 (by decide))
      | 2, _ =>
        cases ho
        exact flow_move (.tmp 1) rfl (hk 1 (by decide))
      | 3, _ =>
        cases ho
        have e0 : aq.tmps.getD 21 undef = .slice ao rs.length cap := hdep 1 21 rfl (by kernel_rfl)
        have e1 : aq.tmps.getD 22 undef = .int .i64 (c : Int) := hdep 2 22 rfl (by kernel_rfl)
        exact flow_value _ (HF.out _ _ _ (.tmp 21) (.tmp 22) rfl e0 e1) rfl
      | 4, _ =>
        cases ho
        obtain ⟨⟨g, e0⟩, h0⟩ := hdep 0 20 rfl (by kernel_rfl)
        have e1 : aq.tmps.getD 23 undef = .slice af (rs.length - c) cf := hdep 3 23 rfl (by kernel_rfl)
        rw [e0] at h0
        have hld : (rs.drop c).length = rs.length - c := List.length_drop
        refine flow_append_first (.tmp 20) (.tmp 23) 22 rfl w2.heap.size 24 Tryd.underlying22 Tryd.rootInfo g e0 h0 (rs.drop c) af cf (by rw [hld]; exact e1) (RF.out wq (HR2.keep hc.bel)) (by omega) hc.bel.size fun v' w' h => by rw [hld] at h; exact h
      | 5, _ =>
        cases ho
        exact flow_move (.tmp 0) rfl (hk 0 (by decide))
      | 6, _ =>
        cases ho
        exact flow_move (.tmp 1) rfl (hk 1 (by decide))
      | 7, _ =>
        cases ho
        have e0 : aq.tmps.getD 25 undef = .slice ao rs.length cap := hdep 5 25 rfl (by kernel_rfl)
        have e1 : aq.tmps.getD 26 undef = .int .i64 (c : Int) := hdep 6 26 rfl (by kernel_rfl)
        exact flow_value _ (sub_first ao cap rs hcap hm' hnil c hcl _ _ _ (.tmp 25) (.tmp 26) rfl e0 e1) rfl
      | (k + 8), hk => exact absurd hk (by omega)
    · intro o h8 ho
      omega
    intro vf w3 hc hv
    have e7 : vf 7 = .slice ao c cap := hv 7 27 (by decide) rfl
    have o4 : w3.ownsRow w2.heap.size 24 32 (vf 4) (rs.length - c) (cellsOf (rs.drop c)) := hv 4 24 (by decide) rfl
    clear hv
    simp only [List.take_succ_cons, List.take_zero, List.drop_succ_cons, List.drop_zero, putAll, Act.put, List.setIfInBounds_toArray, List.set_cons_succ, List.set_cons_zero]
    rw [e7]
    have HW3 := below_more B2 hc.bel (Nat.le_refl _)
    have B23 := hc.bel
    have HRt : RootsAt w3 ao (rs.take c) := (HR2.keep hc.bel).first c
    have hlt : (rs.take c).length = c := by rw [List.length_take]; omega
    clear e7 hc
    generalize vf 0 = x0
    generalize vf (0 + 1) = x1
    generalize vf (0 + 1 + 1) = x2
    generalize vf (0 + 1 + 1 + 1) = x3
    generalize vf (0 + 1 + 1 + 1 + 1 + 1) = x5
    generalize vf (0 + 1 + 1 + 1 + 1 + 1 + 1) = x6
    have o4' : w3.ownsRow w2.heap.size 24 32 (vf (0 + 1 + 1 + 1 + 1)) (rs.length - c) (cellsOf (rs.drop c)) := o4
    clear o4
    generalize vf (0 + 1 + 1 + 1 + 1) = x4 at *
    clear vf
    refine wpList_append_any rfl (.tmp 24) (.tmp 27) 22 rfl w2.heap.size 24 Tryd.underlying22 Tryd.rootInfo x4 (rs.length - c) (rs.drop c) (rs.take c) rfl o4' ao cap (by rw [hlt]; rfl) hnil HRt (by omega) B23.size ?_
    intro v5 w4 own4 grow4
    have B24 := below_grownR B23 o4' (Nat.le_refl _) grow4
    have HW4 := below_more B2 B24 (Nat.le_refl _)
    rw [hlt, show rs.length - c + c = rs.length by omega] at own4
    have hbr : Rts (rs.drop c ++ rs.take c) := (hR.rts.drop c).append (hR.rts.take c)
    obtain ⟨hle, ab, cb, hu, k1, k2, RB4⟩ := RootsAt.own hbr own4
    rw [← hle] at hu k1
    have hlb : (rs.drop c ++ rs.take c).length = rs.length := hle.symm
    subst hu
    obtain ⟨A, hA⟩ : ∃ A, Same (joinR rs) A := ⟨_, ⟨rfl⟩⟩
    have hAr : Rt A := by rw [← hA.out]; exact joinR_rt hR.rts
    obtain ⟨X, hX⟩ : ∃ A, Same (joinR (rs.take c)) A := ⟨_, ⟨rfl⟩⟩
    have hXr : Rt X := by rw [← hX.out]; exact joinR_rt (hR.rts.take c)
    obtain ⟨Y, hY⟩ : ∃ A, Same (joinR (rs.drop c)) A := ⟨_, ⟨rfl⟩⟩
    have hYr : Rt Y := by rw [← hY.out]; exact joinR_rt (hR.rts.drop c)
    have HJ0 := hid (fun ao cap wq h1 h2 h3 => join_any' ao cap rs wq h1 h2 h3)
    have HJb := hid (fun wq (h3 : RootsAt wq ab (rs.drop c ++ rs.take c)) => join_any' ab cb (rs.drop c ++ rs.take c) wq (by rw [hlb]; exact k1) k2 h3)
    have HJx := hid (fun wq (h3 : RootsAt wq ao (rs.take c)) => join_any' ao cap (rs.take c) wq (by rw [hlt]; omega) hm' h3)
    have HJy := hid (fun wq (h3 : RootsAt wq af (rs.drop c)) => join_any' af cf (rs.drop c) wq (by rw [List.length_drop]; exact f1) f2 h3)
    have HJxy := hid (fun b wq h => join_two b X Y A ⟨by rw [← hX.out, ← hY.out, joinR_parts hR.rts c, hA.out]⟩ wq h)
    have HJaa := hid (fun b wq h => join_two b A A (zeros 32) ⟨joinR_twice hAr.len⟩ wq h)
    rw [hA.out] at HJ0
    rw [hlb, joinR_turn hR.rts c, hA.out] at HJb
    rw [hlt, hX.out] at HJx
    rw [List.length_drop, hY.out] at HJy
    clear hA hX hY own4 o4' grow4 HRt hle hlb B23 HW3 hlt
    have HWb : Below w4.heap.size w4 (w4.alloc (.cells #[] 24)) := (Below.refl _ w4).alloc (Nat.le_refl _) _
    have HO := own_none w4
    have HRb := (hR.keep HW4).keep HWb
    go_wp2_with (first
      | (refine wpList_append_any rfl (.tmp 29) (.tmp 30) 22 rfl w4.heap.size 24 Tryd.underlying22 Tryd.rootInfo _ 0 [] rs rfl (by exact HO) ao cap rfl hnil (by exact HRb) (by omega) (by exact HWb.size) ?_; intro v9 w5 own5 grow5; rw [List.nil_append, Nat.zero_add] at own5; obtain ⟨_, ai, ci, rfl, c1, c2, RI5⟩ := RootsAt.own hR.rts own5; have B45 := below_grownR HWb HO (Nat.le_refl _) grow5))
    refine (HJ0.out ai ci w5 c1 c2 RI5).mono ?_
    rintro e w6 ⟨rfl, B6⟩
    have B46 := below_more B45 B6 (Nat.le_refl _)
    clear HO HRb HWb own5 grow5 RI5 B45 B6 HJ0
    go_wp2_with (first
      | (refine wpList_alloc_has rfl 6 rfl 24 rfl .u8 32 Tryd.zero24 ?_; intro w7 H7 B7 S7)
      | (refine wpList_store_has rfl 24 (.tmp 6) (.tmp 32) rfl w6.heap.size .u8 A (zeros 32) rfl rfl 24 H7 (hAr.size _ Tryd.size24) (by rw [hAr.len, zeros_length]) ?_; intro w8 H6 O8))
    have B48 := below_only (below_more B46 B7 (Nat.le_refl _)) O8 B46.size
    have HW8 := below_more HW4 B48 (Nat.le_refl _)
    have RB := RB4.keep B48
    have HR3 := hR.keep HW8
    clear H7 B7 S7 O8 B46 RB4 B48 HW4 HR2 B2 B24
    generalize w6.heap.size = g6 at *
    try simp only [Act.put, List.setIfInBounds_toArray, List.set_cons_succ, List.set_cons_zero]
    refine wp_region_flow_guarded12 26 26 (fun i v wq => match i with
      | 0 => v = .agg (nums .u8 A)
      | 1 => v = .slice ab rs.length cb
      | 2 => v = .agg (nums .u8 A)
      | 3 => v = .bool true
      | 4 => v = .bool true
      | 5 => v = .agg (nums .u8 A)
      | 6 => v = .slice ao rs.length cap
      | 7 => v = .int .i64 (c : Int)
      | 8 => v = .slice ao c cap
      | 9 => v = .agg (nums .u8 X)
      | 10 => v = .slice ao rs.length cap
      | 11 => v = .int .i64 (c : Int)
      | 12 => v = .slice af (rs.length - c) cf
      | 13 => v = .agg (nums .u8 Y)
      | 14 => ∃ g, v = .slice (some ⟨g, 0, none⟩) 2 2 ∧ RootsAt wq (some ⟨g, 0, none⟩) [X, Y]
      | 15 => v = .agg (nums .u8 A)
      | 16 => v = .bool true
      | 17 => v = .bool true
      | 18 => v = .bool true
      | 19 => v = .agg (nums .u8 A)
      | 20 => v = .agg (nums .u8 A)
      | 21 => ∃ g, v = .slice (some ⟨g, 0, none⟩) 2 2 ∧ RootsAt wq (some ⟨g, 0, none⟩) [A, A]
      | 22 => v = .agg (nums .u8 (zeros 32))
      | 23 => v = .agg (nums .u8 (zeros 32))
      | 24 => v = .bool true
      | _ => v = .bool true) (by kernel_rfl) (by kernel_rfl) (fun _ d _ _ _ h => by cases d <;> exact h) ?_ ?_ ?_ ?_ ?_
    · intro i o g b hi ho hg v wq hv
      match i, hi with
      | 0, _ => cases ho; cases hg
      | 1, _ => cases ho; cases hg
      | 2, _ => cases ho; cases hg
      | 3, _ => cases ho; cases hg
      | 4, _ => cases ho; cases hg
      | 5, _ => cases ho; cases hg; exact hv
      | 6, _ => cases ho; cases hg; exact hv
      | 7, _ => cases ho; cases hg; exact hv
      | 8, _ => cases ho; cases hg; exact hv
      | 9, _ => cases ho; cases hg; exact hv
      | 10, _ => cases ho; cases hg; exact hv
      | 11, _ => cases ho; cases hg; exact hv
      | 12, _ => cases ho; cases hg; exact hv
      | 13, _ => cases ho; cases hg; exact hv
      | 14, _ => cases ho; cases hg; exact hv
      | 15, _ => cases ho; cases hg; exact hv
      | 16, _ => cases ho; cases hg; exact hv
      | 17, _ => cases ho; cases hg
      | 18, _ => cases ho; cases hg
      | 19, _ => cases ho; cases hg; exact hv
      | 20, _ => cases ho; cases hg; exact hv
      | 21, _ => cases ho; cases hg; exact hv
      | 22, _ => cases ho; cases hg; exact hv
      | 23, _ => cases ho; cases hg; exact hv
      | 24, _ => cases ho; cases hg; exact hv
      | 25, _ => cases ho; cases hg
      | (k + 26), hk => exact absurd hk (by omega)
    · intro i v wq wq' hi hv hb
      match i, hi with
      | 0, _ => exact hv
      | 1, _ => exact hv
      | 2, _ => exact hv
      | 3, _ => exact hv
      | 4, _ => exact hv
      | 5, _ => exact hv
      | 6, _ => exact hv
      | 7, _ => exact hv
      | 8, _ => exact hv
      | 9, _ => exact hv
      | 10, _ => exact hv
      | 11, _ => exact hv
      | 12, _ => exact hv
      | 13, _ => exact hv
      | 14, _ => obtain ⟨g, h1, h2⟩ := hv; exact ⟨g, h1, h2.keep hb⟩
      | 15, _ => exact hv
      | 16, _ => exact hv
      | 17, _ => exact hv
      | 18, _ => exact hv
      | 19, _ => exact hv
      | 20, _ => exact hv
      | 21, _ => obtain ⟨g, h1, h2⟩ := hv; exact ⟨g, h1, h2.keep hb⟩
      | 22, _ => exact hv
      | 23, _ => exact hv
      | 24, _ => exact hv
      | 25, _ => exact hv
      | (k + 26), hk => exact absurd hk (by omega)
    · intro i o hi ho aq wq hc hk hdep
      match i, hi with
      | 0, _ =>
        cases ho
        have ep : aq.tmps.getD 6 undef = .pointer (some ⟨g6, 0, none⟩) := hk 6 (by decide)
        exact flow_value _ (run_load_has (.tmp 6) rfl (g6) A ep 24 (H6.keep hc.bel) hAr) rfl
      | 1, _ =>
        cases ho
        exact flow_move (.tmp 5) rfl (hk 5 (by decide))
      | 2, _ =>
        cases ho
        have e0 : aq.tmps.getD 34 undef = .slice ab rs.length cb := hdep 1 34 rfl (by kernel_rfl)
        refine flow_fun 8 _ _ rfl (fun _ _ => by simp [go_sem]) #[.slice ab rs.length cb] (by rw [show (#[Operand.tmp 34] : Array Operand).map aq.eval = #[aq.tmps.getD 34 undef] from by simp [Act.eval], e0]) ?_
        refine (HJb.out wq (RB.keep hc.bel)).mono ?_
        rintro x w' ⟨rfl, q⟩
        exact ⟨_, rfl, rfl, q⟩
      | 3, _ =>
        cases ho
        have e0 : aq.tmps.getD 33 undef = .agg (nums .u8 A) := hdep 0 33 rfl (by kernel_rfl)
        have e1 : aq.tmps.getD 35 undef = .agg (nums .u8 A) := hdep 2 35 rfl (by kernel_rfl)
        refine flow_value _ (run_eq_root (.tmp 33) (.tmp 35) rfl A A hAr hAr e0 e1) (by simp)
      | 4, _ =>
        cases ho
        exact flow_move (.tmp 36) rfl (hdep 3 36 rfl (by kernel_rfl))
      | 5, _ =>
        cases ho
        have ep : aq.tmps.getD 6 undef = .pointer (some ⟨g6, 0, none⟩) := hk 6 (by decide)
        exact flow_value _ (run_load_has (.tmp 6) rfl (g6) A ep 24 (H6.keep hc.bel) hAr) rfl
      | 6, _ =>
        cases ho
        exact flow_move (.tmp 0) rfl (hk 0 (by decide))
      | 7, _ =>
        cases ho
        exact flow_move (.tmp 1) rfl (hk 1 (by decide))
      | 8, _ =>
        cases ho
        have e0 : aq.tmps.getD 39 undef = .slice ao rs.length cap := hdep 6 39 rfl (by kernel_rfl)
        have e1 : aq.tmps.getD 40 undef = .int .i64 (c : Int) := hdep 7 40 rfl (by kernel_rfl)
        exact flow_value _ (sub_first ao cap rs hcap hm' hnil c hcl _ _ _ (.tmp 39) (.tmp 40) rfl e0 e1) rfl
      | 9, _ =>
        cases ho
        have e0 : aq.tmps.getD 41 undef = .slice ao c cap := hdep 8 41 rfl (by kernel_rfl)
        refine flow_fun 8 _ _ rfl (fun _ _ => by simp [go_sem]) #[.slice ao c cap] (by rw [show (#[Operand.tmp 41] : Array Operand).map aq.eval = #[aq.tmps.getD 41 undef] from by simp [Act.eval], e0]) ?_
        refine (HJx.out wq ((HR3.keep hc.bel).first c)).mono ?_
        rintro x w' ⟨rfl, q⟩
        exact ⟨_, rfl, rfl, q⟩
      | 10, _ =>
        cases ho
        exact flow_move (.tmp 0) rfl (hk 0 (by decide))
      | 11, _ =>
        cases ho
        exact flow_move (.tmp 1) rfl (hk 1 (by decide))
      | 12, _ =>
        cases ho
        have e0 : aq.tmps.getD 43 undef = .slice ao rs.length cap := hdep 10 43 rfl (by kernel_rfl)
        have e1 : aq.tmps.getD 44 undef = .int .i64 (c : Int) := hdep 11 44 rfl (by kernel_rfl)
        exact flow_value _ (HF.out _ _ _ (.tmp 43) (.tmp 44) rfl e0 e1) rfl
      | 13, _ =>
        cases ho
        have e0 : aq.tmps.getD 45 undef = .slice af (rs.length - c) cf := hdep 12 45 rfl (by kernel_rfl)
        refine flow_fun 8 _ _ rfl (fun _ _ => by simp [go_sem]) #[.slice af (rs.length - c) cf] (by rw [show (#[Operand.tmp 45] : Array Operand).map aq.eval = #[aq.tmps.getD 45 undef] from by simp [Act.eval], e0]) ?_
        refine (HJy.out wq (RF.out wq (HR3.keep hc.bel))).mono ?_
        rintro x w' ⟨rfl, q⟩
        exact ⟨_, rfl, rfl, q⟩
      | 14, _ =>
        cases ho
        have e0 : aq.tmps.getD 42 undef = .agg (nums .u8 X) := hdep 9 42 rfl (by kernel_rfl)
        have e1 : aq.tmps.getD 46 undef = .agg (nums .u8 Y) := hdep 13 46 rfl (by kernel_rfl)
        refine flow_roots 22 24 2 #[(0, .tmp 42), (1, .tmp 46)] rfl Tryd.underlying22 Tryd.rootInfo [X, Y] [.tmp 42, .tmp 46] rfl (by rw [show [Operand.tmp 42, Operand.tmp 46].map aq.eval = [aq.tmps.getD 42 undef, aq.tmps.getD 46 undef] from rfl, e0, e1]; rfl) (by intro q hq; rcases List.mem_cons.1 hq with rfl | hq; exact hXr.len; rw [List.mem_singleton.1 hq]; exact hYr.len) rfl (by decide) (by decide) (fun w' h => ⟨_, rfl, HasR.at (hXr.one.append hYr.one) h⟩)
      | 15, _ =>
        cases ho
        obtain ⟨g, e0, h0⟩ := hdep 14 47 rfl (by kernel_rfl)
        refine flow_fun 8 _ _ rfl (fun _ _ => by simp [go_sem]) #[.slice (some ⟨g, 0, none⟩) 2 2] (by rw [show (#[Operand.tmp 47] : Array Operand).map aq.eval = #[aq.tmps.getD 47 undef] from by simp [Act.eval], e0]) ?_
        refine (HJxy.out g wq h0).mono ?_
        rintro x w' ⟨rfl, q⟩
        exact ⟨_, rfl, rfl, q⟩
      | 16, _ =>
        cases ho
        have e0 : aq.tmps.getD 38 undef = .agg (nums .u8 A) := hdep 5 38 rfl (by kernel_rfl)
        have e1 : aq.tmps.getD 48 undef = .agg (nums .u8 A) := hdep 15 48 rfl (by kernel_rfl)
        refine flow_value _ (run_eq_root (.tmp 38) (.tmp 48) rfl A A hAr hAr e0 e1) (by simp)
      | 17, _ =>
        cases ho
        have e0 : aq.tmps.getD 37 undef = .bool true := hdep 4 37 rfl (by kernel_rfl)
        have e1 : aq.tmps.getD 49 undef = .bool true := hdep 16 49 rfl (by kernel_rfl)
        have e0' : aq.tmps[37]?.getD undef = .bool true := by simpa using e0
        have e1' : aq.tmps[49]?.getD undef = .bool true := by simpa using e1
        refine flow_value (.bool true) ?_ rfl
        unfold execOp
        simp [e0', e1', go_sem, Act.eval]
      | 18, _ =>
        cases ho
        exact flow_move (.tmp 50) rfl (hdep 17 50 rfl (by kernel_rfl))
      | 19, _ =>
        cases ho
        have ep : aq.tmps.getD 6 undef = .pointer (some ⟨g6, 0, none⟩) := hk 6 (by decide)
        exact flow_value _ (run_load_has (.tmp 6) rfl (g6) A ep 24 (H6.keep hc.bel) hAr) rfl
      | 20, _ =>
        cases ho
        have ep : aq.tmps.getD 6 undef = .pointer (some ⟨g6, 0, none⟩) := hk 6 (by decide)
        exact flow_value _ (run_load_has (.tmp 6) rfl (g6) A ep 24 (H6.keep hc.bel) hAr) rfl
      | 21, _ =>
        cases ho
        have e0 : aq.tmps.getD 52 undef = .agg (nums .u8 A) := hdep 19 52 rfl (by kernel_rfl)
        have e1 : aq.tmps.getD 53 undef = .agg (nums .u8 A) := hdep 20 53 rfl (by kernel_rfl)
        refine flow_roots 22 24 2 #[(0, .tmp 52), (1, .tmp 53)] rfl Tryd.underlying22 Tryd.rootInfo [A, A] [.tmp 52, .tmp 53] rfl (by rw [show [Operand.tmp 52, Operand.tmp 53].map aq.eval = [aq.tmps.getD 52 undef, aq.tmps.getD 53 undef] from rfl, e0, e1]; rfl) (by intro q hq; rcases List.mem_cons.1 hq with rfl | hq; exact hAr.len; rw [List.mem_singleton.1 hq]; exact hAr.len) rfl (by decide) (by decide) (fun w' h => ⟨_, rfl, HasR.at (hAr.one.append hAr.one) h⟩)
      | 22, _ =>
        cases ho
        obtain ⟨g, e0, h0⟩ := hdep 21 54 rfl (by kernel_rfl)
        refine flow_fun 8 _ _ rfl (fun _ _ => by simp [go_sem]) #[.slice (some ⟨g, 0, none⟩) 2 2] (by rw [show (#[Operand.tmp 54] : Array Operand).map aq.eval = #[aq.tmps.getD 54 undef] from by simp [Act.eval], e0]) ?_
        refine (HJaa.out g wq h0).mono ?_
        rintro x w' ⟨rfl, q⟩
        exact ⟨_, rfl, rfl, q⟩
      | 23, _ =>
        cases ho
        exact flow_build_has 24 #[] rfl .u8 (zeros 32) (by kernel_rfl) rfl
      | 24, _ =>
        cases ho
        have e0 : aq.tmps.getD 55 undef = .agg (nums .u8 (zeros 32)) := hdep 22 55 rfl (by kernel_rfl)
        have e1 : aq.tmps.getD 56 undef = .agg (nums .u8 (zeros 32)) := hdep 23 56 rfl (by kernel_rfl)
        refine flow_value _ (run_eq_root (.tmp 55) (.tmp 56) rfl (zeros 32) (zeros 32) hzr hzr e0 e1) (by simp)
      | 25, _ =>
        cases ho
        have e0 : aq.tmps.getD 51 undef = .bool true := hdep 18 51 rfl (by kernel_rfl)
        have e1 : aq.tmps.getD 57 undef = .bool true := hdep 24 57 rfl (by kernel_rfl)
        have e0' : aq.tmps[51]?.getD undef = .bool true := by simpa using e0
        have e1' : aq.tmps[57]?.getD undef = .bool true := by simpa using e1
        refine flow_value (.bool true) ?_ rfl
        unfold execOp
        simp [e0', e1', go_sem, Act.eval]
      | (k + 26), hk => exact absurd hk (by omega)
    · intro o h26 ho
      omega
    intro vf w9 hc hv
    have e25 : vf 25 = .bool true := hv 25 58 (by decide) rfl
    have HW9 := below_more HW8 hc.bel (Nat.le_refl _)
    clear hv hc
    simp only [List.take_succ_cons, List.take_zero, List.drop_succ_cons, List.drop_zero, putAll, Act.put, List.setIfInBounds_toArray, List.set_cons_succ, List.set_cons_zero]
    rw [e25]
    clear e25
    go_wp2_with fail
    go_ret
    exact ⟨rfl, HW9⟩
end Go.Proofs.YtdaejfkdopoooaaDoor
