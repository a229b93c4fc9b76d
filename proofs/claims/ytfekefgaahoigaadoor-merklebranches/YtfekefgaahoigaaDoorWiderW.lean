/- The walk of MerkleWider. -/
import Derived.Test.YtfekefgaahoigaaDoorAwake3
import Derived.Test.YtfekefgaahoigaaDoorFlow
namespace Go.Proofs.YtfekefgaahoigaaDoor
open Go.RowKit
set_option linter.unusedVariables false

theorem seven (a : Int) : ∃ d : Nat, IntKind.i64.wrap ((IntKind.u64.wrap a).tmod 7) = (d : Int) ∧ d < 7 := by
  rw [show IntKind.i64.wrap ((IntKind.u64.wrap a).tmod 7) = wrap64 ((IntKind.u64.wrap a).tmod 7) from by rw [IntKind.wrap_i64]; unfold wrap64; rfl]
  have h0 : (0 : Int) ≤ IntKind.u64.wrap a := by simp [IntKind.wrap, IntKind.bits, IntKind.signed]; omega
  rw [Int.tmod_eq_emod_of_nonneg h0]
  generalize IntKind.u64.wrap a = u at *
  refine ⟨(u % 7).toNat, ?_, by omega⟩
  rw [IntWalk.wrap64_in _ (by omega)]
  omega
/-- A slice that a call made: it reads as these roots. -/
def Slc (rs : List (List Nat)) (v : Value) (w : World) : Prop := ∃ ao cap, v = .slice ao rs.length cap ∧ rs.length ≤ cap ∧ cap ≤ maxLen ∧ RootsAt w ao rs
theorem Slc.keep {rs : List (List Nat)} {v : Value} {w w' : World} (h : Slc rs v w) (hb : Below w.heap.size w w') : Slc rs v w' := by
  obtain ⟨ao, cap, e, h1, h2, h3⟩ := h
  exact ⟨ao, cap, e, h1, h2, h3.keep hb⟩
theorem Slc.own {rs : List (List Nat)} {v : Value} {w : World} {base n : Nat} {e : TypeId} (hr : Rts rs) (h : w.ownsRow base e 32 v n (cellsOf rs)) : Slc rs v w := by
  obtain ⟨_, ao, cap, rfl, h1, h2, h3⟩ := RootsAt.own hr h
  exact ⟨ao, cap, rfl, h1, h2, h3⟩
/-- A variable that a call made, all zero. -/
def Var (base : Nat) (t : TypeId) (r : List Nat) (v : Value) (w : World) : Prop := ∃ g, base ≤ g ∧ v = .pointer (some ⟨g, 0, none⟩) ∧ Has w g t .u8 r
theorem Var.keep {base : Nat} {t : TypeId} {r : List Nat} {v : Value} {w w' : World} (h : Var base t r v w) (hb : Below w.heap.size w w') : Var base t r v w' := by
  obtain ⟨g, h1, h2, h3⟩ := h
  exact ⟨g, h1, h2, h3.keep hb⟩

theorem pr_def (a b : List Nat) : sha (a ++ b) = pr a b := by unfold pr; rfl
theorem depth_pow (d : Nat) (hd : d ≤ 62) (p : Nat) (hp : p = 2 ^ d) : depth (p : Int) = d := by
  have cast : ∀ e : Nat, ((2 ^ e : Nat) : Int) = (2 : Int) ^ e := fun e => by simp
  refine depth_at _ d hd (fun e he => ?_) (.inr ?_)
  · rw [← cast, hp]
    have := Nat.pow_lt_pow_right (a := 2) (by decide) he
    omega
  · rw [← cast, hp]; exact Int.le_refl _

set_option maxRecDepth 100000 in
set_option maxHeartbeats 2000000 in
theorem wider_walk (ao : Option Addr) (cap : Nat) (rs : List (List Nat)) (a1 : Int) (w : World) (hT : Tabs w) (hcap : rs.length ≤ cap) (hm : cap ≤ maxLen) (hnil : ao = none → cap = 0) (hR : RootsAt w ao rs) :
    Calls Tryd.prog 7 #[.slice ao rs.length cap, .int .i64 a1] w fun e w' => e = .returned (.bool true) ∧ Below w.heap.size w w' := by
  have hm' := hm
  unfold maxLen at hm
  obtain ⟨d, hd, hd7⟩ := seven a1
  have HD := hid hd
  clear hd
  obtain ⟨p, hp⟩ : ∃ p, Hid (1 * 2 ^ d = p) := ⟨_, hid rfl⟩
  have hp64 : p ≤ 64 := by have h : 2 ^ d ≤ 2 ^ 6 := Nat.pow_le_pow_right (by decide) (by omega); rw [← hp.out]; omega
  obtain ⟨p2, hp2⟩ : ∃ p2, Hid (2 * 2 ^ d = p2) := ⟨_, hid rfl⟩
  have hpp : p2 = 2 * p := by rw [← hp2.out, ← hp.out]; omega
  have hD1 : depth (p : Int) = d := depth_pow d (by omega) p (by rw [← hp.out, Nat.one_mul])
  have hD2 : depth (p2 : Int) = d + 1 := depth_pow (d + 1) (by omega) p2 (by rw [← hp2.out, Nat.pow_succ, Nat.mul_comm])
  obtain ⟨T1, hT1⟩ : ∃ T, Hid (fullR (depth (p : Int)) rs = T) := ⟨_, hid rfl⟩
  obtain ⟨T2, hT2⟩ : ∃ T, Hid (fullR (depth (p2 : Int)) rs = T) := ⟨_, hid rfl⟩
  have ht1 : Rt T1 := by rw [← hT1.out]; exact full_rt _ _ hR.rts
  have ht2 : Rt T2 := by rw [← hT2.out]; exact full_rt _ _ hR.rts
  have hz : Rt (zUp d) := zeroUp_rt d
  have hW : rs.length ≤ p → Hid (T2 = pr T1 (zUp d)) := fun h => hid (by
    rw [← hT2.out, ← hT1.out, hD1, hD2]
    exact full_half pr (zeros 32) d rs (by rw [← Nat.one_mul (2 ^ d), hp.out]; exact h))
  clear hD1 hD2
  go_enter Tryd.func7, Tryd.ntmps7
  go_wp2_with fail
  refine (awake_any w hT).mono ?_
  rintro e w1 ⟨rfl, B1⟩
  by_cases hlen : p < rs.length
  · go_wp2_with (first
      | (refine wpList_run (o := ⟨some 14, .convert 43 3 (.tmp 13), _, _, _, _⟩) rfl (.int .i64 (d : Int)) (by rw [← HD.out]; unfold execOp; simp [go_sem]) ?_)
      | (refine wpList_run rfl _ (run_shl 3 3 (.const (.int .i64 1)) (.tmp 17) rfl 1 d p rfl rfl (by omega) hp (by omega)) ?_))
    go_ret
    exact ⟨rfl, B1⟩
  · replace hW := hW (by omega)
    go_wp2_with (first
      | (refine wpList_run (o := ⟨some 14, .convert 43 3 (.tmp 13), _, _, _, _⟩) rfl (.int .i64 (d : Int)) (by rw [← HD.out]; unfold execOp; simp [go_sem]) ?_)
      | (refine wpList_run rfl _ (run_shl 3 3 (.const (.int .i64 1)) (.tmp 17) rfl 1 d p rfl rfl (by omega) hp (by omega)) ?_))
    have HR1 := hR.keep B1
    have hT1w := hT.keep B1
    refine wp_region_flow 9 7 (fun i v wq => match i with
      | 0 => v = .slice ao rs.length cap
      | 1 => Slc rs v wq
      | 2 => v = .int .i64 (d : Int)
      | 3 => v = .int .i64 (p : Int)
      | 4 => v = .tuple #[.agg (nums .u8 T1), .int .i64 0]
      | 5 => v = .tuple #[.agg (nums .u8 T1), .int .i64 0]
      | 6 => v = .agg (nums .u8 T1)
      | 7 => v = .int .i64 0
      | _ => Var w1.heap.size 27 (zeros 32) v wq) (by kernel_rfl) (by kernel_rfl) (fun _ d _ _ _ h => by cases d <;> exact h) ?_ ?_ ?_ ?_
    · intro i v wq wq' hi hv hb
      match i, hi with
      | 0, _ => exact hv
      | 1, _ => exact hv.keep hb
      | 2, _ => exact hv
      | 3, _ => exact hv
      | 4, _ => exact hv
      | 5, _ => exact hv
      | 6, _ => exact hv
      | 7, _ => exact hv
      | 8, _ => exact hv.keep hb
    · intro i o hi ho aq wq hc hk hdep
      match i, hi with
      | 0, _ => cases ho; exact flow_move (.tmp 0) rfl (hk 0 (by decide))
      | 1, _ =>
        cases ho
        have e0 : aq.tmps.getD 21 undef = .slice ao rs.length cap := hdep 0 21 rfl (by kernel_rfl)
        refine flow_fun 9 _ _ rfl (fun _ _ => by simp [go_sem]) #[.slice ao rs.length cap] (by rw [show (#[Operand.tmp 21] : Array Operand).map aq.eval = #[aq.tmps.getD 21 undef] from by simp [Act.eval], e0]) ?_
        refine (own_any ao cap rs wq hnil (by omega) (HR1.keep hc.bel)).mono ?_
        rintro e w' ⟨v, rfl, h1, h2⟩
        exact ⟨v, rfl, Slc.own hR.rts h1, h2⟩
      | 2, _ => cases ho; exact flow_move (.tmp 1) rfl (hk 1 (by decide))
      | 3, _ =>
        cases ho
        have e2 : aq.tmps.getD 23 undef = .int .i64 (d : Int) := hdep 2 23 rfl (by kernel_rfl)
        exact flow_value _ (run_shl 3 3 (.const (.int .i64 1)) (.tmp 23) rfl 1 d p rfl e2 (by omega) hp (by omega)) rfl
      | 4, _ =>
        cases ho
        obtain ⟨ao', cap', e1, c1, c2, R1⟩ : Slc rs (aq.tmps.getD 22 undef) wq := hdep 1 22 rfl (by kernel_rfl)
        have e3 : aq.tmps.getD 24 undef = .int .i64 (p : Int) := hdep 3 24 rfl (by kernel_rfl)
        refine flow_fun 10 _ _ rfl (fun _ _ => by simp [go_sem]) #[.slice ao' (rs).length cap', .int .i64 (p : Int)] (by rw [show (#[Operand.tmp 22, Operand.tmp 24] : Array Operand).map aq.eval = #[aq.tmps.getD 22 undef, aq.tmps.getD 24 undef] from by simp [Act.eval], e1, e3]) ?_
        refine (tree_any ao' cap' (rs) p wq (hT1w.keep hc.bel) c1 c2 (by omega) R1 (by omega) (by omega)).mono ?_
        rintro e w' ⟨rfl, h2⟩
        exact ⟨_, rfl, congrArg (fun T => Value.tuple #[.agg (nums .u8 T), .int .i64 0]) hT1.out, h2⟩
      | 5, _ => cases ho; exact flow_move (.tmp 25) rfl (hdep 4 25 rfl (by kernel_rfl))
      | 6, _ => cases ho; exact flow_extract (.tmp 20) 0 _ _ rfl (hdep 5 20 rfl (by kernel_rfl)) rfl rfl
      | 7, _ => cases ho; exact flow_extract (.tmp 20) 1 _ _ rfl (hdep 5 20 rfl (by kernel_rfl)) rfl rfl
      | 8, _ =>
        cases ho
        exact flow_alloc 27 rfl .u8 32 Tryd.zero27 fun w' hH hB => ⟨wq.heap.size, hc.bel.size, rfl, hH⟩
    · intro o _ ho aq wq hc hk hdep
      cases ho
      exact ⟨_, fun _ => run_extract (.tmp 20) 1 _ _ rfl (hdep 5 20 rfl (by kernel_rfl)) rfl, rfl⟩
    intro vf w2 hc hv
    have e0 : vf 0 = _ := hv 0 21 (by decide) rfl
    have e2 : vf 2 = _ := hv 2 23 (by decide) rfl
    have e3 : vf 3 = _ := hv 3 24 (by decide) rfl
    have e4 : vf 4 = _ := hv 4 25 (by decide) rfl
    have e5 : vf 5 = _ := hv 5 20 (by decide) rfl
    have e6 : vf 6 = _ := hv 6 26 (by decide) rfl
    have e7 : vf 7 = _ := hv 7 27 (by decide) rfl
    obtain ⟨g1, hg1, e8, H3n⟩ : Var w1.heap.size 27 (zeros 32) (vf 8) w2 := hv 8 5 (by decide) rfl
    clear hv
    simp only [List.take_succ_cons, List.take_zero, List.drop_succ_cons, List.drop_zero, putAll, Act.put, List.setIfInBounds_toArray, List.set_cons_succ, List.set_cons_zero]
    rw [e0, e2, e3, e4, e5, e6, e7, e8]
    generalize vf 1 = x1
    clear e0 e2 e3 e4 e5 e6 e7 e8
    refine wpList_store_has rfl 27 (.tmp 5) (.tmp 26) rfl g1 .u8 T1 (zeros 32) rfl rfl 27 H3n (ht1.size _ Tryd.size27) (by rw [ht1.len, zeros_length]) ?_
    intro w3 H3 O3
    have Cw3 := hc
    have Bw3 : Below w.heap.size w w3 := below_only (below_more B1 hc.bel (Nat.le_refl _)) O3 (by have := (B1).size; omega)
    clear hc H3n vf
    go_wp2
    have HR3 := hR.keep Bw3
    have hT3w := hT.keep Bw3
    clear HR1 hT1w
    refine wp_region_flow 9 7 (fun i v wq => match i with
      | 0 => v = .slice ao rs.length cap
      | 1 => Slc rs v wq
      | 2 => v = .int .i64 (d : Int)
      | 3 => v = .int .i64 (p2 : Int)
      | 4 => v = .tuple #[.agg (nums .u8 T2), .int .i64 0]
      | 5 => v = .tuple #[.agg (nums .u8 T2), .int .i64 0]
      | 6 => v = .agg (nums .u8 T2)
      | 7 => v = .int .i64 0
      | _ => Var w3.heap.size 27 (zeros 32) v wq) (by kernel_rfl) (by kernel_rfl) (fun _ d _ _ _ h => by cases d <;> exact h) ?_ ?_ ?_ ?_
    · intro i v wq wq' hi hv hb
      match i, hi with
      | 0, _ => exact hv
      | 1, _ => exact hv.keep hb
      | 2, _ => exact hv
      | 3, _ => exact hv
      | 4, _ => exact hv
      | 5, _ => exact hv
      | 6, _ => exact hv
      | 7, _ => exact hv
      | 8, _ => exact hv.keep hb
    · intro i o hi ho aq wq hc hk hdep
      match i, hi with
      | 0, _ => cases ho; exact flow_move (.tmp 0) rfl (hk 0 (by decide))
      | 1, _ =>
        cases ho
        have e0 : aq.tmps.getD 29 undef = .slice ao rs.length cap := hdep 0 29 rfl (by kernel_rfl)
        refine flow_fun 9 _ _ rfl (fun _ _ => by simp [go_sem]) #[.slice ao rs.length cap] (by rw [show (#[Operand.tmp 29] : Array Operand).map aq.eval = #[aq.tmps.getD 29 undef] from by simp [Act.eval], e0]) ?_
        refine (own_any ao cap rs wq hnil (by omega) (HR3.keep hc.bel)).mono ?_
        rintro e w' ⟨v, rfl, h1, h2⟩
        exact ⟨v, rfl, Slc.own hR.rts h1, h2⟩
      | 2, _ => cases ho; exact flow_move (.tmp 1) rfl (hk 1 (by decide))
      | 3, _ =>
        cases ho
        have e2 : aq.tmps.getD 31 undef = .int .i64 (d : Int) := hdep 2 31 rfl (by kernel_rfl)
        exact flow_value _ (run_shl 3 3 (.const (.int .i64 2)) (.tmp 31) rfl 2 d p2 rfl e2 (by omega) hp2 (by omega)) rfl
      | 4, _ =>
        cases ho
        obtain ⟨ao', cap', e1, c1, c2, R1⟩ : Slc rs (aq.tmps.getD 30 undef) wq := hdep 1 30 rfl (by kernel_rfl)
        have e3 : aq.tmps.getD 32 undef = .int .i64 (p2 : Int) := hdep 3 32 rfl (by kernel_rfl)
        refine flow_fun 10 _ _ rfl (fun _ _ => by simp [go_sem]) #[.slice ao' (rs).length cap', .int .i64 (p2 : Int)] (by rw [show (#[Operand.tmp 30, Operand.tmp 32] : Array Operand).map aq.eval = #[aq.tmps.getD 30 undef, aq.tmps.getD 32 undef] from by simp [Act.eval], e1, e3]) ?_
        refine (tree_any ao' cap' (rs) p2 wq (hT3w.keep hc.bel) c1 c2 (by omega) R1 (by omega) (by omega)).mono ?_
        rintro e w' ⟨rfl, h2⟩
        exact ⟨_, rfl, congrArg (fun T => Value.tuple #[.agg (nums .u8 T), .int .i64 0]) hT2.out, h2⟩
      | 5, _ => cases ho; exact flow_move (.tmp 33) rfl (hdep 4 33 rfl (by kernel_rfl))
      | 6, _ => cases ho; exact flow_extract (.tmp 28) 0 _ _ rfl (hdep 5 28 rfl (by kernel_rfl)) rfl rfl
      | 7, _ => cases ho; exact flow_extract (.tmp 28) 1 _ _ rfl (hdep 5 28 rfl (by kernel_rfl)) rfl rfl
      | 8, _ =>
        cases ho
        exact flow_alloc 27 rfl .u8 32 Tryd.zero27 fun w' hH hB => ⟨wq.heap.size, hc.bel.size, rfl, hH⟩
    · intro o _ ho aq wq hc hk hdep
      cases ho
      exact ⟨_, fun _ => run_extract (.tmp 28) 1 _ _ rfl (hdep 5 28 rfl (by kernel_rfl)) rfl, rfl⟩
    intro vf w4 hc hv
    have e0 : vf 0 = _ := hv 0 29 (by decide) rfl
    have e2 : vf 2 = _ := hv 2 31 (by decide) rfl
    have e3 : vf 3 = _ := hv 3 32 (by decide) rfl
    have e4 : vf 4 = _ := hv 4 33 (by decide) rfl
    have e5 : vf 5 = _ := hv 5 28 (by decide) rfl
    have e6 : vf 6 = _ := hv 6 34 (by decide) rfl
    have e7 : vf 7 = _ := hv 7 35 (by decide) rfl
    obtain ⟨g2, hg2, e8, H5n⟩ : Var w3.heap.size 27 (zeros 32) (vf 8) w4 := hv 8 7 (by decide) rfl
    clear hv
    simp only [List.take_succ_cons, List.take_zero, List.drop_succ_cons, List.drop_zero, putAll, Act.put, List.setIfInBounds_toArray, List.set_cons_succ, List.set_cons_zero]
    rw [e0, e2, e3, e4, e5, e6, e7, e8]
    generalize vf 1 = x2
    clear e0 e2 e3 e4 e5 e6 e7 e8
    refine wpList_store_has rfl 27 (.tmp 7) (.tmp 34) rfl g2 .u8 T2 (zeros 32) rfl rfl 27 H5n (ht2.size _ Tryd.size27) (by rw [ht2.len, zeros_length]) ?_
    intro w5 H5 O5
    have Cw5 := hc
    have Bw5 : Below w.heap.size w w5 := below_only (below_more Bw3 hc.bel (Nat.le_refl _)) O5 (by have := (Bw3).size; omega)
    clear hc H5n vf
    have n2 : g1 ≠ g2 := by have := H3.lt; omega
    have H35 := (H3.keep Cw5.bel).only O5 n2
    have hT5 := hT.keep Bw5
    rw [hW.out] at H5
    clear hW HR3 hT3w Cw3 Cw5 O3 O5 H3 hT1 hT2 HD hp hp2
    obtain ⟨Z, hZ⟩ : ∃ Z, Hid (zUp d = Z) := ⟨_, hid rfl⟩
    have HZ := hid (fun wq (hq : Cls w5 wq) => zero_any (d : Int) (by omega) (by omega) wq (hT5.keep hq.bel))
    rw [Int.toNat_natCast, hZ.out] at HZ
    rw [hZ.out] at hz H5
    have HP := hid (fun wq (hq : Cls w5 wq) => pair_any T1 Z ht1.len hz.len ht1.byte hz.byte wq (hT5.keep hq.bel))
    have H1q := hid (fun wq (hq : Cls w5 wq) => H35.keep hq.bel)
    have H2q := hid (fun wq (hq : Cls w5 wq) => H5.keep hq.bel)
    have hprt := pr_rt T1 Z
    have he1 := eql_api (pr T1 Z) (pr T1 Z) hprt.len hprt.len hprt.byte hprt.byte
    rw [decide_eq_true rfl] at he1
    clear hZ
    have hsz := hprt.size Tryd.prog Tryd.size27
    obtain ⟨S, hS⟩ : ∃ S, Hid (pr T1 Z = S) := ⟨_, hid rfl⟩
    rw [pr_def] at HP
    rw [hS.out] at HP H2q he1 hsz
    clear H5 H35 ht2 hprt
    go_wp2
    refine wp_region_cls (by kernel_rfl) (by kernel_rfl) ?_
    go_big_quiet_step (fail)
    go_big_quiet_step (exact fun _ => rfl)
    go_big_quiet_step (fail)
    go_big_quiet_step (fail)
    go_big_quiet_step (exact fun _ => rfl)
    go_big_quiet_step (exact fun _ => rfl)
    go_big_quiet_step (fail)
    go_big_quiet_want
    refine quiet_load 27 (.tmp 7) rfl g2 .u8 S rfl 27 H2q.out _ _ Tryd.und27 hsz ?_
    simp only [Act.put, List.setIfInBounds_toArray, List.set_cons_succ, List.set_cons_zero]
    go_big_quiet_on
    go_big_quiet_want
    refine quiet_load 27 (.tmp 5) rfl g1 .u8 T1 rfl 27 H1q.out _ _ Tryd.und27 (ht1.size _ Tryd.size27) ?_
    simp only [Act.put, List.setIfInBounds_toArray, List.set_cons_succ, List.set_cons_zero]
    go_big_quiet_on
    go_big_quiet_step (fail)
    go_big_quiet_want
    refine quiet_call 15 #[.int .i64 (d : Int)] (.agg (nums .u8 Z)) (fun _ => by simp [go_sem]) (fun wq hq => (HZ.out wq hq).mono fun e w' h => ⟨h.1, hq.more h.2⟩) ?_
    simp only [Act.put, List.setIfInBounds_toArray, List.set_cons_succ, List.set_cons_zero]
    go_big_quiet_on
    go_big_quiet_want
    refine quiet_call 25 #[.agg (nums .u8 T1), .agg (nums .u8 Z)] (.agg (nums .u8 S)) (fun _ => by simp [go_sem]) (fun wq hq => (HP.out wq hq).mono fun e w' h => ⟨h.1, hq.more h.2⟩) ?_
    simp only [Act.put, List.setIfInBounds_toArray, List.set_cons_succ, List.set_cons_zero]
    go_big_quiet_on
    go_big_quiet_step (exact fun _ => rfl)
    go_big_quiet_step (exact fun _ => rfl)
    go_big_quiet_step (fail)
    refine wpQuiet_nil ?_
    intro w6 hq6
    go_wp2
    go_ret
    exact ⟨rfl, below_more Bw5 hq6.bel (Nat.le_refl _)⟩
end Go.Proofs.YtfekefgaahoigaaDoor
