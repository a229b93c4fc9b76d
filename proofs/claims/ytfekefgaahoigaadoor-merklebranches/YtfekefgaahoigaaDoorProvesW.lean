/- The walk of MerkleProves. -/
import Derived.Test.YtfekefgaahoigaaDoorWiderW
namespace Go.Proofs.YtfekefgaahoigaaDoor
open Go.RowKit
set_option linter.unusedVariables false

theorem modlen (a : Int) (n : Nat) (h0 : 0 < n) (hn : n ≤ 64) : ∃ i : Nat, IntKind.i64.wrap ((IntKind.u64.wrap a).tmod (n : Int)) = (i : Int) ∧ i < n := by
  have e : ∀ x, IntKind.i64.wrap x = wrap64 x := fun x => by rw [IntKind.wrap_i64]; unfold wrap64; rfl
  have h1 : (0 : Int) ≤ IntKind.u64.wrap a := by simp [IntKind.wrap, IntKind.bits, IntKind.signed]; omega
  rw [e, Int.tmod_eq_emod_of_nonneg h1]
  generalize IntKind.u64.wrap a = u at *
  have hlt := Int.emod_lt_of_pos u (show (0 : Int) < (n : Int) by omega)
  have hge := Int.emod_nonneg u (show (n : Int) ≠ 0 by omega)
  refine ⟨(u % (n : Int)).toNat, ?_, by omega⟩
  generalize u % (n : Int) = m at *
  rw [IntWalk.wrap64_in _ (by omega)]
  omega
section
variable {P : Program} {ops : Array Oper} {o : Oper} {a : Act} {C : World → Prop}
theorem quiet_load_named {K : Act → Prop} (ty : TypeId) (x : Operand) (ho : o.op = .load ty x) (b off i : Nat) (rs : List (List Nat)) (r : List Nat) (hq : Hid (rs.getD i [] = r)) (hx : a.eval x = .pointer (some ⟨b, off + 32 * i, none⟩)) (hr : ∀ w, C w → RootsAt w (some ⟨b, off, none⟩) rs) (hi : i < rs.length)
    (n : Nat) (e : TypeId) (hu : P.underlying ty = some (.array n e)) (hs : (P.info? ty).map (·.size) = some 32) (hk : K (a.put o.dst (.agg (nums .u8 r)))) : o.quiet P a C K :=
  quiet_load_root ty x ho b off i rs hx hr hi n e hu hs (by rw [hq.out]; exact hk)
end
theorem run_at {o : Oper} {a : Act} {w : World} (x y : Operand) (ho : o.op = .indexAddr 22 x y) (b off n cap i : Nat) (hx : a.eval x = .slice (some ⟨b, off, none⟩) n cap) (hy : a.eval y = .int .i64 (i : Int)) (hi : i < n) :
    (execOp a.eval o).run Tryd.prog w = .ok (.value (.pointer (some ⟨b, off + 32 * i, none⟩))) w := by
  rw [Nat.mul_comm]
  unfold execOp
  simp only [ho, hx, hy]
  go_simp
theorem wrap_small (n : Nat) (h : n < 18446744073709551616) : IntKind.u64.wrap (n : Int) = (n : Int) := by rw [IntKind.wrap_u64]; omega
theorem row_some {w : World} {base n : Nat} {e : TypeId} {v : Value} {xs : List Value} (h : w.ownsRow base e 32 v n xs) (h0 : 0 < n) : ∃ g cap, base ≤ g ∧ n ≤ cap ∧ cap ≤ maxLen ∧ v = .slice (some ⟨g, 0, none⟩) n cap := by
  obtain ⟨_, ⟨_, h1⟩ | ⟨g, cap, cur, rfl, hb, hg, hnc, hm, hcs, htk⟩⟩ := h
  · omega
  · exact ⟨g, cap, hb, hnc, hm, rfl⟩

set_option maxRecDepth 100000 in
set_option maxHeartbeats 4000000 in
theorem proves_walk (ao : Option Addr) (cap : Nat) (rs : List (List Nat)) (a1 a2 : Int) (x : List Nat) (w : World) (hT : Tabs w) (hcap : rs.length ≤ cap) (hm : cap ≤ maxLen) (hnil : ao = none → cap = 0) (hR : RootsAt w ao rs) (hx : Rt x) :
    Calls Tryd.prog 6 #[.slice ao rs.length cap, .int .i64 a1, .int .i64 a2, .agg (nums .u8 x)] w fun e w' => e = .returned (.bool true) ∧ Below w.heap.size w w' := by
  have hm' := hm
  unfold maxLen at hm
  obtain ⟨d, hd, hd7⟩ := seven a1
  have HD := hid hd
  clear hd
  obtain ⟨p, hp⟩ : ∃ p, Hid (1 * 2 ^ d = p) := ⟨_, hid rfl⟩
  have hp64 : p ≤ 64 := by have h : 2 ^ d ≤ 2 ^ 6 := Nat.pow_le_pow_right (by decide) (by omega); rw [← hp.out]; omega
  have hD1 : depth (p : Int) = d := depth_pow d (by omega) p (by rw [← hp.out, Nat.one_mul])
  go_enter Tryd.func6, Tryd.ntmps6
  go_wp2_with (refine wpList_box_has rfl 7 rfl 27 (.tmp 3) rfl .u8 x rfl ?_; intro w0 H0 B0 S0)
  refine (awake_any w0 (hT.keep B0)).mono ?_
  rintro e w1 ⟨rfl, B1a⟩
  have B1 := below_more B0 B1a (Nat.le_refl _)
  have H1 := H0.keep B1a
  clear B0 B1a H0 S0
  by_cases hlen : p < rs.length
  · go_wp2_with (first
      | (refine wpList_run (o := ⟨some 21, .convert 43 3 (.tmp 20), _, _, _, _⟩) rfl (.int .i64 (d : Int)) (by rw [← HD.out]; unfold execOp; simp [go_sem]) ?_)
      | (refine wpList_run rfl _ (run_shl 3 3 (.const (.int .i64 1)) (.tmp 24) rfl 1 d p rfl rfl (by omega) hp (by omega)) ?_))
    go_ret
    exact ⟨rfl, B1⟩
  by_cases h0 : rs.length = 0
  · have hi0 : (rs.length : Int) = 0 := by omega
    go_wp2_with (first
      | (refine wpList_run (o := ⟨some 21, .convert 43 3 (.tmp 20), _, _, _, _⟩) rfl (.int .i64 (d : Int)) (by rw [← HD.out]; unfold execOp; simp [go_sem]) ?_)
      | (refine wpList_run rfl _ (run_shl 3 3 (.const (.int .i64 1)) (.tmp 24) rfl 1 d p rfl rfl (by omega) hp (by omega)) ?_))
    go_ret
    exact ⟨rfl, B1⟩
  obtain ⟨ix, hix, hixl⟩ := modlen a2 rs.length (by omega) (by omega)
  have HIX := hid hix
  clear hix
  have hi0 : ¬ (rs.length : Int) = 0 := by omega
  obtain ⟨T1, hT1⟩ : ∃ T, Hid (fullR (depth (p : Int)) rs = T) := ⟨_, hid rfl⟩
  obtain ⟨rs2, hrs2⟩ : ∃ rs2, Hid (rs.set ix x = rs2) := ⟨_, hid rfl⟩
  obtain ⟨T2, hT2⟩ : ∃ T, Hid (fullR (depth (p : Int)) rs2 = T) := ⟨_, hid rfl⟩
  have hset : Rts rs2 := by rw [← hrs2.out]; exact hR.rts.set ix hx.len hx.byte
  have hsl : rs2.length = rs.length := by rw [← hrs2.out]; exact List.length_set
  have ht1 : Rt T1 := by rw [← hT1.out]; exact full_rt _ _ hR.rts
  have ht2 : Rt T2 := by rw [← hT2.out]; exact full_rt _ _ hset
  have hpd : 2 ^ d = p := by rw [← hp.out, Nat.one_mul]
  obtain ⟨q, hq⟩ : ∃ q, Hid (rs.getD ix [] = q) := ⟨_, hid rfl⟩
  have hqr : Rt q := by rw [← hq.out]; exact hR.rts.rt ix hixl
  have hc1 : climbR q (braR rs ix d) ix = T1 := by
    rw [← hT1.out, hD1, ← hq.out, List.getD_eq_getElem?_getD, List.getElem?_eq_getElem hixl]
    exact climb_own pr (zeros 32) rs ix d hixl (by omega)
  have hc2 : climbR x (braR rs ix d) ix = T2 := by
    rw [← hT2.out, hD1, ← hrs2.out]
    exact climb_full pr (zeros 32) x rs ix d hixl (by omega)
  have hbl : (braR rs ix d).length = d := branch_length pr (zeros 32) rs ix d
  have HC1 := hid hc1
  have HC2 := hid hc2
  clear hc1 hc2 hD1
  go_wp2_with (first
    | (refine wpList_run (o := ⟨some 21, .convert 43 3 (.tmp 20), _, _, _, _⟩) rfl (.int .i64 (d : Int)) (by rw [← HD.out]; unfold execOp; simp [go_sem]) ?_)
    | (refine wpList_run rfl _ (run_shl 3 3 (.const (.int .i64 1)) (.tmp 24) rfl 1 d p rfl rfl (by omega) hp (by omega)) ?_)
    | (refine wpList_run (o := ⟨some 36, .convert 3 43 (.tmp 35), _, _, _, _⟩) rfl (.int .u64 (rs.length : Int)) (by unfold execOp; simp [go_sem]; omega) ?_)
    | (refine wpList_run (o := ⟨some 38, .convert 43 3 (.tmp 37), _, _, _, _⟩) rfl (.int .i64 (ix : Int)) (by rw [← HIX.out]; unfold execOp; simp [go_sem]) ?_))
  have HR1 := hR.keep B1
  have hT1w := hT.keep B1
  refine wp_region_flow 9 7 (fun i v wq => match i with
    | 0 => v = .slice ao rs.length cap
    | 1 => Slc rs v wq
    | 2 => v = .int .i64 (d : Int)
    | 3 => v = .int .i64 (p : Int)
    | 4 => v = .tuple #[.agg (nums .u8 T1), .int .i64 0]
    | 5 => v = .tuple #[.agg (nums .u8 T1), .int .i64 0]
    | 6 => v = .agg (nums .u8 T1)
    | 7 => v = .int .i64 0
    | _ => Var w1.heap.size 27 (zeros 32) v wq) (by kernel_rfl) (by kernel_rfl) (fun _ d _ _ _ h => by cases d <;> exact h) ?_ ?_ ?_ ?_
  · intro i v wq wq' hi hv hb
    match i, hi with
    | 0, _ => exact hv
    | 1, _ => exact hv.keep hb
    | 2, _ => exact hv
    | 3, _ => exact hv
    | 4, _ => exact hv
    | 5, _ => exact hv
    | 6, _ => exact hv
    | 7, _ => exact hv
    | 8, _ => exact hv.keep hb
  · intro i o hi ho aq wq hc hk hdep
    match i, hi with
    | 0, _ => cases ho; exact flow_move (.tmp 0) rfl (hk 0 (by decide))
    | 1, _ =>
      cases ho
      have e0 : aq.tmps.getD 40 undef = .slice ao rs.length cap := hdep 0 40 rfl (by kernel_rfl)
      refine flow_fun 9 _ _ rfl (fun _ _ => by simp [go_sem]) #[.slice ao rs.length cap] (by rw [show (#[Operand.tmp 40] : Array Operand).map aq.eval = #[aq.tmps.getD 40 undef] from by simp [Act.eval], e0]) ?_
      refine (own_any ao cap rs wq hnil (by omega) (HR1.keep hc.bel)).mono ?_
      rintro e w' ⟨v, rfl, h1, h2⟩
      exact ⟨v, rfl, Slc.own hR.rts h1, h2⟩
    | 2, _ => cases ho; exact flow_move (.tmp 1) rfl (hk 1 (by decide))
    | 3, _ =>
      cases ho
      have e2 : aq.tmps.getD 42 undef = .int .i64 (d : Int) := hdep 2 42 rfl (by kernel_rfl)
      exact flow_value _ (run_shl 3 3 (.const (.int .i64 1)) (.tmp 42) rfl 1 d p rfl e2 (by omega) hp (by omega)) rfl
    | 4, _ =>
      cases ho
      obtain ⟨ao', cap', e1, c1, c2, R1⟩ : Slc rs (aq.tmps.getD 41 undef) wq := hdep 1 41 rfl (by kernel_rfl)
      have e3 : aq.tmps.getD 43 undef = .int .i64 (p : Int) := hdep 3 43 rfl (by kernel_rfl)
      refine flow_fun 10 _ _ rfl (fun _ _ => by simp [go_sem]) #[.slice ao' (rs).length cap', .int .i64 (p : Int)] (by rw [show (#[Operand.tmp 41, Operand.tmp 43] : Array Operand).map aq.eval = #[aq.tmps.getD 41 undef, aq.tmps.getD 43 undef] from by simp [Act.eval], e1, e3]) ?_
      refine (tree_any ao' cap' (rs) p wq (hT1w.keep hc.bel) c1 c2 (by omega) R1 (by omega) (by omega)).mono ?_
      rintro e w' ⟨rfl, h2⟩
      exact ⟨_, rfl, congrArg (fun T => Value.tuple #[.agg (nums .u8 T), .int .i64 0]) hT1.out, h2⟩
    | 5, _ => cases ho; exact flow_move (.tmp 44) rfl (hdep 4 44 rfl (by kernel_rfl))
    | 6, _ => cases ho; exact flow_extract (.tmp 39) 0 _ _ rfl (hdep 5 39 rfl (by kernel_rfl)) rfl rfl
    | 7, _ => cases ho; exact flow_extract (.tmp 39) 1 _ _ rfl (hdep 5 39 rfl (by kernel_rfl)) rfl rfl
    | 8, _ =>
      cases ho
      exact flow_alloc 27 rfl .u8 32 Tryd.zero27 fun w' hH hB => ⟨wq.heap.size, hc.bel.size, rfl, hH⟩
  · intro o _ ho aq wq hc hk hdep
    cases ho
    exact ⟨_, fun _ => run_extract (.tmp 39) 1 _ _ rfl (hdep 5 39 rfl (by kernel_rfl)) rfl, rfl⟩
  intro vf w2 hc hv
  have e0 : vf 0 = _ := hv 0 40 (by decide) rfl
  have e2 : vf 2 = _ := hv 2 42 (by decide) rfl
  have e3 : vf 3 = _ := hv 3 43 (by decide) rfl
  have e4 : vf 4 = _ := hv 4 44 (by decide) rfl
  have e5 : vf 5 = _ := hv 5 39 (by decide) rfl
  have e6 : vf 6 = _ := hv 6 45 (by decide) rfl
  have e7 : vf 7 = _ := hv 7 46 (by decide) rfl
  obtain ⟨g1, hg1, e8, H3n⟩ : Var w1.heap.size 27 (zeros 32) (vf 8) w2 := hv 8 9 (by decide) rfl
  clear hv
  simp only [List.take_succ_cons, List.take_zero, List.drop_succ_cons, List.drop_zero, putAll, Act.put, List.setIfInBounds_toArray, List.set_cons_succ, List.set_cons_zero]
  rw [e0, e2, e3, e4, e5, e6, e7, e8]
  generalize vf 1 = x1
  clear e0 e2 e3 e4 e5 e6 e7 e8
  refine wpList_store_has rfl 27 (.tmp 9) (.tmp 45) rfl g1 .u8 T1 (zeros 32) rfl rfl 27 H3n (ht1.size _ Tryd.size27) (by rw [ht1.len, zeros_length]) ?_
  intro w3 H3 O3
  have Cw3 := hc
  have Bw3 : Below w.heap.size w w3 := below_only (below_more B1 hc.bel (Nat.le_refl _)) O3 (by have := (B1).size; omega)
  clear hc H3n vf
  have H1a := (H1.keep Cw3.bel).only O3 (by have := H1.lt; omega)
  have HR3 := hR.keep Bw3
  clear HR1 hT1w H1 Cw3 O3
  go_wp2_with fail
  refine (own_any ao cap rs w3 hnil (by omega) HR3).mono ?_
  rintro e w4 ⟨v4, rfl, own4, B4⟩
  obtain ⟨_, ao4, cap4, rfl, c41, c42, R4⟩ := RootsAt.own hR.rts own4
  have Bw4 := below_more Bw3 B4 (Nat.le_refl _)
  have HBr := hid (branch_any ao4 cap4 rs d ix w4 (hT.keep Bw4) c41 c42 (by omega) R4 (by omega) (by omega) (by omega))
  clear own4 R4
  go_wp2_with fail
  refine HBr.out.mono ?_
  rintro e w5 ⟨gb, hgb, rfl, Rb5, B5⟩
  have Bw5 := below_more Bw4 B5 (Nat.le_refl _)
  have H35 := (H3.keep B4).keep B5
  have H15 := (H1a.keep B4).keep B5
  clear HBr H3 H1a B4 B5 HR3
  go_wp2_with fail
  refine (own_any ao cap rs w5 hnil (by omega) (hR.keep Bw5)).mono ?_
  rintro e w6 ⟨v6, rfl, own6, B6⟩
  obtain ⟨g6, cap6, hg6, c61, c62, rfl⟩ := row_some own6 (by omega)
  have Bw6 := below_more Bw5 B6 (Nat.le_refl _)
  have H36 := H35.keep B6
  have H16 := H15.keep B6
  have Rb6 := Rb5.keep B6
  have l3 := H35.lt
  have l1 := H15.lt
  have lb : gb < w5.heap.size ∨ d = 0 := by
    by_cases hd0 : d = 0
    · exact .inr hd0
    · left
      obtain ⟨b', off', e', hc'⟩ := Rb5.addr (by rw [hbl]; omega)
      cases e'
      exact block_lt_of_cell (hc' 0 (by rw [hbl]; omega))
  clear H35 H15 Rb5 B6
  go_wp2_with (first
    | (refine wpList_load_has rfl 27 (.tmp 7) rfl w.heap.size .u8 x rfl 27 H16 _ _ Tryd.und27 (hx.size _ Tryd.size27) ?_)
    | (refine wpList_store_root rfl 27 (.tmp 60) (.tmp 59) rfl w5.heap.size rs.length cap6 g6 ix 27 rs x (by rw [Nat.mul_comm 32 ix]; simp [Act.eval]) rfl hR.rts own6 hixl hx.len Tryd.size27 ?_; intro w7 own7 O7))
  rw [hrs2.out] at own7
  obtain ⟨_, ao7, cap7, e7, _, _, R7⟩ := RootsAt.own hset own7
  obtain ⟨rfl, -, rfl⟩ : some ⟨g6, 0, none⟩ = ao7 ∧ rs.length = rs2.length ∧ cap6 = cap7 := by simpa using e7
  clear e7 own6 own7
  have n6 : w.heap.size ≤ g6 := by have := Bw5.size; omega
  have Bw7 := below_only Bw6 O7 n6
  have H37 := H36.only O7 (by omega)
  have H17 := H16.only O7 (by omega)
  have nb6 : 0 < (braR rs ix d).length → gb ≠ g6 := fun h => by rw [hbl] at h; rcases lb with lb | lb <;> omega
  have Rb7 : RootsAt w7 (some ⟨gb, 0, none⟩) (braR rs ix d) := Rb6.away O7 (fun h => ⟨gb, 0, rfl, nb6 h⟩)
  clear lb nb6
  have hT7 := hT.keep Bw7
  clear H36 H16 Rb6 O7 Bw6
  refine wp_region_flow 9 7 (fun i v wq => match i with
    | 0 => v = .slice (some ⟨g6, 0, none⟩) rs.length cap6
    | 1 => Slc rs2 v wq
    | 2 => v = .int .i64 (d : Int)
    | 3 => v = .int .i64 (p : Int)
    | 4 => v = .tuple #[.agg (nums .u8 T2), .int .i64 0]
    | 5 => v = .tuple #[.agg (nums .u8 T2), .int .i64 0]
    | 6 => v = .agg (nums .u8 T2)
    | 7 => v = .int .i64 0
    | _ => Var w7.heap.size 27 (zeros 32) v wq) (by kernel_rfl) (by kernel_rfl) (fun _ d _ _ _ h => by cases d <;> exact h) ?_ ?_ ?_ ?_
  · intro i v wq wq' hi hv hb
    match i, hi with
    | 0, _ => exact hv
    | 1, _ => exact hv.keep hb
    | 2, _ => exact hv
    | 3, _ => exact hv
    | 4, _ => exact hv
    | 5, _ => exact hv
    | 6, _ => exact hv
    | 7, _ => exact hv
    | 8, _ => exact hv.keep hb
  · intro i o hi ho aq wq hc hk hdep
    match i, hi with
    | 0, _ => cases ho; exact flow_move (.tmp 13) rfl (hk 13 (by decide))
    | 1, _ =>
      cases ho
      have e0 : aq.tmps.getD 62 undef = .slice (some ⟨g6, 0, none⟩) rs.length cap6 := hdep 0 62 rfl (by kernel_rfl)
      refine flow_fun 9 _ _ rfl (fun _ _ => by simp [go_sem]) #[.slice (some ⟨g6, 0, none⟩) rs.length cap6] (by rw [show (#[Operand.tmp 62] : Array Operand).map aq.eval = #[aq.tmps.getD 62 undef] from by simp [Act.eval], e0]) ?_
      refine (show Calls _ _ _ _ _ from by have h := own_any (some ⟨g6, 0, none⟩) cap6 rs2 wq (fun h => by cases h) (by omega) (R7.keep hc.bel); rw [hsl] at h; exact h).mono ?_
      rintro e w' ⟨v, rfl, h1, h2⟩
      exact ⟨v, rfl, Slc.own hset h1, h2⟩
    | 2, _ => cases ho; exact flow_move (.tmp 1) rfl (hk 1 (by decide))
    | 3, _ =>
      cases ho
      have e2 : aq.tmps.getD 64 undef = .int .i64 (d : Int) := hdep 2 64 rfl (by kernel_rfl)
      exact flow_value _ (run_shl 3 3 (.const (.int .i64 1)) (.tmp 64) rfl 1 d p rfl e2 (by omega) hp (by omega)) rfl
    | 4, _ =>
      cases ho
      obtain ⟨ao', cap', e1, c1, c2, R1⟩ : Slc rs2 (aq.tmps.getD 63 undef) wq := hdep 1 63 rfl (by kernel_rfl)
      have e3 : aq.tmps.getD 65 undef = .int .i64 (p : Int) := hdep 3 65 rfl (by kernel_rfl)
      refine flow_fun 10 _ _ rfl (fun _ _ => by simp [go_sem]) #[.slice ao' (rs2).length cap', .int .i64 (p : Int)] (by rw [show (#[Operand.tmp 63, Operand.tmp 65] : Array Operand).map aq.eval = #[aq.tmps.getD 63 undef, aq.tmps.getD 65 undef] from by simp [Act.eval], e1, e3]) ?_
      refine (tree_any ao' cap' (rs2) p wq (hT7.keep hc.bel) c1 c2 (by omega) R1 (by omega) (by omega)).mono ?_
      rintro e w' ⟨rfl, h2⟩
      exact ⟨_, rfl, congrArg (fun T => Value.tuple #[.agg (nums .u8 T), .int .i64 0]) hT2.out, h2⟩
    | 5, _ => cases ho; exact flow_move (.tmp 66) rfl (hdep 4 66 rfl (by kernel_rfl))
    | 6, _ => cases ho; exact flow_extract (.tmp 61) 0 _ _ rfl (hdep 5 61 rfl (by kernel_rfl)) rfl rfl
    | 7, _ => cases ho; exact flow_extract (.tmp 61) 1 _ _ rfl (hdep 5 61 rfl (by kernel_rfl)) rfl rfl
    | 8, _ =>
      cases ho
      exact flow_alloc 27 rfl .u8 32 Tryd.zero27 fun w' hH hB => ⟨wq.heap.size, hc.bel.size, rfl, hH⟩
  · intro o _ ho aq wq hc hk hdep
    cases ho
    exact ⟨_, fun _ => run_extract (.tmp 61) 1 _ _ rfl (hdep 5 61 rfl (by kernel_rfl)) rfl, rfl⟩
  intro vf w8 hc hv
  have e0 : vf 0 = _ := hv 0 62 (by decide) rfl
  have e2 : vf 2 = _ := hv 2 64 (by decide) rfl
  have e3 : vf 3 = _ := hv 3 65 (by decide) rfl
  have e4 : vf 4 = _ := hv 4 66 (by decide) rfl
  have e5 : vf 5 = _ := hv 5 61 (by decide) rfl
  have e6 : vf 6 = _ := hv 6 67 (by decide) rfl
  have e7 : vf 7 = _ := hv 7 68 (by decide) rfl
  obtain ⟨g2, hg2, e8, H9n⟩ : Var w7.heap.size 27 (zeros 32) (vf 8) w8 := hv 8 14 (by decide) rfl
  clear hv
  simp only [List.take_succ_cons, List.take_zero, List.drop_succ_cons, List.drop_zero, putAll, Act.put, List.setIfInBounds_toArray, List.set_cons_succ, List.set_cons_zero]
  rw [e0, e2, e3, e4, e5, e6, e7, e8]
  generalize vf 1 = x2
  clear e0 e2 e3 e4 e5 e6 e7 e8
  refine wpList_store_has rfl 27 (.tmp 14) (.tmp 67) rfl g2 .u8 T2 (zeros 32) rfl rfl 27 H9n (ht2.size _ Tryd.size27) (by rw [ht2.len, zeros_length]) ?_
  intro w9 H9 O9
  have Cw9 := hc
  have Bw9 : Below w.heap.size w w9 := below_only (below_more Bw7 hc.bel (Nat.le_refl _)) O9 (by have := (Bw7).size; omega)
  clear hc H9n vf
  refine wpList_run rfl (.int .i64 0) rfl ?_
  simp only [Act.put, List.setIfInBounds_toArray, List.set_cons_succ, List.set_cons_zero]
  go_wp2
  have H39 := (H37.keep Cw9.bel).only O9 (by have := H37.lt; omega)
  have H19 := (H17.keep Cw9.bel).only O9 (by have := H17.lt; omega)
  have Rb9 : RootsAt w9 (some ⟨gb, 0, none⟩) (braR rs ix d) := (Rb7.keep Cw9.bel).away O9 (fun h => by
    obtain ⟨b', off', e', hb'⟩ := Rb7.old h
    cases e'
    obtain ⟨b'', off'', e'', hc''⟩ := Rb7.addr h
    cases e''
    have : gb < w7.heap.size := block_lt_of_cell (hc'' 0 (by omega))
    exact ⟨gb, 0, rfl, by omega⟩)
  have hT9 := hT.keep Bw9
  have HR9 := hR.keep Bw9
  clear H37 H17 Rb7 O9 Cw9 hT7 R7 hT1 hT2 HD HIX hp hrs2
  obtain ⟨b, off, rfl, _⟩ := HR9.addr (by omega)
  have HV1 := fun wq (hq' : Cls w9 wq) => verify_any q (some ⟨gb, 0, none⟩) d (braR rs ix d) ix T1 wq (hT9.keep hq'.bel) (by omega) (by unfold maxLen; omega) (Rb9.keep hq'.bel) hqr ht1 (by omega)
  have HV2 := fun wq (hq' : Cls w9 wq) => verify_any x (some ⟨gb, 0, none⟩) d (braR rs ix d) ix T2 wq (hT9.keep hq'.bel) (by omega) (by unfold maxLen; omega) (Rb9.keep hq'.bel) hx ht2 (by omega)
  have HV3 := fun wq (hq' : Cls w9 wq) => verify_any x (some ⟨gb, 0, none⟩) d (braR rs ix d) ix T1 wq (hT9.keep hq'.bel) (by omega) (by unfold maxLen; omega) (Rb9.keep hq'.bel) hx ht1 (by omega)
  rw [hbl, HC1.out, decide_eq_true rfl] at HV1
  rw [hbl, HC2.out, decide_eq_true rfl] at HV2
  rw [hbl, HC2.out] at HV3
  have he := eql_api T1 T2 ht1.len ht2.len ht1.byte ht2.byte
  have hb2 : decide (T1 = T2) = decide (T2 = T1) := by simp [eq_comm]
  rw [hb2] at he
  obtain ⟨bb, hbb⟩ : ∃ bb, decide (T2 = T1) = bb := ⟨_, rfl⟩
  rw [hbb] at HV3 he
  replace HV1 := hid HV1
  replace HV2 := hid HV2
  replace HV3 := hid HV3
  have H1q := hid (fun wq (hq' : Cls w9 wq) => H39.keep hq'.bel)
  have H2q := hid (fun wq (hq' : Cls w9 wq) => H9.keep hq'.bel)
  have H0q := hid (fun wq (hq' : Cls w9 wq) => H19.keep hq'.bel)
  have HRq := hid (fun wq (hq' : Cls w9 wq) => HR9.keep hq'.bel)
  clear hb2 hbb H39 H9 H19 Rb9 HC1 HC2
  refine wp_region_cls (by kernel_rfl) (by kernel_rfl) ?_
  go_big_quiet_step (fail)
  go_big_quiet_step (exact fun _ => rfl)
  go_big_quiet_step (fail)
  go_big_quiet_step (fail)
  go_big_quiet_step (exact fun _ => rfl)
  go_big_quiet_step (exact fun _ => rfl)
  go_big_quiet_step (fail)
  go_big_quiet_step (fail)
  go_big_quiet_step (exact fun _ => rfl)
  go_big_quiet_step (exact fun _ => rfl)
  go_big_quiet_step (fail)
  go_big_quiet_step (fail)
  go_big_quiet_step (exact fun _ => rfl)
  go_big_quiet_step (fail)
  go_big_quiet_step (exact fun _ => rfl)
  go_big_quiet_step (exact fun _ => rfl)
  go_big_quiet_step (fail)
  go_big_quiet_step (fail)
  go_big_quiet_step (fail)
  go_big_quiet_want
  refine quiet_run _ (fun wq hwq => run_at (.tmp 86) (.tmp 87) rfl b off rs.length cap ix rfl rfl hixl) ?_
  simp only [Act.put, List.setIfInBounds_toArray, List.set_cons_succ, List.set_cons_zero]
  go_big_quiet_on
  go_big_quiet_want
  refine quiet_load_named 27 (.tmp 88) rfl b off ix rs q hq rfl HRq.out hixl _ _ Tryd.und27 Tryd.size27 ?_
  simp only [Act.put, List.setIfInBounds_toArray, List.set_cons_succ, List.set_cons_zero]
  go_big_quiet_on
  go_big_quiet_step (fail)
  go_big_quiet_step (fail)
  go_big_quiet_want
  refine quiet_run (.int .u64 (ix : Int)) (fun wq hwq => by unfold execOp; simp [go_sem, wrap_small ix (by omega)]) ?_
  simp only [Act.put, List.setIfInBounds_toArray, List.set_cons_succ, List.set_cons_zero]
  go_big_quiet_on
  go_big_quiet_want
  refine quiet_load 27 (.tmp 9) rfl g1 .u8 T1 rfl 27 H1q.out _ _ Tryd.und27 (ht1.size _ Tryd.size27) ?_
  simp only [Act.put, List.setIfInBounds_toArray, List.set_cons_succ, List.set_cons_zero]
  go_big_quiet_on
  go_big_quiet_want
  refine quiet_call 23 #[.agg (nums .u8 q), .slice (some ⟨gb, 0, none⟩) d d, .int .u64 (ix : Int), .agg (nums .u8 T1)] (.bool true) (fun _ => by simp [go_sem]) (fun wq hq => (HV1.out wq hq).mono fun e w' h => ⟨h.1, hq.more h.2⟩) ?_
  simp only [Act.put, List.setIfInBounds_toArray, List.set_cons_succ, List.set_cons_zero]
  go_big_quiet_on
  go_big_quiet_step (exact fun _ => rfl)
  go_big_quiet_step (fail)
  go_big_quiet_want
  refine quiet_load 27 (.tmp 7) rfl w.heap.size .u8 x rfl 27 H0q.out _ _ Tryd.und27 (hx.size _ Tryd.size27) ?_
  simp only [Act.put, List.setIfInBounds_toArray, List.set_cons_succ, List.set_cons_zero]
  go_big_quiet_on
  go_big_quiet_step (fail)
  go_big_quiet_step (fail)
  go_big_quiet_want
  refine quiet_run (.int .u64 (ix : Int)) (fun wq hwq => by unfold execOp; simp [go_sem, wrap_small ix (by omega)]) ?_
  simp only [Act.put, List.setIfInBounds_toArray, List.set_cons_succ, List.set_cons_zero]
  go_big_quiet_on
  go_big_quiet_want
  refine quiet_load 27 (.tmp 14) rfl g2 .u8 T2 rfl 27 H2q.out _ _ Tryd.und27 (ht2.size _ Tryd.size27) ?_
  simp only [Act.put, List.setIfInBounds_toArray, List.set_cons_succ, List.set_cons_zero]
  go_big_quiet_on
  go_big_quiet_want
  refine quiet_call 23 #[.agg (nums .u8 x), .slice (some ⟨gb, 0, none⟩) d d, .int .u64 (ix : Int), .agg (nums .u8 T2)] (.bool true) (fun _ => by simp [go_sem]) (fun wq hq => (HV2.out wq hq).mono fun e w' h => ⟨h.1, hq.more h.2⟩) ?_
  simp only [Act.put, List.setIfInBounds_toArray, List.set_cons_succ, List.set_cons_zero]
  go_big_quiet_on
  go_big_quiet_step (exact fun _ => rfl)
  go_big_quiet_step (fail)
  go_big_quiet_want
  refine quiet_load 27 (.tmp 9) rfl g1 .u8 T1 rfl 27 H1q.out _ _ Tryd.und27 (ht1.size _ Tryd.size27) ?_
  simp only [Act.put, List.setIfInBounds_toArray, List.set_cons_succ, List.set_cons_zero]
  go_big_quiet_on
  go_big_quiet_want
  refine quiet_load 27 (.tmp 14) rfl g2 .u8 T2 rfl 27 H2q.out _ _ Tryd.und27 (ht2.size _ Tryd.size27) ?_
  simp only [Act.put, List.setIfInBounds_toArray, List.set_cons_succ, List.set_cons_zero]
  go_big_quiet_on
  go_big_quiet_step (exact fun _ => rfl)
  go_big_quiet_want
  refine quiet_load 27 (.tmp 7) rfl w.heap.size .u8 x rfl 27 H0q.out _ _ Tryd.und27 (hx.size _ Tryd.size27) ?_
  simp only [Act.put, List.setIfInBounds_toArray, List.set_cons_succ, List.set_cons_zero]
  go_big_quiet_on
  go_big_quiet_step (fail)
  go_big_quiet_step (fail)
  go_big_quiet_want
  refine quiet_run (.int .u64 (ix : Int)) (fun wq hwq => by unfold execOp; simp [go_sem, wrap_small ix (by omega)]) ?_
  simp only [Act.put, List.setIfInBounds_toArray, List.set_cons_succ, List.set_cons_zero]
  go_big_quiet_on
  go_big_quiet_want
  refine quiet_load 27 (.tmp 9) rfl g1 .u8 T1 rfl 27 H1q.out _ _ Tryd.und27 (ht1.size _ Tryd.size27) ?_
  simp only [Act.put, List.setIfInBounds_toArray, List.set_cons_succ, List.set_cons_zero]
  go_big_quiet_on
  go_big_quiet_want
  refine quiet_call 23 #[.agg (nums .u8 x), .slice (some ⟨gb, 0, none⟩) d d, .int .u64 (ix : Int), .agg (nums .u8 T1)] (.bool bb) (fun _ => by simp [go_sem]) (fun wq hq => (HV3.out wq hq).mono fun e w' h => ⟨h.1, hq.more h.2⟩) ?_
  simp only [Act.put, List.setIfInBounds_toArray, List.set_cons_succ, List.set_cons_zero]
  go_big_quiet_on
  go_big_quiet_want
  refine quiet_run (.bool true) (fun wq hwq => by unfold execOp; simp [go_sem]) ?_
  simp only [Act.put, List.setIfInBounds_toArray, List.set_cons_succ, List.set_cons_zero]
  go_big_quiet_on
  go_big_quiet_step (exact fun _ => rfl)
  go_big_quiet_step (fail)
  refine wpQuiet_nil ?_
  intro w10 hq10
  go_wp2
  go_ret
  exact ⟨rfl, below_more Bw9 hq10.bel (Nat.le_refl _)⟩
end Go.Proofs.YtfekefgaahoigaaDoor
