/- The walk of MerkleTrees. -/
import Derived.Test.YtfekefgaahoigaaDoorProvesW
import Derived.Test.YtfekefgaahoigaaDoorMixD
namespace Go.Proofs.YtfekefgaahoigaaDoor
open Go.RowKit
set_option linter.unusedVariables false

theorem run_max5 {o : Oper} {a : Act} {w : World} (k : Nat) (ho : o.op = .call { callee := .builtin .max, args := #[.tmp k, .const (.int .i64 (-5))], argTypes := #[3, 3] }) (hty : o.type = 3) (m : Int) (hx : a.eval (.tmp k) = .int .i64 m) :
    (execOp a.eval o).run Tryd.prog w = .ok (.value (.int .i64 (max m (-5)))) w := by
  have hx' : a.tmps[k]?.getD undef = .int .i64 m := by simpa [Act.eval] using hx
  unfold execOp
  simp only [ho, hty]
  by_cases h : m ≤ -5
  · rw [Int.max_eq_right h]
    simp [resolve, invoke, builtin, hx', Act.eval]
    go_simp
    try (intro _; omega)
  · rw [Int.max_eq_left (by omega)]
    simp [resolve, invoke, builtin, hx', Act.eval]
    go_simp
    try (intro _; omega)
theorem run_min40 {o : Oper} {a : Act} {w : World} (k : Nat) (ho : o.op = .call { callee := .builtin .min, args := #[.tmp k, .const (.int .i64 (40))], argTypes := #[3, 3] }) (hty : o.type = 3) (m : Int) (hx : a.eval (.tmp k) = .int .i64 m) :
    (execOp a.eval o).run Tryd.prog w = .ok (.value (.int .i64 (min m (40)))) w := by
  have hx' : a.tmps[k]?.getD undef = .int .i64 m := by simpa [Act.eval] using hx
  unfold execOp
  simp only [ho, hty]
  by_cases h : m ≤ 40
  · rw [Int.min_eq_left h]
    simp [resolve, invoke, builtin, hx', Act.eval]
    go_simp
    try (intro _; omega)
  · rw [Int.min_eq_right (by omega)]
    simp [resolve, invoke, builtin, hx', Act.eval]
    go_simp
    try (intro _; omega)
/-- What both Tree answer: a root, and whether there is one. -/
theorem both_trees (rs : List (List Nat)) (m : Int) (hr : Rts rs) (h0 : -9223372036854775808 ≤ m) (h1 : m ≤ 9223372036854775807) (hlen : rs.length ≤ 70) :
    ∃ (T : List Nat) (ec : Int) (ok : Bool), Rt T ∧ (ok = true ∧ ec = 0 ∨ ok = false ∧ ec = 4) ∧
      (∀ ao cap w, Tabs w → rs.length ≤ cap → cap ≤ maxLen → RootsAt w ao rs → Calls Tryd.prog 10 #[.slice ao rs.length cap, .int .i64 m] w fun e w' => e = .returned (.tuple #[.agg (nums .u8 T), .int .i64 ec]) ∧ Below w.heap.size w w') ∧
      (∀ ao cap w, rs.length ≤ cap → cap ≤ maxLen → RootsAt w ao rs → Calls Tryd.prog 11 #[.slice ao rs.length cap, .int .i64 m] w fun e w' => e = .returned (.tuple #[.agg (nums .u8 T), .bool ok]) ∧ Below w.heap.size w w') := by
  by_cases hg : (rs.length : Int) ≤ m
  · exact ⟨fullR (depth m) rs, 0, true, full_rt _ _ hr, .inl ⟨rfl, rfl⟩, fun ao cap w hT hc hm hR => tree_any ao cap rs m w hT hc hm (by omega) hR hg h1, fun ao cap w hc hm hR => rtree_any ao cap rs m w hc hm hR hg h1⟩
  · exact ⟨zeros 32, 4, false, zero_rt, .inr ⟨rfl, rfl⟩, fun ao cap w hT hc hm hR => tree_bad ao cap rs m w hc hm h0 h1 (.inr (by omega)), fun ao cap w hc hm hR => rtree_bad ao cap rs m w hc hm h0 h1 (.inr (by omega))⟩

set_option maxRecDepth 100000 in
set_option maxHeartbeats 4000000 in
theorem trees_walk (ao : Option Addr) (cap : Nat) (rs : List (List Nat)) (m : Int) (n : Nat) (w : World) (hT : Tabs w) (hcap : rs.length ≤ cap) (hm : cap ≤ maxLen) (hnil : ao = none → cap = 0) (hR : RootsAt w ao rs) (h0 : -9223372036854775808 ≤ m) (h1 : m ≤ 9223372036854775807) (hn : n < 18446744073709551616) :
    Calls Tryd.prog 3 #[.slice ao rs.length cap, .int .i64 m, .int .u64 n] w fun e w' => e = .returned (.bool true) ∧ Below w.heap.size w w' := by
  have hm' := hm
  unfold maxLen at hm
  go_enter Tryd.func3, Tryd.ntmps3
  go_wp2_with fail
  refine (awake_any w hT).mono ?_
  rintro e w1 ⟨rfl, B1⟩
  by_cases hlen : 70 < rs.length
  · go_wp2_with fail
    go_ret
    exact ⟨rfl, B1⟩
  obtain ⟨T, ec, ok, hTr, hok, HT1, HT2⟩ := both_trees rs m hR.rts h0 h1 (by omega)
  replace HT1 := hid HT1
  replace HT2 := hid HT2
  replace hok := hid hok
  go_wp2_with fail
  refine (own_any ao cap rs w1 hnil (by omega) (hR.keep B1)).mono ?_
  rintro e w2 ⟨v2, rfl, own2, B2⟩
  obtain ⟨_, ao2, cap2, rfl, c21, c22, R2⟩ := RootsAt.own hR.rts own2
  have Bw2 := below_more B1 B2 (Nat.le_refl _)
  clear own2 B2
  go_wp2_with fail
  refine (HT1.out ao2 cap2 w2 (hT.keep Bw2) c21 c22 R2).mono ?_
  rintro e w3 ⟨rfl, B3⟩
  have Bw3 := below_more Bw2 B3 (Nat.le_refl _)
  have R3 := R2.keep B3
  clear B3 R2
  go_wp2_with (first
    | (refine wpList_alloc_has rfl 8 rfl 27 rfl .u8 32 Tryd.zero27 ?_; intro w4 H4 B4 S4)
    | (refine wpList_store_has rfl 27 (.tmp 8) (.tmp 25) rfl w3.heap.size .u8 T (zeros 32) rfl rfl 27 H4 (hTr.size _ Tryd.size27) (by rw [hTr.len, zeros_length]) ?_; intro w5 H5 O5))
  have Bw5 := below_only (below_more Bw3 B4 (Nat.le_refl _)) O5 Bw3.size
  have R5 : RootsAt w5 ao2 rs := (R3.keep B4).away O5 (fun h => by obtain ⟨b, off, e, hb⟩ := R3.old h; exact ⟨b, off, e, hb⟩)
  have l5 := H5.lt
  have n5 := Bw3.size
  clear H4 B4 S4 O5 R3
  generalize w3.heap.size = g8 at *
  refine (plain_any ao cap rs w5 hcap hm' (by omega) (hR.keep Bw5)).mono ?_
  rintro e w6 ⟨v6, rfl, own6, B6⟩
  obtain ⟨_, ao6, cap6, rfl, c61, c62, R6⟩ := RootsAt.own hR.rts own6
  have Bw6 := below_more Bw5 B6 (Nat.le_refl _)
  have R56 := R5.keep B6
  have H56 := H5.keep B6
  clear own6 B6 R5 H5
  go_wp2_with fail
  refine (HT2.out ao6 cap6 w6 c61 c62 R6).mono ?_
  rintro e w7 ⟨rfl, B7⟩
  have Bw7 := below_more Bw6 B7 (Nat.le_refl _)
  have R57 := R56.keep B7
  have H57 := H56.keep B7
  clear R56 H56 B7 R6 HT1 HT2
  go_wp2_with (first
    | (refine wpList_alloc_has rfl 10 rfl 26 rfl .u8 32 Tryd.zero26 ?_; intro w8 H8 B8 S8)
    | (refine wpList_store_has rfl 26 (.tmp 10) (.tmp 32) rfl w7.heap.size .u8 T (zeros 32) rfl rfl 26 H8 (hTr.size _ Tryd.size26) (by rw [hTr.len, zeros_length]) ?_; intro w9 H9 O9))
  have Bw9 := below_only (below_more Bw7 B8 (Nat.le_refl _)) O9 Bw7.size
  have R59 : RootsAt w9 ao2 rs := (R57.keep B8).away O9 (fun h => by obtain ⟨b, off, e, hb⟩ := R57.old h; exact ⟨b, off, e, hb⟩)
  have H59 := (H57.keep B8).only O9 (by have := H57.lt; omega)
  clear H8 B8 S8 O9 R57 H57
  generalize w7.heap.size = g10 at *
  go_loopw [12, 36] (fun _ i wr => ∃ t : Nat, t ≤ rs.length ∧ i = .int .i64 t ∧ RootsAt wr ao2 rs ∧ Has wr g8 27 .u8 T ∧ Has wr g10 26 .u8 T ∧ Below w.heap.size w wr) (fun _ i _ => rs.length - (intOf i).toNat)
  case atStart => exact ⟨0, by omega, rfl, R59, H59, H9, Bw9⟩
  case round =>
    clear R59 H59 H9 Bw9
    obtain ⟨t, ht, rfl, R2, H8, H10, HW⟩ := hrel
    by_cases hlt : t < rs.length
    · obtain ⟨b, off, rfl, _⟩ := hR.addr (by omega)
      obtain ⟨b2, off2, rfl, _⟩ := R2.addr (by omega)
      obtain ⟨q, hq⟩ : ∃ q, Hid (rs.getD t [] = q) := ⟨_, hid rfl⟩
      have hqr : Rt q := by rw [← hq.out]; exact hR.rts.rt t hlt
      have HRq := hid (fun wq (hq' : Cls wr wq) => (hR.keep HW).keep hq'.bel)
      have R2q := hid (fun wq (hq' : Cls wr wq) => R2.keep hq'.bel)
      have he := eql_api q q hqr.len hqr.len hqr.byte hqr.byte
      rw [decide_eq_true rfl] at he
      go_wp2_with fail
      refine wp_region_cls (by kernel_rfl) (by kernel_rfl) ?_
      go_big_quiet_step (fail)
      go_big_quiet_step (fail)
      go_big_quiet_want
      refine quiet_run _ (fun wq hwq => run_at (.tmp 39) (.tmp 40) rfl b2 off2 rs.length cap2 t rfl rfl hlt) ?_
      simp only [Act.put, List.setIfInBounds_toArray, List.set_cons_succ, List.set_cons_zero]
      go_big_quiet_on
      go_big_quiet_want
      refine quiet_load_named 27 (.tmp 41) rfl b2 off2 t rs q hq rfl R2q.out hlt _ _ Tryd.und27 Tryd.size27 ?_
      simp only [Act.put, List.setIfInBounds_toArray, List.set_cons_succ, List.set_cons_zero]
      go_big_quiet_on
      go_big_quiet_step (fail)
      go_big_quiet_step (fail)
      go_big_quiet_want
      refine quiet_run _ (fun wq hwq => run_at (.tmp 43) (.tmp 44) rfl b off rs.length cap t rfl rfl hlt) ?_
      simp only [Act.put, List.setIfInBounds_toArray, List.set_cons_succ, List.set_cons_zero]
      go_big_quiet_on
      go_big_quiet_want
      refine quiet_load_named 27 (.tmp 45) rfl b off t rs q hq rfl HRq.out hlt _ _ Tryd.und27 Tryd.size27 ?_
      simp only [Act.put, List.setIfInBounds_toArray, List.set_cons_succ, List.set_cons_zero]
      go_big_quiet_on
      go_big_quiet_step (exact fun _ => rfl)
      refine wpQuiet_nil ?_
      intro wq hq5
      go_wp2_with fail
      go_roundw
      case rel => exact ⟨t + 1, by omega, by go_num, R2.keep hq5.bel, H8.keep hq5.bel, H10.keep hq5.bel, below_more HW hq5.bel (Nat.le_refl _)⟩
      case measure => simp [intOf]; omega
    · obtain ⟨D, hD⟩ : ∃ D : Int, min (max m (-5)) 40 = D := ⟨_, rfl⟩
      have hD1 : -5 ≤ D := by rw [← hD]; omega
      have hD2 : D ≤ 40 := by rw [← hD]; omega
      have HDm := hid hD
      clear hD
      go_wp2_with (first
        | (refine wpList_run rfl _ (run_max5 49 rfl rfl m rfl) ?_)
        | (refine wpList_run rfl (.int .i64 D) (by rw [← HDm.out]; exact run_min40 50 rfl rfl _ rfl) ?_))
      have hT' := hT.keep HW
      have H8q := hid (fun wq (hq' : Cls wr wq) => H8.keep hq'.bel)
      have H10q := hid (fun wq (hq' : Cls wr wq) => H10.keep hq'.bel)
      obtain ⟨dm, hdm⟩ : ∃ dm, depth m = dm := ⟨_, rfl⟩
      obtain ⟨Z, hZ⟩ : ∃ Z, zUp D.toNat = Z := ⟨_, rfl⟩
      obtain ⟨M, hM⟩ : ∃ M, pr T (wUp n 8) = M := ⟨_, rfl⟩
      have hzr : Rt Z := by rw [← hZ]; exact zeroUp_rt _
      have hmr : Rt M := by rw [← hM]; exact pr_rt _ _
      have HD1 := fun wq (hq' : Cls wr wq) => (depth_any m h0 h1 wq).mono (fun e w' (h : e = .returned (.int .i64 (depth m)) ∧ w' = wq) => (⟨h.1, by rw [h.2]; exact Below.refl _ wq⟩ : e = .returned (.int .i64 (depth m)) ∧ Below wq.heap.size wq w'))
      have HD2 := fun wq (hq' : Cls wr wq) => (rdepth_any m h0 h1 wq).mono (fun e w' (h : e = .returned (.int .i64 (depth m)) ∧ w' = wq) => (⟨h.1, by rw [h.2]; exact Below.refl _ wq⟩ : e = .returned (.int .i64 (depth m)) ∧ Below wq.heap.size wq w'))
      have HZ1 := fun wq (hq' : Cls wr wq) => zero_any D (by omega) (by omega) wq (hT'.keep hq'.bel)
      have HZ2 := fun wq (hq' : Cls wr wq) => rzero_any D (by omega) (by omega) wq
      have HM1 := fun wq (hq' : Cls wr wq) => mix_any' T n hTr hn wq (hT'.keep hq'.bel)
      have HM2 := fun wq (hq' : Cls wr wq) => rmix_any T n hTr hn wq
      rw [hdm] at HD1 HD2
      rw [hZ] at HZ1 HZ2
      rw [hM] at HM1 HM2
      replace HD1 := hid HD1
      replace HD2 := hid HD2
      replace HZ1 := hid HZ1
      replace HZ2 := hid HZ2
      replace HM1 := hid HM1
      replace HM2 := hid HM2
      have he1 := eql_roots T T hTr.len hTr.len hTr.byte hTr.byte
      have he2 := eql_roots Z Z hzr.len hzr.len hzr.byte hzr.byte
      have he3 := eql_roots M M hmr.len hmr.len hmr.byte hmr.byte
      rw [decide_eq_true rfl] at he1 he2 he3
      clear hdm hZ hM H8 H10 R2
      rcases hok.out with ⟨rfl, rfl⟩ | ⟨rfl, rfl⟩
      · refine wp_region_cls (by kernel_rfl) (by kernel_rfl) ?_
        go_big_quiet_want
        refine quiet_load 27 (.tmp 8) rfl g8 .u8 T rfl 27 H8q.out _ _ Tryd.und27 (hTr.size _ Tryd.size27) ?_
        simp only [Act.put, List.setIfInBounds_toArray, List.set_cons_succ, List.set_cons_zero]
        go_big_quiet_on
        go_big_quiet_want
        refine quiet_load 26 (.tmp 10) rfl g10 .u8 T rfl 26 H10q.out _ _ Tryd.underlying26 (hTr.size _ Tryd.size26) ?_
        simp only [Act.put, List.setIfInBounds_toArray, List.set_cons_succ, List.set_cons_zero]
        go_big_quiet_on
        go_big_quiet_step (exact fun _ => rfl)
        go_big_quiet_step (fail)
        go_big_quiet_step (fail)
        go_big_quiet_step (exact fun _ => rfl)
        go_big_quiet_step (fail)
        go_big_quiet_step (exact fun _ => rfl)
        go_big_quiet_step (exact fun _ => rfl)
        go_big_quiet_step (fail)
        go_big_quiet_step (fail)
        go_big_quiet_step (fail)
        go_big_quiet_step (fail)
        go_big_quiet_step (fail)
        go_big_quiet_step (exact fun _ => rfl)
        go_big_quiet_step (exact fun _ => rfl)
        go_big_quiet_step (fail)
        go_big_quiet_step (fail)
        go_big_quiet_want
        refine quiet_call 13 #[.int .i64 m] (.int .i64 (dm : Int)) (fun _ => by simp [go_sem]) (fun wq hq => (HD1.out wq hq).mono fun e w' h => ⟨h.1, hq.more h.2⟩) ?_
        simp only [Act.put, List.setIfInBounds_toArray, List.set_cons_succ, List.set_cons_zero]
        go_big_quiet_on
        go_big_quiet_step (fail)
        go_big_quiet_want
        refine quiet_call 14 #[.int .i64 m] (.int .i64 (dm : Int)) (fun _ => by simp [go_sem]) (fun wq hq => (HD2.out wq hq).mono fun e w' h => ⟨h.1, hq.more h.2⟩) ?_
        simp only [Act.put, List.setIfInBounds_toArray, List.set_cons_succ, List.set_cons_zero]
        go_big_quiet_on
        go_big_quiet_step (exact fun _ => rfl)
        go_big_quiet_step (exact fun _ => rfl)
        go_big_quiet_step (fail)
        go_big_quiet_step (fail)
        go_big_quiet_want
        refine quiet_call 15 #[.int .i64 D] (.agg (nums .u8 Z)) (fun _ => by simp [go_sem]) (fun wq hq => (HZ1.out wq hq).mono fun e w' h => ⟨h.1, hq.more h.2⟩) ?_
        simp only [Act.put, List.setIfInBounds_toArray, List.set_cons_succ, List.set_cons_zero]
        go_big_quiet_on
        go_big_quiet_step (fail)
        go_big_quiet_want
        refine quiet_call 16 #[.int .i64 D] (.agg (nums .u8 Z)) (fun _ => by simp [go_sem]) (fun wq hq => (HZ2.out wq hq).mono fun e w' h => ⟨h.1, hq.more h.2⟩) ?_
        simp only [Act.put, List.setIfInBounds_toArray, List.set_cons_succ, List.set_cons_zero]
        go_big_quiet_on
        go_big_quiet_step (exact fun _ => rfl)
        go_big_quiet_step (exact fun _ => rfl)
        go_big_quiet_step (fail)
        go_big_quiet_want
        refine quiet_load 27 (.tmp 8) rfl g8 .u8 T rfl 27 H8q.out _ _ Tryd.und27 (hTr.size _ Tryd.size27) ?_
        simp only [Act.put, List.setIfInBounds_toArray, List.set_cons_succ, List.set_cons_zero]
        go_big_quiet_on
        go_big_quiet_step (fail)
        go_big_quiet_want
        refine quiet_call 17 #[.agg (nums .u8 T), .int .u64 (n : Int)] (.agg (nums .u8 M)) (fun _ => by simp [go_sem]) (fun wq hq => (HM1.out wq hq).mono fun e w' h => ⟨h.1, hq.more h.2⟩) ?_
        simp only [Act.put, List.setIfInBounds_toArray, List.set_cons_succ, List.set_cons_zero]
        go_big_quiet_on
        go_big_quiet_want
        refine quiet_load 26 (.tmp 10) rfl g10 .u8 T rfl 26 H10q.out _ _ Tryd.underlying26 (hTr.size _ Tryd.size26) ?_
        simp only [Act.put, List.setIfInBounds_toArray, List.set_cons_succ, List.set_cons_zero]
        go_big_quiet_on
        go_big_quiet_step (fail)
        go_big_quiet_want
        refine quiet_call 18 #[.agg (nums .u8 T), .int .u64 (n : Int)] (.agg (nums .u8 M)) (fun _ => by simp [go_sem]) (fun wq hq => (HM2.out wq hq).mono fun e w' h => ⟨h.1, hq.more h.2⟩) ?_
        simp only [Act.put, List.setIfInBounds_toArray, List.set_cons_succ, List.set_cons_zero]
        go_big_quiet_on
        go_big_quiet_step (exact fun _ => rfl)
        go_big_quiet_step (exact fun _ => rfl)
        go_big_quiet_step (fail)
        refine wpQuiet_nil ?_
        intro w10 hq10
        go_wp2
        go_ret
        exact ⟨rfl, below_more HW hq10.bel (Nat.le_refl _)⟩
      · refine wp_region_cls (by kernel_rfl) (by kernel_rfl) ?_
        go_big_quiet_want
        refine quiet_load 27 (.tmp 8) rfl g8 .u8 T rfl 27 H8q.out _ _ Tryd.und27 (hTr.size _ Tryd.size27) ?_
        simp only [Act.put, List.setIfInBounds_toArray, List.set_cons_succ, List.set_cons_zero]
        go_big_quiet_on
        go_big_quiet_want
        refine quiet_load 26 (.tmp 10) rfl g10 .u8 T rfl 26 H10q.out _ _ Tryd.underlying26 (hTr.size _ Tryd.size26) ?_
        simp only [Act.put, List.setIfInBounds_toArray, List.set_cons_succ, List.set_cons_zero]
        go_big_quiet_on
        go_big_quiet_step (exact fun _ => rfl)
        go_big_quiet_step (fail)
        go_big_quiet_step (fail)
        go_big_quiet_step (exact fun _ => rfl)
        go_big_quiet_step (fail)
        go_big_quiet_step (exact fun _ => rfl)
        go_big_quiet_step (exact fun _ => rfl)
        go_big_quiet_step (fail)
        go_big_quiet_step (fail)
        go_big_quiet_step (fail)
        go_big_quiet_step (fail)
        go_big_quiet_step (exact fun _ => rfl)
        go_big_quiet_step (exact fun _ => rfl)
        go_big_quiet_step (exact fun _ => rfl)
        go_big_quiet_step (fail)
        go_big_quiet_step (fail)
        go_big_quiet_want
        refine quiet_call 13 #[.int .i64 m] (.int .i64 (dm : Int)) (fun _ => by simp [go_sem]) (fun wq hq => (HD1.out wq hq).mono fun e w' h => ⟨h.1, hq.more h.2⟩) ?_
        simp only [Act.put, List.setIfInBounds_toArray, List.set_cons_succ, List.set_cons_zero]
        go_big_quiet_on
        go_big_quiet_step (fail)
        go_big_quiet_want
        refine quiet_call 14 #[.int .i64 m] (.int .i64 (dm : Int)) (fun _ => by simp [go_sem]) (fun wq hq => (HD2.out wq hq).mono fun e w' h => ⟨h.1, hq.more h.2⟩) ?_
        simp only [Act.put, List.setIfInBounds_toArray, List.set_cons_succ, List.set_cons_zero]
        go_big_quiet_on
        go_big_quiet_step (exact fun _ => rfl)
        go_big_quiet_step (exact fun _ => rfl)
        go_big_quiet_step (fail)
        go_big_quiet_step (fail)
        go_big_quiet_want
        refine quiet_call 15 #[.int .i64 D] (.agg (nums .u8 Z)) (fun _ => by simp [go_sem]) (fun wq hq => (HZ1.out wq hq).mono fun e w' h => ⟨h.1, hq.more h.2⟩) ?_
        simp only [Act.put, List.setIfInBounds_toArray, List.set_cons_succ, List.set_cons_zero]
        go_big_quiet_on
        go_big_quiet_step (fail)
        go_big_quiet_want
        refine quiet_call 16 #[.int .i64 D] (.agg (nums .u8 Z)) (fun _ => by simp [go_sem]) (fun wq hq => (HZ2.out wq hq).mono fun e w' h => ⟨h.1, hq.more h.2⟩) ?_
        simp only [Act.put, List.setIfInBounds_toArray, List.set_cons_succ, List.set_cons_zero]
        go_big_quiet_on
        go_big_quiet_step (exact fun _ => rfl)
        go_big_quiet_step (exact fun _ => rfl)
        go_big_quiet_step (fail)
        go_big_quiet_want
        refine quiet_load 27 (.tmp 8) rfl g8 .u8 T rfl 27 H8q.out _ _ Tryd.und27 (hTr.size _ Tryd.size27) ?_
        simp only [Act.put, List.setIfInBounds_toArray, List.set_cons_succ, List.set_cons_zero]
        go_big_quiet_on
        go_big_quiet_step (fail)
        go_big_quiet_want
        refine quiet_call 17 #[.agg (nums .u8 T), .int .u64 (n : Int)] (.agg (nums .u8 M)) (fun _ => by simp [go_sem]) (fun wq hq => (HM1.out wq hq).mono fun e w' h => ⟨h.1, hq.more h.2⟩) ?_
        simp only [Act.put, List.setIfInBounds_toArray, List.set_cons_succ, List.set_cons_zero]
        go_big_quiet_on
        go_big_quiet_want
        refine quiet_load 26 (.tmp 10) rfl g10 .u8 T rfl 26 H10q.out _ _ Tryd.underlying26 (hTr.size _ Tryd.size26) ?_
        simp only [Act.put, List.setIfInBounds_toArray, List.set_cons_succ, List.set_cons_zero]
        go_big_quiet_on
        go_big_quiet_step (fail)
        go_big_quiet_want
        refine quiet_call 18 #[.agg (nums .u8 T), .int .u64 (n : Int)] (.agg (nums .u8 M)) (fun _ => by simp [go_sem]) (fun wq hq => (HM2.out wq hq).mono fun e w' h => ⟨h.1, hq.more h.2⟩) ?_
        simp only [Act.put, List.setIfInBounds_toArray, List.set_cons_succ, List.set_cons_zero]
        go_big_quiet_on
        go_big_quiet_step (exact fun _ => rfl)
        go_big_quiet_step (exact fun _ => rfl)
        go_big_quiet_step (fail)
        refine wpQuiet_nil ?_
        intro w10 hq10
        go_wp2
        go_ret
        exact ⟨rfl, below_more HW hq10.bel (Nat.le_refl _)⟩
end Go.Proofs.YtfekefgaahoigaaDoor
