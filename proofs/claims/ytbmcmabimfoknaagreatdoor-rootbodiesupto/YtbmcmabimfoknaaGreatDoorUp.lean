/- Contracts of merkle's pick and above: one root of a level; the level above. -/
import Derived.Test.YtbmcmabimfoknaaGreatDoorPart
namespace Go.Proofs.YtbmcmabimfoknaaGreatDoor
set_option maxRecDepth 100000
open Go.RowKit
set_option linter.unusedVariables false

/-- A root read out of a row, under a name of its own. -/
theorem wpList_load_named {P : Program} {w : World} {ops : Array Oper} {rest : List Oper} {o : Oper} {a : Act} {Q : Exit → Act → World → Prop} (hgd : o.guard = none) (ty : TypeId) (x : Operand) (ho : o.op = .load ty x) (b off i : Nat) (rs : List (List Nat)) (r : List Nat) (hq : Hid (rs.getD i [] = r)) (hx : a.eval x = .pointer (some ⟨b, off + 32 * i, none⟩)) (hr : RootsAt w (some ⟨b, off, none⟩) rs) (hi : i < rs.length)
    (n : Nat) (e : TypeId) (hu : P.underlying ty = some (.array n e)) (hs : (P.info? ty).map (·.size) = some 32)
    (h : wpList P ops Q rest (a.put o.dst (.agg (nums .u8 r))) w) : wpList P ops Q (o :: rest) a w :=
  wpList_load_root hgd ty x ho b off i rs hx hr hi n e hu hs (by rw [hq.out]; exact h)
theorem Rt.size (P : Program) {r : List Nat} (h : Rt r) {t : TypeId} (k : (P.info? t).map (·.size) = some 32) : (P.info? t).map (·.size) = some r.length := by rw [h.len]; exact k

set_option maxRecDepth 100000 in
set_option maxHeartbeats 1000000 in
theorem pick_any (ao : Option Addr) (cap : Nat) (rs : List (List Nat)) (place : Nat) (z : List Nat) (w : World) (hcap : rs.length ≤ cap) (hm : cap ≤ maxLen) (hR : RootsAt w ao rs) (hz : Rt z) (hp : place < 9223372036854775808) :
    Calls Tryz.prog 103 #[.slice ao rs.length cap, .int .i64 place, .agg (nums .u8 z)] w fun e w' => e = .returned (.agg (nums .u8 (rs.getD place z))) ∧ Below w.heap.size w w' := by
  unfold maxLen at hm
  have hrt := hR.rts.rtz hz place
  by_cases hlt : place < rs.length
  · obtain ⟨b, off, rfl, _⟩ := hR.addr (by omega)
    have eg : rs.getD place z = rs.getD place [] := by simp [hlt]
    rw [eg] at hrt ⊢
    go_enter Tryz.func103, Tryz.ntmps103
    go_wp2_with (first
      | (refine wpList_box_has rfl 5 rfl 23 (.tmp 2) rfl .u8 z rfl ?_; intro w1 H1 B1 S1)
      | (refine wpList_alloc_has rfl 6 rfl 23 rfl .u8 32 Tryz.zero23 ?_; intro w2 H2 B2 S2; have HW2 := below_more B1 B2 (Nat.le_refl _); rw [S1] at H2; have HR2 := hR.keep HW2)
      | (refine wpList_load_root rfl 23 (.tmp 13) rfl b off place rs (by rw [Nat.mul_comm]; rfl) HR2 hlt _ _ Tryz.und23 Tryz.size23 ?_)
      | (refine wpList_store_has rfl 23 (.tmp 6) (.tmp 14) rfl (w.heap.size + 1) .u8 (rs.getD place []) (zeros 32) rfl rfl 23 H2 (hrt.size _ Tryz.size23) (by rw [hrt.len, zeros_length]) ?_; intro w9 H9 O9))
    refine bodyPost_ret (results_has rfl _ _ (w.heap.size + 1) 23 .u8 (rs.getD place []) _ _ rfl H9 Tryz.und23 (hrt.size _ Tryz.size23)) rfl ?_
    exact ⟨rfl, below_only HW2 O9 (by omega)⟩
  · have eg : rs.getD place z = z := by simp [List.getElem?_eq_none (show rs.length ≤ place by omega)]
    rw [eg]
    go_enter Tryz.func103, Tryz.ntmps103
    go_wp2_with (first
      | (refine wpList_box_has rfl 5 rfl 23 (.tmp 2) rfl .u8 z rfl ?_; intro w1 H1 B1 S1)
      | (refine wpList_alloc_has rfl 6 rfl 23 rfl .u8 32 Tryz.zero23 ?_; intro w2 H2 B2 S2; have HW2 := below_more B1 B2 (Nat.le_refl _); rw [S1] at H2; have HA2 := H1.keep B2)
      | (refine wpList_load_has rfl 23 (.tmp 5) rfl w.heap.size .u8 z rfl 23 HA2 _ _ Tryz.und23 (hz.size _ Tryz.size23) ?_)
      | (refine wpList_store_has rfl 23 (.tmp 6) (.tmp 15) rfl (w.heap.size + 1) .u8 z (zeros 32) rfl rfl 23 H2 (hz.size _ Tryz.size23) (by rw [hz.len, zeros_length]) ?_; intro w9 H9 O9))
    refine bodyPost_ret (results_has rfl _ _ (w.heap.size + 1) 23 .u8 z _ _ rfl H9 Tryz.und23 (hz.size _ Tryz.size23)) rfl ?_
    exact ⟨rfl, below_only HW2 O9 (by omega)⟩

section
variable {P : Program} {ops : Array Oper} {o : Oper} {a : Act} {C : World → Prop}
/-- A root read out of a row, in a region that draws its order. -/
theorem quiet_load_root {K : Act → Prop} (ty : TypeId) (x : Operand) (ho : o.op = .load ty x) (b off i : Nat) (rs : List (List Nat)) (hx : a.eval x = .pointer (some ⟨b, off + 32 * i, none⟩)) (hr : ∀ w, C w → RootsAt w (some ⟨b, off, none⟩) rs) (hi : i < rs.length)
    (n : Nat) (e : TypeId) (hu : P.underlying ty = some (.array n e)) (hs : (P.info? ty).map (·.size) = some 32) (hk : K (a.put o.dst (.agg (nums .u8 (rs.getD i []))))) : o.quiet P a C K := by
  refine quiet_run _ (fun w hw => ?_) hk
  have hl := run_loadVar_mid (P := P) w b (off + 32 * i) ty (nums .u8 (rs.getD i [])).toList _ ((hr w hw).range i hi) hu rfl (by rw [hs, Array.length_toList, nums_size, ((hr w hw).rts.at i hi).1])
  rw [Array.toArray_toList] at hl
  unfold execOp
  simp only [ho, hx, Instr.loadAt, Instr.sureAddr, Sem.run_bind, Sem.run_pure, Result.andThen_ok, hl]
end

theorem level_at (z : List Nat) (rs : List (List Nat)) (t : Nat) (h : t < (rs.length + 1) / 2) : (level pr z rs).getD t [] = pr (rs.getD (2 * t) []) (rs.getD (2 * t + 1) z) := by
  have h1 : t < (level pr z rs).length := by rw [level_length]; exact h
  have h2 := level_getD pr z t rs
  have e1 : (level pr z rs).getD t (pr z z) = (level pr z rs).getD t [] := by simp [h1]
  have e2 : rs.getD (2 * t) z = rs.getD (2 * t) [] := by simp [show 2 * t < rs.length by omega]
  rw [← e1, h2, e2]

set_option maxRecDepth 100000 in
set_option maxHeartbeats 2000000 in
theorem above_any (ao : Option Addr) (cap : Nat) (rs : List (List Nat)) (z : List Nat) (w : World) (hT : Tabs w) (hcap : rs.length ≤ cap) (hm : cap ≤ maxLen) (hlen : rs.length ≤ 8796093022208) (hR : RootsAt w ao rs) (hz : Rt z) :
    Calls Tryz.prog 102 #[.slice ao rs.length cap, .agg (nums .u8 z)] w fun e w' => ∃ g, w.heap.size ≤ g ∧ e = .returned (.tuple #[.slice (some ⟨g, 0, none⟩) ((rs.length + 1) / 2 : Nat) ((rs.length + 1) / 2 : Nat), .agg (nums .u8 (pr z z))]) ∧ RootsAt w' (some ⟨g, 0, none⟩) (level pr z rs) ∧ Below w.heap.size w w' := by
  have hm' := hm
  unfold maxLen at hm
  have hX : Rts (level pr z rs) := level_rts z rs
  have hXl : (level pr z rs).length = (rs.length + 1) / 2 := level_length pr z rs
  go_enter Tryz.func102, Tryz.ntmps102
  go_wp2_with (first
    | (refine wpList_box_has rfl 3 rfl 23 (.tmp 1) rfl .u8 z rfl ?_; intro w1 H1 B1 S1)
    | (refine wpList_alloc_has rfl 5 rfl 23 rfl .u8 32 Tryz.zero23 ?_; intro w2 H2 B2 S2; have HW2 := below_more B1 B2 (Nat.le_refl _); rw [S1] at H2; have HA2 := H1.keep B2)
    | (refine wpList_make_roots rfl (.tmp 11) (.tmp 11) 122 rfl 23 Tryz.underlying122 Tryz.rootInfo .i64 .i64 _ _ ((rs.length + 1) / 2) rfl rfl (by omega) (by omega) (by omega) ?_; intro w3 H3 B3; have HW3 := below_more HW2 B3 (Nat.le_refl _); have HA3 := HA2.keep B3; have HZ3 := H2.keep B3))
  rw [S2, S1] at H3
  have em : ((rs.length : Int) + 1) / 2 = (((rs.length + 1) / 2 : Nat) : Int) := by omega
  rw [em]
  have hm2 : 2 * ((rs.length + 1) / 2) ≤ rs.length + 1 := by omega
  have hlv : ∀ t, t < (rs.length + 1) / 2 → (level pr z rs).getD t [] = pr (rs.getD (2 * t) []) (rs.getD (2 * t + 1) z) := level_at z rs
  rw [← upTo_zero (level pr z rs) ((rs.length + 1) / 2)] at H3
  clear em H1 H2 B1 B2 B3 S1 S2 HA2 HW2
  generalize hgm : (rs.length + 1) / 2 = m at *
  replace hlv := hid hlv
  go_loopw [7, 15] (fun _ i wr => ∃ t : Nat, t ≤ m ∧ i = .int .i64 t ∧ Has wr (w.heap.size + 1 + 1) 23 .u8 (upTo (level pr z rs) m t).flatten ∧ Has wr w.heap.size 23 .u8 z ∧ Has wr (w.heap.size + 1) 23 .u8 (zeros 32) ∧ Below w.heap.size w wr) (fun _ i _ => m - (intOf i).toNat)
  case atStart => exact ⟨0, by omega, rfl, H3, HA3, HZ3, HW3⟩
  case round =>
    clear H3 HA3 HZ3 HW3
    obtain ⟨t, ht, rfl, HN, HA, HZ, HW⟩ := hrel
    by_cases hlt : t < m
    · obtain ⟨b, off, rfl, _⟩ := hR.addr (by omega)
      have h2t : 2 * t < rs.length := by omega
      have HRq := hid (fun wq (hq : Cls wr wq) => (hR.keep HW).keep hq.bel)
      have HAq := hid (fun wq (hq : Cls wr wq) => HA.keep hq.bel)
      have hr1 := hR.rts.rt (2 * t) h2t
      have hr2 := hR.rts.rtz hz (2 * t + 1)
      have HPk := hid (fun wq (hq : Cls wr wq) => pick_any (some ⟨b, off, none⟩) cap rs (2 * t + 1) z wq hcap hm' (HRq.out wq hq) hz (by omega))
      have HPr := hid (fun wq (hq : Cls wr wq) => pair_any (rs.getD (2 * t) []) (rs.getD (2 * t + 1) z) hr1.len hr2.len hr1.byte hr2.byte wq ((hT.keep HW).keep hq.bel))
      have hnx := hid (upTo_next (level pr z rs) m t hX hXl hlt _ (hlv.out t hlt).symm)
      have hfl := hid (upTo_flat (level pr z rs) m t hX hXl ht)
      have hpr := hid (pr_rt (rs.getD (2 * t) []) (rs.getD (2 * t + 1) z))
      go_wp2
      refine wp_region_cls_tail 15 (by kernel_rfl) (by kernel_rfl) ?_
      simp only [List.take_succ_cons, List.take_zero, List.drop_succ_cons, List.drop_zero]
      go_big_quiet_step (fail)
      go_big_quiet_step (fail)
      go_big_quiet_step (fail)
      go_big_quiet_step (fail)
      go_big_quiet_step (exact fun _ => rfl)
      go_big_quiet_step (exact fun _ => rfl)
      go_big_quiet_want
      refine quiet_load_root 23 (.tmp 23) rfl b off (2 * t) rs (by first | (rw [Nat.mul_comm]; rfl) | (simp [Act.eval]; omega)) HRq.out h2t _ _ Tryz.und23 Tryz.size23 ?_
      simp only [Act.put, List.setIfInBounds_toArray, List.set_cons_succ, List.set_cons_zero]
      go_big_quiet_on
      go_big_quiet_step (fail)
      go_big_quiet_step (fail)
      go_big_quiet_step (exact fun _ => rfl)
      go_big_quiet_step (exact fun _ => rfl)
      go_big_quiet_want
      refine quiet_load 23 (.tmp 3) rfl w.heap.size .u8 z rfl 23 HAq.out _ _ Tryz.und23 (hz.size _ Tryz.size23) ?_
      simp only [Act.put, List.setIfInBounds_toArray, List.set_cons_succ, List.set_cons_zero]
      go_big_quiet_on
      go_big_quiet_want
      refine quiet_call 103 #[.slice (some ⟨b, off, none⟩) rs.length cap, .int .i64 ((2 * t + 1 : Nat) : Int), .agg (nums .u8 z)] (.agg (nums .u8 (rs.getD (2 * t + 1) z))) (fun _ => by simp [go_sem]) (fun wq hq => (HPk.out wq hq).mono fun e w' h => ⟨h.1, hq.more h.2⟩) ?_
      simp only [Act.put, List.setIfInBounds_toArray, List.set_cons_succ, List.set_cons_zero]
      go_big_quiet_on
      go_big_quiet_want
      refine quiet_call 60 #[.agg (nums .u8 (rs.getD (2 * t) [])), .agg (nums .u8 (rs.getD (2 * t + 1) z))] (.agg (nums .u8 (pr (rs.getD (2 * t) []) (rs.getD (2 * t + 1) z)))) (fun _ => by simp [go_sem]) (fun wq hq => (HPr.out wq hq).mono fun e w' h => ⟨h.1, hq.more h.2⟩) ?_
      simp only [Act.put, List.setIfInBounds_toArray, List.set_cons_succ, List.set_cons_zero]
      go_big_quiet_on
      go_big_quiet_step (exact fun _ => rfl)
      refine wpQuiet_nil ?_
      intro w5 hq
      have HN5 := HN.keep hq.bel
      refine wpList_store_part rfl 23 (.tmp 32) (.tmp 31) rfl (w.heap.size + 1 + 1) t 23 _ (pr (rs.getD (2 * t) []) (rs.getD (2 * t + 1) z)) (by rw [Nat.mul_comm 32 t]; rfl) rfl HN5 hpr.out.len (by rw [hfl.out]; omega) Tryz.size23 ?_
      intro w6 H6 O6
      rw [hnx.out] at H6
      go_wp2
      go_roundw
      case rel =>
        exact ⟨t + 1, by omega, by go_num, H6, (HA.keep hq.bel).only O6 (by omega), (HZ.keep hq.bel).only O6 (by omega), below_only (below_more HW hq.bel (Nat.le_refl _)) O6 (by omega)⟩
      case measure => simp [intOf]; omega
    · have ht2 : t = m := by omega
      subst ht2
      rw [upTo_all _ _ hXl] at HN
      go_wp2_with (first
        | (refine wpList_load_has rfl 23 (.tmp 3) rfl w.heap.size .u8 z rfl 23 HA _ _ Tryz.und23 (hz.size _ Tryz.size23) ?_)
        | (go_at_call 60; refine (pair_any z z hz.len hz.len hz.byte hz.byte wr (hT.keep HW)).mono ?_; rintro e w7 ⟨rfl, B7⟩)
        | (refine wpList_store_has rfl 23 (.tmp 5) (.tmp 37) rfl (w.heap.size + 1) .u8 (pr z z) (zeros 32) rfl rfl 23 (HZ.keep B7) ((pr_rt z z).size _ Tryz.size23) (by rw [(pr_rt z z).len, zeros_length]) ?_; intro w9 H9 O9))
      refine bodyPost_ret (results_tmp_cell rfl _ _ (w.heap.size + 1) 23 .u8 (pr z z) _ _ _ rfl rfl H9 Tryz.und23 ((pr_rt z z).size _ Tryz.size23)) rfl ?_
      rw [hgm]
      exact ⟨w.heap.size + 1 + 1, by omega, rfl, HasR.at hX ((HN.keep B7).only O9 (by omega)), below_only (below_more HW B7 (Nat.le_refl _)) O9 (by omega)⟩
end Go.Proofs.YtbmcmabimfoknaaGreatDoor
