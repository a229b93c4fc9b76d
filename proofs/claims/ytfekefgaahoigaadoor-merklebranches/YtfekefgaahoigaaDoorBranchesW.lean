/- The walk of MerkleBranches. -/
import Derived.Test.YtfekefgaahoigaaDoorBraBad
import Derived.Test.YtfekefgaahoigaaDoorFlowG
namespace Go.Proofs.YtfekefgaahoigaaDoor
open Go.RowKit
set_option linter.unusedVariables false

theorem own_slice {w : World} {base n : Nat} {e : TypeId} {v : Value} {rs : List (List Nat)} (hr : Rts rs) (h : w.ownsRow base e 32 v n (cellsOf rs)) : n = rs.length ∧ ∃ ao cap, v = .slice ao rs.length cap ∧ rs.length ≤ cap ∧ cap ≤ maxLen ∧ (ao = none → cap = 0) ∧ RootsAt w ao rs := by
  obtain ⟨e1, ao, cap, rfl, h1, h2, h3⟩ := RootsAt.own hr h
  refine ⟨e1, ao, cap, rfl, h1, h2, fun hn => ?_, h3⟩
  subst hn
  obtain ⟨_, ⟨hv, _⟩ | ⟨g, cap', cur, hv, _⟩⟩ := h
  · simp at hv; exact hv.2
  · simp at hv
theorem flow_load {P : Program} {o : Oper} {a : Act} {w : World} {Q : Exit → Act → World → Prop} {I : Value → World → Prop} (ty : TypeId) (x : Operand) (ho : o.op = .load ty x) (g : Nat) (k : IntKind) (l : List Nat) (hx : a.eval x = .pointer (some ⟨g, 0, none⟩)) (t : TypeId) (hg : Has w g t k l)
    (n : Nat) (e : TypeId) (hu : P.underlying ty = some (.array n e)) (hi : (P.info? ty).map (·.size) = some l.length) (hI : I (.agg (nums k l)) w) : o.wp P a w (fun a' w' => ∃ v, a' = a.put o.dst v ∧ I v w' ∧ Below w.heap.size w w') Q := by
  refine flow_value (.agg (nums k l)) ?_ hI
  have hl := run_loadVar_row w g t ty (nums k l) (0, 0) _ hg hu rfl (by rw [hi, nums_size])
  unfold execOp
  simp only [ho, hx, Instr.loadAt, Instr.sureAddr, Sem.run_bind, Sem.run_pure, Result.andThen_ok, hl]
theorem run_eqb {o : Oper} {a : Act} {w : World} (x y : Operand) (ho : o.op = .binOp .eql 4 x y 4) (c : Bool) (hx : a.eval x = .bool c) (hy : a.eval y = .bool c) : (execOp a.eval o).run Tryd.prog w = .ok (.value (.bool true)) w := by
  unfold execOp
  simp only [ho, hx, hy]
  simp [go_sem]
theorem run_pickb {o : Oper} {a : Act} {w : World} (x y : Operand) (ho : o.op = .pick x y (.const (.bool false))) (hx : a.eval x = .bool true) (hy : a.eval y = .bool true) : (execOp a.eval o).run Tryd.prog w = .ok (.value (.bool true)) w := by
  unfold execOp
  simp only [ho, hx, hy]
  simp [go_sem, Act.eval]
/-- What both Branch answer: roots, and whether there are any. -/
theorem both_branches (rs : List (List Nat)) (D I : Int) (hr : Rts rs) (d0 : -9223372036854775808 ≤ D) (d1 : D ≤ 9223372036854775807) (i0 : -9223372036854775808 ≤ I) (i1 : I ≤ 9223372036854775807) (hlen : rs.length ≤ 70) :
    ∃ (bs : List (List Nat)) (ec : Int) (ok : Bool), Rts bs ∧ bs.length ≤ 40 ∧ (ok = true ∧ ec = 0 ∨ ok = false ∧ ec = 2) ∧
      (∀ ao cap w, Tabs w → rs.length ≤ cap → cap ≤ maxLen → RootsAt w ao rs → Calls Tryd.prog 21 #[.slice ao rs.length cap, .int .i64 D, .int .i64 I] w fun e w' => ∃ ao' cap', e = .returned (.tuple #[.slice ao' bs.length cap', .int .i64 ec]) ∧ bs.length ≤ cap' ∧ cap' ≤ maxLen ∧ (ao' = none → cap' = 0) ∧ RootsAt w' ao' bs ∧ Below w.heap.size w w') ∧
      (∀ ao cap w, rs.length ≤ cap → cap ≤ maxLen → (ao = none → cap = 0) → RootsAt w ao rs → Calls Tryd.prog 22 #[.slice ao rs.length cap, .int .i64 D, .int .i64 I] w fun e w' => ∃ ao' cap', e = .returned (.tuple #[.slice ao' bs.length cap', .bool ok]) ∧ bs.length ≤ cap' ∧ cap' ≤ maxLen ∧ (ao' = none → cap' = 0) ∧ RootsAt w' ao' bs ∧ Below w.heap.size w w') := by
  by_cases hbad : D < 0 ∨ 40 < D ∨ I < 0 ∨ ((2 ^ D.toNat : Nat) : Int) ≤ I ∨ 2 ^ D.toNat < rs.length
  · refine ⟨[], 2, false, Rts.nil, by simp, .inr ⟨rfl, rfl⟩, fun ao cap w hT hc hm hR => (branch_bad ao cap rs D I w hc hm d0 d1 i0 i1 hbad).mono ?_, fun ao cap w hc hm hn hR => (rbranch_bad ao cap rs D I w hc hm d0 d1 i0 i1 hbad).mono ?_⟩
    · rintro e w' ⟨rfl, hB⟩; exact ⟨none, 0, rfl, by simp, by decide, fun _ => rfl, RootsAt.nil _ _, hB⟩
    · rintro e w' ⟨rfl, hB⟩; exact ⟨none, 0, rfl, by simp, by decide, fun _ => rfl, RootsAt.nil _ _, hB⟩
  · simp only [not_or, Int.not_lt, Int.not_le, Nat.not_lt] at hbad
    obtain ⟨b1, b2, b3, b4, b5⟩ := hbad
    obtain ⟨d, rfl⟩ := Int.eq_ofNat_of_zero_le b1
    obtain ⟨i, rfl⟩ := Int.eq_ofNat_of_zero_le b3
    rw [Int.toNat_natCast] at b4 b5
    have hi : i < 2 ^ d := by
      generalize 2 ^ d = y at *
      omega
    have hbl : (braR rs i d).length = d := branch_length pr (zeros 32) rs i d
    refine ⟨braR rs i d, 0, true, branch_rts rs hr i d, by rw [hbl]; omega, .inl ⟨rfl, rfl⟩, fun ao cap w hT hc hm hR => (branch_any ao cap rs d i w hT hc hm (by omega) hR (by omega) hi b5).mono ?_, fun ao cap w hc hm hn hR => (rbranch_any ao cap rs d i w hc hm hn hR (by omega) hi b5).mono ?_⟩
    · rintro e w' ⟨g, hg, rfl, hR', hB⟩
      exact ⟨some ⟨g, 0, none⟩, d, by rw [hbl], by rw [hbl]; omega, by unfold maxLen; omega, (fun h => nomatch h), hR', hB⟩
    · rintro e w' ⟨v, rfl, own', hB⟩
      obtain ⟨_, ao', cap', rfl, q1, q2, q3, q4⟩ := own_slice (branch_rts rs hr i d) own'
      exact ⟨ao', cap', rfl, q1, q2, q3, q4, hB⟩

set_option maxRecDepth 100000 in
set_option maxHeartbeats 8000000 in
theorem branches_walk (ao : Option Addr) (cap : Nat) (rs : List (List Nat)) (D I : Int) (n : Nat) (x : List Nat) (w : World) (hT : Tabs w) (hcap : rs.length ≤ cap) (hm : cap ≤ maxLen) (hnil : ao = none → cap = 0) (hR : RootsAt w ao rs) (d0 : -9223372036854775808 ≤ D) (d1 : D ≤ 9223372036854775807) (i0 : -9223372036854775808 ≤ I) (i1 : I ≤ 9223372036854775807) (hn : n < 18446744073709551616) (hx : Rt x) :
    Calls Tryd.prog 5 #[.slice ao rs.length cap, .int .i64 D, .int .i64 I, .int .u64 n, .agg (nums .u8 x)] w fun e w' => e = .returned (.bool true) ∧ Below w.heap.size w w' := by
  have hm' := hm
  unfold maxLen at hm
  go_enter Tryd.func5, Tryd.ntmps5
  go_wp2_with (refine wpList_box_has rfl 9 rfl 27 (.tmp 4) rfl .u8 x rfl ?_; intro w0 H0 B0 S0)
  refine (awake_any w0 (hT.keep B0)).mono ?_
  rintro e w1 ⟨rfl, B1a⟩
  have B1 := below_more B0 B1a (Nat.le_refl _)
  have H1 := H0.keep B1a
  clear B0 B1a H0 S0
  by_cases hlen : 70 < rs.length
  · go_wp2_with fail
    go_ret
    exact ⟨rfl, B1⟩
  obtain ⟨bs, ec, ok, hbs, hbl, hok, HT1, HT2⟩ := both_branches rs D I hR.rts d0 d1 i0 i1 (by omega)
  replace HT1 := hid HT1
  replace HT2 := hid HT2
  replace hok := hid hok
  go_wp2_with fail
  refine (own_any ao cap rs w1 hnil (by omega) (hR.keep B1)).mono ?_
  rintro e w2 ⟨v2, rfl, own2, B2⟩
  obtain ⟨_, ao2, cap2, rfl, c21, c22, R2⟩ := RootsAt.own hR.rts own2
  have Bw2 := below_more B1 B2 (Nat.le_refl _)
  have H2 := H1.keep B2
  clear own2 B2 H1
  go_wp2_with fail
  refine (HT1.out ao2 cap2 w2 (hT.keep Bw2) c21 c22 R2).mono ?_
  rintro e w3 ⟨aob, capb, rfl, kb1, kb2, hnb, Rb3, B3⟩
  have Bw3 := below_more Bw2 B3 (Nat.le_refl _)
  have H3 := H2.keep B3
  clear B3 R2 H2
  go_wp2_with fail
  refine (plain_any ao cap rs w3 hcap hm' (by omega) (hR.keep Bw3)).mono ?_
  rintro e w4 ⟨v4, rfl, own4, B4⟩
  obtain ⟨_, ao4, cap4, rfl, c41, c42, c43, R4⟩ := own_slice hR.rts own4
  have Bw4 := below_more Bw3 B4 (Nat.le_refl _)
  have H4 := H3.keep B4
  have Rb4 := Rb3.keep B4
  clear own4 B4 H3 Rb3
  go_wp2_with fail
  refine (HT2.out ao4 cap4 w4 c41 c42 c43 R4).mono ?_
  rintro e w5 ⟨aow, capw, rfl, kw1, kw2, hnw, Rw5, B5⟩
  have Bw5 := below_more Bw4 B5 (Nat.le_refl _)
  have H05 := H4.keep B5
  have Rb5 := Rb4.keep B5
  clear B5 H4 Rb4 R4 HT1 HT2
  rcases hok.out with ⟨rfl, rfl⟩ | ⟨rfl, rfl⟩
  ·
    go_wp2_with fail
    go_loopw [15, 58] (fun _ i wr => ∃ t : Nat, t ≤ bs.length ∧ i = .int .i64 t ∧ RootsAt wr aob bs ∧ RootsAt wr aow bs ∧ Has wr w.heap.size 27 .u8 x ∧ Below w.heap.size w wr) (fun _ i _ => bs.length - (intOf i).toNat)
    case atStart => exact ⟨0, by omega, rfl, Rb5, Rw5, H05, Bw5⟩
    case round =>
      clear Rb5 Rw5 H05 Bw5
      obtain ⟨t, ht, rfl, Rb, Rw, H0, HW⟩ := hrel
      by_cases hlt : t < bs.length
      · obtain ⟨b, off, rfl, _⟩ := Rb.addr (by omega)
        obtain ⟨b2, off2, rfl, _⟩ := Rw.addr (by omega)
        obtain ⟨q, hq⟩ : ∃ q, Hid (bs.getD t [] = q) := ⟨_, hid rfl⟩
        have hqr : Rt q := by rw [← hq.out]; exact hbs.rt t hlt
        have Rbq := hid (fun wq (hq' : Cls wr wq) => Rb.keep hq'.bel)
        have Rwq := hid (fun wq (hq' : Cls wr wq) => Rw.keep hq'.bel)
        have he := eql_roots q q hqr.len hqr.len hqr.byte hqr.byte
        rw [decide_eq_true rfl] at he
        go_wp2_with fail
        refine wp_region_cls (by kernel_rfl) (by kernel_rfl) ?_
        go_big_quiet_step (fail)
        go_big_quiet_step (fail)
        go_big_quiet_want
        refine quiet_run _ (fun wq hwq => run_at (.tmp 61) (.tmp 62) rfl b off bs.length capb t rfl rfl hlt) ?_
        simp only [Act.put, List.setIfInBounds_toArray, List.set_cons_succ, List.set_cons_zero]
        go_big_quiet_on
        go_big_quiet_want
        refine quiet_load_named 27 (.tmp 63) rfl b off t bs q hq rfl Rbq.out hlt _ _ Tryd.und27 Tryd.size27 ?_
        simp only [Act.put, List.setIfInBounds_toArray, List.set_cons_succ, List.set_cons_zero]
        go_big_quiet_on
        go_big_quiet_step (fail)
        go_big_quiet_step (fail)
        go_big_quiet_want
        refine quiet_run _ (fun wq hwq => run_at26 (.tmp 65) (.tmp 66) rfl b2 off2 bs.length capw t rfl rfl hlt) ?_
        simp only [Act.put, List.setIfInBounds_toArray, List.set_cons_succ, List.set_cons_zero]
        go_big_quiet_on
        go_big_quiet_want
        refine quiet_load_named 26 (.tmp 67) rfl b2 off2 t bs q hq rfl Rwq.out hlt _ _ Tryd.underlying26 Tryd.size26 ?_
        simp only [Act.put, List.setIfInBounds_toArray, List.set_cons_succ, List.set_cons_zero]
        go_big_quiet_on
        go_big_quiet_step (exact fun _ => rfl)
        refine wpQuiet_nil ?_
        intro wq hq5
        go_wp2_with fail
        go_roundw
        case rel => exact ⟨t + 1, by omega, by go_num, Rb.keep hq5.bel, Rw.keep hq5.bel, H0.keep hq5.bel, below_more HW hq5.bel (Nat.le_refl _)⟩
        case measure => simp [intOf]; omega
      · obtain ⟨c1, hc1⟩ : ∃ c, Hid (decide (climbR x bs n = x) = c) := ⟨_, hid rfl⟩
        obtain ⟨c2, hc2⟩ : ∃ c, Hid (decide (climbR x rs n = x) = c) := ⟨_, hid rfl⟩
        have Rbq := hid (fun wq (hq' : Cls wr wq) => Rb.keep hq'.bel)
        have Rwq := hid (fun wq (hq' : Cls wr wq) => Rw.keep hq'.bel)
        have HRq := hid (fun wq (hq' : Cls wr wq) => (hR.keep HW).keep hq'.bel)
        have H0q := hid (fun wq (hq' : Cls wr wq) => H0.keep hq'.bel)
        have hTq := hid (fun wq (hq' : Cls wr wq) => (hT.keep HW).keep hq'.bel)
        clear Rb Rw H0
        go_wp2_with fail
        refine wp_region_flow_guarded 27 27 (fun i v wq => match i with
          | 0 => v = .agg (nums .u8 x)
          | 1 => v = .slice aob bs.length capb
          | 2 => Slc bs v wq
          | 3 => v = .int .u64 (n : Int)
          | 4 => v = .agg (nums .u8 x)
          | 5 => v = .bool c1
          | 6 => v = .agg (nums .u8 x)
          | 7 => v = .slice aow bs.length capw
          | 8 => v = .int .u64 (n : Int)
          | 9 => v = .agg (nums .u8 x)
          | 10 => v = .bool c1
          | 11 => v = .bool true
          | 12 => v = .bool true
          | 13 => v = .agg (nums .u8 x)
          | 14 => v = .slice ao rs.length cap
          | 15 => Slc rs v wq
          | 16 => v = .int .u64 (n : Int)
          | 17 => v = .agg (nums .u8 x)
          | 18 => v = .bool c2
          | 19 => v = .agg (nums .u8 x)
          | 20 => v = .slice ao rs.length cap
          | 21 => Slc rs v wq
          | 22 => v = .int .u64 (n : Int)
          | 23 => v = .agg (nums .u8 x)
          | 24 => v = .bool c2
          | 25 => v = .bool true
          | _ => v = .bool true) (by kernel_rfl) (by kernel_rfl) (fun _ d _ _ _ h => by cases d <;> exact h) ?_ ?_ ?_ ?_ ?_
        · intro i o g b hi ho hg v wq hv
          match i, hi with
          | 0, _ => cases ho; cases hg
          | 1, _ => cases ho; cases hg
          | 2, _ => cases ho; cases hg
          | 3, _ => cases ho; cases hg
          | 4, _ => cases ho; cases hg
          | 5, _ => cases ho; cases hg
          | 6, _ => cases ho; cases hg
          | 7, _ => cases ho; cases hg
          | 8, _ => cases ho; cases hg
          | 9, _ => cases ho; cases hg
          | 10, _ => cases ho; cases hg
          | 11, _ => cases ho; cases hg
          | 12, _ => cases ho; cases hg
          | 13, _ => cases ho; cases hg; exact hv
          | 14, _ => cases ho; cases hg; exact hv
          | 15, _ => cases ho; cases hg; exact hv
          | 16, _ => cases ho; cases hg; exact hv
          | 17, _ => cases ho; cases hg; exact hv
          | 18, _ => cases ho; cases hg; exact hv
          | 19, _ => cases ho; cases hg; exact hv
          | 20, _ => cases ho; cases hg; exact hv
          | 21, _ => cases ho; cases hg; exact hv
          | 22, _ => cases ho; cases hg; exact hv
          | 23, _ => cases ho; cases hg; exact hv
          | 24, _ => cases ho; cases hg; exact hv
          | 25, _ => cases ho; cases hg; exact hv
          | 26, _ => cases ho; cases hg
          | (k + 27), hk => exact absurd hk (by omega)
        · intro i v wq wq' hi hv hb
          match i, hi with
          | 0, _ => exact hv
          | 1, _ => exact hv
          | 2, _ => exact hv.keep hb
          | 3, _ => exact hv
          | 4, _ => exact hv
          | 5, _ => exact hv
          | 6, _ => exact hv
          | 7, _ => exact hv
          | 8, _ => exact hv
          | 9, _ => exact hv
          | 10, _ => exact hv
          | 11, _ => exact hv
          | 12, _ => exact hv
          | 13, _ => exact hv
          | 14, _ => exact hv
          | 15, _ => exact hv.keep hb
          | 16, _ => exact hv
          | 17, _ => exact hv
          | 18, _ => exact hv
          | 19, _ => exact hv
          | 20, _ => exact hv
          | 21, _ => exact hv.keep hb
          | 22, _ => exact hv
          | 23, _ => exact hv
          | 24, _ => exact hv
          | 25, _ => exact hv
          | 26, _ => exact hv
          | (k + 27), hk => exact absurd hk (by omega)
        · intro i o hi ho aq wq hc hk hdep
          match i, hi with
          | 0, _ =>
            cases ho
            exact flow_load 27 (.tmp 9) rfl w.heap.size .u8 x (hk 9 (by decide)) 27 (H0q.out wq hc) _ _ Tryd.und27 (hx.size _ Tryd.size27) rfl
          | 1, _ =>
            cases ho
            exact flow_move (.tmp 11) rfl (hk 11 (by decide))
          | 2, _ =>
            cases ho
            have e0 : aq.tmps.getD 72 undef = .slice aob bs.length capb := hdep 1 72 rfl (by kernel_rfl)
            refine flow_fun 9 _ _ rfl (fun _ _ => by simp [go_sem]) #[.slice aob bs.length capb] (by rw [show (#[Operand.tmp 72] : Array Operand).map aq.eval = #[aq.tmps.getD 72 undef] from by simp [Act.eval], e0]) ?_
            refine (own_any aob capb bs wq hnb (by omega) (Rbq.out wq hc)).mono ?_
            rintro e w' ⟨v, rfl, q1, q2⟩
            exact ⟨v, rfl, Slc.own hbs q1, q2⟩
          | 3, _ =>
            cases ho
            exact flow_move (.tmp 3) rfl (hk 3 (by decide))
          | 4, _ =>
            cases ho
            exact flow_load 27 (.tmp 9) rfl w.heap.size .u8 x (hk 9 (by decide)) 27 (H0q.out wq hc) _ _ Tryd.und27 (hx.size _ Tryd.size27) rfl
          | 5, _ =>
            cases ho
            have e0 : aq.tmps.getD 71 undef = .agg (nums .u8 x) := hdep 0 71 rfl (by kernel_rfl)
            obtain ⟨ao1, cap1, e1, k1, k2, R1⟩ : Slc bs (aq.tmps.getD 73 undef) wq := hdep 2 73 rfl (by kernel_rfl)
            have e2 : aq.tmps.getD 74 undef = .int .u64 (n : Int) := hdep 3 74 rfl (by kernel_rfl)
            have e3 : aq.tmps.getD 75 undef = .agg (nums .u8 x) := hdep 4 75 rfl (by kernel_rfl)
            refine flow_fun 23 _ _ rfl (fun _ _ => by simp [go_sem]) #[.agg (nums .u8 x), .slice ao1 bs.length cap1, .int .u64 (n : Int), .agg (nums .u8 x)] (by rw [show (#[Operand.tmp 71, Operand.tmp 73, Operand.tmp 74, Operand.tmp 75] : Array Operand).map aq.eval = #[aq.tmps.getD 71 undef, aq.tmps.getD 73 undef, aq.tmps.getD 74 undef, aq.tmps.getD 75 undef] from by simp [Act.eval], e0, e1, e2, e3]) ?_
            refine (verify_any x ao1 cap1 bs n x wq (hTq.out wq hc) k1 k2 R1 hx hx hn).mono ?_
            rintro e w' ⟨rfl, q2⟩
            exact ⟨_, rfl, congrArg Value.bool hc1.out, q2⟩
          | 6, _ =>
            cases ho
            exact flow_load 27 (.tmp 9) rfl w.heap.size .u8 x (hk 9 (by decide)) 27 (H0q.out wq hc) _ _ Tryd.und27 (hx.size _ Tryd.size27) rfl
          | 7, _ =>
            cases ho
            exact flow_move (.tmp 13) rfl (hk 13 (by decide))
          | 8, _ =>
            cases ho
            exact flow_move (.tmp 3) rfl (hk 3 (by decide))
          | 9, _ =>
            cases ho
            exact flow_load 27 (.tmp 9) rfl w.heap.size .u8 x (hk 9 (by decide)) 27 (H0q.out wq hc) _ _ Tryd.und27 (hx.size _ Tryd.size27) rfl
          | 10, _ =>
            cases ho
            have e0 : aq.tmps.getD 77 undef = .agg (nums .u8 x) := hdep 6 77 rfl (by kernel_rfl)
            have e1 : aq.tmps.getD 78 undef = .slice aow bs.length capw := hdep 7 78 rfl (by kernel_rfl)
            have e2 : aq.tmps.getD 79 undef = .int .u64 (n : Int) := hdep 8 79 rfl (by kernel_rfl)
            have e3 : aq.tmps.getD 80 undef = .agg (nums .u8 x) := hdep 9 80 rfl (by kernel_rfl)
            refine flow_fun 24 _ _ rfl (fun _ _ => by simp [go_sem]) #[.agg (nums .u8 x), .slice aow bs.length capw, .int .u64 (n : Int), .agg (nums .u8 x)] (by rw [show (#[Operand.tmp 77, Operand.tmp 78, Operand.tmp 79, Operand.tmp 80] : Array Operand).map aq.eval = #[aq.tmps.getD 77 undef, aq.tmps.getD 78 undef, aq.tmps.getD 79 undef, aq.tmps.getD 80 undef] from by simp [Act.eval], e0, e1, e2, e3]) ?_
            refine (rverify_any x aow capw bs n x wq kw1 kw2 (Rwq.out wq hc) hx hx hn).mono ?_
            rintro e w' ⟨rfl, q2⟩
            exact ⟨_, rfl, congrArg Value.bool hc1.out, q2⟩
          | 11, _ =>
            cases ho
            have e0 : aq.tmps.getD 76 undef = .bool c1 := hdep 5 76 rfl (by kernel_rfl)
            have e1 : aq.tmps.getD 81 undef = .bool c1 := hdep 10 81 rfl (by kernel_rfl)
            exact flow_value _ (run_eqb (.tmp 76) (.tmp 81) rfl c1 e0 e1) rfl
          | 12, _ =>
            cases ho
            exact flow_move (.tmp 82) rfl (hdep 11 82 rfl (by kernel_rfl))
          | 13, _ =>
            cases ho
            exact flow_load 27 (.tmp 9) rfl w.heap.size .u8 x (hk 9 (by decide)) 27 (H0q.out wq hc) _ _ Tryd.und27 (hx.size _ Tryd.size27) rfl
          | 14, _ =>
            cases ho
            exact flow_move (.tmp 0) rfl (hk 0 (by decide))
          | 15, _ =>
            cases ho
            have e0 : aq.tmps.getD 85 undef = .slice ao rs.length cap := hdep 14 85 rfl (by kernel_rfl)
            refine flow_fun 9 _ _ rfl (fun _ _ => by simp [go_sem]) #[.slice ao rs.length cap] (by rw [show (#[Operand.tmp 85] : Array Operand).map aq.eval = #[aq.tmps.getD 85 undef] from by simp [Act.eval], e0]) ?_
            refine (own_any ao cap rs wq hnil (by omega) (HRq.out wq hc)).mono ?_
            rintro e w' ⟨v, rfl, q1, q2⟩
            exact ⟨v, rfl, Slc.own hR.rts q1, q2⟩
          | 16, _ =>
            cases ho
            exact flow_move (.tmp 3) rfl (hk 3 (by decide))
          | 17, _ =>
            cases ho
            exact flow_load 27 (.tmp 9) rfl w.heap.size .u8 x (hk 9 (by decide)) 27 (H0q.out wq hc) _ _ Tryd.und27 (hx.size _ Tryd.size27) rfl
          | 18, _ =>
            cases ho
            have e0 : aq.tmps.getD 84 undef = .agg (nums .u8 x) := hdep 13 84 rfl (by kernel_rfl)
            obtain ⟨ao1, cap1, e1, k1, k2, R1⟩ : Slc rs (aq.tmps.getD 86 undef) wq := hdep 15 86 rfl (by kernel_rfl)
            have e2 : aq.tmps.getD 87 undef = .int .u64 (n : Int) := hdep 16 87 rfl (by kernel_rfl)
            have e3 : aq.tmps.getD 88 undef = .agg (nums .u8 x) := hdep 17 88 rfl (by kernel_rfl)
            refine flow_fun 23 _ _ rfl (fun _ _ => by simp [go_sem]) #[.agg (nums .u8 x), .slice ao1 rs.length cap1, .int .u64 (n : Int), .agg (nums .u8 x)] (by rw [show (#[Operand.tmp 84, Operand.tmp 86, Operand.tmp 87, Operand.tmp 88] : Array Operand).map aq.eval = #[aq.tmps.getD 84 undef, aq.tmps.getD 86 undef, aq.tmps.getD 87 undef, aq.tmps.getD 88 undef] from by simp [Act.eval], e0, e1, e2, e3]) ?_
            refine (verify_any x ao1 cap1 rs n x wq (hTq.out wq hc) k1 k2 R1 hx hx hn).mono ?_
            rintro e w' ⟨rfl, q2⟩
            exact ⟨_, rfl, congrArg Value.bool hc2.out, q2⟩
          | 19, _ =>
            cases ho
            exact flow_load 27 (.tmp 9) rfl w.heap.size .u8 x (hk 9 (by decide)) 27 (H0q.out wq hc) _ _ Tryd.und27 (hx.size _ Tryd.size27) rfl
          | 20, _ =>
            cases ho
            exact flow_move (.tmp 0) rfl (hk 0 (by decide))
          | 21, _ =>
            cases ho
            have e0 : aq.tmps.getD 91 undef = .slice ao rs.length cap := hdep 20 91 rfl (by kernel_rfl)
            refine flow_fun 12 _ _ rfl (fun _ _ => by simp [go_sem]) #[.slice ao rs.length cap] (by rw [show (#[Operand.tmp 91] : Array Operand).map aq.eval = #[aq.tmps.getD 91 undef] from by simp [Act.eval], e0]) ?_
            refine (plain_any ao cap rs wq hcap hm' (by omega) (HRq.out wq hc)).mono ?_
            rintro e w' ⟨v, rfl, q1, q2⟩
            exact ⟨v, rfl, Slc.own hR.rts q1, q2⟩
          | 22, _ =>
            cases ho
            exact flow_move (.tmp 3) rfl (hk 3 (by decide))
          | 23, _ =>
            cases ho
            exact flow_load 27 (.tmp 9) rfl w.heap.size .u8 x (hk 9 (by decide)) 27 (H0q.out wq hc) _ _ Tryd.und27 (hx.size _ Tryd.size27) rfl
          | 24, _ =>
            cases ho
            have e0 : aq.tmps.getD 90 undef = .agg (nums .u8 x) := hdep 19 90 rfl (by kernel_rfl)
            obtain ⟨ao1, cap1, e1, k1, k2, R1⟩ : Slc rs (aq.tmps.getD 92 undef) wq := hdep 21 92 rfl (by kernel_rfl)
            have e2 : aq.tmps.getD 93 undef = .int .u64 (n : Int) := hdep 22 93 rfl (by kernel_rfl)
            have e3 : aq.tmps.getD 94 undef = .agg (nums .u8 x) := hdep 23 94 rfl (by kernel_rfl)
            refine flow_fun 24 _ _ rfl (fun _ _ => by simp [go_sem]) #[.agg (nums .u8 x), .slice ao1 rs.length cap1, .int .u64 (n : Int), .agg (nums .u8 x)] (by rw [show (#[Operand.tmp 90, Operand.tmp 92, Operand.tmp 93, Operand.tmp 94] : Array Operand).map aq.eval = #[aq.tmps.getD 90 undef, aq.tmps.getD 92 undef, aq.tmps.getD 93 undef, aq.tmps.getD 94 undef] from by simp [Act.eval], e0, e1, e2, e3]) ?_
            refine (rverify_any x ao1 cap1 rs n x wq k1 k2 R1 hx hx hn).mono ?_
            rintro e w' ⟨rfl, q2⟩
            exact ⟨_, rfl, congrArg Value.bool hc2.out, q2⟩
          | 25, _ =>
            cases ho
            have e0 : aq.tmps.getD 89 undef = .bool c2 := hdep 18 89 rfl (by kernel_rfl)
            have e1 : aq.tmps.getD 95 undef = .bool c2 := hdep 24 95 rfl (by kernel_rfl)
            exact flow_value _ (run_eqb (.tmp 89) (.tmp 95) rfl c2 e0 e1) rfl
          | 26, _ =>
            cases ho
            have e0 : aq.tmps.getD 83 undef = .bool true := hdep 12 83 rfl (by kernel_rfl)
            have e1 : aq.tmps.getD 96 undef = .bool true := hdep 25 96 rfl (by kernel_rfl)
            exact flow_value _ (run_pickb (.tmp 83) (.tmp 96) rfl e0 e1) rfl
          | (k + 27), hk => exact absurd hk (by omega)
        · intro o h27 ho
          omega
        intro vf w8 hc hv
        have e0 : vf 0 = _ := hv 0 71 (by decide) rfl
        have e1 : vf 1 = _ := hv 1 72 (by decide) rfl
        have e3 : vf 3 = _ := hv 3 74 (by decide) rfl
        have e4 : vf 4 = _ := hv 4 75 (by decide) rfl
        have e5 : vf 5 = _ := hv 5 76 (by decide) rfl
        have e6 : vf 6 = _ := hv 6 77 (by decide) rfl
        have e7 : vf 7 = _ := hv 7 78 (by decide) rfl
        have e8 : vf 8 = _ := hv 8 79 (by decide) rfl
        have e9 : vf 9 = _ := hv 9 80 (by decide) rfl
        have e10 : vf 10 = _ := hv 10 81 (by decide) rfl
        have e11 : vf 11 = _ := hv 11 82 (by decide) rfl
        have e12 : vf 12 = _ := hv 12 83 (by decide) rfl
        have e13 : vf 13 = _ := hv 13 84 (by decide) rfl
        have e14 : vf 14 = _ := hv 14 85 (by decide) rfl
        have e16 : vf 16 = _ := hv 16 87 (by decide) rfl
        have e17 : vf 17 = _ := hv 17 88 (by decide) rfl
        have e18 : vf 18 = _ := hv 18 89 (by decide) rfl
        have e19 : vf 19 = _ := hv 19 90 (by decide) rfl
        have e20 : vf 20 = _ := hv 20 91 (by decide) rfl
        have e22 : vf 22 = _ := hv 22 93 (by decide) rfl
        have e23 : vf 23 = _ := hv 23 94 (by decide) rfl
        have e24 : vf 24 = _ := hv 24 95 (by decide) rfl
        have e25 : vf 25 = _ := hv 25 96 (by decide) rfl
        have e26 : vf 26 = _ := hv 26 97 (by decide) rfl
        clear hv
        simp only [List.take_succ_cons, List.take_zero, List.drop_succ_cons, List.drop_zero, putAll, Act.put, List.setIfInBounds_toArray, List.set_cons_succ, List.set_cons_zero]
        rw [e0, e1, e3, e4, e5, e6, e7, e8, e9, e10, e11, e12, e13, e14, e16, e17, e18, e19, e20, e22, e23, e24, e25, e26]
        clear e0 e1 e3 e4 e5 e6 e7 e8 e9 e10 e11 e12 e13 e14 e16 e17 e18 e19 e20 e22 e23 e24 e25 e26
        refine wpList_run rfl (.bool true) rfl ?_
        simp only [Act.put, List.setIfInBounds_toArray, List.set_cons_succ, List.set_cons_zero]
        go_wp2_with fail
        go_ret
        exact ⟨rfl, below_more HW hc.bel (Nat.le_refl _)⟩
  ·
    go_wp2_with fail
    go_loopw [15, 58] (fun _ i wr => ∃ t : Nat, t ≤ bs.length ∧ i = .int .i64 t ∧ RootsAt wr aob bs ∧ RootsAt wr aow bs ∧ Has wr w.heap.size 27 .u8 x ∧ Below w.heap.size w wr) (fun _ i _ => bs.length - (intOf i).toNat)
    case atStart => exact ⟨0, by omega, rfl, Rb5, Rw5, H05, Bw5⟩
    case round =>
      clear Rb5 Rw5 H05 Bw5
      obtain ⟨t, ht, rfl, Rb, Rw, H0, HW⟩ := hrel
      by_cases hlt : t < bs.length
      · obtain ⟨b, off, rfl, _⟩ := Rb.addr (by omega)
        obtain ⟨b2, off2, rfl, _⟩ := Rw.addr (by omega)
        obtain ⟨q, hq⟩ : ∃ q, Hid (bs.getD t [] = q) := ⟨_, hid rfl⟩
        have hqr : Rt q := by rw [← hq.out]; exact hbs.rt t hlt
        have Rbq := hid (fun wq (hq' : Cls wr wq) => Rb.keep hq'.bel)
        have Rwq := hid (fun wq (hq' : Cls wr wq) => Rw.keep hq'.bel)
        have he := eql_roots q q hqr.len hqr.len hqr.byte hqr.byte
        rw [decide_eq_true rfl] at he
        go_wp2_with fail
        refine wp_region_cls (by kernel_rfl) (by kernel_rfl) ?_
        go_big_quiet_step (fail)
        go_big_quiet_step (fail)
        go_big_quiet_want
        refine quiet_run _ (fun wq hwq => run_at (.tmp 61) (.tmp 62) rfl b off bs.length capb t rfl rfl hlt) ?_
        simp only [Act.put, List.setIfInBounds_toArray, List.set_cons_succ, List.set_cons_zero]
        go_big_quiet_on
        go_big_quiet_want
        refine quiet_load_named 27 (.tmp 63) rfl b off t bs q hq rfl Rbq.out hlt _ _ Tryd.und27 Tryd.size27 ?_
        simp only [Act.put, List.setIfInBounds_toArray, List.set_cons_succ, List.set_cons_zero]
        go_big_quiet_on
        go_big_quiet_step (fail)
        go_big_quiet_step (fail)
        go_big_quiet_want
        refine quiet_run _ (fun wq hwq => run_at26 (.tmp 65) (.tmp 66) rfl b2 off2 bs.length capw t rfl rfl hlt) ?_
        simp only [Act.put, List.setIfInBounds_toArray, List.set_cons_succ, List.set_cons_zero]
        go_big_quiet_on
        go_big_quiet_want
        refine quiet_load_named 26 (.tmp 67) rfl b2 off2 t bs q hq rfl Rwq.out hlt _ _ Tryd.underlying26 Tryd.size26 ?_
        simp only [Act.put, List.setIfInBounds_toArray, List.set_cons_succ, List.set_cons_zero]
        go_big_quiet_on
        go_big_quiet_step (exact fun _ => rfl)
        refine wpQuiet_nil ?_
        intro wq hq5
        go_wp2_with fail
        go_roundw
        case rel => exact ⟨t + 1, by omega, by go_num, Rb.keep hq5.bel, Rw.keep hq5.bel, H0.keep hq5.bel, below_more HW hq5.bel (Nat.le_refl _)⟩
        case measure => simp [intOf]; omega
      · obtain ⟨c1, hc1⟩ : ∃ c, Hid (decide (climbR x bs n = x) = c) := ⟨_, hid rfl⟩
        obtain ⟨c2, hc2⟩ : ∃ c, Hid (decide (climbR x rs n = x) = c) := ⟨_, hid rfl⟩
        have Rbq := hid (fun wq (hq' : Cls wr wq) => Rb.keep hq'.bel)
        have Rwq := hid (fun wq (hq' : Cls wr wq) => Rw.keep hq'.bel)
        have HRq := hid (fun wq (hq' : Cls wr wq) => (hR.keep HW).keep hq'.bel)
        have H0q := hid (fun wq (hq' : Cls wr wq) => H0.keep hq'.bel)
        have hTq := hid (fun wq (hq' : Cls wr wq) => (hT.keep HW).keep hq'.bel)
        clear Rb Rw H0
        go_wp2_with fail
        refine wp_region_flow_guarded 27 27 (fun i v wq => match i with
          | 0 => v = .agg (nums .u8 x)
          | 1 => v = .slice aob bs.length capb
          | 2 => Slc bs v wq
          | 3 => v = .int .u64 (n : Int)
          | 4 => v = .agg (nums .u8 x)
          | 5 => v = .bool c1
          | 6 => v = .agg (nums .u8 x)
          | 7 => v = .slice aow bs.length capw
          | 8 => v = .int .u64 (n : Int)
          | 9 => v = .agg (nums .u8 x)
          | 10 => v = .bool c1
          | 11 => v = .bool true
          | 12 => v = .bool true
          | 13 => v = .agg (nums .u8 x)
          | 14 => v = .slice ao rs.length cap
          | 15 => Slc rs v wq
          | 16 => v = .int .u64 (n : Int)
          | 17 => v = .agg (nums .u8 x)
          | 18 => v = .bool c2
          | 19 => v = .agg (nums .u8 x)
          | 20 => v = .slice ao rs.length cap
          | 21 => Slc rs v wq
          | 22 => v = .int .u64 (n : Int)
          | 23 => v = .agg (nums .u8 x)
          | 24 => v = .bool c2
          | 25 => v = .bool true
          | _ => v = .bool true) (by kernel_rfl) (by kernel_rfl) (fun _ d _ _ _ h => by cases d <;> exact h) ?_ ?_ ?_ ?_ ?_
        · intro i o g b hi ho hg v wq hv
          match i, hi with
          | 0, _ => cases ho; cases hg
          | 1, _ => cases ho; cases hg
          | 2, _ => cases ho; cases hg
          | 3, _ => cases ho; cases hg
          | 4, _ => cases ho; cases hg
          | 5, _ => cases ho; cases hg
          | 6, _ => cases ho; cases hg
          | 7, _ => cases ho; cases hg
          | 8, _ => cases ho; cases hg
          | 9, _ => cases ho; cases hg
          | 10, _ => cases ho; cases hg
          | 11, _ => cases ho; cases hg
          | 12, _ => cases ho; cases hg
          | 13, _ => cases ho; cases hg; exact hv
          | 14, _ => cases ho; cases hg; exact hv
          | 15, _ => cases ho; cases hg; exact hv
          | 16, _ => cases ho; cases hg; exact hv
          | 17, _ => cases ho; cases hg; exact hv
          | 18, _ => cases ho; cases hg; exact hv
          | 19, _ => cases ho; cases hg; exact hv
          | 20, _ => cases ho; cases hg; exact hv
          | 21, _ => cases ho; cases hg; exact hv
          | 22, _ => cases ho; cases hg; exact hv
          | 23, _ => cases ho; cases hg; exact hv
          | 24, _ => cases ho; cases hg; exact hv
          | 25, _ => cases ho; cases hg; exact hv
          | 26, _ => cases ho; cases hg
          | (k + 27), hk => exact absurd hk (by omega)
        · intro i v wq wq' hi hv hb
          match i, hi with
          | 0, _ => exact hv
          | 1, _ => exact hv
          | 2, _ => exact hv.keep hb
          | 3, _ => exact hv
          | 4, _ => exact hv
          | 5, _ => exact hv
          | 6, _ => exact hv
          | 7, _ => exact hv
          | 8, _ => exact hv
          | 9, _ => exact hv
          | 10, _ => exact hv
          | 11, _ => exact hv
          | 12, _ => exact hv
          | 13, _ => exact hv
          | 14, _ => exact hv
          | 15, _ => exact hv.keep hb
          | 16, _ => exact hv
          | 17, _ => exact hv
          | 18, _ => exact hv
          | 19, _ => exact hv
          | 20, _ => exact hv
          | 21, _ => exact hv.keep hb
          | 22, _ => exact hv
          | 23, _ => exact hv
          | 24, _ => exact hv
          | 25, _ => exact hv
          | 26, _ => exact hv
          | (k + 27), hk => exact absurd hk (by omega)
        · intro i o hi ho aq wq hc hk hdep
          match i, hi with
          | 0, _ =>
            cases ho
            exact flow_load 27 (.tmp 9) rfl w.heap.size .u8 x (hk 9 (by decide)) 27 (H0q.out wq hc) _ _ Tryd.und27 (hx.size _ Tryd.size27) rfl
          | 1, _ =>
            cases ho
            exact flow_move (.tmp 11) rfl (hk 11 (by decide))
          | 2, _ =>
            cases ho
            have e0 : aq.tmps.getD 72 undef = .slice aob bs.length capb := hdep 1 72 rfl (by kernel_rfl)
            refine flow_fun 9 _ _ rfl (fun _ _ => by simp [go_sem]) #[.slice aob bs.length capb] (by rw [show (#[Operand.tmp 72] : Array Operand).map aq.eval = #[aq.tmps.getD 72 undef] from by simp [Act.eval], e0]) ?_
            refine (own_any aob capb bs wq hnb (by omega) (Rbq.out wq hc)).mono ?_
            rintro e w' ⟨v, rfl, q1, q2⟩
            exact ⟨v, rfl, Slc.own hbs q1, q2⟩
          | 3, _ =>
            cases ho
            exact flow_move (.tmp 3) rfl (hk 3 (by decide))
          | 4, _ =>
            cases ho
            exact flow_load 27 (.tmp 9) rfl w.heap.size .u8 x (hk 9 (by decide)) 27 (H0q.out wq hc) _ _ Tryd.und27 (hx.size _ Tryd.size27) rfl
          | 5, _ =>
            cases ho
            have e0 : aq.tmps.getD 71 undef = .agg (nums .u8 x) := hdep 0 71 rfl (by kernel_rfl)
            obtain ⟨ao1, cap1, e1, k1, k2, R1⟩ : Slc bs (aq.tmps.getD 73 undef) wq := hdep 2 73 rfl (by kernel_rfl)
            have e2 : aq.tmps.getD 74 undef = .int .u64 (n : Int) := hdep 3 74 rfl (by kernel_rfl)
            have e3 : aq.tmps.getD 75 undef = .agg (nums .u8 x) := hdep 4 75 rfl (by kernel_rfl)
            refine flow_fun 23 _ _ rfl (fun _ _ => by simp [go_sem]) #[.agg (nums .u8 x), .slice ao1 bs.length cap1, .int .u64 (n : Int), .agg (nums .u8 x)] (by rw [show (#[Operand.tmp 71, Operand.tmp 73, Operand.tmp 74, Operand.tmp 75] : Array Operand).map aq.eval = #[aq.tmps.getD 71 undef, aq.tmps.getD 73 undef, aq.tmps.getD 74 undef, aq.tmps.getD 75 undef] from by simp [Act.eval], e0, e1, e2, e3]) ?_
            refine (verify_any x ao1 cap1 bs n x wq (hTq.out wq hc) k1 k2 R1 hx hx hn).mono ?_
            rintro e w' ⟨rfl, q2⟩
            exact ⟨_, rfl, congrArg Value.bool hc1.out, q2⟩
          | 6, _ =>
            cases ho
            exact flow_load 27 (.tmp 9) rfl w.heap.size .u8 x (hk 9 (by decide)) 27 (H0q.out wq hc) _ _ Tryd.und27 (hx.size _ Tryd.size27) rfl
          | 7, _ =>
            cases ho
            exact flow_move (.tmp 13) rfl (hk 13 (by decide))
          | 8, _ =>
            cases ho
            exact flow_move (.tmp 3) rfl (hk 3 (by decide))
          | 9, _ =>
            cases ho
            exact flow_load 27 (.tmp 9) rfl w.heap.size .u8 x (hk 9 (by decide)) 27 (H0q.out wq hc) _ _ Tryd.und27 (hx.size _ Tryd.size27) rfl
          | 10, _ =>
            cases ho
            have e0 : aq.tmps.getD 77 undef = .agg (nums .u8 x) := hdep 6 77 rfl (by kernel_rfl)
            have e1 : aq.tmps.getD 78 undef = .slice aow bs.length capw := hdep 7 78 rfl (by kernel_rfl)
            have e2 : aq.tmps.getD 79 undef = .int .u64 (n : Int) := hdep 8 79 rfl (by kernel_rfl)
            have e3 : aq.tmps.getD 80 undef = .agg (nums .u8 x) := hdep 9 80 rfl (by kernel_rfl)
            refine flow_fun 24 _ _ rfl (fun _ _ => by simp [go_sem]) #[.agg (nums .u8 x), .slice aow bs.length capw, .int .u64 (n : Int), .agg (nums .u8 x)] (by rw [show (#[Operand.tmp 77, Operand.tmp 78, Operand.tmp 79, Operand.tmp 80] : Array Operand).map aq.eval = #[aq.tmps.getD 77 undef, aq.tmps.getD 78 undef, aq.tmps.getD 79 undef, aq.tmps.getD 80 undef] from by simp [Act.eval], e0, e1, e2, e3]) ?_
            refine (rverify_any x aow capw bs n x wq kw1 kw2 (Rwq.out wq hc) hx hx hn).mono ?_
            rintro e w' ⟨rfl, q2⟩
            exact ⟨_, rfl, congrArg Value.bool hc1.out, q2⟩
          | 11, _ =>
            cases ho
            have e0 : aq.tmps.getD 76 undef = .bool c1 := hdep 5 76 rfl (by kernel_rfl)
            have e1 : aq.tmps.getD 81 undef = .bool c1 := hdep 10 81 rfl (by kernel_rfl)
            exact flow_value _ (run_eqb (.tmp 76) (.tmp 81) rfl c1 e0 e1) rfl
          | 12, _ =>
            cases ho
            exact flow_move (.tmp 82) rfl (hdep 11 82 rfl (by kernel_rfl))
          | 13, _ =>
            cases ho
            exact flow_load 27 (.tmp 9) rfl w.heap.size .u8 x (hk 9 (by decide)) 27 (H0q.out wq hc) _ _ Tryd.und27 (hx.size _ Tryd.size27) rfl
          | 14, _ =>
            cases ho
            exact flow_move (.tmp 0) rfl (hk 0 (by decide))
          | 15, _ =>
            cases ho
            have e0 : aq.tmps.getD 85 undef = .slice ao rs.length cap := hdep 14 85 rfl (by kernel_rfl)
            refine flow_fun 9 _ _ rfl (fun _ _ => by simp [go_sem]) #[.slice ao rs.length cap] (by rw [show (#[Operand.tmp 85] : Array Operand).map aq.eval = #[aq.tmps.getD 85 undef] from by simp [Act.eval], e0]) ?_
            refine (own_any ao cap rs wq hnil (by omega) (HRq.out wq hc)).mono ?_
            rintro e w' ⟨v, rfl, q1, q2⟩
            exact ⟨v, rfl, Slc.own hR.rts q1, q2⟩
          | 16, _ =>
            cases ho
            exact flow_move (.tmp 3) rfl (hk 3 (by decide))
          | 17, _ =>
            cases ho
            exact flow_load 27 (.tmp 9) rfl w.heap.size .u8 x (hk 9 (by decide)) 27 (H0q.out wq hc) _ _ Tryd.und27 (hx.size _ Tryd.size27) rfl
          | 18, _ =>
            cases ho
            have e0 : aq.tmps.getD 84 undef = .agg (nums .u8 x) := hdep 13 84 rfl (by kernel_rfl)
            obtain ⟨ao1, cap1, e1, k1, k2, R1⟩ : Slc rs (aq.tmps.getD 86 undef) wq := hdep 15 86 rfl (by kernel_rfl)
            have e2 : aq.tmps.getD 87 undef = .int .u64 (n : Int) := hdep 16 87 rfl (by kernel_rfl)
            have e3 : aq.tmps.getD 88 undef = .agg (nums .u8 x) := hdep 17 88 rfl (by kernel_rfl)
            refine flow_fun 23 _ _ rfl (fun _ _ => by simp [go_sem]) #[.agg (nums .u8 x), .slice ao1 rs.length cap1, .int .u64 (n : Int), .agg (nums .u8 x)] (by rw [show (#[Operand.tmp 84, Operand.tmp 86, Operand.tmp 87, Operand.tmp 88] : Array Operand).map aq.eval = #[aq.tmps.getD 84 undef, aq.tmps.getD 86 undef, aq.tmps.getD 87 undef, aq.tmps.getD 88 undef] from by simp [Act.eval], e0, e1, e2, e3]) ?_
            refine (verify_any x ao1 cap1 rs n x wq (hTq.out wq hc) k1 k2 R1 hx hx hn).mono ?_
            rintro e w' ⟨rfl, q2⟩
            exact ⟨_, rfl, congrArg Value.bool hc2.out, q2⟩
          | 19, _ =>
            cases ho
            exact flow_load 27 (.tmp 9) rfl w.heap.size .u8 x (hk 9 (by decide)) 27 (H0q.out wq hc) _ _ Tryd.und27 (hx.size _ Tryd.size27) rfl
          | 20, _ =>
            cases ho
            exact flow_move (.tmp 0) rfl (hk 0 (by decide))
          | 21, _ =>
            cases ho
            have e0 : aq.tmps.getD 91 undef = .slice ao rs.length cap := hdep 20 91 rfl (by kernel_rfl)
            refine flow_fun 12 _ _ rfl (fun _ _ => by simp [go_sem]) #[.slice ao rs.length cap] (by rw [show (#[Operand.tmp 91] : Array Operand).map aq.eval = #[aq.tmps.getD 91 undef] from by simp [Act.eval], e0]) ?_
            refine (plain_any ao cap rs wq hcap hm' (by omega) (HRq.out wq hc)).mono ?_
            rintro e w' ⟨v, rfl, q1, q2⟩
            exact ⟨v, rfl, Slc.own hR.rts q1, q2⟩
          | 22, _ =>
            cases ho
            exact flow_move (.tmp 3) rfl (hk 3 (by decide))
          | 23, _ =>
            cases ho
            exact flow_load 27 (.tmp 9) rfl w.heap.size .u8 x (hk 9 (by decide)) 27 (H0q.out wq hc) _ _ Tryd.und27 (hx.size _ Tryd.size27) rfl
          | 24, _ =>
            cases ho
            have e0 : aq.tmps.getD 90 undef = .agg (nums .u8 x) := hdep 19 90 rfl (by kernel_rfl)
            obtain ⟨ao1, cap1, e1, k1, k2, R1⟩ : Slc rs (aq.tmps.getD 92 undef) wq := hdep 21 92 rfl (by kernel_rfl)
            have e2 : aq.tmps.getD 93 undef = .int .u64 (n : Int) := hdep 22 93 rfl (by kernel_rfl)
            have e3 : aq.tmps.getD 94 undef = .agg (nums .u8 x) := hdep 23 94 rfl (by kernel_rfl)
            refine flow_fun 24 _ _ rfl (fun _ _ => by simp [go_sem]) #[.agg (nums .u8 x), .slice ao1 rs.length cap1, .int .u64 (n : Int), .agg (nums .u8 x)] (by rw [show (#[Operand.tmp 90, Operand.tmp 92, Operand.tmp 93, Operand.tmp 94] : Array Operand).map aq.eval = #[aq.tmps.getD 90 undef, aq.tmps.getD 92 undef, aq.tmps.getD 93 undef, aq.tmps.getD 94 undef] from by simp [Act.eval], e0, e1, e2, e3]) ?_
            refine (rverify_any x ao1 cap1 rs n x wq k1 k2 R1 hx hx hn).mono ?_
            rintro e w' ⟨rfl, q2⟩
            exact ⟨_, rfl, congrArg Value.bool hc2.out, q2⟩
          | 25, _ =>
            cases ho
            have e0 : aq.tmps.getD 89 undef = .bool c2 := hdep 18 89 rfl (by kernel_rfl)
            have e1 : aq.tmps.getD 95 undef = .bool c2 := hdep 24 95 rfl (by kernel_rfl)
            exact flow_value _ (run_eqb (.tmp 89) (.tmp 95) rfl c2 e0 e1) rfl
          | 26, _ =>
            cases ho
            have e0 : aq.tmps.getD 83 undef = .bool true := hdep 12 83 rfl (by kernel_rfl)
            have e1 : aq.tmps.getD 96 undef = .bool true := hdep 25 96 rfl (by kernel_rfl)
            exact flow_value _ (run_pickb (.tmp 83) (.tmp 96) rfl e0 e1) rfl
          | (k + 27), hk => exact absurd hk (by omega)
        · intro o h27 ho
          omega
        intro vf w8 hc hv
        have e0 : vf 0 = _ := hv 0 71 (by decide) rfl
        have e1 : vf 1 = _ := hv 1 72 (by decide) rfl
        have e3 : vf 3 = _ := hv 3 74 (by decide) rfl
        have e4 : vf 4 = _ := hv 4 75 (by decide) rfl
        have e5 : vf 5 = _ := hv 5 76 (by decide) rfl
        have e6 : vf 6 = _ := hv 6 77 (by decide) rfl
        have e7 : vf 7 = _ := hv 7 78 (by decide) rfl
        have e8 : vf 8 = _ := hv 8 79 (by decide) rfl
        have e9 : vf 9 = _ := hv 9 80 (by decide) rfl
        have e10 : vf 10 = _ := hv 10 81 (by decide) rfl
        have e11 : vf 11 = _ := hv 11 82 (by decide) rfl
        have e12 : vf 12 = _ := hv 12 83 (by decide) rfl
        have e13 : vf 13 = _ := hv 13 84 (by decide) rfl
        have e14 : vf 14 = _ := hv 14 85 (by decide) rfl
        have e16 : vf 16 = _ := hv 16 87 (by decide) rfl
        have e17 : vf 17 = _ := hv 17 88 (by decide) rfl
        have e18 : vf 18 = _ := hv 18 89 (by decide) rfl
        have e19 : vf 19 = _ := hv 19 90 (by decide) rfl
        have e20 : vf 20 = _ := hv 20 91 (by decide) rfl
        have e22 : vf 22 = _ := hv 22 93 (by decide) rfl
        have e23 : vf 23 = _ := hv 23 94 (by decide) rfl
        have e24 : vf 24 = _ := hv 24 95 (by decide) rfl
        have e25 : vf 25 = _ := hv 25 96 (by decide) rfl
        have e26 : vf 26 = _ := hv 26 97 (by decide) rfl
        clear hv
        simp only [List.take_succ_cons, List.take_zero, List.drop_succ_cons, List.drop_zero, putAll, Act.put, List.setIfInBounds_toArray, List.set_cons_succ, List.set_cons_zero]
        rw [e0, e1, e3, e4, e5, e6, e7, e8, e9, e10, e11, e12, e13, e14, e16, e17, e18, e19, e20, e22, e23, e24, e25, e26]
        clear e0 e1 e3 e4 e5 e6 e7 e8 e9 e10 e11 e12 e13 e14 e16 e17 e18 e19 e20 e22 e23 e24 e25 e26
        refine wpList_run rfl (.bool true) rfl ?_
        simp only [Act.put, List.setIfInBounds_toArray, List.set_cons_succ, List.set_cons_zero]
        go_wp2_with fail
        go_ret
        exact ⟨rfl, below_more HW hc.bel (Nat.le_refl _)⟩
end Go.Proofs.YtfekefgaahoigaaDoor
