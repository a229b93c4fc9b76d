/- The walk of SignTags. -/
import Derived.Test.YtdaejfkdopoooaaDoorAwake7
import Derived.Laws.AppendOwnNone
namespace Go.Proofs.YtdaejfkdopoooaaDoor
open Go.RowKit
set_option linter.unusedVariables false
set_option maxRecDepth 100000

/-- Roots that came from anywhere, appended onto a row of the call's own. -/
theorem wpList_append_any {P : Program} {w : World} {ops : Array Oper} {rest : List Oper} {o : Oper} {a : Act} {Q : Exit → Act → World → Prop} (hgd : o.guard = none) (s x : Operand) (t : TypeId) (ho : o.op = .call { callee := .builtin .append, args := #[s, x], argTypes := #[t, t] })
    (base : Nat) (e : TypeId) (ht : P.underlying t = some (.slice e)) (hi : (P.info? e).map (fun i => (i.zero, i.size, i.bytes)) = some (some (.agg (nums .u8 (zeros 32))), 32, 32))
    (v : Value) (n : Nat) (rs ss : List (List Nat)) (hs : a.eval s = v) (hown : w.ownsRow base e 32 v n (cellsOf rs)) (ao : Option Addr) (c : Nat) (hx : a.eval x = .slice ao ss.length c) (hnil : ao = none → c = 0) (hR : RootsAt w ao ss)
    (hb : n + ss.length ≤ 4398046511104) (hbase : base ≤ w.heap.size)
    (h : ∀ v' w', w'.ownsRow base e 32 v' (n + ss.length) (cellsOf (rs ++ ss)) → w.grownBy w' v.ownBlock → wpList P ops Q rest (a.put o.dst v') w') : wpList P ops Q (o :: rest) a w := by
  cases ao with
  | none =>
    have h0 : ss.length = 0 := by
      by_cases h : ss.length = 0
      · exact h
      · obtain ⟨b, off, e, _⟩ := hR.addr (by omega); cases e
    obtain rfl : ss = [] := List.eq_nil_of_length_eq_zero h0
    obtain rfl := hnil rfl
    cases hq : P.info? e with
    | none => simp [hq] at hi
    | some i => exact wpList_append_own_none hgd s x t ho base e i 32 ht hq v n _ hs hown hx (h v w (by simpa using hown) ⟨rfl, rfl, rfl, Nat.le_refl _, fun _ _ _ => rfl⟩)
  | some ad =>
    have hl := flat_length ss hR.rts
    refine wpList_append_roots hgd s x t ho base e ht hi v n rs ss hs hown hR.rts ad c hx (fun j hj => ?_) hb hbase h
    obtain ⟨ad', e1, hc⟩ := hR.reads.src (by omega)
    cases e1
    exact hc j (by omega)
theorem tags_take (rs : List (List Nat)) (m : List Nat) (t : Nat) (ht : t < rs.length) (q : List Nat) (hq : Hid (rs.getD t [] = q)) : (tagsR rs m).take t ++ [pr q m] = (tagsR rs m).take (t + 1) := by
  rw [List.take_add_one, List.getElem?_eq_getElem (by rw [tagsR_length]; exact ht), tagsR_at rs m t ht q hq, List.getD_eq_getElem?_getD, List.getElem?_eq_getElem (by rw [tagsR_length]; exact ht)]
  rfl
section
variable {P : Program} {o : Oper} {a : Act} {C : World → Prop}
theorem quiet_load_namedR {K : Act → Prop} (ty : TypeId) (x : Operand) (ho : o.op = .load ty x) (b off i : Nat) (rs : List (List Nat)) (r : List Nat) (hq : Hid (rs.getD i [] = r)) (hx : a.eval x = .pointer (some ⟨b, off + 32 * i, none⟩)) (hr : ∀ w, C w → RootsAt w (some ⟨b, off, none⟩) rs) (hi : i < rs.length)
    (n : Nat) (e : TypeId) (hu : P.underlying ty = some (.array n e)) (hs : (P.info? ty).map (·.size) = some 32) (hk : K (a.put o.dst (.agg (nums .u8 r)))) : o.quiet P a C K :=
  quiet_load_root ty x ho b off i rs hx hr hi n e hu hs (by rw [hq.out]; exact hk)
end
theorem run_atR {o : Oper} {a : Act} {w : World} (x y : Operand) (ho : o.op = .indexAddr 22 x y) (b off n cap i : Nat) (hx : a.eval x = .slice (some ⟨b, off, none⟩) n cap) (hy : a.eval y = .int .i64 (i : Int)) (hi : i < n) :
    (execOp a.eval o).run Tryd.prog w = .ok (.value (.pointer (some ⟨b, off + 32 * i, none⟩))) w := by
  rw [Nat.mul_comm]
  unfold execOp
  simp only [ho, hx, hy]
  go_simp

set_option maxHeartbeats 2000000 in
theorem tags_walk (ao : Option Addr) (cap : Nat) (rs : List (List Nat)) (r : List Nat) (k : Nat) (sg : List Nat) (w : World) (hT : Tabs w) (hcap : rs.length ≤ cap) (hm : cap ≤ maxLen) (hnil : ao = none → cap = 0) (hR : RootsAt w ao rs) (hr : Rt r) (hk : k < 18446744073709551616) (hsr : Rt sg) :
    Calls Tryd.prog 3 #[.slice ao rs.length cap, .agg (nums .u8 r), .int .u64 k, .agg (nums .u8 sg)] w fun e w' => e = .returned (.bool true) ∧ Below w.heap.size w w' := by
  have hm' := hm
  unfold maxLen at hm
  go_enter Tryd.func3, Tryd.ntmps3
  go_wp2_with (first
    | (refine wpList_box_has rfl 5 rfl 24 (.tmp 1) rfl .u8 r rfl ?_; intro w1 H1 B1 S1)
    | (refine wpList_box_has rfl 7 rfl 24 (.tmp 3) rfl .u8 sg rfl ?_; intro w2 H2 B2 S2; rw [S1] at H2 ⊢))
  have HW2 := below_more B1 B2 (Nat.le_refl _)
  have H5a := H1.keep B2
  have lt2 : w.heap.size + 1 < w2.heap.size := H2.lt
  refine (awake_any w2 (hT.keep HW2)).mono ?_
  rintro e w3 ⟨rfl, B3⟩
  have H5 := H5a.keep B3
  have H7 := H2.keep B3
  have HW3 := below_more HW2 B3 (Nat.le_refl _)
  have lt3 : w.heap.size + 1 < w3.heap.size := H7.lt
  clear H1 B1 S1 H2 B2 S2 H5a B3 HW2 lt2
  by_cases hlen : 40 < rs.length
  · go_wp2_with fail
    go_ret
    exact ⟨rfl, HW3⟩
  · have HWb : Below w3.heap.size w3 (w3.alloc (.cells #[] 24)) := (Below.refl _ w3).alloc (Nat.le_refl _) _
    have HO := own_none w3
    have HRb := (hR.keep HW3).keep HWb
    obtain ⟨M, hM⟩ : ∃ M, Same (pr r (wUp k 8)) M := ⟨_, ⟨rfl⟩⟩
    have hMr : Rt M := by rw [← hM.out]; exact pr_rt _ _
    have HMs := hid (fun wq (hq : Tabs wq) => message_any r k hr hk wq hq)
    have HRM := hid (fun wq => rmessage_any r k hr hk wq)
    rw [hM.out] at HMs HRM
    clear hM
    go_wp2_with (first
      | (refine wpList_append_any rfl (.tmp 21) (.tmp 22) 22 rfl w3.heap.size 24 Tryd.underlying22 Tryd.rootInfo _ 0 [] rs rfl (by exact HO) ao cap rfl hnil (by exact HRb) (by omega) (by exact HWb.size) ?_; intro v9 w4 own4 grow4; rw [List.nil_append, Nat.zero_add] at own4; obtain ⟨_, ai, ci, rfl, c1, c2, RI4⟩ := RootsAt.own hR.rts own4; have B34 := below_grownR HWb HO (Nat.le_refl _) grow4; have H54 := H5.keep B34)
      | (refine wpList_load_has rfl 24 (.tmp 5) rfl w.heap.size .u8 r rfl 24 H54 _ _ Tryd.und24 (hr.size _ Tryd.size24) ?_))
    have HW4 := below_more HW3 B34 (Nat.le_refl _)
    have H74 := H7.keep B34
    refine (HMs.out w4 (hT.keep HW4)).mono ?_
    rintro e w5 ⟨rfl, B5⟩
    have HW5 := below_more HW4 B5 (Nat.le_refl _)
    have H55 := H54.keep B5
    have H75 := H74.keep B5
    have RI5 := RI4.keep B5
    have lt5 : w.heap.size + 1 < w5.heap.size := H75.lt
    clear HO HRb HWb own4 grow4 B34 H5 H7 H54 H74 B5 HW3 HW4 RI4 HMs lt3
    go_wp2_with (first
      | (refine wpList_alloc_has rfl 10 rfl 24 rfl .u8 32 Tryd.zero24 ?_; intro w6 Ha6 B6 S6)
      | (refine wpList_store_has rfl 24 (.tmp 10) (.tmp 26) rfl w5.heap.size .u8 M (zeros 32) rfl rfl 24 Ha6 (hMr.size _ Tryd.size24) (by rw [hMr.len, zeros_length]) ?_; intro w7 H10 O7))
    have HW7 := below_only (below_more HW5 B6 (Nat.le_refl _)) O7 (by omega)
    have H5 := (H55.keep B6).only O7 (by omega)
    have H7 := (H75.keep B6).only O7 (by omega)
    have BI : Below w5.heap.size w5 w7 := below_only B6 O7 (Nat.le_refl _)
    have RI := RI5.keep BI
    have RK := hR.keep HW7
    have hT7 := hT.keep HW7
    have lt7 : w5.heap.size < w7.heap.size := H10.lt
    obtain ⟨J, hJ⟩ : ∃ J, Same (joinR rs) J := ⟨_, ⟨rfl⟩⟩
    have hJr : Rt J := by rw [← hJ.out]; exact joinR_rt hR.rts
    have HJ1 := hid (fun wq (hq : RootsAt wq ai rs) => join_any' ai ci rs wq c1 c2 hq)
    have HJ2 := hid (fun wq (hq : RootsAt wq ao rs) => rjoin_any' ao cap rs wq hcap hm' hq)
    rw [hJ.out] at HJ1 HJ2
    clear hJ Ha6 B6 S6 O7 H55 H75 BI RI5 HW5
    generalize w5.heap.size = g10 at *
    refine wp_region_flow_guarded 11 11 (fun i v wq => match i with
      | 0 => v = .agg (nums .u8 M)
      | 1 => v = .agg (nums .u8 r)
      | 2 => v = .int .u64 (k : Int)
      | 3 => v = .agg (nums .u8 M)
      | 4 => v = .bool false
      | 5 => v = .bool false
      | 6 => v = .slice ai rs.length ci
      | 7 => v = .agg (nums .u8 J)
      | 8 => v = .slice ao rs.length cap
      | 9 => v = .agg (nums .u8 J)
      | _ => v = .bool false) (by kernel_rfl) (by kernel_rfl) (fun _ d _ _ _ h => by cases d <;> exact h) ?_ ?_ ?_ ?_ ?_
    · intro i o g b hi ho hg v wq hv
      match i, hi with
      | 0, _ => cases ho; cases hg
      | 1, _ => cases ho; cases hg
      | 2, _ => cases ho; cases hg
      | 3, _ => cases ho; cases hg
      | 4, _ => cases ho; cases hg
      | 5, _ => cases ho; cases hg
      | 6, _ => cases ho; cases hg; exact hv
      | 7, _ => cases ho; cases hg; exact hv
      | 8, _ => cases ho; cases hg; exact hv
      | 9, _ => cases ho; cases hg; exact hv
      | 10, _ => cases ho; cases hg; exact hv
      | (k + 11), hk => exact absurd hk (by omega)
    · intro i v wq wq' hi hv hb
      match i, hi with
      | 0, _ => exact hv
      | 1, _ => exact hv
      | 2, _ => exact hv
      | 3, _ => exact hv
      | 4, _ => exact hv
      | 5, _ => exact hv
      | 6, _ => exact hv
      | 7, _ => exact hv
      | 8, _ => exact hv
      | 9, _ => exact hv
      | 10, _ => exact hv
      | (k + 11), hk => exact absurd hk (by omega)
    · intro i o hi ho aq wq hc hk hdep
      match i, hi with
      | 0, _ =>
        cases ho
        have ep : aq.tmps.getD 10 undef = .pointer (some ⟨g10, 0, none⟩) := hk 10 (by decide)
        exact flow_value _ (run_load_has (.tmp 10) rfl (g10) M ep 24 (H10.keep hc.bel) hMr) rfl
      | 1, _ =>
        cases ho
        have ep : aq.tmps.getD 5 undef = .pointer (some ⟨w.heap.size, 0, none⟩) := hk 5 (by decide)
        exact flow_value _ (run_load_has (.tmp 5) rfl (w.heap.size) r ep 24 (H5.keep hc.bel) hr) rfl
      | 2, _ =>
        cases ho
        exact flow_move (.tmp 2) rfl (hk 2 (by decide))
      | 3, _ =>
        cases ho
        have e0 : aq.tmps.getD 28 undef = .agg (nums .u8 r) := hdep 1 28 rfl (by kernel_rfl)
        have e1 : aq.tmps.getD 29 undef = .int .u64 (k : Int) := hdep 2 29 rfl (by kernel_rfl)
        refine flow_fun 7 _ _ rfl (fun _ _ => by simp [go_sem]) #[.agg (nums .u8 r), .int .u64 (k : Int)] (by rw [show (#[Operand.tmp 28, Operand.tmp 29] : Array Operand).map aq.eval = #[aq.tmps.getD 28 undef, aq.tmps.getD 29 undef] from by simp [Act.eval], e0, e1]) ?_
        refine (HRM.out wq).mono ?_
        rintro x w' ⟨rfl, q⟩
        exact ⟨_, rfl, rfl, q⟩
      | 4, _ =>
        cases ho
        have e0 : aq.tmps.getD 27 undef = .agg (nums .u8 M) := hdep 0 27 rfl (by kernel_rfl)
        have e1 : aq.tmps.getD 30 undef = .agg (nums .u8 M) := hdep 3 30 rfl (by kernel_rfl)
        refine flow_value _ (run_neq_root (.tmp 27) (.tmp 30) rfl M M hMr hMr e0 e1) (by simp)
      | 5, _ =>
        cases ho
        exact flow_move (.tmp 31) rfl (hdep 4 31 rfl (by kernel_rfl))
      | 6, _ =>
        cases ho
        exact flow_move (.tmp 9) rfl (hk 9 (by decide))
      | 7, _ =>
        cases ho
        have e0 : aq.tmps.getD 33 undef = .slice ai rs.length ci := hdep 6 33 rfl (by kernel_rfl)
        refine flow_fun 8 _ _ rfl (fun _ _ => by simp [go_sem]) #[.slice ai rs.length ci] (by rw [show (#[Operand.tmp 33] : Array Operand).map aq.eval = #[aq.tmps.getD 33 undef] from by simp [Act.eval], e0]) ?_
        refine (HJ1.out wq (RI.keep hc.bel)).mono ?_
        rintro x w' ⟨rfl, q⟩
        exact ⟨_, rfl, rfl, q⟩
      | 8, _ =>
        cases ho
        exact flow_move (.tmp 0) rfl (hk 0 (by decide))
      | 9, _ =>
        cases ho
        have e0 : aq.tmps.getD 35 undef = .slice ao rs.length cap := hdep 8 35 rfl (by kernel_rfl)
        refine flow_fun 9 _ _ rfl (fun _ _ => by simp [go_sem]) #[.slice ao rs.length cap] (by rw [show (#[Operand.tmp 35] : Array Operand).map aq.eval = #[aq.tmps.getD 35 undef] from by simp [Act.eval], e0]) ?_
        refine (HJ2.out wq (RK.keep hc.bel)).mono ?_
        rintro x w' ⟨rfl, q⟩
        exact ⟨_, rfl, rfl, q⟩
      | 10, _ =>
        cases ho
        have e0 : aq.tmps.getD 34 undef = .agg (nums .u8 J) := hdep 7 34 rfl (by kernel_rfl)
        have e1 : aq.tmps.getD 36 undef = .agg (nums .u8 J) := hdep 9 36 rfl (by kernel_rfl)
        refine flow_value _ (run_neq_root (.tmp 34) (.tmp 36) rfl J J hJr hJr e0 e1) (by simp)
      | (k + 11), hk => exact absurd hk (by omega)
    · intro o h11 ho
      omega
    intro vf w8 hc hv
    have e5 : vf 5 = .bool false := hv 5 32 (by decide) rfl
    have e10 : vf 10 = .bool false := hv 10 37 (by decide) rfl
    clear hv
    simp only [List.take_succ_cons, List.take_zero, List.drop_succ_cons, List.drop_zero, putAll, Act.put, List.setIfInBounds_toArray, List.set_cons_succ, List.set_cons_zero]
    rw [e5, e10]
    have HW8 := below_more HW7 hc.bel (Nat.le_refl _)
    have H58 := H5.keep hc.bel
    have H78 := H7.keep hc.bel
    have H18 := H10.keep hc.bel
    have RI8 := RI.keep hc.bel
    have hsz8 := hc.bel.size
    clear e5 e10 hc H5 H7 H10 RI RK hT7 HW7 HJ1 HJ2 HRM
    generalize vf 0 = x0
    generalize vf (0 + 1) = x1
    generalize vf (0 + 1 + 1) = x2
    generalize vf (0 + 1 + 1 + 1) = x3
    generalize vf (0 + 1 + 1 + 1 + 1) = x4
    generalize vf (0 + 1 + 1 + 1 + 1 + 1 + 1) = x6
    generalize vf (0 + 1 + 1 + 1 + 1 + 1 + 1 + 1) = x7
    generalize vf (0 + 1 + 1 + 1 + 1 + 1 + 1 + 1 + 1) = x8
    generalize vf (0 + 1 + 1 + 1 + 1 + 1 + 1 + 1 + 1 + 1) = x9
    clear vf
    go_wp2_with fail
    go_loopw [11, 12, 13, 14, 41] (fun v _ _ _ i wr => ∃ t : Nat, t ≤ rs.length ∧ i = .int .i64 t ∧ wr.ownsRow w8.heap.size 24 32 v t (cellsOf ((tagsR rs M).take t)) ∧ Below w8.heap.size w8 wr) (fun _ _ _ _ i _ => rs.length - (intOf i).toNat)
    case atStart => exact ⟨0, by omega, rfl, World.ownsRow_nil _ _ _ _, Below.refl _ _⟩
    case round =>
      obtain ⟨t, ht, rfl, hown, HB⟩ := hrel
      have hszr := HB.size
      have HWr := below_more HW8 HB (Nat.le_refl _)
      by_cases hlt : t < rs.length
      · obtain ⟨bi, oi, rfl, _⟩ := RI8.addr (by omega)
        obtain ⟨b, off, rfl, _⟩ := hR.addr (by omega)
        obtain ⟨q, hq⟩ : ∃ q, Hid (rs.getD t [] = q) := ⟨_, hid rfl⟩
        have hqr : Rt q := by rw [← hq.out]; exact hR.rts.rt t hlt
        have RIr := RI8.keep HB
        have H1r := H18.keep HB
        have hol := fun g hg => (hown.lt g hg)
        have hnx := hid (tags_take rs M t hlt q hq)
        obtain ⟨p, hp⟩ : ∃ p, Same (pr q M) p := ⟨_, ⟨rfl⟩⟩
        have hpr : Rt p := by rw [← hp.out]; exact pr_rt _ _
        have HTg := hid (fun wq (hq : Tabs wq) => tag_any q M hqr hMr wq hq)
        have HRg := hid (fun wq => rtag_any q M hqr hMr wq)
        rw [hp.out] at HTg HRg hnx
        clear hp
        go_wp2_with (first
          | (refine wpList_load_named rfl 24 (.tmp 44) rfl bi oi t rs q hq (by rw [Nat.mul_comm 32 t]; rfl) RIr hlt _ _ Tryd.und24 Tryd.size24 ?_)
          | (refine wpList_alloc_has rfl 13 rfl 24 rfl .u8 32 Tryd.zero24 ?_; intro w1 H1 B1 S1)
          | (refine wpList_store_has rfl 24 (.tmp 13) (.tmp 45) rfl wr.heap.size .u8 q (zeros 32) rfl rfl 24 H1 (hqr.size _ Tryd.size24) (by rw [hqr.len, zeros_length]) ?_; intro w2 H2 O2; have BB2 := below_only B1 O2 (Nat.le_refl _); have H12 := H1r.keep BB2)
          | (refine wpList_load_has rfl 24 (.tmp 13) rfl wr.heap.size .u8 q rfl 24 H2 _ _ Tryd.und24 (hqr.size _ Tryd.size24) ?_)
          | (refine wpList_load_has rfl 24 (.tmp 10) rfl g10 .u8 M rfl 24 H12 _ _ Tryd.und24 (hMr.size _ Tryd.size24) ?_))
        refine (HTg.out _ ((hT.keep HWr).keep BB2)).mono ?_
        rintro e w3 ⟨rfl, B3⟩
        have BB3 := below_more BB2 B3 (Nat.le_refl _)
        have H13 := H12.keep B3
        clear H1 B1 S1 H2 O2 H12 B3 BB2 HTg
        go_wp2_with (first
          | (refine wpList_alloc_has rfl 14 rfl 24 rfl .u8 32 Tryd.zero24 ?_; intro w4 H4 B4 S4)
          | (refine wpList_store_has rfl 24 (.tmp 14) (.tmp 48) rfl w3.heap.size .u8 p (zeros 32) rfl rfl 24 H4 (hpr.size _ Tryd.size24) (by rw [hpr.len, zeros_length]) ?_; intro w5 H14 O5))
        have BB5 := below_only (below_more BB3 B4 (Nat.le_refl _)) O5 BB3.size
        have H15 := H1r.keep BB5
        have own5 := own_keep hown BB5
        have HRq := hid (fun wq (hq' : Cls w5 wq) => ((hR.keep HWr).keep BB5).keep hq'.bel)
        have H14q := hid (fun wq (hq' : Cls w5 wq) => H14.keep hq'.bel)
        have H15q := hid (fun wq (hq' : Cls w5 wq) => H15.keep hq'.bel)
        clear H4 B4 S4 O5 BB3 H13 H15 H1r
        generalize w3.heap.size = g14 at *
        try simp only [Act.put, List.setIfInBounds_toArray, List.set_cons_succ, List.set_cons_zero]
        refine wp_region_cls_tail 7 (by kernel_rfl) (by kernel_rfl) ?_
        simp only [List.take_succ_cons, List.take_zero, List.drop_succ_cons, List.drop_zero]
        go_big_quiet_want
        refine quiet_load 24 (.tmp 14) rfl g14 .u8 p rfl 24 H14q.out _ _ Tryd.und24 (hpr.size _ Tryd.size24) ?_
        simp only [Act.put, List.setIfInBounds_toArray, List.set_cons_succ, List.set_cons_zero]
        go_big_quiet_on
        go_big_quiet_step (exact fun _ => rfl)
        go_big_quiet_step (exact fun _ => rfl)
        go_big_quiet_want
        refine quiet_run _ (fun wq hwq => run_atR (.tmp 50) (.tmp 51) rfl b off rs.length cap t rfl rfl hlt) ?_
        simp only [Act.put, List.setIfInBounds_toArray, List.set_cons_succ, List.set_cons_zero]
        go_big_quiet_on
        go_big_quiet_want
        refine quiet_load_namedR 24 (.tmp 52) rfl b off t rs q hq rfl HRq.out hlt _ _ Tryd.und24 Tryd.size24 ?_
        simp only [Act.put, List.setIfInBounds_toArray, List.set_cons_succ, List.set_cons_zero]
        go_big_quiet_on
        go_big_quiet_want
        refine quiet_load 24 (.tmp 10) rfl g10 .u8 M rfl 24 H15q.out _ _ Tryd.und24 (hMr.size _ Tryd.size24) ?_
        simp only [Act.put, List.setIfInBounds_toArray, List.set_cons_succ, List.set_cons_zero]
        go_big_quiet_on
        go_big_quiet_want
        refine quiet_call 11 #[.agg (nums .u8 q), .agg (nums .u8 M)] (.agg (nums .u8 p)) (fun _ => by simp [go_sem]) (fun wq hq => (HRg.out wq).mono fun e w' h => ⟨h.1, hq.more h.2⟩) ?_
        simp only [Act.put, List.setIfInBounds_toArray, List.set_cons_succ, List.set_cons_zero]
        go_big_quiet_on
        refine wpQuiet_nil ?_
        intro w6 hq6
        have H146 := H14.keep hq6.bel
        have own6 := own_keep own5 hq6.bel
        have BB6 := below_more BB5 hq6.bel (Nat.le_refl _)
        have he := fun w => eql_api p p hpr.len hpr.len hpr.byte hpr.byte w
        simp only [decide_true] at he
        have hb6 := below_more HB BB6 (Nat.le_refl _)
        have hsz6 := hb6.size
        clear HRq H14q H15q HRg hq6 H14 own5 BB5 BB6
        go_wp2_with (first
          | (refine wpList_load_has rfl 24 (.tmp 14) rfl g14 .u8 p rfl 24 H146 _ _ Tryd.und24 (hpr.size _ Tryd.size24) ?_)
          | (refine wpList_one_root rfl 22 24 (.tmp 58) rfl Tryd.underlying22 Tryd.rootInfo p rfl hpr.len ?_; intro w7 H7' B7 S7; have own7 := own_keep own6 B7; have BB7 := below_more hb6 B7 (Nat.le_refl _))
          | (refine wpList_append_roots rfl (.tmp 57) (.tmp 59) 22 rfl w8.heap.size 24 Tryd.underlying22 Tryd.rootInfo _ t ((tagsR rs M).take t) [p] rfl own7 hpr.one ⟨w6.heap.size, 0, none⟩ 1 rfl (by intro j hj; rw [Addr.add_lit, Nat.zero_add, H7'.cell j (by rw [hpr.len]; simpa using hj)]; simp) (by simp; omega) BB7.size ?_; intro v' w9 own9 grow9; have BB9 := below_grownR BB7 own7 (Nat.le_refl _) grow9))
        go_roundw
        case rel =>
          rw [hnx.out] at own9
          exact ⟨t + 1, by omega, by go_num, own9, BB9⟩
        case measure => simp [intOf]; omega
      · have ht2 : t = rs.length := by omega
        subst ht2
        rw [List.take_of_length_le (by rw [tagsR_length]; exact Nat.le_refl _)] at hown
        obtain ⟨_, ta, tc, hu, d1, d2, RT⟩ := RootsAt.own (tagsR_rts rs M) hown
        obtain ⟨A, hA⟩ : ∃ A, Same (joinR (tagsR rs M)) A := ⟨_, ⟨rfl⟩⟩
        have hAr : Rt A := by rw [← hA.out]; exact joinR_rt (tagsR_rts rs M)
        have HJt := hid (join_any' ta tc (tagsR rs M) wr d1 d2 RT)
        rw [tagsR_length] at HJt hu
        subst hu
        have HV1 := hid (fun wq (h1 : Tabs wq) (h2 : RootsAt wq ai rs) => valid_any ai ci rs M A wq h1 c1 c2 (by omega) h2 hMr hAr)
        have HV2 := hid (fun wq (h1 : Tabs wq) (h2 : RootsAt wq ai rs) => valid_any ai ci rs M sg wq h1 c1 c2 (by omega) h2 hMr hsr)
        rw [hA.out] at HJt HV1 HV2
        rw [decide_eq_true (rfl : A = A), Bool.and_true] at HV1
        have H7r := H78.keep HB
        have H1r := H18.keep HB
        have RIr := RI8.keep HB
        have hTr := hT.keep HWr
        have q1 := fun w => eql_api sg A hsr.len hAr.len hsr.byte hAr.byte w
        clear hA hown RT H58 H78 H18 RI8 d1
        rename_i hle9
        clear hle9
        by_cases h0 : 0 < rs.length
        · rw [decide_eq_true h0] at HV1 HV2
          rw [Bool.true_and] at HV2
          by_cases hs : sg = A
          · rw [decide_eq_true hs] at HV2 q1
            clear hs
            go_wp2_with fail
            refine HJt.out.mono ?_
            rintro e w20 ⟨rfl, B20⟩
            have H7a := H7r.keep B20
            have H1a := H1r.keep B20
            have RIa := RIr.keep B20
            have hTa := hTr.keep B20
            have HWa := below_more HWr B20 (Nat.le_refl _)
            clear H7r H1r RIr hTr B20 HJt
            go_wp2_with (first
              | (refine wpList_alloc_has rfl 15 rfl 24 rfl .u8 32 Tryd.zero24 ?_; intro w21 H21 B21 S21)
              | (refine wpList_store_has rfl 24 (.tmp 15) (.tmp 63) rfl w20.heap.size .u8 A (zeros 32) rfl rfl 24 H21 (hAr.size _ Tryd.size24) (by rw [hAr.len, zeros_length]) ?_; intro w22 H22 O22; have BB22 := below_only B21 O22 (Nat.le_refl _); have H1b := H1a.keep BB22)
              | (refine wpList_load_has rfl 24 (.tmp 10) rfl g10 .u8 M rfl 24 H1b _ _ Tryd.und24 (hMr.size _ Tryd.size24) ?_)
              | (refine wpList_load_has rfl 24 (.tmp 15) rfl w20.heap.size .u8 A rfl 24 H22 _ _ Tryd.und24 (hAr.size _ Tryd.size24) ?_))
            refine (HV1.out w22 (hTa.keep BB22) (RIa.keep BB22)).mono ?_
            rintro e w23 ⟨rfl, B23⟩
            have BB23 := below_more BB22 B23 (Nat.le_refl _)
            have H7c := H7a.keep BB23
            have H1c := H1a.keep BB23
            have RIc := RIa.keep BB23
            have hTc := hTa.keep BB23
            have HWc := below_more HWa BB23 (Nat.le_refl _)
            have HAc := H22.keep B23
            clear H7a H1a RIa hTa HWa H21 B21 S21 H22 O22 BB22 H1b B23 BB23 HV1
            generalize w20.heap.size = g15 at *
            go_wp2_with (first
              | (refine wpList_runW rfl _ (run_load_has (.tmp 10) rfl g10 M rfl 24 H1c hMr) ?_)
              | (refine wpList_runW rfl _ (run_load_has (.tmp 7) rfl (w.heap.size + 1) sg rfl 24 H7c hsr) ?_))
            refine (HV2.out w23 hTc RIc).mono ?_
            rintro e w24 ⟨rfl, B24⟩
            have H7d := H7c.keep B24
            have HAd := HAc.keep B24
            have HWd := below_more HWc B24 (Nat.le_refl _)
            clear H7c H1c RIc hTc HWc HAc B24 HV2
            go_wp2_with (first
              | (refine wpList_runW rfl _ (run_load_has (.tmp 7) rfl (w.heap.size + 1) sg rfl 24 H7d hsr) ?_)
              | (refine wpList_runW rfl _ (run_load_has (.tmp 15) rfl g15 A rfl 24 HAd hAr) ?_))
            go_ret
            exact ⟨rfl, HWd⟩
          · rw [decide_eq_false hs] at HV2 q1
            clear hs
            go_wp2_with fail
            refine HJt.out.mono ?_
            rintro e w20 ⟨rfl, B20⟩
            have H7a := H7r.keep B20
            have H1a := H1r.keep B20
            have RIa := RIr.keep B20
            have hTa := hTr.keep B20
            have HWa := below_more HWr B20 (Nat.le_refl _)
            clear H7r H1r RIr hTr B20 HJt
            go_wp2_with (first
              | (refine wpList_alloc_has rfl 15 rfl 24 rfl .u8 32 Tryd.zero24 ?_; intro w21 H21 B21 S21)
              | (refine wpList_store_has rfl 24 (.tmp 15) (.tmp 63) rfl w20.heap.size .u8 A (zeros 32) rfl rfl 24 H21 (hAr.size _ Tryd.size24) (by rw [hAr.len, zeros_length]) ?_; intro w22 H22 O22; have BB22 := below_only B21 O22 (Nat.le_refl _); have H1b := H1a.keep BB22)
              | (refine wpList_load_has rfl 24 (.tmp 10) rfl g10 .u8 M rfl 24 H1b _ _ Tryd.und24 (hMr.size _ Tryd.size24) ?_)
              | (refine wpList_load_has rfl 24 (.tmp 15) rfl w20.heap.size .u8 A rfl 24 H22 _ _ Tryd.und24 (hAr.size _ Tryd.size24) ?_))
            refine (HV1.out w22 (hTa.keep BB22) (RIa.keep BB22)).mono ?_
            rintro e w23 ⟨rfl, B23⟩
            have BB23 := below_more BB22 B23 (Nat.le_refl _)
            have H7c := H7a.keep BB23
            have H1c := H1a.keep BB23
            have RIc := RIa.keep BB23
            have hTc := hTa.keep BB23
            have HWc := below_more HWa BB23 (Nat.le_refl _)
            have HAc := H22.keep B23
            clear H7a H1a RIa hTa HWa H21 B21 S21 H22 O22 BB22 H1b B23 BB23 HV1
            generalize w20.heap.size = g15 at *
            go_wp2_with (first
              | (refine wpList_runW rfl _ (run_load_has (.tmp 10) rfl g10 M rfl 24 H1c hMr) ?_)
              | (refine wpList_runW rfl _ (run_load_has (.tmp 7) rfl (w.heap.size + 1) sg rfl 24 H7c hsr) ?_))
            refine (HV2.out w23 hTc RIc).mono ?_
            rintro e w24 ⟨rfl, B24⟩
            have H7d := H7c.keep B24
            have HAd := HAc.keep B24
            have HWd := below_more HWc B24 (Nat.le_refl _)
            clear H7c H1c RIc hTc HWc HAc B24 HV2
            go_wp2_with (first
              | (refine wpList_runW rfl _ (run_load_has (.tmp 7) rfl (w.heap.size + 1) sg rfl 24 H7d hsr) ?_)
              | (refine wpList_runW rfl _ (run_load_has (.tmp 15) rfl g15 A rfl 24 HAd hAr) ?_))
            go_ret
            exact ⟨rfl, HWd⟩
        · rw [decide_eq_false h0] at HV1 HV2
          rw [Bool.false_and] at HV2
          clear q1
          go_wp2_with fail
          refine HJt.out.mono ?_
          rintro e w20 ⟨rfl, B20⟩
          have H7a := H7r.keep B20
          have H1a := H1r.keep B20
          have RIa := RIr.keep B20
          have hTa := hTr.keep B20
          have HWa := below_more HWr B20 (Nat.le_refl _)
          clear H7r H1r RIr hTr B20 HJt
          go_wp2_with (first
            | (refine wpList_alloc_has rfl 15 rfl 24 rfl .u8 32 Tryd.zero24 ?_; intro w21 H21 B21 S21)
            | (refine wpList_store_has rfl 24 (.tmp 15) (.tmp 63) rfl w20.heap.size .u8 A (zeros 32) rfl rfl 24 H21 (hAr.size _ Tryd.size24) (by rw [hAr.len, zeros_length]) ?_; intro w22 H22 O22; have BB22 := below_only B21 O22 (Nat.le_refl _); have H1b := H1a.keep BB22)
            | (refine wpList_load_has rfl 24 (.tmp 10) rfl g10 .u8 M rfl 24 H1b _ _ Tryd.und24 (hMr.size _ Tryd.size24) ?_)
            | (refine wpList_load_has rfl 24 (.tmp 15) rfl w20.heap.size .u8 A rfl 24 H22 _ _ Tryd.und24 (hAr.size _ Tryd.size24) ?_))
          refine (HV1.out w22 (hTa.keep BB22) (RIa.keep BB22)).mono ?_
          rintro e w23 ⟨rfl, B23⟩
          have BB23 := below_more BB22 B23 (Nat.le_refl _)
          have H7c := H7a.keep BB23
          have H1c := H1a.keep BB23
          have RIc := RIa.keep BB23
          have hTc := hTa.keep BB23
          have HWc := below_more HWa BB23 (Nat.le_refl _)
          have HAc := H22.keep B23
          clear H7a H1a RIa hTa HWa H21 B21 S21 H22 O22 BB22 H1b B23 BB23 HV1
          generalize w20.heap.size = g15 at *
          go_wp2_with (first
            | (refine wpList_runW rfl _ (run_load_has (.tmp 10) rfl g10 M rfl 24 H1c hMr) ?_)
            | (refine wpList_runW rfl _ (run_load_has (.tmp 7) rfl (w.heap.size + 1) sg rfl 24 H7c hsr) ?_))
          refine (HV2.out w23 hTc RIc).mono ?_
          rintro e w24 ⟨rfl, B24⟩
          have H7d := H7c.keep B24
          have HAd := HAc.keep B24
          have HWd := below_more HWc B24 (Nat.le_refl _)
          clear H7c H1c RIc hTc HWc HAc B24 HV2
          go_wp2_with fail
          go_ret
          exact ⟨rfl, HWd⟩
end Go.Proofs.YtdaejfkdopoooaaDoor
