/- Own texts of the proof, joined: VIDeposit VIExit VISignedExit DocF BdC VIEth. -/
import Derived.Test.YtbmcmabimfoknaaGreatDoorH8
/- The document's value of a Deposit, and where it lies. -/
namespace Go.Proofs.YtbmcmabimfoknaaGreatDoor
open Go.RowKit Go.Shelf
set_option linter.unusedVariables false
set_option linter.unusedSimpArgs false
set_option maxRecDepth 100000

/-- The cells of roots as values. -/
def rowR (rs : List (List Nat)) : List Value := (rs.map fun r => valL 0 r nilS nilS).flatten
def vecV (rs : List (List Nat)) : Vt := .mk 0 (zeros 32) [] (rs.map fun r => .mk 0 r [] [])
theorem rowV_vec (rs : List (List Nat)) : (rowV (rs.map fun r => (Vt.mk 0 r [] [], nilS, nilS))).flatten = rowR rs := by
  induction rs with
  | nil => rfl
  | cons n ns ih => rw [List.map_cons, rowV, List.flatten_cons, ih]; rfl
theorem vAt_vec {w : World} {base : Nat} {u : Value} {rs : List (List Nat)} (h : w.ownsRow base 43 35 u rs.length (rowR rs)) (hr : Rts rs) : VAt w (vecV rs) nilS u := by
  rw [vecV, VAt]
  refine ⟨⟨by decide, zeros32, zeros_byte 32⟩, isT_nil w, ?_⟩
  rcases h.2 with ⟨rfl, h0⟩ | ⟨g, cap, cur, rfl, hb, hg, hnc, hm, hcs, htk⟩
  · have hz : rs = [] := List.eq_nil_of_length_eq_zero h0
    subst hz
    exact ⟨none, 0, rfl, Nat.le_refl _, by decide, .inl rfl⟩
  · refine ⟨some ⟨g, 0, none⟩, cap, by rw [List.length_map], by rw [List.length_map]; exact hnc, hm, .inr ⟨g, 0, rfl, ?_⟩⟩
    have hC : HasC w g 43 cur.toList := by unfold HasC; rw [Array.toArray_toList]; exact hg
    have hk := ksAt_of hC (rs.map fun r => (Vt.mk 0 r [] [], nilS, nilS)) 0 (fun j v hj => by
      rw [rowV_vec, ← htk] at hj
      rw [Nat.zero_add]
      rw [List.getElem?_take] at hj
      split at hj
      · exact hj
      · cases hj) (fun x hx => by
      obtain ⟨n, hn, rfl⟩ := List.mem_map.1 hx
      exact vAt_leaf w (by decide) (hr.len n hn) (hr.byte n hn))
    rw [List.map_map] at hk
    exact hk
theorem vIn_vec {P : Nat → Prop} {w : World} {base : Nat} {u : Value} {rs : List (List Nat)} (h : w.ownsRow base 43 35 u rs.length (rowR rs)) (hr : Rts rs) (hp : ∀ b, base ≤ b → P b) : VIn P w (vecV rs) nilS u := fun w' ha => vAt_vec (own_agr h ha hp) hr
theorem val_srcR {w : World} {b : Nat} {x : List Nat} (h : HasC w b 43 (valL 0 x nilS nilS)) (hx : x.length = 32) : Src Tryz.prog 35 41 (.slice (some ⟨b, 0, none⟩) 1 1) 1 (valL 0 x nilS nilS) w := by
  refine Src.ofSlice w Tryz.underlying41 ⟨b, 0, none⟩ 1 1 _ (by rw [valL_length _ _ _ _ hx]) (fun j u hj => by rw [Addr.add_lit, Nat.zero_add]; exact h.cell hj) (fun u hu => ?_)
  have := valL_oneC 0 x nilS nilS trivial trivial
  exact (Array.all_eq_true_iff_forall_mem.1 this) u (by simpa using hu)
theorem rowR_succ (rs : List (List Nat)) (t : Nat) (h : t < rs.length) : rowR (rs.take t) ++ valL 0 (rs.getD t []) nilS nilS = rowR (rs.take (t + 1)) := by
  unfold rowR
  rw [List.take_add_one, List.getElem?_eq_getElem h, List.getD_eq_getElem?_getD, List.getElem?_eq_getElem h]
  show _ = (List.map (fun r => valL 0 r nilS nilS) (rs.take t ++ [rs[t]])).flatten
  rw [List.map_append, List.flatten_append]
  simp only [List.map_cons, List.map_nil, List.flatten_cons, List.flatten_nil, List.append_nil]
  rfl
theorem run_at6 {o : Oper} {a : Act} {w : World} (x y : Operand) (ho : o.op = .indexAddr 81 x y) (g i : Nat) (hx : a.eval x = .pointer (some ⟨g, 0, none⟩)) (hy : a.eval y = .int .i64 (i : Int)) (hi : i < 6) : (execOp a.eval o).run Tryz.prog w = .ok (.value (.pointer (some ⟨g, i * 32, none⟩))) w := by
  have hl : ¬ (6 : Int) ≤ (i : Int) := by omega
  unfold execOp
  simp only [ho, hx, hy]
  go_simp
theorem dp_range (zp : List (List Nat)) (zdzk : List Nat) (zdzcr : List Nat) (zdzam : Nat) (zdzsg : List Nat) (t : Nat) (x : List Nat) (hlt : t < 6) (hzp : Rts zp) (hzpl : zp.length = 6) (hx : Same (zp.getD t []) x) {w : World} {g : Nat} {ty : TypeId} (h : HasC w g ty (dpC zp zdzk zdzcr zdzam zdzsg)) : w.rangeAt g (t * 32) (cellsB x) := by
  have h1 := (dp_roots zp zdzk zdzcr zdzam zdzsg hzp h).range t (by omega)
  rw [hx.out, Nat.zero_add, Nat.mul_comm] at h1
  exact h1
def dpU (zp : List (List Nat)) (zdzk : List Nat) (zdzcr : List Nat) (zdzam : Nat) (zdzsg : List Nat) : Vt := .mk 0 (zeros 32) [] [vecV zp, ddU zdzk zdzcr zdzam zdzsg]
set_option maxHeartbeats 2000000 in
theorem dpW_any (P : Nat → Prop) (zp : List (List Nat)) (zdzk : List Nat) (zdzcr : List Nat) (zdzam : Nat) (zdzsg : List Nat) (hzp : Rts zp) (hzpl : zp.length = 6) (hzdzk : Rt zdzk) (hzdzcr : Rt zdzcr) (hzdzam : zdzam < 18446744073709551616) (hzdzsg : Rt zdzsg) (w : World) (hP : ∀ b, w.heap.size ≤ b → P b) : Calls Tryz.prog 51 #[.agg (dpC zp zdzk zdzcr zdzam zdzsg).toArray] w fun x w' => ∃ v, x = .returned v ∧ IsVI P w' v (dpU zp zdzk zdzcr zdzam zdzsg) ∧ Below w.heap.size w w' := by
  obtain ⟨P1, hP1⟩ : ∃ P1 : Nat → Prop, Same (fun b => P b ∧ b ≠ w.heap.size + 1) P1 := ⟨_, ⟨rfl⟩⟩
  have HP0 := hid (fun b (hb : w.heap.size + 3 ≤ b) => show P1 b by rw [← hP1.out]; exact ⟨hP b (by omega), by omega⟩)
  go_enter Tryz.func51, Tryz.ntmps51
  go_wp2_with ((with_reducible refine at_list' ?_); first
    | (refine wpList_box_c rfl 1 rfl (.tmp 0) rfl (dpC zp zdzk zdzcr zdzam zdzsg) rfl ?_; intro w0 H0 B0 S0)
    | (refine wpList_alloc_c Tryz.ty43 rfl 2 rfl rfl ?_; intro w1 H1 B1 S1; rw [S0] at H1 S1; simp only [S0])
    | (refine wpList_build_c rfl _ rfl #[] (by simp) _ (build_none _) ?_)
    | (refine wpList_alloc_c Tryz.ty43 rfl 3 rfl rfl ?_; intro w2 H2 B2 S2; rw [S1] at H2 S2; simp only [S1])
    | (refine wpList_store_c Tryz.ty43 rfl (.tmp 3) (.tmp 5) rfl (w.heap.size + 1 + 1) (valL 0 (zeros 32) nilS nilS) rfl rfl rfl (valL_oneC _ _ _ _ trivial trivial) _ H2 rfl ?_; intro w3 H3 O3))
  have L3 := below_only (below_more (below_more B0 B1 (Nat.le_refl _)) B2 (Nat.le_refl _)) O3 (by omega)
  have X3 := hid (And.intro H3 (And.intro ((H1.keep B2).only O3 (by omega)) (And.intro (((H0.keep B1).keep B2).only O3 (by omega)) L3)))
  clear H0 B0 S0 H1 B1 S1 H2 B2 S2 H3 O3 L3
  go_loopw [4] (fun i wr => ∃ (t : Nat) (u : Value), t ≤ 6 ∧ i = .int .i64 t ∧ HasC wr (w.heap.size + 2) 43 (valL 0 (zeros 32) nilS u) ∧ wr.ownsRow (w.heap.size + 3) 43 35 u t (rowR (zp.take t)) ∧ HasC wr (w.heap.size + 1) 43 (valL 0 (zeros 32) nilS nilS) ∧ HasC wr w.heap.size 85 (dpC zp zdzk zdzcr zdzam zdzsg) ∧ Below w.heap.size w wr) (fun i _ => 6 - (intOf i).toNat)
  case atStart => exact ⟨0, nilS, Nat.zero_le _, rfl, X3.out.1, World.ownsRow_nil _ _ _ _, X3.out.2.1, X3.out.2.2.1, X3.out.2.2.2⟩
  case round =>
    clear X3
    obtain ⟨t, u, ht, rfl, hX, hown, hA, hZ, hW⟩ := hrel
    have hxl := hX.lt
    have hwl := hW.size
    have hol := fun g hg => (own_lt hown g hg)
    by_cases hlt : t < 6
    · have hsu := rowR_succ zp t (by omega)
      have hxr := hzp.rt t (by omega)
      obtain ⟨x, hxq⟩ : ∃ x, Same (zp.getD t []) x := ⟨_, ⟨rfl⟩⟩
      rw [hxq.out] at hsu hxr
      have HF := hid (And.intro hX (And.intro (fun e => by have := (hol _ e).1; omega : u.ownBlock ≠ some (w.heap.size + 2)) (And.intro hZ (And.intro (fun e => by have := (hol _ e).1; omega : u.ownBlock ≠ some w.heap.size) (And.intro (fun g hg => (hol g hg).2 : ∀ g, u.ownBlock = some g → g < wr.heap.size) (And.intro hown (show w.heap.size + 3 ≤ wr.heap.size by omega)))))))
      have HO := hid (And.intro hA (And.intro hW (And.intro hsu (fun g hg => (hol g hg).1 : ∀ g, u.ownBlock = some g → w.heap.size + 3 ≤ g))))
      clear hsu hX hown hA hW hol hZ
      go_wp2_with fail
      try simp only [Act.put, List.setIfInBounds_toArray, List.set_cons_succ, List.set_cons_zero]
      refine wp_region_flowR (AppR u (w.heap.size + 3) t (rowR (zp.take t)) (rowR (zp.take t) ++ (valL 0 x nilS nilS))) 10 10 (fun i v wq => match i with
        | 0 => v = .pointer (some ⟨w.heap.size + 2, 34, none⟩)
        | 1 => v = u
        | 2 => v = .int .i64 (t : Nat)
        | 3 => v = .pointer (some ⟨w.heap.size, 0, none⟩)
        | 4 => v = .pointer (some ⟨w.heap.size, t * 32, none⟩)
        | 5 => v = .agg (nums .u8 x)
        | 6 => v = .agg (valL 0 x nilS nilS).toArray
        | 7 => ∃ b, wr.heap.size ≤ b ∧ v = .slice (some ⟨b, 0, none⟩) 1 1 ∧ HasC wq b 43 (valL 0 x nilS nilS)
        | 8 => wq.ownsRow (w.heap.size + 3) 43 35 v (t + 1) (rowR (zp.take t) ++ (valL 0 x nilS nilS))
        | _ => v = .pointer (some ⟨w.heap.size + 2, 34, none⟩)) (by kernel_rfl) (by kernel_rfl) (AppR.refl) (fun _ _ _ h k => h.trans k) (AppR.drew) (fun _ d _ _ _ h => by cases d <;> exact h) ?_ ?_ ?_ ?_ ?_
      · intro i o g b hi ho hg v wq hv
        match i, hi with
        | 0, _ => cases ho; cases hg
        | 1, _ => cases ho; cases hg
        | 2, _ => cases ho; cases hg
        | 3, _ => cases ho; cases hg
        | 4, _ => cases ho; cases hg
        | 5, _ => cases ho; cases hg
        | 6, _ => cases ho; cases hg
        | 7, _ => cases ho; cases hg
        | 8, _ => cases ho; cases hg
        | 9, _ => cases ho; cases hg
        | (k + 10), hk => exact absurd hk (by omega)
      · intro i v wq wq' hi hv hb
        match i, hi with
        | 0, _ => exact hv
        | 1, _ => exact hv
        | 2, _ => exact hv
        | 3, _ => exact hv
        | 4, _ => exact hv
        | 5, _ => exact hv
        | 6, _ => exact hv
        | 7, _ => obtain ⟨b, h1, h2, h3⟩ := hv; exact ⟨b, h1, h2, h3.grownO hb.grown (fun e => by have := HF.out.2.2.2.2.1 _ e; omega)⟩
        | 8, _ => exact hb.new _ hv
        | 9, _ => exact hv
        | (k + 10), hk => exact absurd hk (by omega)
      · intro i o hi ho aq wq hc hk hdep
        match i, hi with
        | 0, _ =>
          cases ho
          refine flowR_of (fun w' h => AppR.of_below h) ?_
          have e1 : aq.tmps.getD 3 undef = .pointer (some ⟨w.heap.size + 2, 0, none⟩) := hk 3 (by decide)
          exact flow_value _ (run_fieldAt 43 (.tmp 3) 3 rfl _ _ e1 (by kernel_rfl)) rfl
        | 1, _ =>
          cases ho
          refine flowR_of (fun w' h => AppR.of_below h) ?_
          have e0 : aq.tmps.getD 10 undef = .pointer (some ⟨w.heap.size + 2, 34, none⟩) := hdep 0 10 rfl (by kernel_rfl)
          exact flow_value _ (run_cell 41 (.tmp 10) rfl _ e0 _ ((HF.out.1.grownO hc.grown HF.out.2.1).cell (valL_34 0 (zeros 32) nilS u zeros32)) _ Tryz.underlying41 rfl) rfl
        | 2, _ =>
          cases ho
          refine flowR_of (fun w' h => AppR.of_below h) ?_
          exact flow_move (.tmp 4) rfl (hk 4 (by decide))
        | 3, _ =>
          cases ho
          refine flowR_of (fun w' h => AppR.of_below h) ?_
          have e1 : aq.tmps.getD 1 undef = .pointer (some ⟨w.heap.size, 0, none⟩) := hk 1 (by decide)
          exact flow_value _ (run_fieldAt 85 (.tmp 1) 0 rfl _ _ e1 (by kernel_rfl)) rfl
        | 4, _ =>
          cases ho
          refine flowR_of (fun w' h => AppR.of_below h) ?_
          have e0 : aq.tmps.getD 13 undef = .pointer (some ⟨w.heap.size, 0, none⟩) := hdep 3 13 rfl (by kernel_rfl)
          have e1 : aq.tmps.getD 12 undef = .int .i64 (t : Nat) := hdep 2 12 rfl (by kernel_rfl)
          exact flow_value _ (run_at6 (.tmp 13) (.tmp 12) rfl w.heap.size t e0 e1 hlt) rfl
        | 5, _ =>
          cases ho
          refine flowR_of (fun w' h => AppR.of_below h) ?_
          have e0 : aq.tmps.getD 14 undef = .pointer (some ⟨w.heap.size, t * 32, none⟩) := hdep 4 14 rfl (by kernel_rfl)
          exact flow_value _ (run_mid 23 (.tmp 14) rfl w.heap.size (t * 32) e0 (cellsB x) (dp_range zp zdzk zdzcr zdzam zdzsg t x hlt hzp hzpl hxq ((HF.out.2.2.1).grownO hc.grown HF.out.2.2.2.1)) _ Tryz.und23 rfl (by rw [cellsB_length, hxr.len]; exact Tryz.size23)) rfl
        | 6, _ =>
          cases ho
          refine flowR_of (fun w' h => AppR.of_below h) ?_
          have e0 : aq.tmps.getD 15 undef = .agg (nums .u8 x) := hdep 5 15 rfl (by kernel_rfl)
          refine flow_fun 54 _ _ rfl (fun _ _ => by simp [go_sem]) #[.agg (nums .u8 x)] (by rw [show (#[Operand.tmp 15] : Array Operand).map aq.eval = #[aq.tmps.getD 15 undef] from by simp [Act.eval], e0]) ?_
          refine (r_any x hxr.len wq).mono ?_
          rintro e w' ⟨rfl, q⟩
          exact ⟨_, rfl, rfl, q⟩
        | 7, _ =>
          cases ho
          refine flowR_of (fun w' h => AppR.of_below h) ?_
          have e0 : aq.tmps.getD 16 undef = .agg (valL 0 x nilS nilS).toArray := hdep 6 16 rfl (by kernel_rfl)
          refine flow_rowsB 41 43 1 35 _ rfl Tryz.underlying41 valInfo [(valL 0 x nilS nilS)] [.tmp 16] rfl (by rw [show [Operand.tmp 16].map aq.eval = [aq.tmps.getD 16 undef] from rfl, e0]; rfl) (by simp [valL_length, hxr.len]) rfl (by decide) (by decide) (by decide) (fun w' h hb => ⟨wq.heap.size, hc.grown.size, rfl, (by simpa using h)⟩)
        | 8, _ =>
          cases ho
          obtain ⟨b, h1, e1, h3⟩ := hdep 7 17 rfl (by kernel_rfl)
          have e0 : aq.tmps.getD 11 undef = u := hdep 1 11 rfl (by kernel_rfl)
          obtain ⟨i0, hi, hz0, hz1, hz2⟩ := info_parts valInfo3
          obtain ⟨v2, w2, hrun, hown2, hg2, hmv, hk1, hk2⟩ := run_append_kept (P := Tryz.prog) wq (w.heap.size + 3) 41 41 41 43 i0 _ 35 _ Tryz.underlying41 hi hz0 hz1 hz2 rfl (by decide) u t _ (hc.old HF.out.2.2.2.2.2.1) (.slice (some ⟨b, 0, none⟩) 1 1) 1 (valL 0 x nilS nilS) (val_srcR h3 hxr.len) (by unfold maxLen; omega) (by omega) (by have := hc.grown.size; have := HF.out.2.2.2.2.2.2; omega)
          exact wp_runW (run_call_append (.tmp 11) (.tmp 17) 41 41 rfl u (.slice (some ⟨b, 0, none⟩) 1 1) v2 e0 e1 hrun) ⟨v2, rfl, hown2, ⟨hg2, fun _ => hk1, hk2⟩⟩
        | 9, _ =>
          cases ho
          refine flowR_of (fun w' h => AppR.of_below h) ?_
          have e1 : aq.tmps.getD 3 undef = .pointer (some ⟨w.heap.size + 2, 0, none⟩) := hk 3 (by decide)
          exact flow_value _ (run_fieldAt 43 (.tmp 3) 3 rfl _ _ e1 (by kernel_rfl)) rfl
        | (k + 10), hk => exact absurd hk (by omega)
      · intro o h10 ho
        omega
      intro vf w8 hc hv hv2
      have e9 : vf 9 = _ := hv 9 19 (by decide) rfl
      have h8 : w8.ownsRow (w.heap.size + 3) 43 35 (vf 8) (t + 1) _ := hv 8 18 (by decide) rfl
      obtain ⟨g1, cap1, e8⟩ := ownsRow_succ h8
      rw [e8, HO.out.2.2.1] at h8
      have hX8 := HF.out.1.grownO hc.grown HF.out.2.1
      have hA8 := HO.out.1.grownO hc.grown (fun e => by have := HO.out.2.2.2 _ e; omega)
      have hZ8 := HF.out.2.2.1.grownO hc.grown HF.out.2.2.2.1
      have L8 := HO.out.2.1.grown hc.grown hwl (fun k hk => by have := HO.out.2.2.2 _ hk; omega)
      clear hv hv2 hc
      simp only [List.take_succ_cons, List.take_zero, List.drop_succ_cons, List.drop_zero, putAll, Act.put, List.setIfInBounds_toArray, List.set_cons_succ, List.set_cons_zero]
      rw [e8, e9]
      have c34 := hX8.cell (valL_34 0 (zeros 32) nilS u zeros32)
      have f34 := frozen_of_row w8 (w.heap.size + 2) 34 _ _ hX8
      have Y8 := hid (And.intro h8 (And.intro hX8 (And.intro hA8 (And.intro hZ8 L8))))
      clear e8 e9 h8 hX8 hA8 L8 hZ8
      go_wp2_with fail
      have hO := Only.setCell w8 (w.heap.size + 2) 34 (.slice (some ⟨g1, 0, none⟩) (t + 1) cap1)
      have hX9 := Y8.out.2.1.setCell 34 (.slice (some ⟨g1, 0, none⟩) (t + 1) cap1)
      rw [valL_set34] at hX9
      have hg1 := (own_lt Y8.out.1 g1 rfl).1
      refine ⟨⟨t + 1, _, by omega, by go_num, hX9, own_only Y8.out.1 hO (fun _ => by simp [Value.ownBlock]; omega) (by simp [Value.ownBlock]; omega), Y8.out.2.2.1.only hO (by omega), Y8.out.2.2.2.1.only hO (by omega), below_only Y8.out.2.2.2.2 hO (by omega)⟩, by simp [intOf]; omega⟩
    · have ht2 : t = 6 := by omega
      subst ht2
      rw [List.take_of_length_le (by omega), ← hzpl] at hown
      have husl : isSl u := by
        rcases hown.2 with ⟨rfl, _⟩ | ⟨g, cap, cur, rfl, _⟩ <;> trivial
      have HO := hid (And.intro hX (And.intro hown (And.intro hA (And.intro hZ hW))))
      have HP1 := hid (fun (wq : World) (h : wr.heap.size ≤ wq.heap.size) b (hb : wq.heap.size ≤ b) => HP0.out b (by omega))
      clear hX hown hA hW hol hZ
      go_wp2_with fail
      try simp only [Act.put, List.setIfInBounds_toArray, List.set_cons_succ, List.set_cons_zero]
      refine wp_region_flow 6 6 (fun i v wq => match i with
        | 0 => v = .agg (valL 0 (zeros 32) nilS u).toArray
        | 1 => v = .pointer (some ⟨w.heap.size, 192, none⟩)
        | 2 => v = .agg (ddC zdzk zdzcr zdzam zdzsg).toArray
        | 3 => IsVI P1 wq v (ddU zdzk zdzcr zdzam zdzsg)
        | 4 => ∃ b, v = .slice (some ⟨b, 0, none⟩) 2 2 ∧ KIn P1 wq [vecV zp, ddU zdzk zdzcr zdzam zdzsg] b 0
        | _ => ∃ b, v = .agg (valL 0 (zeros 32) nilS (.slice (some ⟨b, 0, none⟩) 2 2)).toArray ∧ KIn P1 wq [vecV zp, ddU zdzk zdzcr zdzam zdzsg] b 0) (by kernel_rfl) (by kernel_rfl) (fun _ d _ _ _ h => by cases d <;> exact h) ?_ ?_ ?_ ?_
      · intro i v wq wq' hi hv hb
        match i, hi with
        | 0, _ => exact hv
        | 1, _ => exact hv
        | 2, _ => exact hv
        | 3, _ => exact hv.keep hb
        | 4, _ => obtain ⟨b, h1, h2⟩ := hv; exact ⟨b, h1, h2.keep hb⟩
        | 5, _ => obtain ⟨b, h1, h2⟩ := hv; exact ⟨b, h1, h2.keep hb⟩
        | (k + 6), hk => exact absurd hk (by omega)
      · intro i o hi ho aq wq hc hk hdep
        match i, hi with
        | 0, _ =>
          cases ho
          have e1 : aq.tmps.getD 3 undef = .pointer (some ⟨w.heap.size + 2, 0, none⟩) := hk 3 (by decide)
          exact flow_value _ (run_mid 43 (.tmp 3) rfl (w.heap.size + 2) 0 e1 (valL 0 (zeros 32) nilS u) ((HO.out.1.keep (hcB hc)).range 0 (valL 0 (zeros 32) nilS u) (fun j v hv => by rw [Nat.zero_add]; exact hv)) _ Tryz.underlying43 rfl (by rw [valL_length _ _ _ _ zeros32]; kernel_rfl)) rfl
        | 1, _ =>
          cases ho
          have e1 : aq.tmps.getD 1 undef = .pointer (some ⟨w.heap.size, 0, none⟩) := hk 1 (by decide)
          exact flow_value _ (run_fieldAt 85 (.tmp 1) 1 rfl _ _ e1 (by kernel_rfl)) rfl
        | 2, _ =>
          cases ho
          have e0 : aq.tmps.getD 21 undef = .pointer (some ⟨w.heap.size, 192, none⟩) := hdep 1 21 rfl (by kernel_rfl)
          exact flow_value _ (run_mid 83 (.tmp 21) rfl w.heap.size 192 e0 (ddC zdzk zdzcr zdzam zdzsg) ((HO.out.2.2.2.1.keep (hcB hc)).range 192 (ddC zdzk zdzcr zdzam zdzsg) (seg (ps := dpP zp zdzk zdzcr zdzam zdzsg) (i := 1) (off := 192) rfl (by simp [dpP, cellsOf_length zp hzp, hzpl]))) _ Tryz.underlying83 rfl (by rw [ddC_length zdzk zdzcr zdzam zdzsg hzdzk.len hzdzcr.len hzdzsg.len]; kernel_rfl)) rfl
        | 3, _ =>
          cases ho
          have e0 : aq.tmps.getD 22 undef = .agg (ddC zdzk zdzcr zdzam zdzsg).toArray := hdep 2 22 rfl (by kernel_rfl)
          refine flow_fun 86 _ _ rfl (fun _ _ => by simp [go_sem]) #[.agg (ddC zdzk zdzcr zdzam zdzsg).toArray] (by rw [show (#[Operand.tmp 22] : Array Operand).map aq.eval = #[aq.tmps.getD 22 undef] from by simp [Act.eval], e0]) ?_
          refine (ddW_any P1 zdzk zdzcr zdzam zdzsg hzdzk hzdzcr hzdzam hzdzsg wq (HP1.out wq (hcB hc).size)).mono ?_
          rintro x w' ⟨v, rfl, h1, q⟩
          exact ⟨v, rfl, h1, q⟩
        | 4, _ =>
          cases ho
          have e0 : aq.tmps.getD 20 undef = .agg (valL 0 (zeros 32) nilS u).toArray := hdep 0 20 rfl (by kernel_rfl)
          obtain ⟨sb1, sk1, e1, h1_⟩ := hdep 3 23 rfl (by kernel_rfl)
          have h0_ : VIn P1 wq (vecV zp) nilS u := vIn_vec (own_keep HO.out.2.1 (hcB hc)) hzp (fun b hb => HP0.out b hb)
          refine flow_rowsB 41 43 2 35 _ rfl Tryz.underlying41 valInfo [(valL 0 (zeros 32) nilS u), valL 0 (zeros 32) sb1 sk1] [.tmp 20, .tmp 23] rfl (by rw [show [Operand.tmp 20, Operand.tmp 23].map aq.eval = [aq.tmps.getD 20 undef, aq.tmps.getD 23 undef] from rfl, e0, e1]; rfl) (by simp [valL_length, zeros32]) rfl (by decide) (by decide) (by decide) (fun w' h hb => ⟨_, rfl, kIn_of h hb (HP1.out wq (hcB hc).size _ (Nat.le_refl _)) [(vecV zp, nilS, u), (ddU zdzk zdzcr zdzam zdzsg, sb1, sk1)] (fun j v hj => by rw [Nat.zero_add]; exact hj) (fun x hx => ?_)⟩)
          simp only [List.mem_cons, List.not_mem_nil, or_false] at hx
          rcases hx with rfl | rfl
          · exact h0_
          · exact h1_
        | 5, _ =>
          cases ho
          obtain ⟨b, e6, h6⟩ := hdep 4 24 rfl (by kernel_rfl)
          refine flow_fun 53 _ _ rfl (fun _ _ => by simp [go_sem]) #[.slice (some ⟨b, 0, none⟩) 2 2] (by rw [show (#[Operand.tmp 24] : Array Operand).map aq.eval = #[aq.tmps.getD 24 undef] from by simp [Act.eval], e6]) ?_
          refine (all_any (some ⟨b, 0, none⟩) 2 2 wq).mono ?_
          rintro x w' ⟨rfl, q⟩
          exact ⟨_, rfl, ⟨b, rfl, h6.keep q⟩, q⟩
        | (k + 6), hk => exact absurd hk (by omega)
      · intro o h6 ho
        omega
      intro vf w8 hc hv
      have e7 : ∃ b, vf 5 = _ ∧ KIn P1 w8 _ b 0 := hv 5 25 (by decide) rfl
      obtain ⟨b, e7, h7⟩ := e7
      have B8 := HO.out.2.2.2.2.trans ((hcB hc).mono (by omega))
      have H8v := HO.out.2.2.1.keep (hcB hc)
      have s8 := (hcB hc).size
      clear hv hc
      simp only [List.take_succ_cons, List.take_zero, List.drop_succ_cons, List.drop_zero, putAll, Act.put, List.setIfInBounds_toArray, List.set_cons_succ, List.set_cons_zero]
      rw [e7]
      have HB8 := hid B8
      have HK := hid h7
      clear B8 h7 e7 HO
      go_wp2_with ((with_reducible refine at_list' ?_); first
        | (refine wpList_store_c Tryz.ty43 rfl (.tmp 2) (.tmp 25) rfl (w.heap.size + 1) (valL 0 (zeros 32) nilS (.slice (some ⟨b, 0, none⟩) 2 2)) rfl rfl rfl (valL_oneC _ _ _ _ trivial trivial) _ H8v rfl ?_; intro w9 H9 O9))
      refine bodyPost_ret (results_c1 Tryz.ty43 rfl _ w9 (w.heap.size + 1) _ rfl H9 rfl) rfl ⟨_, rfl, ⟨nilS, _, rfl, ?_⟩, below_only HB8.out O9 (by omega)⟩
      have hk := HK.out
      rw [← hP1.out] at hk
      exact vIn_all (ks := [vecV zp, ddU zdzk zdzcr zdzam zdzsg]) rfl (by decide) (hk.only O9)
end Go.Proofs.YtbmcmabimfoknaaGreatDoor

/- The document's value of a struct (Exit), and where it lies. -/
namespace Go.Proofs.YtbmcmabimfoknaaGreatDoor
open Go.RowKit Go.Shelf
set_option linter.unusedVariables false
set_option linter.unusedSimpArgs false
set_option maxRecDepth 100000

def exU (ze : Nat) (zi : Nat) : Vt := .mk 0 (zeros 32) [] [.mk ze (zeros 32) [] [], .mk zi (zeros 32) [] []]
set_option maxHeartbeats 2000000 in
theorem exW_any (P : Nat → Prop) (ze : Nat) (zi : Nat) (hze : ze < 18446744073709551616) (hzi : zi < 18446744073709551616) (w : World) (hP : ∀ b, w.heap.size ≤ b → P b) : Calls Tryz.prog 87 #[.agg (exC ze zi).toArray] w fun x w' => ∃ v, x = .returned v ∧ IsVI P w' v (exU ze zi) ∧ Below w.heap.size w w' := by
  go_enter Tryz.func87, Tryz.ntmps87
  go_wp2_with ((with_reducible refine at_list' ?_); first
    | (refine wpList_box_c rfl 1 rfl (.tmp 0) rfl (exC ze zi) rfl ?_; intro w1 H1 B1 S1)
    | (refine wpList_alloc_c Tryz.ty43 rfl 2 rfl rfl ?_; intro w2 H2 B2 S2; rw [S1] at H2 S2; rw [S1]))
  have HX := hid (H1.keep B2)
  have HY := hid H2
  have HB := hid (B1.trans (B2.mono (by omega)))
  have s2 : w2.heap.size = w.heap.size + 2 := by omega
  obtain ⟨P1, hP1⟩ : ∃ P1 : Nat → Prop, Same (fun b => P b ∧ b ≠ w.heap.size + 1) P1 := ⟨_, ⟨rfl⟩⟩
  have HP1 := hid (fun (wq : World) (h : w2.heap.size ≤ wq.heap.size) b (hb : wq.heap.size ≤ b) => show P1 b by rw [← hP1.out]; exact ⟨hP b (by omega), by omega⟩)
  clear H1 B1 S1 H2 B2 S2
  try simp only [Act.put, List.setIfInBounds_toArray, List.set_cons_succ, List.set_cons_zero]
  refine wp_region_flow 8 8 (fun i v wq => match i with
    | 0 => v = .pointer (some ⟨w.heap.size, 0, none⟩)
    | 1 => v = .int .u64 (ze : Nat)
    | 2 => IsVI P1 wq v (.mk ze (zeros 32) [] [])
    | 3 => v = .pointer (some ⟨w.heap.size, 1, none⟩)
    | 4 => v = .int .u64 (zi : Nat)
    | 5 => IsVI P1 wq v (.mk zi (zeros 32) [] [])
    | 6 => ∃ b, v = .slice (some ⟨b, 0, none⟩) 2 2 ∧ KIn P1 wq [.mk ze (zeros 32) [] [], .mk zi (zeros 32) [] []] b 0
    | _ => ∃ b, v = .agg (valL 0 (zeros 32) nilS (.slice (some ⟨b, 0, none⟩) 2 2)).toArray ∧ KIn P1 wq [.mk ze (zeros 32) [] [], .mk zi (zeros 32) [] []] b 0) (by kernel_rfl) (by kernel_rfl) (fun _ d _ _ _ h => by cases d <;> exact h) ?_ ?_ ?_ ?_
  · intro i v wq wq' hi hv hb
    match i, hi with
    | 0, _ => exact hv
    | 1, _ => exact hv
    | 2, _ => exact hv.keep hb
    | 3, _ => exact hv
    | 4, _ => exact hv
    | 5, _ => exact hv.keep hb
    | 6, _ => obtain ⟨b, h1, h2⟩ := hv; exact ⟨b, h1, h2.keep hb⟩
    | 7, _ => obtain ⟨b, h1, h2⟩ := hv; exact ⟨b, h1, h2.keep hb⟩
    | (k + 8), hk => exact absurd hk (by omega)
  · intro i o hi ho aq wq hc hk hdep
    match i, hi with
    | 0, _ =>
      cases ho
      have e1 : aq.tmps.getD 1 undef = .pointer (some ⟨w.heap.size, 0, none⟩) := hk 1 (by decide)
      exact flow_value _ (run_fieldAt 89 (.tmp 1) 0 rfl _ _ e1 (by kernel_rfl)) rfl
    | 1, _ =>
      cases ho
      have e0 : aq.tmps.getD 3 undef = .pointer (some ⟨w.heap.size, 0, none⟩) := hdep 0 3 rfl (by kernel_rfl)
      exact flow_value _ (run_cell 24 (.tmp 3) rfl _ e0 _ ((HX.out.keep (hcB hc)).cell (seg (ps := exP ze zi) (i := 0) (off := 0) rfl (by simp [exP, cellsB_length]) 0 _ rfl)) _ Tryz.underlying24 rfl) rfl
    | 2, _ =>
      cases ho
      have e0 : aq.tmps.getD 4 undef = .int .u64 (ze : Nat) := hdep 1 4 rfl (by kernel_rfl)
      refine flow_fun 58 _ _ rfl (fun _ _ => by simp [go_sem]) #[.int .u64 (ze : Nat)] (by rw [show (#[Operand.tmp 4] : Array Operand).map aq.eval = #[aq.tmps.getD 4 undef] from by simp [Act.eval], e0]) ?_
      refine (n_any ze wq).mono ?_
      rintro x w' ⟨rfl, q⟩
      exact ⟨_, rfl, IsVI.leaf P1 w' hze zeros32 (zeros_byte 32), q⟩
    | 3, _ =>
      cases ho
      have e1 : aq.tmps.getD 1 undef = .pointer (some ⟨w.heap.size, 0, none⟩) := hk 1 (by decide)
      exact flow_value _ (run_fieldAt 89 (.tmp 1) 1 rfl _ _ e1 (by kernel_rfl)) rfl
    | 4, _ =>
      cases ho
      have e0 : aq.tmps.getD 6 undef = .pointer (some ⟨w.heap.size, 1, none⟩) := hdep 3 6 rfl (by kernel_rfl)
      exact flow_value _ (run_cell 24 (.tmp 6) rfl _ e0 _ ((HX.out.keep (hcB hc)).cell (seg (ps := exP ze zi) (i := 1) (off := 1) rfl (by simp [exP, cellsB_length]) 0 _ rfl)) _ Tryz.underlying24 rfl) rfl
    | 5, _ =>
      cases ho
      have e0 : aq.tmps.getD 7 undef = .int .u64 (zi : Nat) := hdep 4 7 rfl (by kernel_rfl)
      refine flow_fun 58 _ _ rfl (fun _ _ => by simp [go_sem]) #[.int .u64 (zi : Nat)] (by rw [show (#[Operand.tmp 7] : Array Operand).map aq.eval = #[aq.tmps.getD 7 undef] from by simp [Act.eval], e0]) ?_
      refine (n_any zi wq).mono ?_
      rintro x w' ⟨rfl, q⟩
      exact ⟨_, rfl, IsVI.leaf P1 w' hzi zeros32 (zeros_byte 32), q⟩
    | 6, _ =>
      cases ho
      obtain ⟨sb0, sk0, e0, h0_⟩ := hdep 2 5 rfl (by kernel_rfl)
      obtain ⟨sb1, sk1, e1, h1_⟩ := hdep 5 8 rfl (by kernel_rfl)
      refine flow_rowsB 41 43 2 35 _ rfl Tryz.underlying41 valInfo [valL ze (zeros 32) sb0 sk0, valL zi (zeros 32) sb1 sk1] [.tmp 5, .tmp 8] rfl (by rw [show [Operand.tmp 5, Operand.tmp 8].map aq.eval = [aq.tmps.getD 5 undef, aq.tmps.getD 8 undef] from rfl, e0, e1]; rfl) (by simp [valL_length, zeros32]) rfl (by decide) (by decide) (by decide) (fun w' h hb => ⟨_, rfl, kIn_of h hb (HP1.out wq (hcB hc).size _ (Nat.le_refl _)) [(.mk ze (zeros 32) [] [], sb0, sk0), (.mk zi (zeros 32) [] [], sb1, sk1)] (fun j v hj => by rw [Nat.zero_add]; exact hj) (fun x hx => ?_)⟩)
      simp only [List.mem_cons, List.not_mem_nil, or_false] at hx
      rcases hx with rfl | rfl
      · exact h0_
      · exact h1_
    | 7, _ =>
      cases ho
      obtain ⟨b, e6, h6⟩ := hdep 6 9 rfl (by kernel_rfl)
      refine flow_fun 53 _ _ rfl (fun _ _ => by simp [go_sem]) #[.slice (some ⟨b, 0, none⟩) 2 2] (by rw [show (#[Operand.tmp 9] : Array Operand).map aq.eval = #[aq.tmps.getD 9 undef] from by simp [Act.eval], e6]) ?_
      refine (all_any (some ⟨b, 0, none⟩) 2 2 wq).mono ?_
      rintro x w' ⟨rfl, q⟩
      exact ⟨_, rfl, ⟨b, rfl, h6.keep q⟩, q⟩
    | (k + 8), hk => exact absurd hk (by omega)
  · intro o h8 ho
    omega
  intro vf w8 hc hv
  have e7 : ∃ b, vf 7 = _ ∧ KIn P1 w8 _ b 0 := hv 7 10 (by decide) rfl
  obtain ⟨b, e7, h7⟩ := e7
  have B8 := HB.out.trans ((hcB hc).mono (by omega))
  have H8v := HY.out.keep (hcB hc)
  have s8 := (hcB hc).size
  clear hv hc
  simp only [List.take_succ_cons, List.take_zero, List.drop_succ_cons, List.drop_zero, putAll, Act.put, List.setIfInBounds_toArray, List.set_cons_succ, List.set_cons_zero]
  rw [e7]
  have HB8 := hid B8
  have HK := hid h7
  clear B8 h7 e7 HB
  go_wp2_with ((with_reducible refine at_list' ?_); first
    | (refine wpList_store_c Tryz.ty43 rfl (.tmp 2) (.tmp 10) rfl (w.heap.size + 1) (valL 0 (zeros 32) nilS (.slice (some ⟨b, 0, none⟩) 2 2)) rfl rfl rfl (valL_oneC _ _ _ _ trivial trivial) _ H8v rfl ?_; intro w9 H9 O9))
  refine bodyPost_ret (results_c1 Tryz.ty43 rfl _ w9 (w.heap.size + 1) _ rfl H9 rfl) rfl ⟨_, rfl, ⟨nilS, _, rfl, ?_⟩, below_only HB8.out O9 (by omega)⟩
  have hk := HK.out
  rw [← hP1.out] at hk
  exact vIn_all (ks := [.mk ze (zeros 32) [] [], .mk zi (zeros 32) [] []]) rfl (by decide) (hk.only O9)
end Go.Proofs.YtbmcmabimfoknaaGreatDoor

/- The document's value of a struct (SignedExit), and where it lies. -/
namespace Go.Proofs.YtbmcmabimfoknaaGreatDoor
open Go.RowKit Go.Shelf
set_option linter.unusedVariables false
set_option linter.unusedSimpArgs false
set_option maxRecDepth 100000

def sxU (zxze : Nat) (zxzi : Nat) (zsg : List Nat) : Vt := .mk 0 (zeros 32) [] [exU zxze zxzi, .mk 0 zsg [] []]
set_option maxHeartbeats 2000000 in
theorem sxW_any (P : Nat → Prop) (zxze : Nat) (zxzi : Nat) (zsg : List Nat) (hzxze : zxze < 18446744073709551616) (hzxzi : zxzi < 18446744073709551616) (hzsg : Rt zsg) (w : World) (hP : ∀ b, w.heap.size ≤ b → P b) : Calls Tryz.prog 52 #[.agg (sxC zxze zxzi zsg).toArray] w fun x w' => ∃ v, x = .returned v ∧ IsVI P w' v (sxU zxze zxzi zsg) ∧ Below w.heap.size w w' := by
  go_enter Tryz.func52, Tryz.ntmps52
  go_wp2_with ((with_reducible refine at_list' ?_); first
    | (refine wpList_box_c rfl 1 rfl (.tmp 0) rfl (sxC zxze zxzi zsg) rfl ?_; intro w1 H1 B1 S1)
    | (refine wpList_alloc_c Tryz.ty43 rfl 2 rfl rfl ?_; intro w2 H2 B2 S2; rw [S1] at H2 S2; rw [S1]))
  have HX := hid (H1.keep B2)
  have HY := hid H2
  have HB := hid (B1.trans (B2.mono (by omega)))
  have s2 : w2.heap.size = w.heap.size + 2 := by omega
  obtain ⟨P1, hP1⟩ : ∃ P1 : Nat → Prop, Same (fun b => P b ∧ b ≠ w.heap.size + 1) P1 := ⟨_, ⟨rfl⟩⟩
  have HP1 := hid (fun (wq : World) (h : w2.heap.size ≤ wq.heap.size) b (hb : wq.heap.size ≤ b) => show P1 b by rw [← hP1.out]; exact ⟨hP b (by omega), by omega⟩)
  clear H1 B1 S1 H2 B2 S2
  try simp only [Act.put, List.setIfInBounds_toArray, List.set_cons_succ, List.set_cons_zero]
  refine wp_region_flow 8 8 (fun i v wq => match i with
    | 0 => v = .pointer (some ⟨w.heap.size, 0, none⟩)
    | 1 => v = .agg (exC zxze zxzi).toArray
    | 2 => IsVI P1 wq v (exU zxze zxzi)
    | 3 => v = .pointer (some ⟨w.heap.size, 2, none⟩)
    | 4 => v = .agg (nums .u8 zsg)
    | 5 => IsVI P1 wq v (.mk 0 zsg [] [])
    | 6 => ∃ b, v = .slice (some ⟨b, 0, none⟩) 2 2 ∧ KIn P1 wq [exU zxze zxzi, .mk 0 zsg [] []] b 0
    | _ => ∃ b, v = .agg (valL 0 (zeros 32) nilS (.slice (some ⟨b, 0, none⟩) 2 2)).toArray ∧ KIn P1 wq [exU zxze zxzi, .mk 0 zsg [] []] b 0) (by kernel_rfl) (by kernel_rfl) (fun _ d _ _ _ h => by cases d <;> exact h) ?_ ?_ ?_ ?_
  · intro i v wq wq' hi hv hb
    match i, hi with
    | 0, _ => exact hv
    | 1, _ => exact hv
    | 2, _ => exact hv.keep hb
    | 3, _ => exact hv
    | 4, _ => exact hv
    | 5, _ => exact hv.keep hb
    | 6, _ => obtain ⟨b, h1, h2⟩ := hv; exact ⟨b, h1, h2.keep hb⟩
    | 7, _ => obtain ⟨b, h1, h2⟩ := hv; exact ⟨b, h1, h2.keep hb⟩
    | (k + 8), hk => exact absurd hk (by omega)
  · intro i o hi ho aq wq hc hk hdep
    match i, hi with
    | 0, _ =>
      cases ho
      have e1 : aq.tmps.getD 1 undef = .pointer (some ⟨w.heap.size, 0, none⟩) := hk 1 (by decide)
      exact flow_value _ (run_fieldAt 91 (.tmp 1) 0 rfl _ _ e1 (by kernel_rfl)) rfl
    | 1, _ =>
      cases ho
      have e0 : aq.tmps.getD 3 undef = .pointer (some ⟨w.heap.size, 0, none⟩) := hdep 0 3 rfl (by kernel_rfl)
      exact flow_value _ (run_mid 89 (.tmp 3) rfl w.heap.size 0 e0 (exC zxze zxzi) ((HX.out.keep (hcB hc)).range 0 (exC zxze zxzi) (seg (ps := sxP zxze zxzi zsg) (i := 0) (off := 0) rfl (by simp [sxP, cellsB_length, hzsg.len, exC_length zxze zxzi ]))) _ Tryz.underlying89 rfl (by rw [exC_length zxze zxzi ]; kernel_rfl)) rfl
    | 2, _ =>
      cases ho
      have e0 : aq.tmps.getD 4 undef = .agg (exC zxze zxzi).toArray := hdep 1 4 rfl (by kernel_rfl)
      refine flow_fun 87 _ _ rfl (fun _ _ => by simp [go_sem]) #[.agg (exC zxze zxzi).toArray] (by rw [show (#[Operand.tmp 4] : Array Operand).map aq.eval = #[aq.tmps.getD 4 undef] from by simp [Act.eval], e0]) ?_
      refine (exW_any P1 zxze zxzi hzxze hzxzi wq (HP1.out wq (hcB hc).size)).mono ?_
      rintro x w' ⟨v, rfl, hv, q⟩
      exact ⟨v, rfl, hv, q⟩
    | 3, _ =>
      cases ho
      have e1 : aq.tmps.getD 1 undef = .pointer (some ⟨w.heap.size, 0, none⟩) := hk 1 (by decide)
      exact flow_value _ (run_fieldAt 91 (.tmp 1) 1 rfl _ _ e1 (by kernel_rfl)) rfl
    | 4, _ =>
      cases ho
      have e0 : aq.tmps.getD 6 undef = .pointer (some ⟨w.heap.size, 2, none⟩) := hdep 3 6 rfl (by kernel_rfl)
      exact flow_value _ (run_mid 23 (.tmp 6) rfl w.heap.size 2 e0 (cellsB zsg) ((HX.out.keep (hcB hc)).range 2 (cellsB zsg) (seg (ps := sxP zxze zxzi zsg) (i := 1) (off := 2) rfl (by simp [sxP, cellsB_length, hzsg.len, exC_length zxze zxzi ]))) _ Tryz.und23 rfl (by rw [cellsB_length, hzsg.len]; exact Tryz.size23)) rfl
    | 5, _ =>
      cases ho
      have e0 : aq.tmps.getD 7 undef = .agg (nums .u8 zsg) := hdep 4 7 rfl (by kernel_rfl)
      refine flow_fun 54 _ _ rfl (fun _ _ => by simp [go_sem]) #[.agg (nums .u8 zsg)] (by rw [show (#[Operand.tmp 7] : Array Operand).map aq.eval = #[aq.tmps.getD 7 undef] from by simp [Act.eval], e0]) ?_
      refine (r_any zsg hzsg.len wq).mono ?_
      rintro x w' ⟨rfl, q⟩
      exact ⟨_, rfl, IsVI.leaf P1 w' (by decide) hzsg.len hzsg.byte, q⟩
    | 6, _ =>
      cases ho
      obtain ⟨sb0, sk0, e0, h0_⟩ := hdep 2 5 rfl (by kernel_rfl)
      obtain ⟨sb1, sk1, e1, h1_⟩ := hdep 5 8 rfl (by kernel_rfl)
      refine flow_rowsB 41 43 2 35 _ rfl Tryz.underlying41 valInfo [valL 0 (zeros 32) sb0 sk0, valL 0 zsg sb1 sk1] [.tmp 5, .tmp 8] rfl (by rw [show [Operand.tmp 5, Operand.tmp 8].map aq.eval = [aq.tmps.getD 5 undef, aq.tmps.getD 8 undef] from rfl, e0, e1]; rfl) (by simp [valL_length, zeros32, hzsg.len]) rfl (by decide) (by decide) (by decide) (fun w' h hb => ⟨_, rfl, kIn_of h hb (HP1.out wq (hcB hc).size _ (Nat.le_refl _)) [(exU zxze zxzi, sb0, sk0), (.mk 0 zsg [] [], sb1, sk1)] (fun j v hj => by rw [Nat.zero_add]; exact hj) (fun x hx => ?_)⟩)
      simp only [List.mem_cons, List.not_mem_nil, or_false] at hx
      rcases hx with rfl | rfl
      · exact h0_
      · exact h1_
    | 7, _ =>
      cases ho
      obtain ⟨b, e6, h6⟩ := hdep 6 9 rfl (by kernel_rfl)
      refine flow_fun 53 _ _ rfl (fun _ _ => by simp [go_sem]) #[.slice (some ⟨b, 0, none⟩) 2 2] (by rw [show (#[Operand.tmp 9] : Array Operand).map aq.eval = #[aq.tmps.getD 9 undef] from by simp [Act.eval], e6]) ?_
      refine (all_any (some ⟨b, 0, none⟩) 2 2 wq).mono ?_
      rintro x w' ⟨rfl, q⟩
      exact ⟨_, rfl, ⟨b, rfl, h6.keep q⟩, q⟩
    | (k + 8), hk => exact absurd hk (by omega)
  · intro o h8 ho
    omega
  intro vf w8 hc hv
  have e7 : ∃ b, vf 7 = _ ∧ KIn P1 w8 _ b 0 := hv 7 10 (by decide) rfl
  obtain ⟨b, e7, h7⟩ := e7
  have B8 := HB.out.trans ((hcB hc).mono (by omega))
  have H8v := HY.out.keep (hcB hc)
  have s8 := (hcB hc).size
  clear hv hc
  simp only [List.take_succ_cons, List.take_zero, List.drop_succ_cons, List.drop_zero, putAll, Act.put, List.setIfInBounds_toArray, List.set_cons_succ, List.set_cons_zero]
  rw [e7]
  have HB8 := hid B8
  have HK := hid h7
  clear B8 h7 e7 HB
  go_wp2_with ((with_reducible refine at_list' ?_); first
    | (refine wpList_store_c Tryz.ty43 rfl (.tmp 2) (.tmp 10) rfl (w.heap.size + 1) (valL 0 (zeros 32) nilS (.slice (some ⟨b, 0, none⟩) 2 2)) rfl rfl rfl (valL_oneC _ _ _ _ trivial trivial) _ H8v rfl ?_; intro w9 H9 O9))
  refine bodyPost_ret (results_c1 Tryz.ty43 rfl _ w9 (w.heap.size + 1) _ rfl H9 rfl) rfl ⟨_, rfl, ⟨nilS, _, rfl, ?_⟩, below_only HB8.out O9 (by omega)⟩
  have hk := HK.out
  rw [← hP1.out] at hk
  exact vIn_all (ks := [exU zxze zxzi, .mk 0 zsg [] []]) rfl (by decide) (hk.only O9)
end Go.Proofs.YtbmcmabimfoknaaGreatDoor

/- The document's values of the five element types of a body, as DocOf. -/
namespace Go.Proofs.YtbmcmabimfoknaaGreatDoor
open Go.RowKit Go.Shelf
set_option linter.unusedVariables false
set_option maxRecDepth 100000
theorem TIn.more {P Q : Nat → Prop} {w : World} {v : Value} {l : List Bool} (h : TIn P w v l) (hq : ∀ b, P b → Q b) : TIn Q w v l := fun w' ha => h w' (fun b hb hl => ha b (hq b hb) hl)
theorem psDoc (B0 : Nat) (zazhzs : Nat) (zazhzp : Nat) (zazhzpa : List Nat) (zazhzst : List Nat) (zazhzbo : List Nat) (zazsg : List Nat) (zzzhzs : Nat) (zzzhzp : Nat) (zzzhzpa : List Nat) (zzzhzst : List Nat) (zzzhzbo : List Nat) (zzzsg : List Nat) (hzazhzs : zazhzs < 18446744073709551616) (hzazhzp : zazhzp < 18446744073709551616) (hzazhzpa : Rt zazhzpa) (hzazhzst : Rt zazhzst) (hzazhzbo : Rt zazhzbo) (hzazsg : Rt zazsg) (hzzzhzs : zzzhzs < 18446744073709551616) (hzzzhzp : zzzhzp < 18446744073709551616) (hzzzhzpa : Rt zzzhzpa) (hzzzhzst : Rt zzzhzst) (hzzzhzbo : Rt zzzhzbo) (hzzzsg : Rt zzzsg) (w : World) : DocOf 48 B0 w (psC zazhzs zazhzp zazhzpa zazhzst zazhzbo zazsg zzzhzs zzzhzp zzzhzpa zzzhzst zzzhzbo zzzsg) (psU zazhzs zazhzp zazhzpa zazhzst zazhzbo zazsg zzzhzs zzzhzp zzzhzpa zzzhzst zzzhzbo zzzsg) :=
  ⟨fun P w' hw hB hP => psW_any P zazhzs zazhzp zazhzpa zazhzst zazhzbo zazsg zzzhzs zzzhzp zzzhzpa zzzhzst zzzhzbo zzzsg hzazhzs hzazhzp hzazhzpa hzazhzst hzazhzbo hzazsg hzzzhzs hzzzhzp hzzzhzpa hzzzhzst hzzzhzbo hzzzsg w' hP ⟩
theorem asDoc (B0 : Nat) (zazno : Option Addr) (zaznc : Nat) (zaznl : List Nat) (zazdzs : Nat) (zazdzi : Nat) (zazdzb : List Nat) (zazdzcze : Nat) (zazdzczr : List Nat) (zazdztze : Nat) (zazdztzr : List Nat) (zazsg : List Nat) (zzzno : Option Addr) (zzznc : Nat) (zzznl : List Nat) (zzzdzs : Nat) (zzzdzi : Nat) (zzzdzb : List Nat) (zzzdzcze : Nat) (zzzdzczr : List Nat) (zzzdztze : Nat) (zzzdztzr : List Nat) (zzzsg : List Nat) (hzazdzs : zazdzs < 18446744073709551616) (hzazdzi : zazdzi < 18446744073709551616) (hzazdzb : Rt zazdzb) (hzazdzcze : zazdzcze < 18446744073709551616) (hzazdzczr : Rt zazdzczr) (hzazdztze : zazdztze < 18446744073709551616) (hzazdztzr : Rt zazdztzr) (hzazsg : Rt zazsg) (hzzzdzs : zzzdzs < 18446744073709551616) (hzzzdzi : zzzdzi < 18446744073709551616) (hzzzdzb : Rt zzzdzb) (hzzzdzcze : zzzdzcze < 18446744073709551616) (hzzzdzczr : Rt zzzdzczr) (hzzzdztze : zzzdztze < 18446744073709551616) (hzzzdztzr : Rt zzzdztzr) (hzzzsg : Rt zzzsg) (w : World) (hzazn : IsN w (.slice zazno zaznl.length zaznc) zaznl) (hzaznn : zaznl.length ≤ 500) (hzzzn : IsN w (.slice zzzno zzznl.length zzznc) zzznl) (hzzznn : zzznl.length ≤ 500) : DocOf 49 B0 w (asC zazno zaznc zaznl zazdzs zazdzi zazdzb zazdzcze zazdzczr zazdztze zazdztzr zazsg zzzno zzznc zzznl zzzdzs zzzdzi zzzdzb zzzdzcze zzzdzczr zzzdztze zzzdztzr zzzsg) (asU zazno zaznc zaznl zazdzs zazdzi zazdzb zazdzcze zazdzczr zazdztze zazdztzr zazsg zzzno zzznc zzznl zzzdzs zzzdzi zzzdzb zzzdzcze zzzdzczr zzzdztze zzzdztzr zzzsg) :=
  ⟨fun P w' hw hB hP => asW_any P zazno zaznc zaznl zazdzs zazdzi zazdzb zazdzcze zazdzczr zazdztze zazdztzr zazsg zzzno zzznc zzznl zzzdzs zzzdzi zzzdzb zzzdzcze zzzdzczr zzzdztze zzzdztzr zzzsg hzazdzs hzazdzi hzazdzb hzazdzcze hzazdzczr hzazdztze hzazdztzr hzazsg hzzzdzs hzzzdzi hzzzdzb hzzzdzcze hzzzdzczr hzzzdztze hzzzdztzr hzzzsg w' hP (hzazn.keep hw) hzaznn (hzzzn.keep hw) hzzznn⟩
theorem atDoc (B0 : Nat) (zbo : Option Addr) (zbc : Nat) (zbl : List Bool) (zdzs : Nat) (zdzi : Nat) (zdzb : List Nat) (zdzcze : Nat) (zdzczr : List Nat) (zdztze : Nat) (zdztzr : List Nat) (zsg : List Nat) (hzdzs : zdzs < 18446744073709551616) (hzdzi : zdzi < 18446744073709551616) (hzdzb : Rt zdzb) (hzdzcze : zdzcze < 18446744073709551616) (hzdzczr : Rt zdzczr) (hzdztze : zdztze < 18446744073709551616) (hzdztzr : Rt zdztzr) (hzsg : Rt zsg) (w : World) (hzb : TIn (fun b => b < B0) w (.slice zbo zbl.length zbc) zbl) (hzbn : zbl.length ≤ 500) : DocOf 50 B0 w (atC zbo zbc zbl zdzs zdzi zdzb zdzcze zdzczr zdztze zdztzr zsg) (atU zbo zbc zbl zdzs zdzi zdzb zdzcze zdzczr zdztze zdztzr zsg) :=
  ⟨fun P w' hw hB hP => atW_any P zbo zbc zbl zdzs zdzi zdzb zdzcze zdzczr zdztze zdztzr zsg hzdzs hzdzi hzdzb hzdzcze hzdzczr hzdztze hzdztzr hzsg w' hP ((hzb.keep hw).more hB) hzbn⟩
theorem dpDoc (B0 : Nat) (zp : List (List Nat)) (zdzk : List Nat) (zdzcr : List Nat) (zdzam : Nat) (zdzsg : List Nat) (hzp : Rts zp) (hzpl : zp.length = 6) (hzdzk : Rt zdzk) (hzdzcr : Rt zdzcr) (hzdzam : zdzam < 18446744073709551616) (hzdzsg : Rt zdzsg) (w : World) : DocOf 51 B0 w (dpC zp zdzk zdzcr zdzam zdzsg) (dpU zp zdzk zdzcr zdzam zdzsg) :=
  ⟨fun P w' hw hB hP => dpW_any P zp zdzk zdzcr zdzam zdzsg hzp hzpl hzdzk hzdzcr hzdzam hzdzsg w' hP ⟩
theorem sxDoc (B0 : Nat) (zxze : Nat) (zxzi : Nat) (zsg : List Nat) (hzxze : zxze < 18446744073709551616) (hzxzi : zxzi < 18446744073709551616) (hzsg : Rt zsg) (w : World) : DocOf 52 B0 w (sxC zxze zxzi zsg) (sxU zxze zxzi zsg) :=
  ⟨fun P w' hw hB hP => sxW_any P zxze zxzi zsg hzxze hzxzi hzsg w' hP ⟩
end Go.Proofs.YtbmcmabimfoknaaGreatDoor

/- A Body's cells. -/
namespace Go.Proofs.YtbmcmabimfoknaaGreatDoor
open Go.RowKit Go.Shelf
set_option linter.unusedVariables false
set_option linter.unusedSimpArgs false
set_option linter.unusedSectionVars false
set_option maxRecDepth 100000

def bdP (ra : List Nat) (ed : List Nat) (ec : Nat) (gr : List Nat) (v1 v2 v3 v4 v5 : Value) : List (List Value) := [cellsB ra, etC ed ec, cellsB gr, [v1], [v2], [v3], [v4], [v5]]
def bdC (ra : List Nat) (ed : List Nat) (ec : Nat) (gr : List Nat) (v1 v2 v3 v4 v5 : Value) : List Value := (bdP ra ed ec gr v1 v2 v3 v4 v5).flatten
theorem bdC_length (ra : List Nat) (ed : List Nat) (ec : Nat) (gr : List Nat) (v1 v2 v3 v4 v5 : Value) (h1 : ra.length = 32) (h2 : ed.length = 32) (h3 : gr.length = 32) : (bdC ra ed ec gr v1 v2 v3 v4 v5).length = 102 := by simp [bdC, bdP, cellsB_length, h1, h3, etC_length ed ec h2]
section
variable (ra : List Nat) (ed : List Nat) (ec : Nat) (gr : List Nat) (v1 v2 v3 v4 v5 : Value) (h1 : ra.length = 32) (h2 : ed.length = 32) (h3 : gr.length = 32)
include h1 h2 h3
theorem bd_at1 : (bdC ra ed ec gr v1 v2 v3 v4 v5)[97]? = some v1 := seg (ps := bdP ra ed ec gr v1 v2 v3 v4 v5) (i := 3) (off := 97) (c := [v1]) rfl (by simp [bdP, cellsB_length, h1, h3, etC_length ed ec h2]) 0 v1 rfl
theorem bd_at2 : (bdC ra ed ec gr v1 v2 v3 v4 v5)[98]? = some v2 := seg (ps := bdP ra ed ec gr v1 v2 v3 v4 v5) (i := 4) (off := 98) (c := [v2]) rfl (by simp [bdP, cellsB_length, h1, h3, etC_length ed ec h2]) 0 v2 rfl
theorem bd_at3 : (bdC ra ed ec gr v1 v2 v3 v4 v5)[99]? = some v3 := seg (ps := bdP ra ed ec gr v1 v2 v3 v4 v5) (i := 5) (off := 99) (c := [v3]) rfl (by simp [bdP, cellsB_length, h1, h3, etC_length ed ec h2]) 0 v3 rfl
theorem bd_at4 : (bdC ra ed ec gr v1 v2 v3 v4 v5)[100]? = some v4 := seg (ps := bdP ra ed ec gr v1 v2 v3 v4 v5) (i := 6) (off := 100) (c := [v4]) rfl (by simp [bdP, cellsB_length, h1, h3, etC_length ed ec h2]) 0 v4 rfl
theorem bd_at5 : (bdC ra ed ec gr v1 v2 v3 v4 v5)[101]? = some v5 := seg (ps := bdP ra ed ec gr v1 v2 v3 v4 v5) (i := 7) (off := 101) (c := [v5]) rfl (by simp [bdP, cellsB_length, h1, h3, etC_length ed ec h2]) 0 v5 rfl
theorem bd_ra (j : Nat) (v : Value) (h : (cellsB ra)[j]? = some v) : (bdC ra ed ec gr v1 v2 v3 v4 v5)[0 + j]? = some v := seg (ps := bdP ra ed ec gr v1 v2 v3 v4 v5) (i := 0) (off := 0) (c := cellsB ra) rfl (by simp) j v h
theorem bd_et (j : Nat) (v : Value) (h : (etC ed ec)[j]? = some v) : (bdC ra ed ec gr v1 v2 v3 v4 v5)[32 + j]? = some v := seg (ps := bdP ra ed ec gr v1 v2 v3 v4 v5) (i := 1) (off := 32) (c := etC ed ec) rfl (by simp [bdP, cellsB_length, h1]) j v h
theorem bd_gr (j : Nat) (v : Value) (h : (cellsB gr)[j]? = some v) : (bdC ra ed ec gr v1 v2 v3 v4 v5)[65 + j]? = some v := seg (ps := bdP ra ed ec gr v1 v2 v3 v4 v5) (i := 2) (off := 65) (c := cellsB gr) rfl (by simp [bdP, cellsB_length, h1, etC_length ed ec h2]) j v h
end
end Go.Proofs.YtbmcmabimfoknaaGreatDoor

/- The document's value of a struct (Eth), and where it lies. -/
namespace Go.Proofs.YtbmcmabimfoknaaGreatDoor
open Go.RowKit Go.Shelf
set_option linter.unusedVariables false
set_option linter.unusedSimpArgs false
set_option maxRecDepth 100000

def etU (zd : List Nat) (zc : Nat) : Vt := .mk 0 (zeros 32) [] [.mk 0 zd [] [], .mk zc (zeros 32) [] []]
set_option maxHeartbeats 2000000 in
theorem etW_any (P : Nat → Prop) (zd : List Nat) (zc : Nat) (hzd : Rt zd) (hzc : zc < 18446744073709551616) (w : World) (hP : ∀ b, w.heap.size ≤ b → P b) : Calls Tryz.prog 55 #[.agg (etC zd zc).toArray] w fun x w' => ∃ v, x = .returned v ∧ IsVI P w' v (etU zd zc) ∧ Below w.heap.size w w' := by
  go_enter Tryz.func55, Tryz.ntmps55
  go_wp2_with ((with_reducible refine at_list' ?_); first
    | (refine wpList_box_c rfl 1 rfl (.tmp 0) rfl (etC zd zc) rfl ?_; intro w1 H1 B1 S1)
    | (refine wpList_alloc_c Tryz.ty43 rfl 2 rfl rfl ?_; intro w2 H2 B2 S2; rw [S1] at H2 S2; rw [S1]))
  have HX := hid (H1.keep B2)
  have HY := hid H2
  have HB := hid (B1.trans (B2.mono (by omega)))
  have s2 : w2.heap.size = w.heap.size + 2 := by omega
  obtain ⟨P1, hP1⟩ : ∃ P1 : Nat → Prop, Same (fun b => P b ∧ b ≠ w.heap.size + 1) P1 := ⟨_, ⟨rfl⟩⟩
  have HP1 := hid (fun (wq : World) (h : w2.heap.size ≤ wq.heap.size) b (hb : wq.heap.size ≤ b) => show P1 b by rw [← hP1.out]; exact ⟨hP b (by omega), by omega⟩)
  clear H1 B1 S1 H2 B2 S2
  try simp only [Act.put, List.setIfInBounds_toArray, List.set_cons_succ, List.set_cons_zero]
  refine wp_region_flow 8 8 (fun i v wq => match i with
    | 0 => v = .pointer (some ⟨w.heap.size, 0, none⟩)
    | 1 => v = .agg (nums .u8 zd)
    | 2 => IsVI P1 wq v (.mk 0 zd [] [])
    | 3 => v = .pointer (some ⟨w.heap.size, 32, none⟩)
    | 4 => v = .int .u64 (zc : Nat)
    | 5 => IsVI P1 wq v (.mk zc (zeros 32) [] [])
    | 6 => ∃ b, v = .slice (some ⟨b, 0, none⟩) 2 2 ∧ KIn P1 wq [.mk 0 zd [] [], .mk zc (zeros 32) [] []] b 0
    | _ => ∃ b, v = .agg (valL 0 (zeros 32) nilS (.slice (some ⟨b, 0, none⟩) 2 2)).toArray ∧ KIn P1 wq [.mk 0 zd [] [], .mk zc (zeros 32) [] []] b 0) (by kernel_rfl) (by kernel_rfl) (fun _ d _ _ _ h => by cases d <;> exact h) ?_ ?_ ?_ ?_
  · intro i v wq wq' hi hv hb
    match i, hi with
    | 0, _ => exact hv
    | 1, _ => exact hv
    | 2, _ => exact hv.keep hb
    | 3, _ => exact hv
    | 4, _ => exact hv
    | 5, _ => exact hv.keep hb
    | 6, _ => obtain ⟨b, h1, h2⟩ := hv; exact ⟨b, h1, h2.keep hb⟩
    | 7, _ => obtain ⟨b, h1, h2⟩ := hv; exact ⟨b, h1, h2.keep hb⟩
    | (k + 8), hk => exact absurd hk (by omega)
  · intro i o hi ho aq wq hc hk hdep
    match i, hi with
    | 0, _ =>
      cases ho
      have e1 : aq.tmps.getD 1 undef = .pointer (some ⟨w.heap.size, 0, none⟩) := hk 1 (by decide)
      exact flow_value _ (run_fieldAt 26 (.tmp 1) 0 rfl _ _ e1 (by kernel_rfl)) rfl
    | 1, _ =>
      cases ho
      have e0 : aq.tmps.getD 3 undef = .pointer (some ⟨w.heap.size, 0, none⟩) := hdep 0 3 rfl (by kernel_rfl)
      exact flow_value _ (run_mid 23 (.tmp 3) rfl w.heap.size 0 e0 (cellsB zd) ((HX.out.keep (hcB hc)).range 0 (cellsB zd) (seg (ps := etP zd zc) (i := 0) (off := 0) rfl (by simp [etP, cellsB_length, hzd.len]))) _ Tryz.und23 rfl (by rw [cellsB_length, hzd.len]; exact Tryz.size23)) rfl
    | 2, _ =>
      cases ho
      have e0 : aq.tmps.getD 4 undef = .agg (nums .u8 zd) := hdep 1 4 rfl (by kernel_rfl)
      refine flow_fun 54 _ _ rfl (fun _ _ => by simp [go_sem]) #[.agg (nums .u8 zd)] (by rw [show (#[Operand.tmp 4] : Array Operand).map aq.eval = #[aq.tmps.getD 4 undef] from by simp [Act.eval], e0]) ?_
      refine (r_any zd hzd.len wq).mono ?_
      rintro x w' ⟨rfl, q⟩
      exact ⟨_, rfl, IsVI.leaf P1 w' (by decide) hzd.len hzd.byte, q⟩
    | 3, _ =>
      cases ho
      have e1 : aq.tmps.getD 1 undef = .pointer (some ⟨w.heap.size, 0, none⟩) := hk 1 (by decide)
      exact flow_value _ (run_fieldAt 26 (.tmp 1) 1 rfl _ _ e1 (by kernel_rfl)) rfl
    | 4, _ =>
      cases ho
      have e0 : aq.tmps.getD 6 undef = .pointer (some ⟨w.heap.size, 32, none⟩) := hdep 3 6 rfl (by kernel_rfl)
      exact flow_value _ (run_cell 24 (.tmp 6) rfl _ e0 _ ((HX.out.keep (hcB hc)).cell (seg (ps := etP zd zc) (i := 1) (off := 32) rfl (by simp [etP, cellsB_length, hzd.len]) 0 _ rfl)) _ Tryz.underlying24 rfl) rfl
    | 5, _ =>
      cases ho
      have e0 : aq.tmps.getD 7 undef = .int .u64 (zc : Nat) := hdep 4 7 rfl (by kernel_rfl)
      refine flow_fun 58 _ _ rfl (fun _ _ => by simp [go_sem]) #[.int .u64 (zc : Nat)] (by rw [show (#[Operand.tmp 7] : Array Operand).map aq.eval = #[aq.tmps.getD 7 undef] from by simp [Act.eval], e0]) ?_
      refine (n_any zc wq).mono ?_
      rintro x w' ⟨rfl, q⟩
      exact ⟨_, rfl, IsVI.leaf P1 w' hzc zeros32 (zeros_byte 32), q⟩
    | 6, _ =>
      cases ho
      obtain ⟨sb0, sk0, e0, h0_⟩ := hdep 2 5 rfl (by kernel_rfl)
      obtain ⟨sb1, sk1, e1, h1_⟩ := hdep 5 8 rfl (by kernel_rfl)
      refine flow_rowsB 41 43 2 35 _ rfl Tryz.underlying41 valInfo [valL 0 zd sb0 sk0, valL zc (zeros 32) sb1 sk1] [.tmp 5, .tmp 8] rfl (by rw [show [Operand.tmp 5, Operand.tmp 8].map aq.eval = [aq.tmps.getD 5 undef, aq.tmps.getD 8 undef] from rfl, e0, e1]; rfl) (by simp [valL_length, zeros32, hzd.len]) rfl (by decide) (by decide) (by decide) (fun w' h hb => ⟨_, rfl, kIn_of h hb (HP1.out wq (hcB hc).size _ (Nat.le_refl _)) [(.mk 0 zd [] [], sb0, sk0), (.mk zc (zeros 32) [] [], sb1, sk1)] (fun j v hj => by rw [Nat.zero_add]; exact hj) (fun x hx => ?_)⟩)
      simp only [List.mem_cons, List.not_mem_nil, or_false] at hx
      rcases hx with rfl | rfl
      · exact h0_
      · exact h1_
    | 7, _ =>
      cases ho
      obtain ⟨b, e6, h6⟩ := hdep 6 9 rfl (by kernel_rfl)
      refine flow_fun 53 _ _ rfl (fun _ _ => by simp [go_sem]) #[.slice (some ⟨b, 0, none⟩) 2 2] (by rw [show (#[Operand.tmp 9] : Array Operand).map aq.eval = #[aq.tmps.getD 9 undef] from by simp [Act.eval], e6]) ?_
      refine (all_any (some ⟨b, 0, none⟩) 2 2 wq).mono ?_
      rintro x w' ⟨rfl, q⟩
      exact ⟨_, rfl, ⟨b, rfl, h6.keep q⟩, q⟩
    | (k + 8), hk => exact absurd hk (by omega)
  · intro o h8 ho
    omega
  intro vf w8 hc hv
  have e7 : ∃ b, vf 7 = _ ∧ KIn P1 w8 _ b 0 := hv 7 10 (by decide) rfl
  obtain ⟨b, e7, h7⟩ := e7
  have B8 := HB.out.trans ((hcB hc).mono (by omega))
  have H8v := HY.out.keep (hcB hc)
  have s8 := (hcB hc).size
  clear hv hc
  simp only [List.take_succ_cons, List.take_zero, List.drop_succ_cons, List.drop_zero, putAll, Act.put, List.setIfInBounds_toArray, List.set_cons_succ, List.set_cons_zero]
  rw [e7]
  have HB8 := hid B8
  have HK := hid h7
  clear B8 h7 e7 HB
  go_wp2_with ((with_reducible refine at_list' ?_); first
    | (refine wpList_store_c Tryz.ty43 rfl (.tmp 2) (.tmp 10) rfl (w.heap.size + 1) (valL 0 (zeros 32) nilS (.slice (some ⟨b, 0, none⟩) 2 2)) rfl rfl rfl (valL_oneC _ _ _ _ trivial trivial) _ H8v rfl ?_; intro w9 H9 O9))
  refine bodyPost_ret (results_c1 Tryz.ty43 rfl _ w9 (w.heap.size + 1) _ rfl H9 rfl) rfl ⟨_, rfl, ⟨nilS, _, rfl, ?_⟩, below_only HB8.out O9 (by omega)⟩
  have hk := HK.out
  rw [← hP1.out] at hk
  exact vIn_all (ks := [.mk 0 zd [] [], .mk zc (zeros 32) [] []]) rfl (by decide) (hk.only O9)
end Go.Proofs.YtbmcmabimfoknaaGreatDoor

