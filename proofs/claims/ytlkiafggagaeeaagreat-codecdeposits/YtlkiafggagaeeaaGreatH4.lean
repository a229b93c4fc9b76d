/- Own texts of the proof, joined: VIDp5 KdDd KdDp LenB TkLe Dp5 Open5d. -/
import Derived.Test.YtlkiafggagaeeaaGreatH3
import Derived.ProofKit
import Derived.OpenShut
import Derived.ShutString
import Derived.ChangeOld
import Derived.Deep.Slices
import Derived.SevenTiedAt
import Derived.Stop.Joined
import Derived.Deep.Grids
/- The document's value of a Deposit, and where it lies. -/
namespace Go.Proofs.YtlkiafggagaeeaaGreat
open Go.RowKit Go.Shelf
set_option linter.unusedVariables false
set_option linter.unusedSimpArgs false
set_option maxRecDepth 100000

/-- Roots that came in. -/
structure Rts6 (rs : List (List Nat)) : Prop where
  len : ∀ r ∈ rs, r.length = 32
  byte : ∀ r ∈ rs, ∀ z ∈ r, z < 256
theorem Rts6.rt {rs : List (List Nat)} (h : Rts6 rs) (t : Nat) (ht : t < rs.length) : Rt6 (rs.getD t []) := by
  have hm : rs.getD t [] ∈ rs := by rw [List.getD_eq_getElem?_getD, List.getElem?_eq_getElem ht]; exact List.getElem_mem ht
  exact ⟨h.len _ hm, h.byte _ hm⟩
/-- The cells of roots as values. -/
def rowR (rs : List (List Nat)) : List Value := (rs.map fun r => valL 0 r nilS nilS).flatten
def vecV (rs : List (List Nat)) : Vt := .mk 0 (zeros 32) [] (rs.map fun r => .mk 0 r [] [])
theorem rowV_vec (rs : List (List Nat)) : (rowV (rs.map fun r => (Vt.mk 0 r [] [], nilS, nilS))).flatten = rowR rs := by
  induction rs with
  | nil => rfl
  | cons n ns ih => rw [List.map_cons, rowV, List.flatten_cons, ih]; rfl
theorem vAt_vec {w : World} {base : Nat} {u : Value} {rs : List (List Nat)} (h : w.ownsRow base 33 35 u rs.length (rowR rs)) (hr : Rts6 rs) : VAt w (vecV rs) nilS u := by
  rw [vecV, VAt]
  refine ⟨⟨by decide, zeros32, zeros_byte 32⟩, isT_nil w, ?_⟩
  rcases h.2 with ⟨rfl, h0⟩ | ⟨g, cap, cur, rfl, hb, hg, hnc, hm, hcs, htk⟩
  · have hz : rs = [] := List.eq_nil_of_length_eq_zero h0
    subst hz
    exact ⟨none, 0, rfl, Nat.le_refl _, by decide, .inl rfl⟩
  · refine ⟨some ⟨g, 0, none⟩, cap, by rw [List.length_map], by rw [List.length_map]; exact hnc, hm, .inr ⟨g, 0, rfl, ?_⟩⟩
    have hC : HasC w g 33 cur.toList := by unfold HasC; rw [Array.toArray_toList]; exact hg
    have hk := ksAt_of hC (rs.map fun r => (Vt.mk 0 r [] [], nilS, nilS)) 0 (fun j v hj => by
      rw [rowV_vec, ← htk] at hj
      rw [Nat.zero_add]
      rw [List.getElem?_take] at hj
      split at hj
      · exact hj
      · cases hj) (fun x hx => by
      obtain ⟨n, hn, rfl⟩ := List.mem_map.1 hx
      exact vAt_leaf w (by decide) (hr.len n hn) (hr.byte n hn))
    rw [List.map_map] at hk
    exact hk
theorem vIn_vec {P : Nat → Prop} {w : World} {base : Nat} {u : Value} {rs : List (List Nat)} (h : w.ownsRow base 33 35 u rs.length (rowR rs)) (hr : Rts6 rs) (hp : ∀ b, base ≤ b → P b) : VIn P w (vecV rs) nilS u := fun w' ha => vAt_vec (own_agr h ha hp) hr
theorem val_srcR {w : World} {b : Nat} {x : List Nat} (h : HasC w b 33 (valL 0 x nilS nilS)) (hx : x.length = 32) : Src Tryz.prog 35 31 (.slice (some ⟨b, 0, none⟩) 1 1) 1 (valL 0 x nilS nilS) w := by
  refine Src.ofSlice w Tryz.underlying31 ⟨b, 0, none⟩ 1 1 _ (by rw [valL_length _ _ _ _ hx]) (fun j u hj => by rw [Addr.add_lit, Nat.zero_add]; exact h.cell hj) (fun u hu => ?_)
  have := valL_oneC 0 x nilS nilS trivial trivial
  exact (Array.all_eq_true_iff_forall_mem.1 this) u (by simpa using hu)
theorem rowR_succ (rs : List (List Nat)) (t : Nat) (h : t < rs.length) : rowR (rs.take t) ++ valL 0 (rs.getD t []) nilS nilS = rowR (rs.take (t + 1)) := by
  unfold rowR
  rw [List.take_add_one, List.getElem?_eq_getElem h, List.getD_eq_getElem?_getD, List.getElem?_eq_getElem h]
  show _ = (List.map (fun r => valL 0 r nilS nilS) (rs.take t ++ [rs[t]])).flatten
  rw [List.map_append, List.flatten_append]
  simp only [List.map_cons, List.map_nil, List.flatten_cons, List.flatten_nil, List.append_nil]
  rfl
theorem run_at6 {o : Oper} {a : Act} {w : World} (x y : Operand) (ho : o.op = .indexAddr 71 x y) (g i : Nat) (hx : a.eval x = .pointer (some ⟨g, 0, none⟩)) (hy : a.eval y = .int .i64 (i : Int)) (hi : i < 6) : (execOp a.eval o).run Tryz.prog w = .ok (.value (.pointer (some ⟨g, i * 32, none⟩))) w := by
  have hl : ¬ (6 : Int) ≤ (i : Int) := by omega
  unfold execOp
  simp only [ho, hx, hy]
  go_simp
theorem dp_range (zp : List (List Nat)) (D : List Value) (t : Nat) (x : List Nat) (hlt : t < 6) (hzp : Rts6 zp) (hzpl : zp.length = 6) (hx : Same (zp.getD t []) x) {w : World} {g : Nat} {ty : TypeId} (h : HasC w g ty (dpC zp D)) : w.rangeAt g (t * 32) (cellsB x) := by
  have h1 := (dp_rs h hzp.len).2 t (by omega)
  rw [hx.out] at h1
  intro j v hv
  have h2 := h1 j v hv
  rw [Nat.zero_add] at h2
  exact h2
def dpV6 (zp : List (List Nat)) (zdzk : List Nat) (zdzcr : List Nat) (zdzam : Nat) (zdzsg : List Nat) : Vt := .mk 0 (zeros 32) [] [vecV zp, ddV6 zdzk zdzcr zdzam zdzsg]
set_option maxHeartbeats 2000000 in
theorem dpV6_any (P : Nat → Prop) (zp : List (List Nat)) (zdzk : List Nat) (zdzcr : List Nat) (zdzam : Nat) (zdzsg : List Nat) (hzp : Rts6 zp) (hzpl : zp.length = 6) (hzdzk : Rt6 zdzk) (hzdzcr : Rt6 zdzcr) (hzdzam : zdzam < 18446744073709551616) (hzdzsg : Rt6 zdzsg) (w : World) (hP : ∀ b, w.heap.size ≤ b → P b) : Calls Tryz.prog 29 #[.agg (dpC zp (ddC6 zdzk zdzcr zdzam zdzsg)).toArray] w fun x w' => ∃ v, x = .returned v ∧ IsVI P w' v (dpV6 zp zdzk zdzcr zdzam zdzsg) ∧ Below w.heap.size w w' := by
  obtain ⟨P1, hP1⟩ : ∃ P1 : Nat → Prop, Same (fun b => P b ∧ b ≠ w.heap.size + 1) P1 := ⟨_, ⟨rfl⟩⟩
  have HP0 := hid (fun b (hb : w.heap.size + 3 ≤ b) => show P1 b by rw [← hP1.out]; exact ⟨hP b (by omega), by omega⟩)
  go_enter Tryz.func29, Tryz.ntmps29
  go_wp2_with ((with_reducible refine at_list' ?_); first
    | (refine wpList_box_c rfl 1 rfl (.tmp 0) rfl (dpC zp (ddC6 zdzk zdzcr zdzam zdzsg)) rfl ?_; intro w0 H0 B0 S0)
    | (refine wpList_alloc_c Tryz.ty33 rfl 2 rfl rfl ?_; intro w1 H1 B1 S1; rw [S0] at H1 S1; simp only [S0])
    | (refine wpList_build_c rfl _ rfl #[] (by simp) _ (build_none _) ?_)
    | (refine wpList_alloc_c Tryz.ty33 rfl 3 rfl rfl ?_; intro w2 H2 B2 S2; rw [S1] at H2 S2; simp only [S1])
    | (refine wpList_store_c Tryz.ty33 rfl (.tmp 3) (.tmp 5) rfl (w.heap.size + 1 + 1) (valL 0 (zeros 32) nilS nilS) rfl rfl rfl (valL_oneC _ _ _ _ trivial trivial) _ H2 rfl ?_; intro w3 H3 O3))
  have L3 := below_only (below_more (below_more B0 B1 (Nat.le_refl _)) B2 (Nat.le_refl _)) O3 (by omega)
  have X3 := hid (And.intro H3 (And.intro ((H1.keep B2).only O3 (by omega)) (And.intro (((H0.keep B1).keep B2).only O3 (by omega)) L3)))
  clear H0 B0 S0 H1 B1 S1 H2 B2 S2 H3 O3 L3
  go_loopw [4] (fun i wr => ∃ (t : Nat) (u : Value), t ≤ 6 ∧ i = .int .i64 t ∧ HasC wr (w.heap.size + 2) 33 (valL 0 (zeros 32) nilS u) ∧ wr.ownsRow (w.heap.size + 3) 33 35 u t (rowR (zp.take t)) ∧ HasC wr (w.heap.size + 1) 33 (valL 0 (zeros 32) nilS nilS) ∧ HasC wr w.heap.size 75 (dpC zp (ddC6 zdzk zdzcr zdzam zdzsg)) ∧ Below w.heap.size w wr) (fun i _ => 6 - (intOf i).toNat)
  case atStart => exact ⟨0, nilS, Nat.zero_le _, rfl, X3.out.1, World.ownsRow_nil _ _ _ _, X3.out.2.1, X3.out.2.2.1, X3.out.2.2.2⟩
  case round =>
    clear X3
    obtain ⟨t, u, ht, rfl, hX, hown, hA, hZ, hW⟩ := hrel
    have hxl := hX.lt
    have hwl := hW.size
    have hol := fun g hg => (own_lt hown g hg)
    by_cases hlt : t < 6
    · have hsu := rowR_succ zp t (by omega)
      have hxr := hzp.rt t (by omega)
      obtain ⟨x, hxq⟩ : ∃ x, Same (zp.getD t []) x := ⟨_, ⟨rfl⟩⟩
      rw [hxq.out] at hsu hxr
      have HF := hid (And.intro hX (And.intro (fun e => by have := (hol _ e).1; omega : u.ownBlock ≠ some (w.heap.size + 2)) (And.intro hZ (And.intro (fun e => by have := (hol _ e).1; omega : u.ownBlock ≠ some w.heap.size) (And.intro (fun g hg => (hol g hg).2 : ∀ g, u.ownBlock = some g → g < wr.heap.size) (And.intro hown (show w.heap.size + 3 ≤ wr.heap.size by omega)))))))
      have HO := hid (And.intro hA (And.intro hW (And.intro hsu (fun g hg => (hol g hg).1 : ∀ g, u.ownBlock = some g → w.heap.size + 3 ≤ g))))
      clear hsu hX hown hA hW hol hZ
      go_wp2_with fail
      try simp only [Act.put, List.setIfInBounds_toArray, List.set_cons_succ, List.set_cons_zero]
      refine wp_region_flowR (AppR u (w.heap.size + 3) t (rowR (zp.take t)) (rowR (zp.take t) ++ (valL 0 x nilS nilS))) 10 10 (fun i v wq => match i with
        | 0 => v = .pointer (some ⟨w.heap.size + 2, 34, none⟩)
        | 1 => v = u
        | 2 => v = .int .i64 (t : Nat)
        | 3 => v = .pointer (some ⟨w.heap.size, 0, none⟩)
        | 4 => v = .pointer (some ⟨w.heap.size, t * 32, none⟩)
        | 5 => v = .agg (nums .u8 x)
        | 6 => v = .agg (valL 0 x nilS nilS).toArray
        | 7 => ∃ b, wr.heap.size ≤ b ∧ v = .slice (some ⟨b, 0, none⟩) 1 1 ∧ HasC wq b 33 (valL 0 x nilS nilS)
        | 8 => wq.ownsRow (w.heap.size + 3) 33 35 v (t + 1) (rowR (zp.take t) ++ (valL 0 x nilS nilS))
        | _ => v = .pointer (some ⟨w.heap.size + 2, 34, none⟩)) (by kernel_rfl) (by kernel_rfl) (AppR.refl) (fun _ _ _ h k => h.trans k) (AppR.drew) (fun _ d _ _ _ h => by cases d <;> exact h) ?_ ?_ ?_ ?_ ?_
      · intro i o g b hi ho hg v wq hv
        match i, hi with
        | 0, _ => cases ho; cases hg
        | 1, _ => cases ho; cases hg
        | 2, _ => cases ho; cases hg
        | 3, _ => cases ho; cases hg
        | 4, _ => cases ho; cases hg
        | 5, _ => cases ho; cases hg
        | 6, _ => cases ho; cases hg
        | 7, _ => cases ho; cases hg
        | 8, _ => cases ho; cases hg
        | 9, _ => cases ho; cases hg
        | (k + 10), hk => exact absurd hk (by omega)
      · intro i v wq wq' hi hv hb
        match i, hi with
        | 0, _ => exact hv
        | 1, _ => exact hv
        | 2, _ => exact hv
        | 3, _ => exact hv
        | 4, _ => exact hv
        | 5, _ => exact hv
        | 6, _ => exact hv
        | 7, _ => obtain ⟨b, h1, h2, h3⟩ := hv; exact ⟨b, h1, h2, h3.grownO hb.grown (fun e => by have := HF.out.2.2.2.2.1 _ e; omega)⟩
        | 8, _ => exact hb.new _ hv
        | 9, _ => exact hv
        | (k + 10), hk => exact absurd hk (by omega)
      · intro i o hi ho aq wq hc hk hdep
        match i, hi with
        | 0, _ =>
          cases ho
          refine flowR_of (fun w' h => AppR.of_below h) ?_
          have e1 : aq.tmps.getD 3 undef = .pointer (some ⟨w.heap.size + 2, 0, none⟩) := hk 3 (by decide)
          exact flow_value _ (run_fieldAt 33 (.tmp 3) 3 rfl _ _ e1 (by kernel_rfl)) rfl
        | 1, _ =>
          cases ho
          refine flowR_of (fun w' h => AppR.of_below h) ?_
          have e0 : aq.tmps.getD 10 undef = .pointer (some ⟨w.heap.size + 2, 34, none⟩) := hdep 0 10 rfl (by kernel_rfl)
          exact flow_value _ (run_cell 31 (.tmp 10) rfl _ e0 _ ((HF.out.1.grownO hc.grown HF.out.2.1).cell (valL_34 0 (zeros 32) nilS u zeros32)) _ Tryz.underlying31 rfl) rfl
        | 2, _ =>
          cases ho
          refine flowR_of (fun w' h => AppR.of_below h) ?_
          exact flow_move (.tmp 4) rfl (hk 4 (by decide))
        | 3, _ =>
          cases ho
          refine flowR_of (fun w' h => AppR.of_below h) ?_
          have e1 : aq.tmps.getD 1 undef = .pointer (some ⟨w.heap.size, 0, none⟩) := hk 1 (by decide)
          exact flow_value _ (run_fieldAt 75 (.tmp 1) 0 rfl _ _ e1 (by kernel_rfl)) rfl
        | 4, _ =>
          cases ho
          refine flowR_of (fun w' h => AppR.of_below h) ?_
          have e0 : aq.tmps.getD 13 undef = .pointer (some ⟨w.heap.size, 0, none⟩) := hdep 3 13 rfl (by kernel_rfl)
          have e1 : aq.tmps.getD 12 undef = .int .i64 (t : Nat) := hdep 2 12 rfl (by kernel_rfl)
          exact flow_value _ (run_at6 (.tmp 13) (.tmp 12) rfl w.heap.size t e0 e1 hlt) rfl
        | 5, _ =>
          cases ho
          refine flowR_of (fun w' h => AppR.of_below h) ?_
          have e0 : aq.tmps.getD 14 undef = .pointer (some ⟨w.heap.size, t * 32, none⟩) := hdep 4 14 rfl (by kernel_rfl)
          exact flow_value _ (run_mid 24 (.tmp 14) rfl w.heap.size (t * 32) e0 (cellsB x) (dp_range zp (ddC6 zdzk zdzcr zdzam zdzsg) t x hlt hzp hzpl hxq ((HF.out.2.2.1).grownO hc.grown HF.out.2.2.2.1)) _ Tryz.underlying24 rfl (by rw [cellsB_length, hxr.len]; exact Tryz.size24)) rfl
        | 6, _ =>
          cases ho
          refine flowR_of (fun w' h => AppR.of_below h) ?_
          have e0 : aq.tmps.getD 15 undef = .agg (nums .u8 x) := hdep 5 15 rfl (by kernel_rfl)
          refine flow_fun 44 _ _ rfl (fun _ _ => by simp [go_sem]) #[.agg (nums .u8 x)] (by rw [show (#[Operand.tmp 15] : Array Operand).map aq.eval = #[aq.tmps.getD 15 undef] from by simp [Act.eval], e0]) ?_
          refine (r_any x hxr.len wq).mono ?_
          rintro e w' ⟨rfl, q⟩
          exact ⟨_, rfl, rfl, q⟩
        | 7, _ =>
          cases ho
          refine flowR_of (fun w' h => AppR.of_below h) ?_
          have e0 : aq.tmps.getD 16 undef = .agg (valL 0 x nilS nilS).toArray := hdep 6 16 rfl (by kernel_rfl)
          refine flow_rowsB 31 33 1 35 _ rfl Tryz.underlying31 valInfo [(valL 0 x nilS nilS)] [.tmp 16] rfl (by rw [show [Operand.tmp 16].map aq.eval = [aq.tmps.getD 16 undef] from rfl, e0]; rfl) (by simp [valL_length, hxr.len]) rfl (by decide) (by decide) (by decide) (fun w' h hb => ⟨wq.heap.size, hc.grown.size, rfl, (by simpa using h)⟩)
        | 8, _ =>
          cases ho
          obtain ⟨b, h1, e1, h3⟩ := hdep 7 17 rfl (by kernel_rfl)
          have e0 : aq.tmps.getD 11 undef = u := hdep 1 11 rfl (by kernel_rfl)
          obtain ⟨i0, hi, hz0, hz1, hz2⟩ := info_parts valInfo3
          obtain ⟨v2, w2, hrun, hown2, hg2, hmv, hk1, hk2⟩ := run_append_kept (P := Tryz.prog) wq (w.heap.size + 3) 31 31 31 33 i0 _ 35 _ Tryz.underlying31 hi hz0 hz1 hz2 rfl (by decide) u t _ (hc.old HF.out.2.2.2.2.2.1) (.slice (some ⟨b, 0, none⟩) 1 1) 1 (valL 0 x nilS nilS) (val_srcR h3 hxr.len) (by unfold maxLen; omega) (by omega) (by have := hc.grown.size; have := HF.out.2.2.2.2.2.2; omega)
          exact wp_runW (run_call_append (.tmp 11) (.tmp 17) 31 31 rfl u (.slice (some ⟨b, 0, none⟩) 1 1) v2 e0 e1 hrun) ⟨v2, rfl, hown2, ⟨hg2, fun _ => hk1, hk2⟩⟩
        | 9, _ =>
          cases ho
          refine flowR_of (fun w' h => AppR.of_below h) ?_
          have e1 : aq.tmps.getD 3 undef = .pointer (some ⟨w.heap.size + 2, 0, none⟩) := hk 3 (by decide)
          exact flow_value _ (run_fieldAt 33 (.tmp 3) 3 rfl _ _ e1 (by kernel_rfl)) rfl
        | (k + 10), hk => exact absurd hk (by omega)
      · intro o h10 ho
        omega
      intro vf w8 hc hv hv2
      have e9 : vf 9 = _ := hv 9 19 (by decide) rfl
      have h8 : w8.ownsRow (w.heap.size + 3) 33 35 (vf 8) (t + 1) _ := hv 8 18 (by decide) rfl
      obtain ⟨g1, cap1, e8⟩ := ownsRow_succ h8
      rw [e8, HO.out.2.2.1] at h8
      have hX8 := HF.out.1.grownO hc.grown HF.out.2.1
      have hA8 := HO.out.1.grownO hc.grown (fun e => by have := HO.out.2.2.2 _ e; omega)
      have hZ8 := HF.out.2.2.1.grownO hc.grown HF.out.2.2.2.1
      have L8 := HO.out.2.1.grown hc.grown hwl (fun k hk => by have := HO.out.2.2.2 _ hk; omega)
      clear hv hv2 hc
      simp only [List.take_succ_cons, List.take_zero, List.drop_succ_cons, List.drop_zero, putAll, Act.put, List.setIfInBounds_toArray, List.set_cons_succ, List.set_cons_zero]
      rw [e8, e9]
      have c34 := hX8.cell (valL_34 0 (zeros 32) nilS u zeros32)
      have f34 := frozen_of_row w8 (w.heap.size + 2) 34 _ _ hX8
      have Y8 := hid (And.intro h8 (And.intro hX8 (And.intro hA8 (And.intro hZ8 L8))))
      clear e8 e9 h8 hX8 hA8 L8 hZ8
      go_wp2_with fail
      have hO := Only.setCell w8 (w.heap.size + 2) 34 (.slice (some ⟨g1, 0, none⟩) (t + 1) cap1)
      have hX9 := Y8.out.2.1.setCellV 34 (.slice (some ⟨g1, 0, none⟩) (t + 1) cap1)
      rw [valL_set34] at hX9
      have hg1 := (own_lt Y8.out.1 g1 rfl).1
      refine ⟨⟨t + 1, _, by omega, by go_num, hX9, own_only Y8.out.1 hO (fun _ => by simp [Value.ownBlock]; omega) (by simp [Value.ownBlock]; omega), Y8.out.2.2.1.only hO (by omega), Y8.out.2.2.2.1.only hO (by omega), below_only Y8.out.2.2.2.2 hO (by omega)⟩, by simp [intOf]; omega⟩
    · have ht2 : t = 6 := by omega
      subst ht2
      rw [List.take_of_length_le (by omega), ← hzpl] at hown
      have husl : isSl u := by
        rcases hown.2 with ⟨rfl, _⟩ | ⟨g, cap, cur, rfl, _⟩ <;> trivial
      have HO := hid (And.intro hX (And.intro hown (And.intro hA (And.intro hZ hW))))
      have HP1 := hid (fun (wq : World) (h : wr.heap.size ≤ wq.heap.size) b (hb : wq.heap.size ≤ b) => HP0.out b (by omega))
      clear hX hown hA hW hol hZ
      go_wp2_with fail
      try simp only [Act.put, List.setIfInBounds_toArray, List.set_cons_succ, List.set_cons_zero]
      refine wp_region_flow 6 6 (fun i v wq => match i with
        | 0 => v = .agg (valL 0 (zeros 32) nilS u).toArray
        | 1 => v = .pointer (some ⟨w.heap.size, 192, none⟩)
        | 2 => v = .agg (ddC6 zdzk zdzcr zdzam zdzsg).toArray
        | 3 => IsVI P1 wq v (ddV6 zdzk zdzcr zdzam zdzsg)
        | 4 => ∃ b, v = .slice (some ⟨b, 0, none⟩) 2 2 ∧ KIn P1 wq [vecV zp, ddV6 zdzk zdzcr zdzam zdzsg] b 0
        | _ => ∃ b, v = .agg (valL 0 (zeros 32) nilS (.slice (some ⟨b, 0, none⟩) 2 2)).toArray ∧ KIn P1 wq [vecV zp, ddV6 zdzk zdzcr zdzam zdzsg] b 0) (by kernel_rfl) (by kernel_rfl) (fun _ d _ _ _ h => by cases d <;> exact h) ?_ ?_ ?_ ?_
      · intro i v wq wq' hi hv hb
        match i, hi with
        | 0, _ => exact hv
        | 1, _ => exact hv
        | 2, _ => exact hv
        | 3, _ => exact hv.keep hb
        | 4, _ => obtain ⟨b, h1, h2⟩ := hv; exact ⟨b, h1, h2.keep hb⟩
        | 5, _ => obtain ⟨b, h1, h2⟩ := hv; exact ⟨b, h1, h2.keep hb⟩
        | (k + 6), hk => exact absurd hk (by omega)
      · intro i o hi ho aq wq hc hk hdep
        match i, hi with
        | 0, _ =>
          cases ho
          have e1 : aq.tmps.getD 3 undef = .pointer (some ⟨w.heap.size + 2, 0, none⟩) := hk 3 (by decide)
          exact flow_value _ (run_mid 33 (.tmp 3) rfl (w.heap.size + 2) 0 e1 (valL 0 (zeros 32) nilS u) ((HO.out.1.keep (hcB hc)).range 0 (valL 0 (zeros 32) nilS u) (fun j v hv => by rw [Nat.zero_add]; exact hv)) _ Tryz.underlying33 rfl (by rw [valL_length _ _ _ _ zeros32]; kernel_rfl)) rfl
        | 1, _ =>
          cases ho
          have e1 : aq.tmps.getD 1 undef = .pointer (some ⟨w.heap.size, 0, none⟩) := hk 1 (by decide)
          exact flow_value _ (run_fieldAt 75 (.tmp 1) 1 rfl _ _ e1 (by kernel_rfl)) rfl
        | 2, _ =>
          cases ho
          have e0 : aq.tmps.getD 21 undef = .pointer (some ⟨w.heap.size, 192, none⟩) := hdep 1 21 rfl (by kernel_rfl)
          exact flow_value _ (run_mid 73 (.tmp 21) rfl w.heap.size 192 e0 (ddC6 zdzk zdzcr zdzam zdzsg) ((HO.out.2.2.2.1.keep (hcB hc)).range 192 (ddC6 zdzk zdzcr zdzam zdzsg) (fun j v hv => dpC_192 zp _ hzpl hzp.len j v hv)) _ Tryz.underlying73 rfl (by rw [ddC6_length zdzk zdzcr zdzam zdzsg hzdzk.len hzdzcr.len hzdzsg.len]; kernel_rfl)) rfl
        | 3, _ =>
          cases ho
          have e0 : aq.tmps.getD 22 undef = .agg (ddC6 zdzk zdzcr zdzam zdzsg).toArray := hdep 2 22 rfl (by kernel_rfl)
          refine flow_fun 34 _ _ rfl (fun _ _ => by simp [go_sem]) #[.agg (ddC6 zdzk zdzcr zdzam zdzsg).toArray] (by rw [show (#[Operand.tmp 22] : Array Operand).map aq.eval = #[aq.tmps.getD 22 undef] from by simp [Act.eval], e0]) ?_
          refine (ddW_any P1 zdzk zdzcr zdzam zdzsg hzdzk hzdzcr hzdzam hzdzsg wq (HP1.out wq (hcB hc).size)).mono ?_
          rintro x w' ⟨v, rfl, h1, q⟩
          exact ⟨v, rfl, h1, q⟩
        | 4, _ =>
          cases ho
          have e0 : aq.tmps.getD 20 undef = .agg (valL 0 (zeros 32) nilS u).toArray := hdep 0 20 rfl (by kernel_rfl)
          obtain ⟨sb1, sk1, e1, h1_⟩ := hdep 3 23 rfl (by kernel_rfl)
          have h0_ : VIn P1 wq (vecV zp) nilS u := vIn_vec (own_keep HO.out.2.1 (hcB hc)) hzp (fun b hb => HP0.out b hb)
          refine flow_rowsB 31 33 2 35 _ rfl Tryz.underlying31 valInfo [(valL 0 (zeros 32) nilS u), valL 0 (zeros 32) sb1 sk1] [.tmp 20, .tmp 23] rfl (by rw [show [Operand.tmp 20, Operand.tmp 23].map aq.eval = [aq.tmps.getD 20 undef, aq.tmps.getD 23 undef] from rfl, e0, e1]; rfl) (by simp [valL_length, zeros32]) rfl (by decide) (by decide) (by decide) (fun w' h hb => ⟨_, rfl, kIn_of h hb (HP1.out wq (hcB hc).size _ (Nat.le_refl _)) [(vecV zp, nilS, u), (ddV6 zdzk zdzcr zdzam zdzsg, sb1, sk1)] (fun j v hj => by rw [Nat.zero_add]; exact hj) (fun x hx => ?_)⟩)
          simp only [List.mem_cons, List.not_mem_nil, or_false] at hx
          rcases hx with rfl | rfl
          · exact h0_
          · exact h1_
        | 5, _ =>
          cases ho
          obtain ⟨b, e6, h6⟩ := hdep 4 24 rfl (by kernel_rfl)
          refine flow_fun 42 _ _ rfl (fun _ _ => by simp [go_sem]) #[.slice (some ⟨b, 0, none⟩) 2 2] (by rw [show (#[Operand.tmp 24] : Array Operand).map aq.eval = #[aq.tmps.getD 24 undef] from by simp [Act.eval], e6]) ?_
          refine (all_any (some ⟨b, 0, none⟩) 2 2 wq).mono ?_
          rintro x w' ⟨rfl, q⟩
          exact ⟨_, rfl, ⟨b, rfl, h6.keep q⟩, q⟩
        | (k + 6), hk => exact absurd hk (by omega)
      · intro o h6 ho
        omega
      intro vf w8 hc hv
      have e7 : ∃ b, vf 5 = _ ∧ KIn P1 w8 _ b 0 := hv 5 25 (by decide) rfl
      obtain ⟨b, e7, h7⟩ := e7
      have B8 := HO.out.2.2.2.2.trans ((hcB hc).mono (by omega))
      have H8v := HO.out.2.2.1.keep (hcB hc)
      have s8 := (hcB hc).size
      clear hv hc
      simp only [List.take_succ_cons, List.take_zero, List.drop_succ_cons, List.drop_zero, putAll, Act.put, List.setIfInBounds_toArray, List.set_cons_succ, List.set_cons_zero]
      rw [e7]
      have HB8 := hid B8
      have HK := hid h7
      clear B8 h7 e7 HO
      go_wp2_with ((with_reducible refine at_list' ?_); first
        | (refine wpList_store_c Tryz.ty33 rfl (.tmp 2) (.tmp 25) rfl (w.heap.size + 1) (valL 0 (zeros 32) nilS (.slice (some ⟨b, 0, none⟩) 2 2)) rfl rfl rfl (valL_oneC _ _ _ _ trivial trivial) _ H8v rfl ?_; intro w9 H9 O9))
      refine bodyPost_ret (results_c1 Tryz.ty33 rfl _ w9 (w.heap.size + 1) _ rfl H9 rfl) rfl ⟨_, rfl, ⟨nilS, _, rfl, ?_⟩, below_only HB8.out O9 (by omega)⟩
      have hk := HK.out
      rw [← hP1.out] at hk
      exact vIn_all (ks := [vecV zp, ddV6 zdzk zdzcr zdzam zdzsg]) rfl (by decide) (hk.only O9)
end Go.Proofs.YtlkiafggagaeeaaGreat

/- The document's kind of a DepositData. -/
namespace Go.Proofs.YtlkiafggagaeeaaGreat
open Go.RowKit
set_option linter.unusedVariables false
set_option maxRecDepth 100000

set_option maxHeartbeats 2000000 in
theorem ddd_any (w : World) : Calls Tryz.prog 33 #[] w fun x w' => ∃ p, x = .returned (.pointer (some ⟨p, 0, none⟩)) ∧ DAt w' (dBox [dRoot, dRoot, dNum, dRoot]) p ∧ Below w.heap.size w w' := by
  have HB0 := hid (Below.refl w.heap.size w)
  go_enter Tryz.func33, Tryz.ntmps33
  go_wp2_with fail
  refine (root_any' w).mono ?_
  rintro e w1 ⟨rfl, q1, q2⟩
  have HD0_0 := hid q1
  have HB1 := hid (HB0.out.trans (q2.mono HB0.out.size))
  clear q1 q2 HB0
  go_wp2_with fail
  refine (root_any' w1).mono ?_
  rintro e w2 ⟨rfl, q1, q2⟩
  have HD0_1 := hid (DAt.keep q2 _ HD0_0.out)
  have HD1_1 := hid q1
  have HB2 := hid (HB1.out.trans (q2.mono HB1.out.size))
  clear q1 q2 HB1 HD0_0
  go_wp2_with fail
  refine (num_any' w2).mono ?_
  rintro e w3 ⟨rfl, q1, q2⟩
  have HD0_2 := hid (DAt.keep q2 _ HD0_1.out)
  have HD1_2 := hid (DAt.keep q2 _ HD1_1.out)
  have HD2_2 := hid q1
  have HB3 := hid (HB2.out.trans (q2.mono HB2.out.size))
  clear q1 q2 HB2 HD0_1 HD1_1
  go_wp2_with fail
  refine (root_any' w3).mono ?_
  rintro e w4 ⟨rfl, q1, q2⟩
  have HD0_3 := hid (DAt.keep q2 _ HD0_2.out)
  have HD1_3 := hid (DAt.keep q2 _ HD1_2.out)
  have HD2_3 := hid (DAt.keep q2 _ HD2_2.out)
  have HD3_3 := hid q1
  have HB4 := hid (HB3.out.trans (q2.mono HB3.out.size))
  clear q1 q2 HB3 HD0_2 HD1_2 HD2_2
  go_wp2_with fail
  have hB : Below w4.heap.size w4 (w4.alloc (.cells #[.pointer (some ⟨w.heap.size, 0, none⟩), .pointer (some ⟨w1.heap.size, 0, none⟩), .pointer (some ⟨w2.heap.size, 0, none⟩), .pointer (some ⟨w3.heap.size, 0, none⟩)] 41)) := (Below.refl _ w4).alloc (Nat.le_refl _) _
  have h := heap_alloc_new w4 (.cells #[.pointer (some ⟨w.heap.size, 0, none⟩), .pointer (some ⟨w1.heap.size, 0, none⟩), .pointer (some ⟨w2.heap.size, 0, none⟩), .pointer (some ⟨w3.heap.size, 0, none⟩)] 41)
  generalize w4.alloc (.cells #[.pointer (some ⟨w.heap.size, 0, none⟩), .pointer (some ⟨w1.heap.size, 0, none⟩), .pointer (some ⟨w2.heap.size, 0, none⟩), .pointer (some ⟨w3.heap.size, 0, none⟩)] 41) = w5 at hB h ⊢
  have hD : DsAt w5 [dRoot, dRoot, dNum, dRoot] w4.heap.size 0 := by
    simp only [DsAt]
    exact ⟨⟨_, cell_of_row _ _ 0 _ _ (0, 0) h, DAt.keep hB _ HD0_3.out⟩, ⟨_, cell_of_row _ _ 1 _ _ (0, 0) h, DAt.keep hB _ HD1_3.out⟩, ⟨_, cell_of_row _ _ 2 _ _ (0, 0) h, DAt.keep hB _ HD2_3.out⟩, ⟨_, cell_of_row _ _ 3 _ _ (0, 0) h, DAt.keep hB _ HD3_3.out⟩, trivial⟩
  have HC := hid (box_any w4.heap.size 4 [dRoot, dRoot, dNum, dRoot] w5 rfl (by decide) hD)
  have HBm := hid (HB4.out.trans (hB.mono HB4.out.size))
  clear hB h hD
  refine HC.out.mono ?_
  rintro e wz ⟨rfl, q1, q2⟩
  have X := hid (And.intro q1 q2)
  clear q1 q2 HC
  go_wp2
  go_ret
  exact ⟨_, rfl, X.out.1, HBm.out.trans (X.out.2.mono HBm.out.size)⟩
end Go.Proofs.YtlkiafggagaeeaaGreat

/- The document's kind of a Deposit. -/
namespace Go.Proofs.YtlkiafggagaeeaaGreat
open Go.RowKit
set_option linter.unusedVariables false
set_option maxRecDepth 100000

set_option maxHeartbeats 1000000 in
theorem just_any (p n : Nat) (d : Dt) (w : World) (hD : DAt w d p) : Calls Tryz.prog 82 #[.pointer (some ⟨p, 0, none⟩), .int .i64 (n : Nat)] w fun x w' => ∃ q, x = .returned (.pointer (some ⟨q, 0, none⟩)) ∧ DAt w' (.mk 4 n [d]) q ∧ Below w.heap.size w w' := by
  have HD := hid hD
  clear hD
  go_enter Tryz.func82, Tryz.ntmps82
  go_wp2
  go_ret
  have B1 : Below w.heap.size w (w.alloc (.cells #[.pointer (some ⟨p, 0, none⟩)] 41)) := (Below.refl _ w).alloc (Nat.le_refl _) _
  have h1 := heap_alloc_new w (.cells #[.pointer (some ⟨p, 0, none⟩)] 41)
  have s1 : (w.alloc (.cells #[.pointer (some ⟨p, 0, none⟩)] 41)).heap.size = w.heap.size + 1 := by simp
  generalize w.alloc (.cells #[.pointer (some ⟨p, 0, none⟩)] 41) = w1 at *
  have B2 : Below w1.heap.size w1 (w1.alloc (.cells #[.int .i64 4, .int .i64 (n : Nat), .slice (some ⟨w.heap.size, 0, none⟩) 1 1] 116)) := (Below.refl _ w1).alloc (Nat.le_refl _) _
  have h2 := heap_alloc_new w1 (.cells #[.int .i64 4, .int .i64 (n : Nat), .slice (some ⟨w.heap.size, 0, none⟩) 1 1] 116)
  refine ⟨w.heap.size + 1, rfl, ?_, B1.trans (B2.mono B1.size)⟩
  rw [s1] at h2
  rw [DAt]
  refine ⟨cell_of_row _ _ 0 _ _ (0, 0) h2, cell_of_row _ _ 1 _ _ (0, 0) h2, some ⟨w.heap.size, 0, none⟩, 1, cell_of_row _ _ 2 _ _ (0, 0) h2, Nat.le_refl _, by decide, .inr ⟨w.heap.size, 0, rfl, ?_⟩⟩
  rw [DsAt, DsAt]
  exact ⟨⟨p, cell_keep B2 (cell_of_row _ _ 0 _ _ (0, 0) h1), DAt.keep B2 _ (DAt.keep B1 _ HD.out)⟩, trivial⟩
set_option maxHeartbeats 2000000 in
theorem ddp_any (w : World) : Calls Tryz.prog 35 #[] w fun x w' => ∃ p, x = .returned (.pointer (some ⟨p, 0, none⟩)) ∧ DAt w' (dBox [.mk 4 6 [dRoot], dBox [dRoot, dRoot, dNum, dRoot]]) p ∧ Below w.heap.size w w' := by
  go_enter Tryz.func35, Tryz.ntmps35
  go_wp2_with fail
  refine (root_any' w).mono ?_
  rintro e w1 ⟨rfl, q1, q2⟩
  have HB1 := hid q2
  have HJ := hid (just_any w.heap.size 6 dRoot w1 q1)
  clear q1 q2
  go_wp2_with fail
  refine HJ.out.mono ?_
  rintro e w2 ⟨p0, rfl, q1, q2⟩
  have HD0 := hid q1
  have HB2 := hid (HB1.out.trans (q2.mono HB1.out.size))
  clear q1 q2 HJ HB1
  go_wp2_with fail
  refine (ddd_any w2).mono ?_
  rintro e w3 ⟨p1, rfl, q1, q2⟩
  have HD0 := hid (DAt.keep q2 _ HD0.out)
  have HD1 := hid q1
  have HB3 := hid (HB2.out.trans (q2.mono HB2.out.size))
  clear q1 q2 HB2
  go_wp2_with fail
  have hB : Below w3.heap.size w3 (w3.alloc (.cells #[.pointer (some ⟨p0, 0, none⟩), .pointer (some ⟨p1, 0, none⟩)] 41)) := (Below.refl _ w3).alloc (Nat.le_refl _) _
  have h := heap_alloc_new w3 (.cells #[.pointer (some ⟨p0, 0, none⟩), .pointer (some ⟨p1, 0, none⟩)] 41)
  generalize w3.alloc (.cells #[.pointer (some ⟨p0, 0, none⟩), .pointer (some ⟨p1, 0, none⟩)] 41) = w4 at hB h ⊢
  have hD : DsAt w4 [.mk 4 6 [dRoot], dBox [dRoot, dRoot, dNum, dRoot]] w3.heap.size 0 := by
    rw [DsAt, DsAt, DsAt]
    exact ⟨⟨_, cell_of_row _ _ 0 _ _ (0, 0) h, DAt.keep hB _ HD0.out⟩, ⟨_, cell_of_row _ _ 1 _ _ (0, 0) h, DAt.keep hB _ HD1.out⟩, trivial⟩
  have HC := hid (box_any w3.heap.size 2 [.mk 4 6 [dRoot], dBox [dRoot, dRoot, dNum, dRoot]] w4 rfl (by decide) hD)
  have HB4 := hid (HB3.out.trans (hB.mono HB3.out.size))
  clear hB h hD
  refine HC.out.mono ?_
  rintro e wz ⟨rfl, q1, q2⟩
  have X := hid (And.intro q1 q2)
  clear q1 q2 HC
  go_wp2
  go_ret
  exact ⟨_, rfl, X.out.1, HB4.out.trans (X.out.2.mono HB4.out.size)⟩
end Go.Proofs.YtlkiafggagaeeaaGreat

/- Lengths of parts, and numbers as bytes: there and back. -/
namespace Go.Proofs.YtlkiafggagaeeaaGreat
open Go.RowKit
set_option linter.unusedVariables false
/-- What parts are joined to. -/
def joinB (bss : List (List Nat)) : List Nat := cont (bss.map fun b => (b, true))
def lenB (bss : List (List Nat)) : Nat := (bss.map List.length).sum
theorem lenB_F (bss : List (List Nat)) : lenF (bss.map fun b => (b, true)) = lenB bss := by
  unfold lenF lenB
  rw [List.map_map]; rfl
theorem lenB_take (bss : List (List Nat)) (k : Nat) : lenB (bss.take k) ≤ lenB bss := by
  have := lenF_take (bss.map fun b => (b, true)) k
  rw [← List.map_take, lenB_F, lenB_F] at this
  exact this
theorem lenB_mem {bss : List (List Nat)} {i : Nat} {x : List Nat} (h : bss[i]? = some x) : x.length ≤ lenB bss := by
  have h1 := lenB_take bss (i + 1)
  have hi := (List.getElem?_eq_some_iff.1 h).1
  rw [List.take_succ_eq_append_getElem hi] at h1
  rw [List.getElem?_eq_getElem hi] at h
  cases h
  have e : ∀ (a : List (List Nat)) (b : List Nat), lenB (a ++ [b]) = lenB a + b.length := fun a b => by simp [lenB]
  rw [e] at h1
  omega

theorem le_putL (x k : Nat) : ((le x k).map fun n : Nat => (n : Int)) = putL x k := by
  simp [le, putL, byteAt]
theorem tk_le (x k : Nat) (hk : k ≤ 8) : tk (le x k) = x % 256 ^ k := by
  unfold tk takeV
  rw [le_putL, List.take_of_length_le (by rw [putL_length]; omega), takeL_put]
theorem tk_le4 (x : Nat) (h : x < 4294967296) : tk (le x 4) = x := by
  rw [tk_le x 4 (by decide)]
  exact Nat.mod_eq_of_lt h
theorem lenB_cons (b : List Nat) (r : List (List Nat)) : lenB (b :: r) = b.length + lenB r := by simp [lenB]
theorem lenB_flat (bss : List (List Nat)) : bss.flatten.length = lenB bss := by
  induction bss with
  | nil => rfl
  | cons b r ih => rw [List.flatten_cons, List.length_append, ih, lenB_cons]
theorem back_flat (bss : List (List Nat)) : backB (bss.map fun b => (b, true)) = bss.flatten := by
  induction bss with
  | nil => rfl
  | cons b r ih =>
    rw [List.map_cons, List.flatten_cons, ← ih]
    simp [backB]
theorem front_at (rest : List Nat) : ∀ (bss : List (List Nat)) (p j : Nat), j < bss.length → ((frontB p (bss.map fun b => (b, true)) ++ rest).drop (4 * j)).take 4 = le (p + lenB (bss.take j)) 4
  | [], p, j, h => by simp at h
  | b :: r, p, 0, h => by
    rw [List.map_cons, frontB]
    simp only [if_true, List.append_assoc, Nat.mul_zero, List.drop_zero, List.take_zero]
    rw [List.take_append_of_le_length (by rw [le_length]; exact Nat.le_refl _), List.take_of_length_le (by rw [le_length]; exact Nat.le_refl _)]
    rfl
  | b :: r, p, j + 1, h => by
    rw [List.map_cons, frontB]
    simp only [if_true, List.append_assoc]
    have h4 : (le p 4).length = 4 := le_length _ _
    rw [show 4 * (j + 1) = (le p 4).length + 4 * j by rw [h4]; omega, List.drop_append, List.take_succ_cons, lenB_cons]
    have e : List.drop ((le p 4).length + 4 * j) (le p 4) = [] := List.drop_eq_nil_of_le (by omega)
    rw [e, List.nil_append, show (le p 4).length + 4 * j - (le p 4).length = 4 * j by omega, front_at rest r (p + b.length) j (by simpa using h), Nat.add_assoc]
theorem flat_part : ∀ (bss : List (List Nat)) (i : Nat) (x : List Nat), bss[i]? = some x → (bss.flatten.drop (lenB (bss.take i))).take x.length = x
  | [], i, x, h => by simp at h
  | b :: r, 0, x, h => by
    simp at h
    subst h
    simp [lenB]
  | b :: r, i + 1, x, h => by
    rw [List.take_succ_cons, lenB_cons, List.flatten_cons, List.drop_append, List.drop_eq_nil_of_le (by omega), List.nil_append, show b.length + lenB (r.take i) - b.length = lenB (r.take i) by omega]
    exact flat_part r i x (by simpa using h)
theorem lenB_succ (bss : List (List Nat)) (i : Nat) (x : List Nat) (h : bss[i]? = some x) : lenB (bss.take (i + 1)) = lenB (bss.take i) + x.length := by
  have hi := (List.getElem?_eq_some_iff.1 h).1
  rw [List.getElem?_eq_getElem hi] at h
  cases h
  rw [List.take_succ_eq_append_getElem hi]
  have e : ∀ (a : List (List Nat)) (b : List Nat), lenB (a ++ [b]) = lenB a + b.length := fun a b => by simp [lenB]
  exact e _ _
end Go.Proofs.YtlkiafggagaeeaaGreat

/- Numbers as eight bytes, there and back. -/
namespace Go.Proofs.YtlkiafggagaeeaaGreat
open Go.RowKit
set_option maxRecDepth 100000

theorem tk_le8 (n : Nat) (h : n < 18446744073709551616) : tk (le n 8) = n := by
  unfold tk
  rw [le_putL]
  exact takeV_put8 n h
end Go.Proofs.YtlkiafggagaeeaaGreat

/- CodecDeposits: its contracts, made one. -/
namespace Go.Proofs.YtlkiafggagaeeaaGreat
open Go.RowKit
set_option linter.unusedVariables false
set_option linter.unusedSimpArgs false
set_option maxRecDepth 100000

def dqC (ra rb rc rd re rf ke cr : List Nat) (am : Nat) (sg : List Nat) : List Value := dpK [ra, rb, rc, rd, re, rf] ke cr am sg
def dqC6 (ra rb rc rd re rf ke cr : List Nat) (am : Nat) (sg : List Nat) : List Value := dpC [ra, rb, rc, rd, re, rf] (ddC6 ke cr am sg)
def dqF (ra rb rc rd re rf ke cr : List Nat) (am : Nat) (sg : List Nat) : List (List Nat × Bool) := dpF [ra, rb, rc, rd, re, rf] ke cr am sg
def dqV6 (ra rb rc rd re rf ke cr : List Nat) (am : Nat) (sg : List Nat) : Vt := dpV6 [ra, rb, rc, rd, re, rf] ke cr am sg
def dqD (bs : List Nat) : Value := dpD bs
def dqTake (bs : List Nat) (size : Nat) (s : Rs) : List Value := dpTake bs size s
theorem ddC_six (ke cr : List Nat) (am : Nat) (sg : List Nat) : ddC6 ke cr am sg = ddC ke cr am sg := by simp [ddC6, ddP6, ddC]
theorem six32 (ra rb rc rd re rf : List Nat) (hra : ra.length = 32) (hrb : rb.length = 32) (hrc : rc.length = 32) (hrd : rd.length = 32) (hre : re.length = 32) (hrf : rf.length = 32) : ∀ r ∈ [ra, rb, rc, rd, re, rf], r.length = 32 := by simp [hra, hrb, hrc, hrd, hre, hrf]
theorem six8 (ra rb rc rd re rf : List Nat) (hra : ∀ z ∈ ra, z < 256) (hrb : ∀ z ∈ rb, z < 256) (hrc : ∀ z ∈ rc, z < 256) (hrd : ∀ z ∈ rd, z < 256) (hre : ∀ z ∈ re, z < 256) (hrf : ∀ z ∈ rf, z < 256) : ∀ r ∈ [ra, rb, rc, rd, re, rf], ∀ z ∈ r, z < 256 := by
  intro r hr
  simp only [List.mem_cons, List.not_mem_nil, or_false] at hr
  rcases hr with rfl | rfl | rfl | rfl | rfl | rfl <;> assumption
theorem dqC_length (ra rb rc rd re rf ke cr : List Nat) (am : Nat) (sg : List Nat) (hra : ra.length = 32) (hrb : rb.length = 32) (hrc : rc.length = 32) (hrd : rd.length = 32) (hre : re.length = 32) (hrf : rf.length = 32) (hke : ke.length = 32) (hcr : cr.length = 32) (hsg : sg.length = 32) : (dqC ra rb rc rd re rf ke cr am sg).length = 289 := dpK_length [ra, rb, rc, rd, re, rf] ke cr am sg rfl (six32 _ _ _ _ _ _ hra hrb hrc hrd hre hrf) hke hcr hsg
theorem dqC_one (ra rb rc rd re rf ke cr : List Nat) (am : Nat) (sg : List Nat) (hra : ra.length = 32) (hrb : rb.length = 32) (hrc : rc.length = 32) (hrd : rd.length = 32) (hre : re.length = 32) (hrf : rf.length = 32) (hke : ke.length = 32) (hcr : cr.length = 32) (hsg : sg.length = 32) : (dqC ra rb rc rd re rf ke cr am sg).toArray.all (·.oneCell') = true := by
  simp only [List.all_toArray, List.all_eq_true]
  intro v hv
  simp only [dqC, dpK, dpC, List.mem_append, List.not_mem_nil, or_false] at hv
  have hd := ddC_one ke cr am sg
  simp only [List.all_toArray, List.all_eq_true] at hd
  rcases hv with hv | hv
  · exact cellsB_one _ v hv
  · exact hd v hv
theorem encDq_any (ra rb rc rd re rf ke cr : List Nat) (am : Nat) (sg : List Nat) (w : World) (hra : ra.length = 32) (hra8 : ∀ z ∈ ra, z < 256) (hrb : rb.length = 32) (hrb8 : ∀ z ∈ rb, z < 256) (hrc : rc.length = 32) (hrc8 : ∀ z ∈ rc, z < 256) (hrd : rd.length = 32) (hrd8 : ∀ z ∈ rd, z < 256) (hre : re.length = 32) (hre8 : ∀ z ∈ re, z < 256) (hrf : rf.length = 32) (hrf8 : ∀ z ∈ rf, z < 256) (hke : ke.length = 32) (hke8 : ∀ z ∈ ke, z < 256) (hcr : cr.length = 32) (hcr8 : ∀ z ∈ cr, z < 256) (ham : am < 18446744073709551616) (hsg : sg.length = 32) (hsg8 : ∀ z ∈ sg, z < 256) : Calls Tryz.prog 30 #[.agg (dqC ra rb rc rd re rf ke cr am sg).toArray] w fun x w' => ∃ v, x = .returned v ∧ Row w' w.heap.size v (cont (dqF ra rb rc rd re rf ke cr am sg)) ∧ Below w.heap.size w w' :=
  encDp_any [ra, rb, rc, rd, re, rf] ke cr am sg w rfl (six32 _ _ _ _ _ _ hra hrb hrc hrd hre hrf) (six8 _ _ _ _ _ _ hra8 hrb8 hrc8 hrd8 hre8 hrf8) hke hke8 hcr hcr8 ham hsg hsg8
theorem toDq_any (v : Value) (bs : List Nat) (w : World) (hI : IsB w v bs) (hl : bs.length ≤ 140737488355328) : Calls Tryz.prog 31 #[v] w fun x w' => x = .returned (dqD bs) ∧ Below w.heap.size w w' := toDp_any v bs w hI hl
theorem ddq_any (w : World) : Calls Tryz.prog 35 #[] w fun x w' => ∃ p, x = .returned (.pointer (some ⟨p, 0, none⟩)) ∧ DAt w' (dBox [.mk 4 6 [dRoot], dBox [dRoot, dRoot, dNum, dRoot]]) p ∧ Below w.heap.size w w' := ddp_any w
theorem dqV6_any (ra rb rc rd re rf ke cr : List Nat) (am : Nat) (sg : List Nat) (hra : Rt6 ra) (hrb : Rt6 rb) (hrc : Rt6 rc) (hrd : Rt6 rd) (hre : Rt6 re) (hrf : Rt6 rf) (hke : Rt6 ke) (hcr : Rt6 cr) (ham : am < 18446744073709551616) (hsg : Rt6 sg) (w : World) : Calls Tryz.prog 29 #[.agg (dqC6 ra rb rc rd re rf ke cr am sg).toArray] w fun x w' => ∃ v, x = .returned v ∧ IsV w' v (dqV6 ra rb rc rd re rf ke cr am sg) ∧ Below w.heap.size w w' := by
  refine (dpV6_any (fun _ => True) [ra, rb, rc, rd, re, rf] ke cr am sg ⟨six32 _ _ _ _ _ _ hra.len hrb.len hrc.len hrd.len hre.len hrf.len, six8 _ _ _ _ _ _ hra.byte hrb.byte hrc.byte hrd.byte hre.byte hrf.byte⟩ rfl hke hcr ham hsg w (fun _ _ => trivial)).mono ?_
  rintro x w' ⟨v, rfl, h1, q⟩
  exact ⟨v, rfl, h1.isV, q⟩
theorem ddB (ke cr : List Nat) (am : Nat) (sg : List Nat) : cont (ddF ke cr am sg) = ke ++ (cr ++ (le am 8 ++ sg)) := by simp [ddF, numF, rootF, cont, frontB, backB]
theorem ddK_ok : okD (dBox [dRoot, dRoot, dNum, dRoot]) := by simp [okD, okDs, dBox, dNum, dRoot, small, sizeD, sizeS, sizeH]
theorem ddV_enc (ke cr : List Nat) (am : Nat) (sg : List Nat) : encV (dBox [dRoot, dRoot, dNum, dRoot]) (ddV6 ke cr am sg) = cont (ddF ke cr am sg) := by
  rw [ddB]
  simp [dBox, dNum, dRoot, ddV6, encV, encK, kdsV, sizeD, sizeS, sizeH, cont, frontB, backB]
theorem ddV_ok (ke cr : List Nat) (am : Nat) (sg : List Nat) (hke : ke.length = 32) (hcr : cr.length = 32) (hsg : sg.length = 32) : okV (dBox [dRoot, dRoot, dNum, dRoot]) (ddV6 ke cr am sg) := by
  simp [dBox, dNum, dRoot, ddV6, okV, okK, encV, encK, kdsV, sizeD, sizeS, sizeH, lenF, le_length, cont, frontB, backB, hke, hcr, hsg]
theorem dqB (ra : List Nat) (rb : List Nat) (rc : List Nat) (rd : List Nat) (re : List Nat) (rf : List Nat) (ke : List Nat) (cr : List Nat) (am : Nat) (sg : List Nat) : cont (dqF ra rb rc rd re rf ke cr am sg) = ra ++ (rb ++ (rc ++ (rd ++ (re ++ (rf ++ (ke ++ (cr ++ (le am 8 ++ (sg))))))))) := by simp [dqF, dpF, ddF, numF, rootF, cont, frontB, backB]
theorem dqK_ok : okD (dBox [.mk 4 6 [dRoot], dBox [dRoot, dRoot, dNum, dRoot]]) := by simp [okD, okDs, dBox, dNum, dRoot, small, sizeD, sizeS, sizeH]
theorem dqV_enc (ra : List Nat) (rb : List Nat) (rc : List Nat) (rd : List Nat) (re : List Nat) (rf : List Nat) (ke : List Nat) (cr : List Nat) (am : Nat) (sg : List Nat) : encV (dBox [.mk 4 6 [dRoot], dBox [dRoot, dRoot, dNum, dRoot]]) (dqV6 ra rb rc rd re rf ke cr am sg) = cont (dqF ra rb rc rd re rf ke cr am sg) := by
  rw [dqB]
  simp [dBox, dNum, dRoot, dqV6, dpV6, vecV, ddV6, encV, encK, kdsV, sizeD, sizeS, sizeH, cont, frontB, backB]
theorem dqV_ok (ra : List Nat) (rb : List Nat) (rc : List Nat) (rd : List Nat) (re : List Nat) (rf : List Nat) (ke : List Nat) (cr : List Nat) (am : Nat) (sg : List Nat) (hra : ra.length = 32) (hrb : rb.length = 32) (hrc : rc.length = 32) (hrd : rd.length = 32) (hre : re.length = 32) (hrf : rf.length = 32) (hke : ke.length = 32) (hcr : cr.length = 32) (hsg : sg.length = 32) : okV (dBox [.mk 4 6 [dRoot], dBox [dRoot, dRoot, dNum, dRoot]]) (dqV6 ra rb rc rd re rf ke cr am sg) := by
  simp [dBox, dNum, dRoot, dqV6, dpV6, vecV, ddV6, okV, okK, encV, encK, kdsV, sizeD, sizeS, sizeH, lenF, le_length, cont, frontB, backB, hra, hrb, hrc, hrd, hre, hrf, hke, hcr, hsg]
theorem dqC_six (ra : List Nat) (rb : List Nat) (rc : List Nat) (rd : List Nat) (re : List Nat) (rf : List Nat) (ke : List Nat) (cr : List Nat) (am : Nat) (sg : List Nat) : dqC6 ra rb rc rd re rf ke cr am sg = dqC ra rb rc rd re rf ke cr am sg := by simp only [dqC6, dqC, dpK, ddC_six]
theorem dqD_good (ra : List Nat) (rb : List Nat) (rc : List Nat) (rd : List Nat) (re : List Nat) (rf : List Nat) (ke : List Nat) (cr : List Nat) (am : Nat) (sg : List Nat) (hra : ra.length = 32) (hrb : rb.length = 32) (hrc : rc.length = 32) (hrd : rd.length = 32) (hre : re.length = 32) (hrf : rf.length = 32) (hke : ke.length = 32) (hcr : cr.length = 32) (ham : am < 18446744073709551616) (hsg : sg.length = 32) : dqD (ra ++ (rb ++ (rc ++ (rd ++ (re ++ (rf ++ (ke ++ (cr ++ (le am 8 ++ (sg)))))))))) = .tuple #[.agg (dqC ra rb rc rd re rf ke cr am sg).toArray, .int .i64 0] := by
  obtain ⟨y8, hy8, hyn8⟩ : ∃ y, le am 8 = y ∧ y.length = 8 := ⟨_, rfl, le_length _ _⟩
  have e8 : tk y8 = am := by rw [← hy8]; exact tk_le8 am ham
  rw [hy8]
  obtain ⟨BS, hBS⟩ : ∃ B, ra ++ (rb ++ (rc ++ (rd ++ (re ++ (rf ++ (ke ++ (cr ++ (y8 ++ (sg))))))))) = B := ⟨_, rfl⟩
  have hl : BS.length = 296 := by rw [← hBS]; simp [hra, hrb, hrc, hrd, hre, hrf, hke, hcr, hyn8, hsg]
  have d0 : BS.drop 0 = ra ++ (rb ++ (rc ++ (rd ++ (re ++ (rf ++ (ke ++ (cr ++ (y8 ++ (sg))))))))) := by rw [List.drop_zero]; exact hBS.symm
  have d1 : BS.drop 32 = rb ++ (rc ++ (rd ++ (re ++ (rf ++ (ke ++ (cr ++ (y8 ++ (sg)))))))) := by rw [show (32 : Nat) = 0 + 32 from rfl, ← List.drop_drop, d0]; exact List.drop_left' hra
  have d2 : BS.drop 64 = rc ++ (rd ++ (re ++ (rf ++ (ke ++ (cr ++ (y8 ++ (sg))))))) := by rw [show (64 : Nat) = 32 + 32 from rfl, ← List.drop_drop, d1]; exact List.drop_left' hrb
  have d3 : BS.drop 96 = rd ++ (re ++ (rf ++ (ke ++ (cr ++ (y8 ++ (sg)))))) := by rw [show (96 : Nat) = 64 + 32 from rfl, ← List.drop_drop, d2]; exact List.drop_left' hrc
  have d4 : BS.drop 128 = re ++ (rf ++ (ke ++ (cr ++ (y8 ++ (sg))))) := by rw [show (128 : Nat) = 96 + 32 from rfl, ← List.drop_drop, d3]; exact List.drop_left' hrd
  have d5 : BS.drop 160 = rf ++ (ke ++ (cr ++ (y8 ++ (sg)))) := by rw [show (160 : Nat) = 128 + 32 from rfl, ← List.drop_drop, d4]; exact List.drop_left' hre
  have d6 : BS.drop 192 = ke ++ (cr ++ (y8 ++ (sg))) := by rw [show (192 : Nat) = 160 + 32 from rfl, ← List.drop_drop, d5]; exact List.drop_left' hrf
  have d7 : BS.drop 224 = cr ++ (y8 ++ (sg)) := by rw [show (224 : Nat) = 192 + 32 from rfl, ← List.drop_drop, d6]; exact List.drop_left' hke
  have d8 : BS.drop 256 = y8 ++ (sg) := by rw [show (256 : Nat) = 224 + 32 from rfl, ← List.drop_drop, d7]; exact List.drop_left' hcr
  have d9 : BS.drop 264 = sg := by rw [show (264 : Nat) = 256 + 8 from rfl, ← List.drop_drop, d8]; exact List.drop_left' hyn8
  rw [hBS]
  unfold dqD dpD
  rw [if_pos hl]
  have t : dpTake BS 296 (0, false) = dqC ((BS.drop 0).take 32) ((BS.drop 32).take 32) ((BS.drop 64).take 32) ((BS.drop 96).take 32) ((BS.drop 128).take 32) ((BS.drop 160).take 32) ((BS.drop 192).take 32) ((BS.drop 224).take 32) (tk ((BS.drop 256).take 8)) ((BS.drop 264).take 32) := rfl
  have t0 : (BS.drop 0).take 32 = ra := by rw [d0]; exact List.take_left' hra
  have t1 : (BS.drop 32).take 32 = rb := by rw [d1]; exact List.take_left' hrb
  have t2 : (BS.drop 64).take 32 = rc := by rw [d2]; exact List.take_left' hrc
  have t3 : (BS.drop 96).take 32 = rd := by rw [d3]; exact List.take_left' hrd
  have t4 : (BS.drop 128).take 32 = re := by rw [d4]; exact List.take_left' hre
  have t5 : (BS.drop 160).take 32 = rf := by rw [d5]; exact List.take_left' hrf
  have t6 : (BS.drop 192).take 32 = ke := by rw [d6]; exact List.take_left' hke
  have t7 : (BS.drop 224).take 32 = cr := by rw [d7]; exact List.take_left' hcr
  have t8 : (BS.drop 256).take 8 = y8 := by rw [d8]; exact List.take_left' hyn8
  have t9 : (BS.drop 264).take 32 = sg := by rw [d9]; exact List.take_of_length_le (by omega)
  rw [t, t0, t1, t2, t3, t4, t5, t6, t7, t8, t9, e8]
  rfl
theorem dq_walk (ra : List Nat) (rb : List Nat) (rc : List Nat) (rd : List Nat) (re : List Nat) (rf : List Nat) (ke : List Nat) (cr : List Nat) (am : Nat) (sg : List Nat) (hra : ra.length = 32) (hra8 : ∀ z ∈ ra, z < 256) (hrb : rb.length = 32) (hrb8 : ∀ z ∈ rb, z < 256) (hrc : rc.length = 32) (hrc8 : ∀ z ∈ rc, z < 256) (hrd : rd.length = 32) (hrd8 : ∀ z ∈ rd, z < 256) (hre : re.length = 32) (hre8 : ∀ z ∈ re, z < 256) (hrf : rf.length = 32) (hrf8 : ∀ z ∈ rf, z < 256) (hke : ke.length = 32) (hke8 : ∀ z ∈ ke, z < 256) (hcr : cr.length = 32) (hcr8 : ∀ z ∈ cr, z < 256) (ham : am < 18446744073709551616) (hsg : sg.length = 32) (hsg8 : ∀ z ∈ sg, z < 256) (w : World) :
    Calls Tryz.prog 7 #[.agg (dqC ra rb rc rd re rf ke cr am sg).toArray] w fun e w' => e = .returned (.bool true) ∧ Below w.heap.size w w' := by
  have hB := dqB ra rb rc rd re rf ke cr am sg
  refine codecDeposit_walk (dqC ra rb rc rd re rf ke cr am sg) (dqC (zeros 32) (zeros 32) (zeros 32) (zeros 32) (zeros 32) (zeros 32) (zeros 32) (zeros 32) 0 (zeros 32)) (dqV6 ra rb rc rd re rf ke cr am sg) (cont (dqF ra rb rc rd re rf ke cr am sg)) (dBox [.mk 4 6 [dRoot], dBox [dRoot, dRoot, dNum, dRoot]]) (ddC ke cr am sg) (ddV6 ke cr am sg) (cont (ddF ke cr am sg)) (dBox [dRoot, dRoot, dNum, dRoot]) w Tryz.ty75 (by rw [(show (dqC ra rb rc rd re rf ke cr am sg).length = _ from dqC_length ra rb rc rd re rf ke cr am sg hra hrb hrc hrd hre hrf hke hcr hsg)]; rfl) (dqC_one _ _ _ _ _ _ _ _ _ _ hra hrb hrc hrd hre hrf hke hcr hsg) ?_ (fun wq => ?_) (fun wq => encDq_any ra rb rc rd re rf ke cr am sg wq hra hra8 hrb hrb8 hrc hrc8 hrd hrd8 hre hre8 hrf hrf8 hke hke8 hcr hcr8 ham hsg hsg8) (fun v wq hI => ?_) (fun wq => ddq_any wq) (fun p u wq hD hV => ?_) (fun u v wq hu hv => ?_) (fun j v hv => dpC_192 [ra, rb, rc, rd, re, rf] _ rfl (six32 _ _ _ _ _ _ hra hrb hrc hrd hre hrf) j v hv) (ddC_length ke cr am sg hke hcr hsg) ?_ (fun wq => ?_) (fun wq => encDd_any ke cr am sg wq hke hke8 hcr hcr8 ham hsg hsg8) (fun wq => ddd_any wq) (fun p u wq hD hV => ?_)
  · rw [hB]
    intro z hz
    simp only [List.mem_append] at hz
    rcases hz with hz | hz | hz | hz | hz | hz | hz | hz | hz | hz
    · exact hra8 z hz
    · exact hrb8 z hz
    · exact hrc8 z hz
    · exact hrd8 z hz
    · exact hre8 z hz
    · exact hrf8 z hz
    · exact hke8 z hz
    · exact hcr8 z hz
    · exact le_byte _ _ z hz
    · exact hsg8 z hz
  · rw [← dqC_six ra rb rc rd re rf ke cr am sg]
    exact dqV6_any ra rb rc rd re rf ke cr am sg ⟨hra, hra8⟩ ⟨hrb, hrb8⟩ ⟨hrc, hrc8⟩ ⟨hrd, hrd8⟩ ⟨hre, hre8⟩ ⟨hrf, hrf8⟩ ⟨hke, hke8⟩ ⟨hcr, hcr8⟩ ham ⟨hsg, hsg8⟩ wq
  · have h := toDq_any v _ wq hI (by rw [hB]; simp [le_length, hra, hrb, hrc, hrd, hre, hrf, hke, hcr, hsg])
    rw [hB, dqD_good ra rb rc rd re rf ke cr am sg hra hrb hrc hrd hre hrf hke hcr ham hsg] at h
    exact h
  · have h := enc_any _ _ u p wq dqK_ok (dqV_ok ra rb rc rd re rf ke cr am sg hra hrb hrc hrd hre hrf hke hcr hsg) hD hV
    rw [dqV_enc] at h
    exact h
  · have h := same_any _ _ u v wq hu hv
    rw [sameV_refl] at h
    exact h
  · rw [ddB]
    intro z hz
    simp only [List.mem_append] at hz
    rcases hz with hz | hz | hz | hz
    · exact hke8 z hz
    · exact hcr8 z hz
    · exact le_byte _ _ z hz
    · exact hsg8 z hz
  · rw [← ddC_six]
    exact ddV6_any ke cr am sg ⟨hke, hke8⟩ ⟨hcr, hcr8⟩ ham ⟨hsg, hsg8⟩ wq
  · have h := enc_any _ _ u p wq ddK_ok (ddV_ok ke cr am sg hke hcr hsg) hD hV
    rw [ddV_enc] at h
    exact h
end Go.Proofs.YtlkiafggagaeeaaGreat

/- Structs that came in by value. -/
namespace Go.Proofs.YtlkiafggagaeeaaGreat
open Go.RowKit Go.Deep Go.WideShapes
set_option linter.unusedVariables false
set_option linter.unusedSimpArgs false
set_option maxRecDepth 100000

abbrev Rt (r : List Nat) : Prop := r.length = 32 ∧ ∀ z ∈ r, z < 256
theorem cellsRt : Tryz.prog.cellsOf 24 = 32 := by kernel_rfl
theorem cellsU8 : Tryz.prog.cellsOf 5 = 1 := by kernel_rfl
theorem cellsU64 : Tryz.prog.cellsOf 22 = 1 := by kernel_rfl
/-- Parts of a list, one behind the other. -/
def cutAt {α : Type} (cs : List α) : Nat → List Nat → List (List α)
  | _, [] => []
  | o, k :: ks => (cs.drop o).take k :: cutAt cs (o + k) ks
theorem cut_flat {α : Type} (cs : List α) : ∀ (ks : List Nat) (o : Nat), o + ks.sum = cs.length → cs.drop o = (cutAt cs o ks).flatten := by
  intro ks
  induction ks with
  | nil => intro o h; simp at h; rw [h, List.drop_length]; rfl
  | cons k ks ih =>
    intro o h
    rw [cutAt, List.flatten_cons, ← ih (o + k) (by simp at h; omega), ← List.drop_drop, List.take_append_drop]
section
variable {H : Type} {enc : TypeId × Value → H} {W : World} {b0 : Nat} {sp : Nat → Bool} {held : Bool}
theorem root_of_trod {fuel : Nat} {cs : List Value} {x : DataW H × List MemPlace} (h : DataW.trod enc Tryz.prog W b0 sp held fuel 24 cs = some x) : ∃ r : List Nat, cs = cellsB r ∧ r.length = 32 ∧ ∀ z ∈ r, z < 256 := by
  obtain ⟨xs, m, _, _, hl, hxs, hel⟩ := DataW.trod_array Tryz.und24 h
  rw [cellsRt] at hl
  have key : ∀ i (hi : i < cs.length), ∃ n : Nat, cs[i] = .int .u8 (n : Int) ∧ n < 256 := by
    intro i hi
    have h1 := hel i (by omega)
    rw [cellsU8, Nat.mul_one, List.getElem?_eq_getElem (by omega)] at h1
    obtain ⟨n, e1, _, hw⟩ := DataW.trod_int Tryz.underlying5 h1
    have hb := bounds_u8 hw
    have e2 : (cs.drop i).take 1 = [cs[i]] := by
      rw [List.drop_eq_getElem_cons hi, List.take_succ_cons, List.take_zero]
    have e3 : [cs[i]] = [Value.int .u8 n] := e2.symm.trans e1
    refine ⟨n.toNat, ?_, by omega⟩
    have e4 : cs[i] = Value.int .u8 n := by simpa using e3
    rw [e4]
    congr 1
    omega
  refine ⟨cs.map fun v => (intOf v).toNat, ?_, by simp [hl], ?_⟩
  · unfold cellsB
    apply List.ext_getElem
    · simp
    · intro i h1 h2
      obtain ⟨n, e, hn⟩ := key i h1
      simp [e, intOf]
  · intro z hz
    obtain ⟨v, hv, rfl⟩ := List.mem_map.1 hz
    obtain ⟨i, hi, rfl⟩ := List.mem_iff_getElem.1 hv
    obtain ⟨n, e, hn⟩ := key i hi
    simp [e, intOf, hn]
theorem num_of_trod {fuel : Nat} {cs : List Value} {x : DataW H × List MemPlace} (h : DataW.trod enc Tryz.prog W b0 sp held fuel 22 cs = some x) : ∃ n : Nat, cs = [.int .u64 (n : Nat)] ∧ n < 18446744073709551616 := by
  obtain ⟨i, e, _, hw⟩ := DataW.trod_int Tryz.underlying22 h
  have hb := bounds_u64 hw
  refine ⟨i.toNat, ?_, by omega⟩
  rw [e, Int.toNat_of_nonneg hb.1]
theorem cells_dd : Tryz.prog.cellsOf 73 = 97 := by kernel_rfl
theorem dd_of_trod {fuel : Nat} {cs : List Value} {x : DataW H × List MemPlace} (h : DataW.trod enc Tryz.prog W b0 sp held fuel 73 cs = some x) : ∃ (zk : List Nat) (zcr : List Nat) (zam : Nat) (zsg : List Nat), cs = ddC zk zcr zam zsg ∧ Rt zk ∧ Rt zcr ∧ zam < 18446744073709551616 ∧ Rt zsg := by
  obtain ⟨xs, n, _, _, hl, hlen, hf⟩ := DataW.trod_struct Tryz.underlying73 h
  rw [cells_dd] at hl
  have hx : xs.length = 4 := hlen
  have f0 : ∃ y, DataW.trod enc Tryz.prog W b0 sp held n 24 ((cs.drop 0).take 32) = some y := by
    have := hf 0 _ rfl
    change DataW.trod enc Tryz.prog W b0 sp held n 24 (List.take (Tryz.prog.cellsOf 24) (List.drop 0 cs)) = xs[0]? at this
    rw [cellsRt, List.getElem?_eq_getElem (by omega)] at this
    exact ⟨_, this⟩
  obtain ⟨y0, f0⟩ := f0
  obtain ⟨zk, e0, hzk⟩ := root_of_trod f0
  have f1 : ∃ y, DataW.trod enc Tryz.prog W b0 sp held n 24 ((cs.drop 32).take 32) = some y := by
    have := hf 1 _ rfl
    change DataW.trod enc Tryz.prog W b0 sp held n 24 (List.take (Tryz.prog.cellsOf 24) (List.drop 32 cs)) = xs[1]? at this
    rw [cellsRt, List.getElem?_eq_getElem (by omega)] at this
    exact ⟨_, this⟩
  obtain ⟨y1, f1⟩ := f1
  obtain ⟨zcr, e1, hzcr⟩ := root_of_trod f1
  have f2 : ∃ y, DataW.trod enc Tryz.prog W b0 sp held n 22 ((cs.drop 64).take 1) = some y := by
    have := hf 2 _ rfl
    change DataW.trod enc Tryz.prog W b0 sp held n 22 (List.take (Tryz.prog.cellsOf 22) (List.drop 64 cs)) = xs[2]? at this
    rw [cellsU64, List.getElem?_eq_getElem (by omega)] at this
    exact ⟨_, this⟩
  obtain ⟨y2, f2⟩ := f2
  obtain ⟨zam, e2, hzam⟩ := num_of_trod f2
  have f3 : ∃ y, DataW.trod enc Tryz.prog W b0 sp held n 24 ((cs.drop 65).take 32) = some y := by
    have := hf 3 _ rfl
    change DataW.trod enc Tryz.prog W b0 sp held n 24 (List.take (Tryz.prog.cellsOf 24) (List.drop 65 cs)) = xs[3]? at this
    rw [cellsRt, List.getElem?_eq_getElem (by omega)] at this
    exact ⟨_, this⟩
  obtain ⟨y3, f3⟩ := f3
  obtain ⟨zsg, e3, hzsg⟩ := root_of_trod f3
  have hc := cut_flat cs [32, 32, 1, 32] 0 (by rw [hl]; rfl)
  rw [List.drop_zero] at e0
  simp only [cutAt, List.drop_zero, Nat.zero_add, Nat.reduceAdd, e0, e1, e2, e3] at hc
  refine ⟨zk, zcr, zam, zsg, by rw [hc]; simp [ddC], hzk, hzcr, hzam, hzsg⟩
theorem cells_v6 : Tryz.prog.cellsOf 71 = 192 := by kernel_rfl
theorem cells_dp : Tryz.prog.cellsOf 75 = 289 := by kernel_rfl
theorem und_v6 : Tryz.prog.underlying 71 = some (.array 6 24) := by kernel_rfl
theorem v6_of_trod {fuel : Nat} {cs : List Value} {x : DataW H × List MemPlace} (h : DataW.trod enc Tryz.prog W b0 sp held fuel 71 cs = some x) : ∃ (ra rb rc rd re rf : List Nat), cs = cellsB [ra, rb, rc, rd, re, rf].flatten ∧ Rt ra ∧ Rt rb ∧ Rt rc ∧ Rt rd ∧ Rt re ∧ Rt rf := by
  obtain ⟨xs, m, _, _, hl, hxs, hel⟩ := DataW.trod_array und_v6 h
  rw [cells_v6] at hl
  have each : ∀ i, i < 6 → ∃ r : List Nat, (cs.drop (i * 32)).take 32 = cellsB r ∧ Rt r := by
    intro i hi
    have h1 := hel i (by omega)
    rw [cellsRt, List.getElem?_eq_getElem (by omega)] at h1
    exact root_of_trod h1
  have hf : ∃ f : Nat → List Nat, ∀ i, i < 6 → (cs.drop (i * 32)).take 32 = cellsB (f i) ∧ Rt (f i) :=
    ⟨fun i => if h : i < 6 then Classical.choose (each i h) else [], fun i hi => by simp only [hi, dif_pos]; exact Classical.choose_spec (each i hi)⟩
  obtain ⟨f, hf⟩ := hf
  have hc := cut_flat cs [32, 32, 32, 32, 32, 32] 0 (by rw [hl]; rfl)
  have e0 := (hf 0 (by decide)).1
  have e1 := (hf 1 (by decide)).1
  have e2 := (hf 2 (by decide)).1
  have e3 := (hf 3 (by decide)).1
  have e4 := (hf 4 (by decide)).1
  have e5 := (hf 5 (by decide)).1
  simp only [Nat.zero_mul, Nat.one_mul, Nat.reduceMul, List.drop_zero] at e0 e1 e2 e3 e4 e5
  simp only [cutAt, List.drop_zero, Nat.zero_add, Nat.reduceAdd, e0, e1, e2, e3, e4, e5] at hc
  exact ⟨f 0, f 1, f 2, f 3, f 4, f 5, by rw [hc]; simp [cellsB], (hf 0 (by decide)).2, (hf 1 (by decide)).2, (hf 2 (by decide)).2, (hf 3 (by decide)).2, (hf 4 (by decide)).2, (hf 5 (by decide)).2⟩
theorem dp_of_trod {fuel : Nat} {cs : List Value} {x : DataW H × List MemPlace} (h : DataW.trod enc Tryz.prog W b0 sp held fuel 75 cs = some x) : ∃ (ra rb rc rd re rf : List Nat) (zdzk : List Nat) (zdzcr : List Nat) (zdzam : Nat) (zdzsg : List Nat), cs = dpK [ra, rb, rc, rd, re, rf] zdzk zdzcr zdzam zdzsg ∧ Rt ra ∧ Rt rb ∧ Rt rc ∧ Rt rd ∧ Rt re ∧ Rt rf ∧ Rt zdzk ∧ Rt zdzcr ∧ zdzam < 18446744073709551616 ∧ Rt zdzsg := by
  obtain ⟨xs, n, _, _, hl, hlen, hf⟩ := DataW.trod_struct Tryz.underlying75 h
  rw [cells_dp] at hl
  have hx : xs.length = 2 := hlen
  have f0 : ∃ y, DataW.trod enc Tryz.prog W b0 sp held n 71 ((cs.drop 0).take 192) = some y := by
    have := hf 0 _ rfl
    change DataW.trod enc Tryz.prog W b0 sp held n 71 (List.take (Tryz.prog.cellsOf 71) (List.drop 0 cs)) = xs[0]? at this
    rw [cells_v6, List.getElem?_eq_getElem (by omega)] at this
    exact ⟨_, this⟩
  obtain ⟨y0, f0⟩ := f0
  obtain ⟨ra, rb, rc, rd, re, rf, e0, hra, hrb, hrc, hrd, hre, hrf⟩ := v6_of_trod f0
  have f1 : ∃ y, DataW.trod enc Tryz.prog W b0 sp held n 73 ((cs.drop 192).take 97) = some y := by
    have := hf 1 _ rfl
    change DataW.trod enc Tryz.prog W b0 sp held n 73 (List.take (Tryz.prog.cellsOf 73) (List.drop 192 cs)) = xs[1]? at this
    rw [cells_dd, List.getElem?_eq_getElem (by omega)] at this
    exact ⟨_, this⟩
  obtain ⟨y1, f1⟩ := f1
  obtain ⟨zdzk, zdzcr, zdzam, zdzsg, e1, h1, h2, h3, h4⟩ := dd_of_trod f1
  have hc := cut_flat cs [192, 97] 0 (by rw [hl]; rfl)
  rw [List.drop_zero] at e0
  simp only [cutAt, List.drop_zero, Nat.zero_add, Nat.reduceAdd, e0, e1] at hc
  exact ⟨ra, rb, rc, rd, re, rf, zdzk, zdzcr, zdzam, zdzsg, by rw [hc]; simp [dpK, dpC, cellsB], hra, hrb, hrc, hrd, hre, hrf, h1, h2, h3, h4⟩
theorem open_dp {base : Nat} {v : Value} {d : DataW H} {p : List MemPlace} (hv : Value.okWide Tryz.prog W .any base 75 v) (h : DataW.Trod enc Tryz.prog W b0 sp held 75 v d p) : ∃ (ra rb rc rd re rf : List Nat) (zdzk : List Nat) (zdzcr : List Nat) (zdzam : Nat) (zdzsg : List Nat), v = .agg (dpK [ra, rb, rc, rd, re, rf] zdzk zdzcr zdzam zdzsg).toArray ∧ Rt ra ∧ Rt rb ∧ Rt rc ∧ Rt rd ∧ Rt re ∧ Rt rf ∧ Rt zdzk ∧ Rt zdzcr ∧ zdzam < 18446744073709551616 ∧ Rt zdzsg := by
  obtain ⟨cs, rfl, _⟩ := okWide_struct Tryz.underlying75 hv
  obtain ⟨fuel, hf⟩ := h
  obtain ⟨ra, rb, rc, rd, re, rf, zdzk, zdzcr, zdzam, zdzsg, e, h0⟩ := dp_of_trod hf
  exact ⟨ra, rb, rc, rd, re, rf, zdzk, zdzcr, zdzam, zdzsg, by rw [← Array.toList_inj.1 (show cs.toList = (dpK [ra, rb, rc, rd, re, rf] zdzk zdzcr zdzam zdzsg).toArray.toList from e)], h0⟩
end
end Go.Proofs.YtlkiafggagaeeaaGreat

