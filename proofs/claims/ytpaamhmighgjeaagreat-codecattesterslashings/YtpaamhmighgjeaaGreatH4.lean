/- Own texts of the proof, joined: DecIx PutIx PutAs AnsAs AsP DecAs FlowV FlowR Val6. -/
import Derived.Test.YtpaamhmighgjeaaGreatH3
import Derived.Deep.MidRow
/- Indexed taken: ToIndexed. -/
namespace Go.Proofs.YtpaamhmighgjeaaGreat
open Go.RowKit Go.Shelf
set_option linter.unusedVariables false
set_option linter.unusedSimpArgs false
set_option maxRecDepth 100000

theorem bytesN_drop (L : List Nat) (i : Nat) : (bytesN L).drop (i * 8) = bytesN (L.drop i) := by
  induction i generalizing L with
  | zero => simp
  | succ i ih =>
    cases L with
    | nil => simp [bytesN]
    | cons n L =>
      have e : bytesN (n :: L) = le n 8 ++ bytesN L := rfl
      rw [e, show (i + 1) * 8 = 8 + i * 8 by omega, ← List.drop_drop, List.drop_left' (le_length n 8), ih]
      rfl
theorem pcs_bytesN (L : List Nat) (h64 : ∀ n ∈ L, n < 18446744073709551616) : (pcs (bytesN L) 8 L.length).map tk = L := by
  apply List.ext_getElem
  · simp [pcs]
  · intro i h1 h2
    simp only [pcs, List.getElem_map, List.getElem_range]
    rw [bytesN_drop]
    have e : L.drop i = L[i] :: L.drop (i + 1) := List.drop_eq_getElem_cons h2
    rw [e]
    have e2 : bytesN (L[i] :: L.drop (i + 1)) = le L[i] 8 ++ bytesN (L.drop (i + 1)) := rfl
    rw [e2, List.take_left' (le_length _ 8)]
    exact tk_le8 _ (h64 _ (List.getElem_mem h2))
theorem isN_own {w : World} {base : Nat} {v : Value} {ns : List Nat} (h : w.ownsRow base 23 1 v ns.length (n64 ns)) (h64 : ∀ n ∈ ns, n < 18446744073709551616) : IsN w v ns := by
  refine ⟨?_, h64⟩
  obtain ⟨_, ⟨rfl, hz⟩ | ⟨g, cap, cur, rfl, _, hg, hnc, hm, hcs, htk⟩⟩ := h
  · exact ⟨none, 0, by rw [hz], by omega, by unfold maxLen; omega, .inl hz⟩
  · refine ⟨some ⟨g, 0, none⟩, cap, rfl, hnc, hm, .inr ⟨g, 0, rfl, fun i hi => ?_⟩⟩
    have h1 := congrArg (·[i]?) htk
    simp only [List.getElem?_take] at h1
    rw [if_pos (by omega)] at h1
    rw [Nat.zero_add, cell_of_row w g i _ _ (0, 0) hg, ← Array.getElem?_toList, h1, n64, List.getElem?_map, List.getElem?_eq_getElem hi, List.getD_eq_getElem?_getD, List.getElem?_eq_getElem hi]
    rfl
theorem ixBuild (V : List Value) (sig : List Nat) (hV : V.length = 100) (hs : sig.length = 32) (w : World) : (Instr.build 31 #[(1, .agg V.toArray), (2, .agg (nums .u8 sig))]).run Tryz.prog w = .ok (.agg (atC (.slice none 0 0) V sig).toArray) w := by
  have ho : outC #[(1, Value.agg V.toArray), (2, Value.agg (nums .u8 sig))].toList = V ++ (cellsB sig ++ []) := rfl
  have hl : (V ++ (cellsB sig ++ [])).length = 132 := by simp [cellsB_length, hV, hs]
  have h := build_from Tryz.ty31 _ Tryz.underlying31 #[(0, 1), (1, 100), (101, 32)] (fun w => by kernel_rfl) #[(1, .agg V.toArray), (2, .agg (nums .u8 sig))] 1
    (by
      have e1 : (Value.agg V.toArray).cells.size = 100 := hV
      have e2 : (Value.agg (nums .u8 sig)).cells.size = 32 := (nums_size _ _).trans hs
      refine ⟨?_, ?_, trivial⟩ <;> (try rw [e2]) <;> rw [e1] <;> rfl) (by rw [ho, hl]; decide) w
  rw [ho, hl] at h
  have ht : ix0.take 1 = [.slice none 0 0] := rfl
  have hd : ix0.drop (1 + 132) = [] := by kernel_rfl
  rw [ht, hd, List.append_nil] at h
  exact h
theorem ixA_false (C : List Value) : ixA false C = .tuple #[.agg ix0.toArray, .int .i64 3] := rfl
theorem ixA_true (C : List Value) : ixA true C = .tuple #[.agg C.toArray, .int .i64 0] := rfl

set_option maxHeartbeats 2000000 in
theorem toIx_own (v : Value) (bs : List Nat) (L : List Nat) (w : World) (hB : IsB w v bs) (hl : bs.length ≤ 100000000000) (hG : atG bs = true) (hT : bs.drop 164 = bytesN L) (hL : L.length ≤ 32) (h64 : ∀ n ∈ L, n < 18446744073709551616) :
    Calls Tryz.prog 9 #[v] w fun x w' => (∃ u, x = .returned (ixA true (atC u (atV bs) (atR bs))) ∧ w'.ownsRow w.heap.size 23 1 u L.length (n64 L)) ∧ Below w.heap.size w w' := by
  have HTB := hid hT
  have HGB := hid hG
  have HLL := hid (And.intro hL h64)
  clear hG hT hL h64
  have HI := hid hB
  obtain ⟨⟨ao, cap, rfl, _⟩, _⟩ := hB
  go_enter Tryz.func9, Tryz.ntmps9
  go_wp2_with ((with_reducible refine at_list' ?_); first
    | (refine wpList_alloc_c Tryz.ty31 rfl 2 rfl rfl ?_; intro w1 H1 B1 S1))
  have HC := hid (read_any _ bs 164 w1 (HI.out.keep B1) (by decide) (by omega))
  have HH1 := hid H1
  have HB1 := hid B1
  have s1 := S1
  clear H1 B1 S1 HI
  refine HC.out.mono ?_
  rintro e w2 ⟨g, S, hg, rfl, q1, q2, q3⟩
  have HP := hid (rpart_any w2 q1 (by decide) (by omega) (by simp))
  have HH2 := hid (HH1.out.keep q3)
  have HB2 := hid (HB1.out.trans (q3.mono (by omega)))
  have s2 := q3.size
  have hgl := q1.gt
  clear q1 q2 q3 HC HH1 HB1
  go_wp2_with fail
  refine HP.out.mono ?_
  rintro e w3 ⟨⟨u3, rfl⟩, q1, q2⟩
  have HT := hid (takeVt_any w3 q1 (by decide) (by omega))
  have HH3 := hid (HH2.out.grown q2 (by omega))
  have s3 := q2.size
  have HB3 : Hid (Below w.heap.size w w3) := hid ⟨q2.os.trans HB2.out.os, q2.tape.trans HB2.out.tape, q2.output.trans HB2.out.output, by omega, fun j hj => (q2.block j (by omega) (fun h => by have := Option.some.inj h; omega)).trans (HB2.out.block j hj)⟩
  clear q1 q2 HP HH2 HB2
  go_wp2_with fail
  refine HT.out.mono ?_
  rintro e w4 ⟨rfl, hV, q1, q2⟩
  have HR := hid (rroot_any w4 q1 (by decide) (by omega))
  have hr : (atR bs).length = 32 := fixB_length q1.ts q1.ok
  have HH4 := hid (HH3.out.grown q2 (by omega))
  have s4 := q2.size
  have HB4 : Hid (Below w.heap.size w w4) := hid ⟨q2.os.trans HB3.out.os, q2.tape.trans HB3.out.tape, q2.output.trans HB3.out.output, by omega, fun j hj => (q2.block j (by omega) (fun h => by have := Option.some.inj h; omega)).trans (HB3.out.block j hj)⟩
  have HV : Hid ((atV bs).length = 100) := hid hV
  have HRl := hid hr
  clear q1 q2 HT HH3 HB3 hV hr
  go_wp2_with fail
  refine HR.out.mono ?_
  rintro e w5 ⟨rfl, q1, q2⟩
  have HH5 := hid (HH4.out.grown q2 (by omega))
  have s5 := q2.size
  have HB5 : Hid (Below w.heap.size w w5) := hid ⟨q2.os.trans HB4.out.os, q2.tape.trans HB4.out.tape, q2.output.trans HB4.out.output, by omega, fun j hj => (q2.block j (by omega) (fun h => by have := Option.some.inj h; omega)).trans (HB4.out.block j hj)⟩
  have HRd : Hid (Rd w5 g (more S w2 w3) bs 164 (atS bs).1 (atP bs) (atS bs).2) := hid q1
  have HBd := hid (ixBuild (atV bs) (atR bs) HV.out HRl.out w5)
  have HL := hid (atC_length (sb := .slice none 0 0) HV.out HRl.out)
  have HO : Hid ((atC (.slice none 0 0) (atV bs) (atR bs)).toArray.all (·.oneCell') = true) := hid (atC_one rfl (vtTake_one _ _ _))
  clear q1 q2 HR HH4 HB4
  go_wp2_with ((with_reducible refine at_list' ?_); first
    | (refine wpList_build_c rfl _ rfl #[(1, .agg (atV bs).toArray), (2, .agg (nums .u8 (atR bs)))] (by simp only [Act.eval, List.map_toArray, List.map_cons, List.map_nil]; rfl) _ HBd.out ?_)
    | (refine wpList_alloc_c Tryz.ty31 rfl 5 rfl rfl ?_; intro w6 H6 B6 S6)
    | (refine wpList_store_c Tryz.ty31 rfl (.tmp 5) (.tmp 18) rfl w5.heap.size (atC (.slice none 0 0) (atV bs) (atR bs)) rfl rfl (by rw [HL.out]; rfl) HO.out _ H6 rfl ?_; intro w7 H7 O7))
  have s7 := O7.size
  have B57 : Below w5.heap.size w5 w7 := below_only B6 O7 (Nat.le_refl _)
  have HR7 := hid (HRd.out.below B57)
  have HB7 := hid (HB5.out.trans (B57.mono (by omega)))
  have HH7 := hid (HH5.out.keep B57)
  have HX7 := hid H7
  clear H6 B6 O7 H7 B57 HRd HB5 HH5 HBd
  have hG := HGB.out
  have HG := hid hG
  obtain ⟨eS, eP, e164⟩ := atGood hG
  have hR : Rd w7 g (more S w2 w3) bs 164 164 [164] false := by have := HR7.out; rw [eS, eP] at this; exact this
  have HPo := hid (parts_ok w7 hR (fun e => by cases e) (fun i hi => by
    have : i = 0 := by simpa using hi
    subst this
    simp only [toI]
    simp
    exact e164) (by decide) (by omega) (by simp))
  clear hR HR7 eS eP hG
  refine HPo.out.mono ?_
  rintro e w8 ⟨u, rfl, q1, B8⟩
  obtain ⟨b0, o0, c0, v0, rfl, hcell, hI0⟩ := isBs_one bs 164 q1
  obtain ⟨D, hD⟩ : ∃ D, bs.drop 164 = D := ⟨_, rfl⟩
  have hDl : D.length ≤ 100000000000 := by rw [← hD, List.length_drop]; omega
  rw [hD] at hI0
  have HD := hid hD
  clear hD
  have HB8 := hid (HB7.out.trans (B8.mono (by omega)))
  have HH8 := hid (HH7.out.keep B8)
  have HX8 := hid (HX7.out.keep B8)
  have s8 := B8.size
  have hI0' := hI0
  obtain ⟨⟨a0, p0, rfl, _⟩, _⟩ := hI0'
  have HI0 := hid (And.intro hcell hI0)
  clear q1 B8 HPo HB7 HH7 HX7 hI0 hcell
  go_wp2_with fail
  refine wp_region_flowM 8 7 (fun i v wq => match i with
    | 0 => v = .agg (lsN 32).toArray
    | 1 => v = .slice (some ⟨b0, o0, none⟩) 1 c0
    | 2 => v = .pointer (some ⟨b0, o0, none⟩)
    | 3 => v = .slice a0 D.length p0
    | 4 => ∃ u, v = .tuple #[u, .int .i64 0] ∧ wq.ownsRow w8.heap.size 23 1 u L.length (n64 L)
    | 5 => ∃ u, v = .tuple #[u, .int .i64 0] ∧ wq.ownsRow w8.heap.size 23 1 u L.length (n64 L)
    | 6 => wq.ownsRow w8.heap.size 23 1 v L.length (n64 L)
    | _ => v = .int .i64 0) (by kernel_rfl) (by kernel_rfl) (fun _ d _ _ _ h => by cases d <;> exact h) ?_ ?_ ?_ ?_ ?_
  · intro i o g b hi ho hg v wq hv
    match i, hi with
    | 0, _ => cases ho; cases hg
    | 1, _ => cases ho; cases hg
    | 2, _ => cases ho; cases hg
    | 3, _ => cases ho; cases hg
    | 4, _ => cases ho; cases hg
    | 5, _ => cases ho; cases hg
    | 6, _ => cases ho; cases hg
    | 7, _ => cases ho; cases hg
    | (k + 8), hk => exact absurd hk (by omega)
  · intro i v wq wq' hi hv hb
    match i, hi with
    | 0, _ => exact hv
    | 1, _ => exact hv
    | 2, _ => exact hv
    | 3, _ => exact hv
    | 4, _ => obtain ⟨u, e, h⟩ := hv; exact ⟨u, e, own_keep h hb⟩
    | 5, _ => obtain ⟨u, e, h⟩ := hv; exact ⟨u, e, own_keep h hb⟩
    | 6, _ => exact own_keep hv hb
    | 7, _ => exact hv
    | (k + 8), hk => exact absurd hk (by omega)
  · intro i o hi ho aq wq hc hk hdep
    match i, hi with
    | 0, _ =>
      cases ho
      refine flow_fun 26 _ _ rfl (fun _ _ => by simp [go_sem]) #[.int .i64 32] (by simp [Act.eval]) ?_
      refine (lsN_any 32 wq).mono ?_
      rintro e w' ⟨rfl, B⟩
      exact ⟨_, rfl, rfl, B⟩
    | 1, _ =>
      cases ho
      exact flow_move (.tmp 6) rfl (hk 6 (by decide))
    | 2, _ =>
      cases ho
      have e0 : aq.tmps.getD 32 undef = .slice (some ⟨b0, o0, none⟩) 1 c0 := hdep 1 32 rfl (by kernel_rfl)
      exact flow_value _ (run_indexAt 100 (.tmp 32) (.const (.int .i64 0)) rfl _ (.int .i64 0) (.pointer (some ⟨b0, o0, none⟩)) e0 (by simp [Act.eval]) (by kernel_rfl)) rfl
    | 3, _ =>
      cases ho
      have e0 : aq.tmps.getD 33 undef = .pointer (some ⟨b0, o0, none⟩) := hdep 2 33 rfl (by kernel_rfl)
      exact flow_value _ (run_cell 39 (.tmp 33) rfl _ e0 _ (cell_keep hc.bel HI0.out.1) _ Tryz.underlying39 rfl) rfl
    | 4, _ =>
      cases ho
      have e0 : aq.tmps.getD 31 undef = .agg (lsN 32).toArray := hdep 0 31 rfl (by kernel_rfl)
      have e1 : aq.tmps.getD 34 undef = .slice a0 D.length p0 := hdep 3 34 rfl (by kernel_rfl)
      refine flow_fun 37 _ _ rfl (fun _ _ => by simp [go_sem]) #[.agg (lsN 32).toArray, .slice a0 D.length p0] (by rw [show (#[Operand.tmp 31, Operand.tmp 34] : Array Operand).map aq.eval = #[aq.tmps.getD 31 undef, aq.tmps.getD 34 undef] from by simp [Act.eval], e0, e1]) ?_
      refine (ldec_ok _ D L.length 32 wq (HI0.out.2.keep hc.bel) (by rw [← HD.out, HTB.out, bytesN_length]; omega) (by omega) (by have := HLL.out.1; omega)).mono ?_
      rintro e w' ⟨u, rfl, how, B⟩
      rw [show D = bytesN L from HD.out.symm.trans HTB.out, pcs_bytesN L HLL.out.2] at how
      exact ⟨_, rfl, ⟨u, rfl, own_base how hc.bel.size⟩, B⟩
    | 5, _ =>
      cases ho
      exact flow_move (.tmp 35) rfl (hdep 4 35 rfl (by kernel_rfl))
    | 6, _ =>
      cases ho
      obtain ⟨u, e, h⟩ : ∃ u, aq.tmps.getD 30 undef = .tuple #[u, .int .i64 0] ∧ wq.ownsRow w8.heap.size 23 1 u L.length (n64 L) := hdep 5 30 rfl (by kernel_rfl)
      exact flow_extract (.tmp 30) 0 _ _ rfl (by simpa [Act.eval] using e) rfl h
    | 7, _ =>
      cases ho
      obtain ⟨u, e, h⟩ : ∃ u, aq.tmps.getD 30 undef = .tuple #[u, .int .i64 0] ∧ wq.ownsRow w8.heap.size 23 1 u L.length (n64 L) := hdep 5 30 rfl (by kernel_rfl)
      exact flow_extract (.tmp 30) 1 _ _ rfl (by simpa [Act.eval] using e) rfl rfl
    | (k + 8), hk => exact absurd hk (by omega)
  · intro o h7 ho aq wq hc hk hdep
    cases ho
    obtain ⟨u, e, h⟩ : ∃ u, aq.tmps.getD 30 undef = .tuple #[u, .int .i64 0] ∧ wq.ownsRow w8.heap.size 23 1 u L.length (n64 L) := hdep 5 30 rfl (by kernel_rfl)
    exact ⟨_, fun w => run_extract (.tmp 30) 1 _ _ rfl (by simpa [Act.eval] using e) rfl, rfl⟩
  intro vf w9 hc hv
  have e6 : w9.ownsRow w8.heap.size 23 1 (vf 6) L.length (n64 L) := hv 6 36 (by decide) rfl
  have e7 : vf 7 = _ := hv 7 37 (by decide) rfl
  clear hv
  simp only [List.take_succ_cons, List.take_zero, List.drop_succ_cons, List.drop_zero, putAll, Act.put, List.setIfInBounds_toArray, List.set_cons_succ, List.set_cons_zero]
  obtain ⟨u6, hu6⟩ : ∃ u6, vf 6 = u6 := ⟨_, rfl⟩
  rw [hu6] at e6 ⊢
  rw [e7]
  clear hu6 e7
  obtain ⟨ao9, n9, c9, rfl⟩ := own_slice e6
  have B9 := hc.bel
  have HOW := hid e6

  have HB9 := hid (HB8.out.trans (B9.mono (by omega)))
  have HH9 := hid (HH8.out.keep B9)
  have HX9 := HX8.out.keep B9
  have hx0 := HX9.cell (j := 0) (v := .slice none 0 0) rfl
  have hfz : w9.frozen? ⟨w5.heap.size, 0, none⟩ = false := frozen_of_row w9 w5.heap.size 0 _ _ HX9
  have s9 := B9.size
  clear B9 HB8 HH8 HX8 e6 hc
  have HXs := hid (HX9.setCell 0 (.slice ao9 n9 c9))
  have HXO := hid (Only.setCell w9 w5.heap.size 0 (.slice ao9 n9 c9))
  have HTs := hid (own_kept HOW.out (fun r hr => HXO.out.block r (by have := (own_cells HOW.out r hr).1; omega)))
  have HU : Hid ((Value.slice ao9 n9 c9).oneCell' = true) := hid rfl
  have hset : (atC (.slice none 0 0) (atV bs) (atR bs)).set 0 (.slice ao9 n9 c9) = atC (.slice ao9 n9 c9) (atV bs) (atR bs) := rfl
  rw [hset] at HXs
  have HLu := hid (atC_length (sb := (.slice ao9 n9 c9)) HV.out HRl.out)
  have HOu : Hid ((atC (.slice ao9 n9 c9) (atV bs) (atR bs)).toArray.all (·.oneCell') = true) := hid (atC_one HU.out (vtTake_one _ _ _))
  clear hset
  go_wp2_with ((with_reducible refine at_list' ?_); first
    | (refine wpList_load_c Tryz.ty31 rfl (.tmp 5) rfl w5.heap.size (atC (.slice ao9 n9 c9) (atV bs) (atR bs)) rfl (by rw [HLu.out]; rfl) (by exact HXs.out) ?_))
  have HN := hid (answerIx_any (atC (.slice ao9 n9 c9) (atV bs) (atR bs)) true (w9.setCell ⟨w5.heap.size, 0, none⟩ (.slice ao9 n9 c9)) HLu.out HOu.out)
  rw [ixA_true] at HN
  have HHs := hid (HH9.out.only HXO.out (by omega))
  have HBs := hid (below_only HB9.out HXO.out (by omega))
  have ss := HXO.out.size
  clear HX9 hx0 hfz
  refine HN.out.mono ?_
  rintro e wa ⟨rfl, Ba⟩
  have HBa := hid (HBs.out.trans (Ba.mono (by omega)))
  have HHa := hid (HHs.out.keep Ba)
  have HTa := hid (own_keep HTs.out Ba)
  clear Ba HN
  go_wp2_with ((with_reducible refine at_list' ?_); first
    | (refine wpList_store_c Tryz.ty31 rfl (.tmp 2) (.tmp 44) rfl w.heap.size (atC (.slice ao9 n9 c9) (atV bs) (atR bs)) rfl rfl (by rw [HLu.out]; rfl) HOu.out _ HHa.out rfl ?_; intro wb Hb Ob))
  refine bodyPost_ret (results_c Tryz.ty31 rfl _ wb w.heap.size (atC (.slice ao9 n9 c9) (atV bs) (atR bs)) (.int .i64 0) rfl rfl Hb (by rw [HLu.out]; rfl)) rfl ⟨⟨(.slice ao9 n9 c9), rfl, ?_⟩, below_only HBa.out Ob (Nat.le_refl _)⟩
  exact own_base (own_kept HTa.out (fun r hr => Ob.block r (by have := (own_cells HTa.out r hr).1; omega))) (by omega)
theorem toIx_good (v : Value) (bs : List Nat) (L : List Nat) (w : World) (hB : IsB w v bs) (hl : bs.length ≤ 100000000000) (hG : atG bs = true) (hT : bs.drop 164 = bytesN L) (hL : L.length ≤ 32) (h64 : ∀ n ∈ L, n < 18446744073709551616) :
    Calls Tryz.prog 9 #[v] w fun x w' => (∃ u, x = .returned (ixA true (atC u (atV bs) (atR bs))) ∧ IsN w' u L) ∧ Below w.heap.size w w' := by
  refine (toIx_own v bs L w hB hl hG hT hL h64).mono ?_
  rintro e w' ⟨⟨u, h1, h2⟩, B⟩
  exact ⟨⟨u, h1, isN_own h2 h64⟩, B⟩
set_option maxHeartbeats 2000000 in
theorem toIx_bad (v : Value) (bs : List Nat) (L : List Nat) (w : World) (hB : IsB w v bs) (hl : bs.length ≤ 100000000000) (hG : atG bs = true) (hT : bs.drop 164 = bytesN L) (hL : 32 < L.length) :
    Calls Tryz.prog 9 #[v] w fun x w' => x = .returned (ixA false []) ∧ Below w.heap.size w w' := by
  have HTB := hid hT
  have HGB := hid hG
  have HLL := hid hL
  clear hG hT hL
  have HI := hid hB
  obtain ⟨⟨ao, cap, rfl, _⟩, _⟩ := hB
  go_enter Tryz.func9, Tryz.ntmps9
  go_wp2_with ((with_reducible refine at_list' ?_); first
    | (refine wpList_alloc_c Tryz.ty31 rfl 2 rfl rfl ?_; intro w1 H1 B1 S1))
  have HC := hid (read_any _ bs 164 w1 (HI.out.keep B1) (by decide) (by omega))
  have HH1 := hid H1
  have HB1 := hid B1
  have s1 := S1
  clear H1 B1 S1 HI
  refine HC.out.mono ?_
  rintro e w2 ⟨g, S, hg, rfl, q1, q2, q3⟩
  have HP := hid (rpart_any w2 q1 (by decide) (by omega) (by simp))
  have HH2 := hid (HH1.out.keep q3)
  have HB2 := hid (HB1.out.trans (q3.mono (by omega)))
  have s2 := q3.size
  have hgl := q1.gt
  clear q1 q2 q3 HC HH1 HB1
  go_wp2_with fail
  refine HP.out.mono ?_
  rintro e w3 ⟨⟨u3, rfl⟩, q1, q2⟩
  have HT := hid (takeVt_any w3 q1 (by decide) (by omega))
  have HH3 := hid (HH2.out.grown q2 (by omega))
  have s3 := q2.size
  have HB3 : Hid (Below w.heap.size w w3) := hid ⟨q2.os.trans HB2.out.os, q2.tape.trans HB2.out.tape, q2.output.trans HB2.out.output, by omega, fun j hj => (q2.block j (by omega) (fun h => by have := Option.some.inj h; omega)).trans (HB2.out.block j hj)⟩
  clear q1 q2 HP HH2 HB2
  go_wp2_with fail
  refine HT.out.mono ?_
  rintro e w4 ⟨rfl, hV, q1, q2⟩
  have HR := hid (rroot_any w4 q1 (by decide) (by omega))
  have hr : (atR bs).length = 32 := fixB_length q1.ts q1.ok
  have HH4 := hid (HH3.out.grown q2 (by omega))
  have s4 := q2.size
  have HB4 : Hid (Below w.heap.size w w4) := hid ⟨q2.os.trans HB3.out.os, q2.tape.trans HB3.out.tape, q2.output.trans HB3.out.output, by omega, fun j hj => (q2.block j (by omega) (fun h => by have := Option.some.inj h; omega)).trans (HB3.out.block j hj)⟩
  have HV : Hid ((atV bs).length = 100) := hid hV
  have HRl := hid hr
  clear q1 q2 HT HH3 HB3 hV hr
  go_wp2_with fail
  refine HR.out.mono ?_
  rintro e w5 ⟨rfl, q1, q2⟩
  have HH5 := hid (HH4.out.grown q2 (by omega))
  have s5 := q2.size
  have HB5 : Hid (Below w.heap.size w w5) := hid ⟨q2.os.trans HB4.out.os, q2.tape.trans HB4.out.tape, q2.output.trans HB4.out.output, by omega, fun j hj => (q2.block j (by omega) (fun h => by have := Option.some.inj h; omega)).trans (HB4.out.block j hj)⟩
  have HRd : Hid (Rd w5 g (more S w2 w3) bs 164 (atS bs).1 (atP bs) (atS bs).2) := hid q1
  have HBd := hid (ixBuild (atV bs) (atR bs) HV.out HRl.out w5)
  have HL := hid (atC_length (sb := .slice none 0 0) HV.out HRl.out)
  have HO : Hid ((atC (.slice none 0 0) (atV bs) (atR bs)).toArray.all (·.oneCell') = true) := hid (atC_one rfl (vtTake_one _ _ _))
  clear q1 q2 HR HH4 HB4
  go_wp2_with ((with_reducible refine at_list' ?_); first
    | (refine wpList_build_c rfl _ rfl #[(1, .agg (atV bs).toArray), (2, .agg (nums .u8 (atR bs)))] (by simp only [Act.eval, List.map_toArray, List.map_cons, List.map_nil]; rfl) _ HBd.out ?_)
    | (refine wpList_alloc_c Tryz.ty31 rfl 5 rfl rfl ?_; intro w6 H6 B6 S6)
    | (refine wpList_store_c Tryz.ty31 rfl (.tmp 5) (.tmp 18) rfl w5.heap.size (atC (.slice none 0 0) (atV bs) (atR bs)) rfl rfl (by rw [HL.out]; rfl) HO.out _ H6 rfl ?_; intro w7 H7 O7))
  have s7 := O7.size
  have B57 : Below w5.heap.size w5 w7 := below_only B6 O7 (Nat.le_refl _)
  have HR7 := hid (HRd.out.below B57)
  have HB7 := hid (HB5.out.trans (B57.mono (by omega)))
  have HH7 := hid (HH5.out.keep B57)
  have HX7 := hid H7
  clear H6 B6 O7 H7 B57 HRd HB5 HH5 HBd
  have hG := HGB.out
  have HG := hid hG
  obtain ⟨eS, eP, e164⟩ := atGood hG
  have hR : Rd w7 g (more S w2 w3) bs 164 164 [164] false := by have := HR7.out; rw [eS, eP] at this; exact this
  have HPo := hid (parts_ok w7 hR (fun e => by cases e) (fun i hi => by
    have : i = 0 := by simpa using hi
    subst this
    simp only [toI]
    simp
    exact e164) (by decide) (by omega) (by simp))
  clear hR HR7 eS eP hG
  refine HPo.out.mono ?_
  rintro e w8 ⟨u, rfl, q1, B8⟩
  obtain ⟨b0, o0, c0, v0, rfl, hcell, hI0⟩ := isBs_one bs 164 q1
  obtain ⟨D, hD⟩ : ∃ D, bs.drop 164 = D := ⟨_, rfl⟩
  have hDl : D.length ≤ 100000000000 := by rw [← hD, List.length_drop]; omega
  rw [hD] at hI0
  have HD := hid hD
  clear hD
  have HB8 := hid (HB7.out.trans (B8.mono (by omega)))
  have HH8 := hid (HH7.out.keep B8)
  have HX8 := hid (HX7.out.keep B8)
  have s8 := B8.size
  have hI0' := hI0
  obtain ⟨⟨a0, p0, rfl, _⟩, _⟩ := hI0'
  have HI0 := hid (And.intro hcell hI0)
  clear q1 B8 HPo HB7 HH7 HX7 hI0 hcell
  go_wp2_with fail
  refine wp_region_flowM 8 7 (fun i v wq => match i with
    | 0 => v = .agg (lsN 32).toArray
    | 1 => v = .slice (some ⟨b0, o0, none⟩) 1 c0
    | 2 => v = .pointer (some ⟨b0, o0, none⟩)
    | 3 => v = .slice a0 D.length p0
    | 4 => v = .tuple #[.slice none 0 0, .int .i64 3]
    | 5 => v = .tuple #[.slice none 0 0, .int .i64 3]
    | 6 => v = .slice none 0 0
    | _ => v = .int .i64 3) (by kernel_rfl) (by kernel_rfl) (fun _ d _ _ _ h => by cases d <;> exact h) ?_ ?_ ?_ ?_ ?_
  · intro i o g b hi ho hg v wq hv
    match i, hi with
    | 0, _ => cases ho; cases hg
    | 1, _ => cases ho; cases hg
    | 2, _ => cases ho; cases hg
    | 3, _ => cases ho; cases hg
    | 4, _ => cases ho; cases hg
    | 5, _ => cases ho; cases hg
    | 6, _ => cases ho; cases hg
    | 7, _ => cases ho; cases hg
    | (k + 8), hk => exact absurd hk (by omega)
  · intro i v wq wq' hi hv hb
    match i, hi with
    | 0, _ => exact hv
    | 1, _ => exact hv
    | 2, _ => exact hv
    | 3, _ => exact hv
    | 4, _ => exact hv
    | 5, _ => exact hv
    | 6, _ => exact hv
    | 7, _ => exact hv
    | (k + 8), hk => exact absurd hk (by omega)
  · intro i o hi ho aq wq hc hk hdep
    match i, hi with
    | 0, _ =>
      cases ho
      refine flow_fun 26 _ _ rfl (fun _ _ => by simp [go_sem]) #[.int .i64 32] (by simp [Act.eval]) ?_
      refine (lsN_any 32 wq).mono ?_
      rintro e w' ⟨rfl, B⟩
      exact ⟨_, rfl, rfl, B⟩
    | 1, _ =>
      cases ho
      exact flow_move (.tmp 6) rfl (hk 6 (by decide))
    | 2, _ =>
      cases ho
      have e0 : aq.tmps.getD 32 undef = .slice (some ⟨b0, o0, none⟩) 1 c0 := hdep 1 32 rfl (by kernel_rfl)
      exact flow_value _ (run_indexAt 100 (.tmp 32) (.const (.int .i64 0)) rfl _ (.int .i64 0) (.pointer (some ⟨b0, o0, none⟩)) e0 (by simp [Act.eval]) (by kernel_rfl)) rfl
    | 3, _ =>
      cases ho
      have e0 : aq.tmps.getD 33 undef = .pointer (some ⟨b0, o0, none⟩) := hdep 2 33 rfl (by kernel_rfl)
      exact flow_value _ (run_cell 39 (.tmp 33) rfl _ e0 _ (cell_keep hc.bel HI0.out.1) _ Tryz.underlying39 rfl) rfl
    | 4, _ =>
      cases ho
      have e0 : aq.tmps.getD 31 undef = .agg (lsN 32).toArray := hdep 0 31 rfl (by kernel_rfl)
      have e1 : aq.tmps.getD 34 undef = .slice a0 D.length p0 := hdep 3 34 rfl (by kernel_rfl)
      refine flow_fun 37 _ _ rfl (fun _ _ => by simp [go_sem]) #[.agg (lsN 32).toArray, .slice a0 D.length p0] (by rw [show (#[Operand.tmp 31, Operand.tmp 34] : Array Operand).map aq.eval = #[aq.tmps.getD 31 undef, aq.tmps.getD 34 undef] from by simp [Act.eval], e0, e1]) ?_
      have hDl8 : D.length = 8 * L.length := by rw [show D = bytesN L from HD.out.symm.trans HTB.out, bytesN_length]
      have hLL := HLL.out
      refine (ldec_bad _ D 32 wq (HI0.out.2.keep hc.bel) (by omega) (.inr (by rw [Int.tdiv_eq_ediv_of_nonneg (by omega)]; omega))).mono ?_
      rintro e w' ⟨rfl, B⟩
      exact ⟨_, rfl, rfl, B⟩
    | 5, _ =>
      cases ho
      exact flow_move (.tmp 35) rfl (hdep 4 35 rfl (by kernel_rfl))
    | 6, _ =>
      cases ho
      have e : aq.tmps.getD 30 undef = .tuple #[.slice none 0 0, .int .i64 3] := hdep 5 30 rfl (by kernel_rfl)
      exact flow_extract (.tmp 30) 0 _ _ rfl (by simpa [Act.eval] using e) rfl rfl
    | 7, _ =>
      cases ho
      have e : aq.tmps.getD 30 undef = .tuple #[.slice none 0 0, .int .i64 3] := hdep 5 30 rfl (by kernel_rfl)
      exact flow_extract (.tmp 30) 1 _ _ rfl (by simpa [Act.eval] using e) rfl rfl
    | (k + 8), hk => exact absurd hk (by omega)
  · intro o h7 ho aq wq hc hk hdep
    cases ho
    have e : aq.tmps.getD 30 undef = .tuple #[.slice none 0 0, .int .i64 3] := hdep 5 30 rfl (by kernel_rfl)
    exact ⟨_, fun w => run_extract (.tmp 30) 1 _ _ rfl (by simpa [Act.eval] using e) rfl, rfl⟩
  intro vf w9 hc hv
  have e6 : vf 6 = _ := hv 6 36 (by decide) rfl
  have e7 : vf 7 = _ := hv 7 37 (by decide) rfl
  clear hv
  simp only [List.take_succ_cons, List.take_zero, List.drop_succ_cons, List.drop_zero, putAll, Act.put, List.setIfInBounds_toArray, List.set_cons_succ, List.set_cons_zero]
  rw [e6, e7]
  clear e6 e7
  have B9 := hc.bel

  have HB9 := hid (HB8.out.trans (B9.mono (by omega)))
  have HH9 := hid (HH8.out.keep B9)
  have HX9 := HX8.out.keep B9
  have hx0 := HX9.cell (j := 0) (v := .slice none 0 0) rfl
  have hfz : w9.frozen? ⟨w5.heap.size, 0, none⟩ = false := frozen_of_row w9 w5.heap.size 0 _ _ HX9
  have s9 := B9.size
  clear B9 HB8 HH8 HX8 hc
  have HXs := hid (HX9.setCell 0 (.slice none 0 0))
  have HXO := hid (Only.setCell w9 w5.heap.size 0 (.slice none 0 0))
  go_wp2_with ((with_reducible refine at_list' ?_); first
    | (refine wpList_load_c Tryz.ty31 rfl (.tmp 5) rfl w5.heap.size (atC (.slice none 0 0) (atV bs) (atR bs)) rfl (by rw [HL.out]; rfl) (by exact HXs.out) ?_))
  have HN := hid (answerIx_any (atC (.slice none 0 0) (atV bs) (atR bs)) false (w9.setCell ⟨w5.heap.size, 0, none⟩ (.slice none 0 0)) HL.out HO.out)
  rw [ixA_false] at HN
  have HHs := hid (HH9.out.only HXO.out (by omega))
  have HBs := hid (below_only HB9.out HXO.out (by omega))
  have ss := HXO.out.size
  clear HX9 hx0 hfz
  refine HN.out.mono ?_
  rintro e wa ⟨rfl, Ba⟩
  have HBa := hid (HBs.out.trans (Ba.mono (by omega)))
  have HHa := hid (HHs.out.keep Ba)
  clear Ba HN
  go_wp2_with ((with_reducible refine at_list' ?_); first
    | (refine wpList_store_c Tryz.ty31 rfl (.tmp 2) (.tmp 44) rfl w.heap.size ix0 rfl rfl rfl ix0_one _ HHa.out rfl ?_; intro wb Hb Ob))
  exact bodyPost_ret (results_c Tryz.ty31 rfl _ wb w.heap.size ix0 (.int .i64 3) rfl rfl Hb rfl) rfl ⟨rfl, below_only HBa.out Ob (Nat.le_refl _)⟩
end Go.Proofs.YtpaamhmighgjeaaGreat

/- The put of an Indexed. -/
namespace Go.Proofs.YtpaamhmighgjeaaGreat
open Go.RowKit Go.Shelf
set_option linter.unusedVariables false
set_option linter.unusedSimpArgs false
set_option maxRecDepth 100000

set_option maxHeartbeats 1000000 in
/-- codec.Indexed: its cells are the slice of numbers, a Vote's cells, a root. -/
theorem indexed_any (ao : Option Addr) (bl cap : Nat) (ns : List Nat) (sl ix : Nat) (b : List Nat) (es : Nat) (rs : List Nat) (et : Nat) (rt : List Nat) (sig : List Nat) (w : World) (hT : IsN w (.slice ao bl cap) ns) (hbl : ns.length ≤ 100000000) (h1 : sl < 18446744073709551616) (h2 : ix < 18446744073709551616) (hb : b.length = 32) (hb8 : ∀ z ∈ b, z < 256)
    (hes : es < 18446744073709551616) (hrs : rs.length = 32) (hrs8 : ∀ z ∈ rs, z < 256) (het : et < 18446744073709551616) (hrt : rt.length = 32) (hrt8 : ∀ z ∈ rt, z < 256) (hsg : sig.length = 32) (hsg8 : ∀ z ∈ sig, z < 256) :
    Calls Tryz.prog 8 #[.agg ([Value.slice ao bl cap] ++ (vtC sl ix b es rs et rt ++ (cellsB sig ++ []))).toArray] w fun x w' => ∃ v, x = .returned v ∧ Row w' w.heap.size v (cont ([(bytesN ns, true)] ++ (vtF sl ix b es rs et rt ++ rootF [sig]))) ∧ Below w.heap.size w w' := by
  have HT := hid hT
  have HBB := hid (And.intro hb hb8)
  have HRS := hid (And.intro hrs hrs8)
  have HRT := hid (And.intro hrt hrt8)
  have HSG := hid (And.intro hsg hsg8)
  have HE : Hid (([Value.slice ao bl cap] ++ (vtC sl ix b es rs et rt ++ (cellsB sig ++ [])) : List Value) = ([Value.slice ao bl cap] ++ vtC sl ix b es rs et rt) ++ (cellsB sig ++ [])) := hid (by simp)
  obtain ⟨C, hC⟩ : ∃ C : List Value, [Value.slice ao bl cap] ++ (vtC sl ix b es rs et rt ++ (cellsB sig ++ [])) = C := ⟨_, rfl⟩
  have HC0 : Hid (C[0]? = some (.slice ao bl cap)) := hid (by rw [← hC]; rfl)
  have HC1 : Hid (∀ (j : Nat) v, (vtC sl ix b es rs et rt)[j]? = some v → C[1 + j]? = some v) := hid (fun j v hv => by rw [← hC]; exact get_mid rfl hv)
  have HC2 : Hid (∀ (j : Nat) v, (cellsB sig)[j]? = some v → C[101 + j]? = some v) := hid (fun j v hv => by rw [← hC, HE.out]; exact get_mid (by simp [vtC_length hb hrs hrt]) hv)
  rw [hC]
  clear hC HE hT hb hb8 hrs hrs8 hrt hrt8 hsg hsg8
  go_enter Tryz.func8, Tryz.ntmps8
  go_wp2_with (first
    | (refine wpList_box_c rfl 1 rfl (.tmp 0) rfl C rfl ?_; intro w1 H1 B1 S1))
  have W1 := wr_new w1
  have B2 : Below w1.heap.size w1 (w1.alloc (.cells #[.int .i64 0, .pointer none] 84)) := (Below.refl _ w1).alloc (Nat.le_refl _) _
  have S2 := World.size_alloc w1 (.cells #[.int .i64 0, .pointer none] 84)
  rw [S1] at W1
  have X2 := hid (H1.keep B2)
  generalize w1.alloc (.cells #[.int .i64 0, .pointer none] 84) = w2 at W1 B2 S2 X2 ⊢
  have B12 := hid (B1.trans (B2.mono (by omega)))
  have s2 : w2.heap.size = w.heap.size + 2 := by omega
  have HW := hid W1
  clear B1 B2 S1 S2 H1 W1
  refine wp_region_flow 4 4 (fun i v wq => match i with
    | 0 => v = .agg (lsN 32).toArray
    | 1 => v = .pointer (some ⟨w.heap.size, 0, none⟩)
    | 2 => v = .slice ao bl cap
    | _ => IsB wq v (bytesN ns)) (by kernel_rfl) (by kernel_rfl) (fun _ d _ _ _ h => by cases d <;> exact h) ?_ ?_ ?_ ?_
  · intro i v wq wq' hi hv hb
    match i, hi with
    | 0, _ => exact hv
    | 1, _ => exact hv
    | 2, _ => exact hv
    | 3, _ => exact hv.keep hb
    | (k + 4), hk => exact absurd hk (by omega)
  · intro i o hi ho aq wq hc hk hdep
    match i, hi with
    | 0, _ =>
      cases ho
      refine flow_fun 26 _ _ rfl (fun _ _ => by simp [go_sem]) #[.int .i64 32] (by simp [Act.eval]) ?_
      refine (lsN_any 32 wq).mono ?_
      rintro e w' ⟨rfl, B⟩
      exact ⟨_, rfl, rfl, B⟩
    | 1, _ =>
      cases ho
      have e1 : aq.tmps.getD 1 undef = .pointer (some ⟨w.heap.size, 0, none⟩) := hk 1 (by decide)
      exact flow_value _ (run_fieldAt 31 (.tmp 1) 0 rfl _ _ e1 (by kernel_rfl)) rfl
    | 2, _ =>
      cases ho
      have e0 : aq.tmps.getD 5 undef = .pointer (some ⟨w.heap.size, 0, none⟩) := hdep 1 5 rfl (by kernel_rfl)
      exact flow_value _ (run_cell 22 (.tmp 5) rfl _ e0 _ ((X2.out.keep hc.bel).cell (j := 0) HC0.out) _ Tryz.underlying22 rfl) rfl
    | 3, _ =>
      cases ho
      have e0 : aq.tmps.getD 4 undef = .agg (lsN 32).toArray := hdep 0 4 rfl (by kernel_rfl)
      have e1 : aq.tmps.getD 6 undef = .slice ao bl cap := hdep 2 6 rfl (by kernel_rfl)
      refine flow_fun 27 _ _ rfl (fun _ _ => by simp [go_sem]) #[.agg (lsN 32).toArray, .slice ao bl cap] (by rw [show (#[Operand.tmp 4, Operand.tmp 6] : Array Operand).map aq.eval = #[aq.tmps.getD 4 undef, aq.tmps.getD 6 undef] from by simp [Act.eval], e0, e1]) ?_
      refine (lenc_any 32 _ ns wq ((HT.out.keep B12.out).keep hc.bel) hbl).mono ?_
      rintro e w' ⟨u, rfl, R, B⟩
      exact ⟨_, rfl, R.isB (bytesN_byte ns), B⟩
    | (k + 4), hk => exact absurd hk (by omega)
  · intro o h4 ho
    exact absurd h4 (by decide)
  intro vf w3 hc hv
  have I3 : IsB w3 (vf 3) (bytesN ns) := hv 3 7 (by decide) rfl
  clear hv
  simp only [List.take_succ_cons, List.take_zero, List.drop_succ_cons, List.drop_zero, putAll, Act.put, List.setIfInBounds_toArray, List.set_cons_succ, List.set_cons_zero]
  obtain ⟨v3, hv3⟩ : ∃ v3, vf 3 = v3 := ⟨_, rfl⟩
  rw [hv3] at I3 ⊢
  clear hv3
  obtain ⟨pa, pc, hsl⟩ : ∃ pa pc, v3 = .slice pa (bytesN ns).length pc := by obtain ⟨⟨x, y, e, _⟩, _⟩ := I3; exact ⟨x, y, e⟩
  subst hsl
  have q2 := hc.bel
  have s3 := q2.size
  have B13 := hid (B12.out.trans (q2.mono (by omega)))
  have X3 := hid (X2.out.keep q2)
  have HQ := hid (part_wr (w.heap.size + 1) _ [] _ (bytesN ns) w3 (HW.out.below q2) I3 (by simp) (by rw [bytesN_length]; omega))
  clear hc q2 I3 HW X2 B12
  go_wp2_with fail
  refine HQ.out.mono ?_
  rintro x w4 ⟨⟨u4, rfl⟩, q1, q2⟩
  have s4 := q2.size
  have X4 := hid (X3.out.grown q2 (by omega))
  have W4 := hid q1
  have B4 : Hid (Below w.heap.size w w4) := hid ⟨q2.os.trans B13.out.os, q2.tape.trans B13.out.tape, q2.output.trans B13.out.output, by omega, fun j hj => (q2.block j (by omega) (fun h => by have := Option.some.inj h; omega)).trans (B13.out.block j hj)⟩
  clear q1 q2 HQ X3 B13
  go_wp2_with (first
    | (refine wpList_load_mid rfl 29 (.tmp 9) rfl w.heap.size 1 (by exact rfl) (vtC sl ix b es rs et rt) _ (X4.out.range 1 _ HC1.out) Tryz.underlying29 rfl (by rw [vtC_length HBB.out.1 HRS.out.1 HRT.out.1]; exact Tryz.ty29.size) ?_))
  have HQ := hid (putVt_any (w.heap.size + 1) _ _ sl ix b es rs et rt w4 W4.out (by simp) h1 h2 HBB.out.1 HBB.out.2 hes HRS.out.1 HRS.out.2 het HRT.out.1 HRT.out.2)
  refine HQ.out.mono ?_
  rintro x w5 ⟨⟨u5, rfl⟩, q1, q2⟩
  have s5 := q2.size
  have X5 := hid (X4.out.grown q2 (by omega))
  have W5 := hid q1
  have B5 : Hid (Below w.heap.size w w5) := hid ⟨q2.os.trans B4.out.os, q2.tape.trans B4.out.tape, q2.output.trans B4.out.output, by omega, fun j hj => (q2.block j (by omega) (fun h => by have := Option.some.inj h; omega)).trans (B4.out.block j hj)⟩
  clear q1 q2 HQ X4 W4 B4
  go_wp2_with (first
    | (refine wpList_load_mid rfl 25 (.tmp 12) rfl w.heap.size 101 (by exact rfl) (cellsB sig) _ (X5.out.range 101 _ HC2.out) Tryz.und25 rfl (by rw [cellsB_length, HSG.out.1]; exact Tryz.size25) ?_)
    | (refine wpList_roots rfl 121 25 1 _ rfl Tryz.underlying121 Tryz.rootInfo [sig] [.tmp 13] rfl rfl (by simpa using HSG.out.1) rfl (by omega) (by omega) ?_; intro w6 H6 B6 S6))
  have HQ := hid (roots_wr (w.heap.size + 1) _ _ [sig] w5.heap.size 0 1 w6 (W5.out.below B6) (by omega) (by simp [vtF, numF, rootF, cpF]) (by simpa using HSG.out.1) (by simpa using HSG.out.2) (H6.rsAt (by simpa using HSG.out.1)) (by simp))
  have B56 := hid (B5.out.trans (B6.mono (by omega)))
  have s6 := B6.size
  clear H6 B6 S6 W5 X5
  refine HQ.out.mono ?_
  rintro x w7 ⟨⟨u7, rfl⟩, q1, q2⟩
  have s7 := q2.size
  have B7 : Hid (Below w.heap.size w w7) := hid ⟨q2.os.trans B56.out.os, q2.tape.trans B56.out.tape, q2.output.trans B56.out.output, by omega, fun j hj => (q2.block j (by omega) (fun h => by have := Option.some.inj h; omega)).trans (B56.out.block j hj)⟩
  have HY := hid (bytes_any (w.heap.size + 1) _ _ w7 q1 (by simp [vtF, numF, rootF, cpF]) (by simp [vtF, numF, rootF, cpF, lenF, le_length, bytesN_length, HBB.out.1, HRS.out.1, HRT.out.1, HSG.out.1]; omega))
  clear q1 q2 HQ B56 B5
  go_wp2_with fail
  refine HY.out.mono ?_
  rintro x w8 ⟨v, rfl, q1, q2⟩
  have X := hid (And.intro q1 q2)
  clear q1 q2
  go_wp2
  go_ret
  refine ⟨v, rfl, ?_, B7.out.trans (X.out.2.mono (by omega))⟩
  have := X.out.1.base (b' := w.heap.size) (by omega)
  simp only [List.append_assoc, List.nil_append] at this
  exact this
end Go.Proofs.YtpaamhmighgjeaaGreat

/- The put of an AttesterSlashing: two parts. -/
namespace Go.Proofs.YtpaamhmighgjeaaGreat
open Go.RowKit Go.Shelf
set_option linter.unusedVariables false
set_option linter.unusedSimpArgs false
set_option maxRecDepth 100000

/-- Its cells: an Indexed's, twice. -/
def asK (A B : List Value) : List Value := A ++ (B ++ [])
theorem asK_at (A B : List Value) (hA : A.length = 133) : (∀ (j : Nat) v, A[j]? = some v → (asK A B)[0 + j]? = some v) ∧ (∀ (j : Nat) v, B[j]? = some v → (asK A B)[133 + j]? = some v) := by
  refine ⟨fun j v hv => ?_, fun j v hv => get_mid hA hv⟩
  rw [Nat.zero_add]
  unfold asK
  rw [List.getElem?_append_left (List.getElem?_eq_some_iff.1 hv).1]
  exact hv
set_option maxHeartbeats 1000000 in
theorem attSl_any (A B : List Value) (zi : List Value) (BA BB : List Nat) (w : World) (hTy : Ty Tryz.prog 31 zi) (hA : A.length = 133) (hB : B.length = 133) (hz : zi.length = 133) (hBA : BA.length ≤ 100000000000) (hBB : BB.length ≤ 100000000000) (h8A : ∀ z ∈ BA, z < 256) (h8B : ∀ z ∈ BB, z < 256)
    (eA : ∀ wq, Below w.heap.size w wq → Calls Tryz.prog 8 #[.agg A.toArray] wq fun x w' => ∃ v, x = .returned v ∧ Row w' wq.heap.size v BA ∧ Below wq.heap.size wq w')
    (eB : ∀ wq, Below w.heap.size w wq → Calls Tryz.prog 8 #[.agg B.toArray] wq fun x w' => ∃ v, x = .returned v ∧ Row w' wq.heap.size v BB ∧ Below wq.heap.size wq w') :
    Calls Tryz.prog 14 #[.agg (asK A B).toArray] w fun x w' => ∃ v, x = .returned v ∧ Row w' w.heap.size v (cont [(BA, true), (BB, true)]) ∧ Below w.heap.size w w' := by
  have HT := hid hTy
  have HE := hid (And.intro eA eB)
  have HL := hid (And.intro hA (And.intro hB hz))
  have H8 := hid (And.intro h8A h8B)
  obtain ⟨c1, c2⟩ := asK_at A B hA
  obtain ⟨C, hC⟩ : ∃ C, asK A B = C := ⟨_, rfl⟩
  rw [hC] at c1 c2 ⊢
  have HC := hid (And.intro c1 c2)
  clear hTy eA eB hA hB hz h8A h8B c1 c2 hC
  go_enter Tryz.func14, Tryz.ntmps14
  go_wp2_with ((with_reducible refine at_list' ?_); first
    | (refine wpList_box_c rfl 1 rfl (.tmp 0) rfl C rfl ?_; intro w1 H1 B1 S1)
    | (refine wpList_load_mid rfl 31 (.tmp 4) rfl w.heap.size 0 (by exact rfl) A _ ((H1.keep ((Below.refl _ w1).alloc (Nat.le_refl _) _)).range 0 _ HC.out.1) Tryz.underlying31 rfl (by rw [HL.out.1, ← HL.out.2.2]; exact HT.out.size) ?_))
  have W1 := wr_new w1
  have B2 : Below w1.heap.size w1 (w1.alloc (.cells #[.int .i64 0, .pointer none] 84)) := (Below.refl _ w1).alloc (Nat.le_refl _) _
  have S2 := World.size_alloc w1 (.cells #[.int .i64 0, .pointer none] 84)
  rw [S1] at W1
  have X2 := hid (H1.keep B2)
  generalize w1.alloc (.cells #[.int .i64 0, .pointer none] 84) = w2 at W1 B2 S2 X2 ⊢
  have B12 := hid (B1.trans (B2.mono (by omega)))
  have s2 : w2.heap.size = w.heap.size + 2 := by omega
  have HP := hid (HE.out.1 w2 B12.out)
  have HW := hid W1
  clear B1 B2 S1 S2 H1 W1
  refine HP.out.mono ?_
  rintro x w3 ⟨v3, rfl, q1, q2⟩
  have I3 := q1.isB H8.out.1
  have s3 := q2.size
  obtain ⟨pa, pc, hsl⟩ : ∃ pa pc, v3 = .slice pa BA.length pc := by obtain ⟨⟨x, y, e, _⟩, _⟩ := I3; exact ⟨x, y, e⟩
  subst hsl
  have B13 := hid (B12.out.trans (q2.mono (by omega)))
  have X3 := hid (X2.out.keep q2)
  have HQ := hid (part_wr (w.heap.size + 1) _ [] _ BA w3 (HW.out.below q2) I3 (by simp) (by omega))
  clear q1 q2 I3 HP HW X2 B12
  go_wp2_with fail
  refine HQ.out.mono ?_
  rintro x w4 ⟨⟨u4, rfl⟩, q1, q2⟩
  have s4 := q2.size
  have X4 := hid (X3.out.grown q2 (by omega))
  have W4 := hid q1
  have B4 : Hid (Below w.heap.size w w4) := hid ⟨q2.os.trans B13.out.os, q2.tape.trans B13.out.tape, q2.output.trans B13.out.output, by omega, fun j hj => (q2.block j (by omega) (fun h => by have := Option.some.inj h; omega)).trans (B13.out.block j hj)⟩
  clear q1 q2 HQ X3 B13
  go_wp2_with ((with_reducible refine at_list' ?_); first
    | (refine wpList_load_mid rfl 31 (.tmp 8) rfl w.heap.size 133 (by exact rfl) B _ (X4.out.range 133 _ HC.out.2) Tryz.underlying31 rfl (by rw [HL.out.2.1, ← HL.out.2.2]; exact HT.out.size) ?_))
  have HP := hid (HE.out.2 w4 B4.out)
  refine HP.out.mono ?_
  rintro x w5 ⟨v5, rfl, q1, q2⟩
  have I5 := q1.isB H8.out.2
  have s5 := q2.size
  obtain ⟨pa5, pc5, hsl⟩ : ∃ pa pc, v5 = .slice pa BB.length pc := by obtain ⟨⟨x, y, e, _⟩, _⟩ := I5; exact ⟨x, y, e⟩
  subst hsl
  have B15 := hid (B4.out.trans (q2.mono (by omega)))
  have HQ := hid (part_wr (w.heap.size + 1) _ _ _ BB w5 (W4.out.below q2) I5 (by simp) (by omega))
  clear q1 q2 I5 HP W4 X4 B4
  go_wp2_with fail
  refine HQ.out.mono ?_
  rintro x w7 ⟨⟨u7, rfl⟩, q1, q2⟩
  have s7 := q2.size
  have B7 : Hid (Below w.heap.size w w7) := hid ⟨q2.os.trans B15.out.os, q2.tape.trans B15.out.tape, q2.output.trans B15.out.output, by omega, fun j hj => (q2.block j (by omega) (fun h => by have := Option.some.inj h; omega)).trans (B15.out.block j hj)⟩
  have HY := hid (bytes_any (w.heap.size + 1) _ _ w7 q1 (by simp) (by simp [lenF]; omega))
  clear q1 q2 HQ B15
  go_wp2_with fail
  refine HY.out.mono ?_
  rintro x w8 ⟨v, rfl, q1, q2⟩
  have X := hid (And.intro q1 q2)
  clear q1 q2
  go_wp2
  go_ret
  exact ⟨v, rfl, X.out.1.base (by omega), B7.out.trans (X.out.2.mono (by omega))⟩
end Go.Proofs.YtpaamhmighgjeaaGreat

/- Attestations taken: answer. -/
namespace Go.Proofs.YtpaamhmighgjeaaGreat
open Go.RowKit Go.Shelf
set_option linter.unusedVariables false
set_option maxRecDepth 100000

/-- The zero one. -/
abbrev as0 : List Value := asK ix0 ix0
theorem Tryz.ty50 : Ty Tryz.prog 50 as0 := ⟨by kernel_rfl, _, Tryz.underlying50, rfl⟩
theorem as0_one : as0.toArray.all (·.oneCell') = true := by kernel_rfl
/-- What a good or a bad AttesterSlashing answers. -/
def asA (t : Bool) (C : List Value) : Value := .tuple #[.agg (if t then C else as0).toArray, .int .i64 (if t then 0 else 3)]

set_option maxHeartbeats 1000000 in
theorem answerAs_any (C : List Value) (t : Bool) (w : World) (hl : C.length = 266) (h1 : C.toArray.all (·.oneCell') = true) :
    Calls Tryz.prog 46 #[.agg C.toArray, .bool t] w fun x w' => x = .returned (asA t C) ∧ Below w.heap.size w w' := by
  have HL := hid hl
  have HO := hid h1
  clear hl h1
  cases t with
  | true =>
    go_enter Tryz.func46, Tryz.ntmps46
    go_wp2_with (first
      | (refine wpList_box_c rfl 2 rfl (.tmp 0) rfl C rfl ?_; intro w1 H1 B1 S1)
      | (refine wpList_alloc_c Tryz.ty50 rfl 4 rfl rfl ?_; intro w2 H2 B2 S2; rw [S1] at H2 S2; rw [S1])
      | (refine wpList_load_c Tryz.ty50 rfl (.tmp 2) rfl w.heap.size C rfl (by rw [HL.out]; rfl) (H1.keep B2) ?_)
      | (refine wpList_store_c Tryz.ty50 rfl (.tmp 4) (.tmp 10) rfl (w.heap.size + 1) C rfl rfl (by rw [HL.out]; rfl) HO.out _ H2 rfl ?_; intro w3 H3 O3))
    refine bodyPost_ret (results_c Tryz.ty50 rfl _ w3 (w.heap.size + 1) C (.int .i64 0) rfl rfl H3 (by rw [HL.out]; rfl)) rfl ⟨rfl, ?_⟩
    exact below_only (B1.trans (B2.mono (by omega))) O3 (by omega)
  | false =>
    go_enter Tryz.func46, Tryz.ntmps46
    go_wp2_with (first
      | (refine wpList_box_c rfl 2 rfl (.tmp 0) rfl C rfl ?_; intro w1 H1 B1 S1)
      | (refine wpList_alloc_c Tryz.ty50 rfl 4 rfl rfl ?_; intro w2 H2 B2 S2; rw [S1] at H2 S2; rw [S1])
      | (refine wpList_alloc_c Tryz.ty50 rfl 6 rfl rfl ?_; intro w4 H4 B4 S4; rw [S2] at H4 S4; rw [S2])
      | (refine wpList_load_c Tryz.ty50 rfl (.tmp 6) rfl (w.heap.size + 1 + 1) as0 rfl rfl H4 ?_)
      | (refine wpList_store_c Tryz.ty50 rfl (.tmp 4) (.tmp 9) rfl (w.heap.size + 1) as0 rfl rfl rfl as0_one _ (H2.keep B4) rfl ?_; intro w3 H3 O3))
    refine bodyPost_ret (results_c Tryz.ty50 rfl _ w3 (w.heap.size + 1) as0 (.int .i64 3) rfl rfl H3 rfl) rfl ⟨rfl, ?_⟩
    exact below_only (B1.trans ((B2.mono (by omega)).trans (B4.mono (by omega)))) O3 (by omega)
end Go.Proofs.YtpaamhmighgjeaaGreat

/- An AttesterSlashing's bytes: its two places; what a side answers. -/
namespace Go.Proofs.YtpaamhmighgjeaaGreat
open Go.RowKit Go.Shelf
set_option linter.unusedVariables false
set_option linter.unusedSimpArgs false
set_option maxRecDepth 100000

/-- The bytes of two parts. -/
def asBS (BA BB : List Nat) : List Nat := le 8 4 ++ (le (8 + BA.length) 4 ++ (BA ++ BB))
theorem asB_cont (BA BB : List Nat) : cont [(BA, true), (BB, true)] = asBS BA BB := by
  have h : szF [(BA, true), (BB, true)] = 8 := by simp [szF, sz1]
  unfold cont
  rw [h]
  simp [asBS, frontB, backB]
theorem asBS_len (BA BB : List Nat) : (asBS BA BB).length = 8 + (BA.length + BB.length) := by simp [asBS, le_length]; omega
theorem as_drop4 (BA BB : List Nat) : (asBS BA BB).drop 4 = le (8 + BA.length) 4 ++ (BA ++ BB) := List.drop_left' (le_length 8 4)
theorem as_drop8 (BA BB : List Nat) : (asBS BA BB).drop 8 = BA ++ BB := by
  rw [show (8 : Nat) = 4 + 4 from rfl, ← List.drop_drop, as_drop4]
  exact List.drop_left' (le_length _ 4)
theorem as_part1 (BA BB : List Nat) : partP (asBS BA BB) 8 0 false = 8 ∧ partW (asBS BA BB) 8 0 [] false = false ∧ partS (asBS BA BB) 8 0 [] false = [8] := by
  have h : partP (asBS BA BB) 8 0 false = 8 := by
    unfold partP fixB fixW
    simp only [List.drop_zero, Bool.false_or]
    rw [if_neg (by decide)]
    show tk ((le 8 4 ++ _).take 4) = 8
    rw [List.take_left' (le_length 8 4)]
    exact tk_le4 8 (by decide)
  have h2 : partW (asBS BA BB) 8 0 [] false = false := by
    unfold partW
    rw [h]
    rfl
  refine ⟨h, h2, ?_⟩
  unfold partS
  rw [h2, h]
  rfl
theorem as_part2 (BA BB : List Nat) (hl : 8 + BA.length < 4294967296) : partW (asBS BA BB) 8 4 [8] false = false ∧ partS (asBS BA BB) 8 4 [8] false = [8, 8 + BA.length] := by
  have h : partP (asBS BA BB) 8 4 false = 8 + BA.length := by
    unfold partP fixB fixW
    simp only [Bool.false_or]
    rw [if_neg (by decide), as_drop4, List.take_left' (le_length _ 4)]
    exact tk_le4 _ hl
  have h2 : partW (asBS BA BB) 8 4 [8] false = false := by
    unfold partW folB
    rw [h, asBS_len]
    simp [fixW]
  refine ⟨h2, ?_⟩
  unfold partS
  rw [h2, h]
  rfl
theorem as_cut (BA BB : List Nat) : cutL (asBS BA BB) [8, 8 + BA.length] = [BA, BB] := by
  have e1 : ((asBS BA BB).drop 8).take (8 + BA.length - 8) = BA := by
    rw [as_drop8, show 8 + BA.length - 8 = BA.length by omega]
    exact List.take_left' rfl
  have e2 : ((asBS BA BB).drop (8 + BA.length)).take ((asBS BA BB).length - (8 + BA.length)) = BB := by
    rw [← List.drop_drop, as_drop8, List.drop_left' rfl, asBS_len]
    exact List.take_of_length_le (by omega)
  rw [show 8 + BA.length - 8 = BA.length by omega] at e1
  simp [cutL, toI, List.range_succ, e1, e2]
theorem as_cuts (BA BB : List Nat) : Cuts (asBS BA BB) [8, 8 + BA.length] := by
  intro i hi
  have hb := asBS_len BA BB
  have : i = 0 ∨ i = 1 := by simp at hi; omega
  rcases this with rfl | rfl
  · simp [toI]; omega
  · simp [toI]; omega
theorem isBs_two {w : World} {u : Value} {BA BB : List Nat} (h : IsBs w u [BA, BB]) : ∃ b o c v0 v1, u = .slice (some ⟨b, o, none⟩) 2 c ∧ w.cell? ⟨b, o, none⟩ = some v0 ∧ IsB w v0 BA ∧ w.cell? ⟨b, o + 1, none⟩ = some v1 ∧ IsB w v1 BB := by
  obtain ⟨ao, cap, rfl, h1, h2, h3, h4⟩ := h
  rcases h4 with h4 | ⟨b, off, rfl, hc⟩
  · simp at h4
  · obtain ⟨v0, e0, i0⟩ := hc 0 _ rfl
    obtain ⟨v1, e1, i1⟩ := hc 1 _ rfl
    exact ⟨b, off, cap, v0, v1, rfl, e0, i0, e1, i1⟩
theorem HasC.part {w : World} {g : Nat} {t : TypeId} {A O B N : List Value} {o : Nat} (h : HasC w g t (A ++ (O ++ B))) (ho : A.length = o) (hn : N.length = O.length) :
    w.there g o N.toArray.size ∧ HasC (w.setCells g o N) g t (A ++ (N ++ B)) ∧ Only g w (w.setCells g o N) := by
  subst ho
  obtain ⟨h1, h2⟩ := heap_setCells N w _ A.length h
  have hs : (A ++ (O ++ B)).toArray.size = A.length + (O.length + B.length) := by simp
  refine ⟨fun j hj => ⟨?_, frozen_of_row w g _ _ _ h⟩, ?_, h2⟩
  · rw [List.size_toArray] at hj
    rw [cell_of_row w g _ _ _ (0, 0) h, Array.getElem?_eq_getElem (by omega)]
    rfl
  · unfold HasC
    rw [h1]
    congr 2
    apply Array.ext_getElem?
    intro i
    rw [setV_get N _ A.length (by omega) i]
    simp only [List.getElem?_toArray]
    by_cases ha : i < A.length
    · rw [if_neg (by omega), List.getElem?_append_left ha, List.getElem?_append_left ha]
    · by_cases hb : i < A.length + N.length
      · rw [if_pos (by omega), List.getElem?_append_right (by omega), List.getElem?_append_left (by omega)]
      · rw [if_neg (by omega), List.getElem?_append_right (by omega), List.getElem?_append_right (by omega), List.getElem?_append_right (by omega), List.getElem?_append_right (by omega), hn]
/-- What a side's ToIndexed answers: good, its cells; where its numbers lie. -/
structure SideR (base : Nat) (t : Bool) (V : List Value) (sg L : List Nat) (D : List Value) (w : World) : Prop where
  good : t = true → ∃ u, D = atC u V sg ∧ w.ownsRow base 23 1 u L.length (n64 L)
  len : D.length = 133
  one : D.toArray.all (·.oneCell') = true
theorem SideR.kept {base : Nat} {t : Bool} {V : List Value} {sg L : List Nat} {D : List Value} {w w' : World} (h : SideR base t V sg L D w) (k : ∀ r, base ≤ r → r < w.heap.size → w'.heap[r]? = w.heap[r]?) : SideR base t V sg L D w' :=
  ⟨fun e => by
    obtain ⟨u, h1, h2⟩ := h.good e
    exact ⟨u, h1, own_kept h2 (fun r hr => by obtain ⟨a, c, hc⟩ := own_cells h2 r hr; exact k r a (Array.getElem?_eq_some_iff.1 hc).1)⟩, h.len, h.one⟩
theorem SideR.keep {base : Nat} {t : Bool} {V : List Value} {sg L : List Nat} {D : List Value} {w w' : World} (h : SideR base t V sg L D w) (hb : Below w.heap.size w w') : SideR base t V sg L D w' := h.kept (fun r _ hr => hb.block r hr)
theorem SideR.only {base g : Nat} {t : Bool} {V : List Value} {sg L : List Nat} {D : List Value} {w w' : World} (h : SideR base t V sg L D w) (ho : Only g w w') (hg : g < base) : SideR base t V sg L D w' := h.kept (fun r hr _ => ho.block r (by omega))
theorem SideR.low {base b' : Nat} {t : Bool} {V : List Value} {sg L : List Nat} {D : List Value} {w : World} (h : SideR base t V sg L D w) (hb : b' ≤ base) : SideR b' t V sg L D w :=
  ⟨fun e => by obtain ⟨u, h1, h2⟩ := h.good e; exact ⟨u, h1, own_base h2 hb⟩, h.len, h.one⟩
theorem isB_only {w w' : World} {g : Nat} {v : Value} {bs : List Nat} (h : IsB w v bs) (ho : Only g w w') (h0 : 0 < bs.length) (hn : ∀ j, w.cell? ⟨g, j, none⟩ ≠ some (.int .u8 (bs.getD 0 0 : Nat))) : IsB w' v bs := by
  obtain ⟨⟨ao, cap, rfl, h1, h2, h3, h4⟩, h8⟩ := h
  refine ⟨⟨ao, cap, rfl, h1, h2, h3, ?_⟩, h8⟩
  rcases h4 with h4 | ⟨b, off, rfl, hc⟩
  · exact .inl h4
  · have hne : b ≠ g := fun e => by
      subst e
      exact hn _ (hc 0 h0)
    exact .inr ⟨b, off, rfl, fun i hi => (World.cell?_of_block (ho.block b hne)).trans (hc i hi)⟩
def plainV : Value → Bool
  | .slice none 0 0 => true
  | .int .u8 z => z == 0
  | .int .u64 z => z == 0
  | _ => false
theorem as0_plain : ∀ v ∈ as0, plainV v = true := by
  have h : as0.all plainV = true := by kernel_rfl
  exact fun v hv => List.all_eq_true.1 h v hv
theorem as0_cell {w : World} {g j : Nat} {t : TypeId} {v : Value} (h : HasC w g t as0) (hc : w.cell? ⟨g, j, none⟩ = some v) : plainV v = true := by
  rw [cell_of_row w g j _ _ (0, 0) h] at hc
  exact as0_plain v (List.mem_of_getElem? (by simpa using hc))
theorem Tryz.ty115 : Ty Tryz.prog 115 [.int .i64 0, .int .i64 0] := ⟨by kernel_rfl, _, Tryz.underlying115, rfl⟩
/-- The errors of both. -/
def errT (t : Bool) : Int := if t then 0 else 3
theorem eqErrs (ta tb : Bool) (w : World) : (binOp .eql 115 (.agg #[.int .i64 (errT ta), .int .i64 (errT tb)]) (.agg #[.int .i64 0, .int .i64 0])).run Tryz.prog w = .ok (.bool (ta && tb)) w := by
  cases ta <;> cases tb <;> kernel_rfl
end Go.Proofs.YtpaamhmighgjeaaGreat

/- AttesterSlashings taken: ToAttesterSlashing. -/
namespace Go.Proofs.YtpaamhmighgjeaaGreat
open Go.RowKit Go.Shelf
set_option linter.unusedVariables false
set_option linter.unusedSimpArgs false
set_option maxRecDepth 100000

theorem asA_eq (t : Bool) (C : List Value) : asA t C = .tuple #[.agg (if t then C else as0).toArray, .int .i64 (if t then 0 else 3)] := rfl
theorem run_binV {P : Program} {o : Oper} {a : Act} {w : World} {b : BinOp} {t t2 : TypeId} (x y : Operand) (ho : o.op = .binOp b t x y t2) {u v r : Value} (hx : a.eval x = u) (hy : a.eval y = v) (hg : (eqGuard b t x y u v).run P w = .ok () w) (h : (binOp b t u v).run P w = .ok r w) : (execOp a.eval o).run P w = .ok (.value r) w := by
  unfold execOp
  simp only [ho, hx, hy, Sem.run_bind, hg, h, Result.andThen_ok, Sem.run_pure]
set_option maxHeartbeats 4000000 in
theorem toAs_any (v : Value) (BA BB : List Nat) (ta tb : Bool) (VA VB : List Value) (sa sb LA LB : List Nat) (w : World) (hI : IsB w v (asBS BA BB)) (hl : 8 + (BA.length + BB.length) ≤ 4000000000) (hA0 : 0 < BA.length) (hB0 : 0 < BB.length) (hB1 : BB.getD 0 0 ≠ 0)
    (hA : ∀ v wq, IsB wq v BA → Calls Tryz.prog 9 #[v] wq fun x w' => ∃ D, x = .returned (.tuple #[.agg D.toArray, .int .i64 (errT ta)]) ∧ SideR wq.heap.size ta VA sa LA D w' ∧ Below wq.heap.size wq w')
    (hB : ∀ v wq, IsB wq v BB → Calls Tryz.prog 9 #[v] wq fun x w' => ∃ D, x = .returned (.tuple #[.agg D.toArray, .int .i64 (errT tb)]) ∧ SideR wq.heap.size tb VB sb LB D w' ∧ Below wq.heap.size wq w') :
    Calls Tryz.prog 15 #[v] w fun x w' => ∃ DA DB, x = .returned (asA (ta && tb) (asK DA DB)) ∧ SideR w.heap.size ta VA sa LA DA w' ∧ SideR w.heap.size tb VB sb LB DB w' ∧ Below w.heap.size w w' := by
  have HA := hid hA
  have HB := hid hB
  have HBL := hid (asBS_len BA BB)
  obtain ⟨p1a, p1b, p1c⟩ := as_part1 BA BB
  obtain ⟨p2a, p2b⟩ := as_part2 BA BB (by omega)
  have HP1 := hid (And.intro p1b p1c)
  have HP2 := hid (And.intro p2a p2b)
  have HCU := hid (And.intro (as_cut BA BB) (as_cuts BA BB))
  have HLL := hid hl
  have HZ := hid (And.intro hA0 (And.intro hB0 hB1))
  clear hA0 hB0 hB1 hA hB p1a p1b p1c p2a p2b hl
  obtain ⟨bs, hbs⟩ : ∃ bs, asBS BA BB = bs := ⟨_, rfl⟩
  rw [hbs] at hI HBL HP1 HP2 HCU
  clear hbs
  have HI := hid hI
  obtain ⟨⟨ao, cap, rfl, _⟩, _⟩ := hI
  go_enter Tryz.func15, Tryz.ntmps15
  go_wp2_with ((with_reducible refine at_list' ?_); first
    | (refine wpList_alloc_c Tryz.ty50 rfl 2 rfl rfl ?_; intro w1 H1 B1 S1))
  have HC := hid (read_any _ bs 8 w1 (HI.out.keep B1) (by decide) (by have h1 := HBL.out; have h2 := HLL.out; omega))
  have HH1 := hid H1
  have HB1 := hid B1
  have s1 := S1
  clear H1 B1 S1 HI
  refine HC.out.mono ?_
  rintro e w2 ⟨g, S, hg, rfl, q1, q2, q3⟩
  rw [show decide (bs.length < 8) = false by have h1 := HBL.out; simp; omega] at q1
  have HP := hid (rpart_any w2 q1 (by decide) (by have h1 := HBL.out; have h2 := HLL.out; omega) (by simp))
  have HH2 := hid (HH1.out.keep q3)
  have HB2 := hid (HB1.out.trans (q3.mono (by omega)))
  have s2 := q3.size
  have hgl := q1.gt
  clear q1 q2 q3 HC HH1 HB1
  go_wp2_with fail
  refine HP.out.mono ?_
  rintro e w3 ⟨⟨u3, rfl⟩, q1, q2⟩
  rw [HP1.out.1, HP1.out.2, show fixT 8 0 4 false = 4 from rfl] at q1
  have HP := hid (rpart_any w3 q1 (by decide) (by have h1 := HBL.out; have h2 := HLL.out; omega) (by simp))
  have HH3 := hid (HH2.out.grown q2 (by omega))
  have s3 := q2.size
  have HB3 : Hid (Below w.heap.size w w3) := hid ⟨q2.os.trans HB2.out.os, q2.tape.trans HB2.out.tape, q2.output.trans HB2.out.output, by omega, fun j hj => (q2.block j (by omega) (fun h => by have := Option.some.inj h; omega)).trans (HB2.out.block j hj)⟩
  clear q1 q2 HH2 HB2
  go_wp2_with fail
  refine HP.out.mono ?_
  rintro e w4 ⟨⟨u4, rfl⟩, q1, q2⟩
  rw [HP2.out.1, HP2.out.2, show fixT 8 4 4 false = 8 from rfl] at q1
  have HRd := hid q1
  have HH4 := hid (HH3.out.grown q2 (by omega))
  have s4 := q2.size
  have HB4 : Hid (Below w.heap.size w w4) := hid ⟨q2.os.trans HB3.out.os, q2.tape.trans HB3.out.tape, q2.output.trans HB3.out.output, by omega, fun j hj => (q2.block j (by omega) (fun h => by have := Option.some.inj h; omega)).trans (HB3.out.block j hj)⟩
  clear q1 q2 HP HH3 HB3
  go_wp2_with ((with_reducible refine at_list' ?_); first
    | (refine wpList_alloc_c Tryz.ty50 rfl 5 rfl rfl ?_; intro w5 H5 B5 S5))
  have HPo := hid (parts_ok w5 (HRd.out.below B5) (fun e => by cases e) HCU.out.2 (by decide) (by have h1 := HBL.out; have h2 := HLL.out; omega) (by simp))
  have HH5 := hid (HH4.out.keep B5)
  have HX5 := hid H5
  have HB5 := hid (HB4.out.trans (B5.mono (by omega)))
  have s5 := S5
  clear H5 B5 S5 HH4 HB4 HRd
  refine HPo.out.mono ?_
  rintro e w8 ⟨u, rfl, q1, B8⟩
  rw [HCU.out.1] at q1
  obtain ⟨b0, o0, c0, v0, v1, rfl, hc0, hI0, hc1, hI1⟩ := isBs_two q1
  have s8 := B8.size
  have HH8 := hid (HH5.out.keep B8)
  have HX8 := hid (HX5.out.keep B8)
  have HB8 := hid (HB5.out.trans (B8.mono (by omega)))
  obtain ⟨x5, hx5⟩ : ∃ x5, w4.heap.size = x5 := ⟨_, rfl⟩
  rw [hx5] at HX8
  simp only [hx5]
  have hx5w : w.heap.size < x5 := by omega
  have hx58 : x5 < w8.heap.size := HX8.out.lt
  have hb5 : b0 ≠ x5 := fun e => by
    subst e
    have h := as0_cell HX8.out hc0
    obtain ⟨⟨aq, cq, hq, _⟩, _⟩ := hI0
    rw [hq] at h
    have h0 := HZ.out.1
    cases aq with
    | some y => simp [plainV] at h
    | none =>
      have hb : BA.length = 0 := by
        obtain ⟨n, hn⟩ : ∃ n, BA.length = n := ⟨_, rfl⟩
        rw [hn] at h h0
        cases n with
        | zero => omega
        | succ n => simp [plainV] at h
      omega
  have hb8 : b0 < w8.heap.size := block_lt_of_cell hc0
  have HI2 := hid (And.intro hc0 (And.intro hI0 (And.intro hc1 hI1)))
  obtain ⟨⟨aq, cq, hq, _⟩, _⟩ := id hI0
  obtain ⟨⟨ar, cr, hr, _⟩, _⟩ := id hI1
  clear q1 B8 HPo HH5 HX5 HB5 HCU HP1 HP2 hI0 hI1 hc1 hx5
  subst hq
  subst hr
  go_wp2_with ((with_reducible refine at_list' ?_); first
    | (refine wpList_alloc_c Tryz.ty115 rfl 8 rfl rfl ?_; intro w9 H9 B9 S9; have hc0' := cell_keep B9 hc0))
  have HC := hid (HA.out _ w9 (HI2.out.2.1.keep B9))
  have HE9 := hid H9
  have HH9 := hid (HH8.out.keep B9)
  have HX9 := hid (HX8.out.keep B9)
  have HB9 := hid (HB8.out.trans (B9.mono (by omega)))
  have HI9 := hid (And.intro (cell_keep B9 HI2.out.2.2.1) (HI2.out.2.2.2.keep B9))
  obtain ⟨x8, hx8⟩ : ∃ x8, w8.heap.size = x8 := ⟨_, rfl⟩
  rw [hx8] at HE9 S9 hx58 hb8
  simp only [hx8]
  clear H9 B9 hc0 hc0' HH8 HX8 HB8 HI2 HA s8 hx8
  refine HC.out.mono ?_
  rintro e w10 ⟨D, rfl, hS, B10⟩
  have s10 := B10.size
  have h5 := HX9.out.keep B10
  obtain ⟨p1, p2, p3⟩ := HasC.part (A := []) (O := ix0) (B := ix0 ++ []) (N := D) (o := 0) h5 rfl hS.len
  have h8 := HE9.out.keep B10
  have n58 : x8 ≠ x5 := by omega
  have h8s := h8.only p3 (by omega)
  have h8c := h8s.cell (j := 0) (v := .int .i64 0) rfl
  have h8f : (w10.setCells x5 0 D).frozen? ⟨x8, 0, none⟩ = false := frozen_of_row _ x8 0 _ _ h8s
  have hc1' := (World.cell?_of_block (p3.block b0 hb5)).trans (cell_keep B10 HI9.out.1)
  have hI1' := isB_only (HI9.out.2.keep B10) p3 HZ.out.2.1 (fun j hc => by
    have h := as0_cell h5 hc
    have hz := HZ.out.2.2
    obtain ⟨n, hn⟩ : ∃ n, BB.getD 0 0 = n := ⟨_, rfl⟩
    rw [hn] at h hz
    have h' : (n : Int) = 0 := by simpa [plainV] using h
    omega)
  have HTS := hid (show (Tryz.prog.info? 31).map (·.size) = some D.toArray.size by rw [Tryz.ty31.size, List.size_toArray, hS.len]; rfl)
  have P := hid (And.intro p1 (And.intro p2 (And.intro p3 (And.intro hS.one hS.len))))
  have HS1 := hid (hS.only p3 (by omega))
  have HH10 := hid ((HH9.out.keep B10).only p3 (by omega))
  have HB10 := hid (below_only (HB9.out.trans (B10.mono (by omega))) p3 (by omega))
  have HE10 := hid h8s
  have HI10 := hid (And.intro hc1' hI1')
  have hsz10 := p3.size
  have oC : ∀ b, b ≠ x8 → ((w10.setCells x5 0 D).setCell ⟨x8, 0, none⟩ (.int .i64 (errT ta))).heap[b]? = (w10.setCells x5 0 D).heap[b]? := fun b hb => heap_setCell_other _ ⟨x8, 0, none⟩ b _ hb
  have OC : Only x8 (w10.setCells x5 0 D) ((w10.setCells x5 0 D).setCell ⟨x8, 0, none⟩ (.int .i64 (errT ta))) := Only.setCell _ x8 0 _
  have hcC := (World.cell?_of_block (oC b0 (by omega))).trans hc1'
  have hIC := isB_only hI1' OC HZ.out.2.1 (fun j hc => by
    rw [cell_of_row _ x8 j _ _ (0, 0) h8s] at hc
    have hm := List.mem_of_getElem? (show ([.int .i64 0, .int .i64 0] : List Value)[j]? = _ by simpa using hc)
    simp at hm)
  have hEC : HasC ((w10.setCells x5 0 D).setCell ⟨x8, 0, none⟩ (.int .i64 (errT ta))) x8 115 [.int .i64 (errT ta), .int .i64 0] := h8s.setCell 0 (.int .i64 (errT ta))
  have hXC : HasC ((w10.setCells x5 0 D).setCell ⟨x8, 0, none⟩ (.int .i64 (errT ta))) x5 50 (D ++ (ix0 ++ [])) := p2.only OC (by omega)
  have HKC := hid (And.intro hIC (And.intro hEC (And.intro hXC (And.intro (HS1.out.only OC (by omega)) (And.intro (HH10.out.only OC (by omega)) (below_only HB10.out OC (by omega)))))))
  have szC := OC.size
  clear p1 p2 p3 h5 h8 h8s hS B10 HC HE9 HH9 HX9 HB9 HI9 hc1' hI1' oC OC hIC hEC hXC
  go_wp2_with ((with_reducible refine at_list' ?_); first
    | (refine wpList_store_mid rfl 31 (.tmp 33) (.tmp 31) rfl x5 0 D.toArray rfl rfl P.out.1 HTS.out P.out.2.2.2.1 ?_))
  generalize (w10.setCells x5 0 D).setCell ⟨x8, 0, none⟩ (.int .i64 (errT ta)) = wC at hcC HKC szC ⊢
  have HC := hid (HB.out _ wC HKC.out.1)
  clear HI10 HE10 HS1 HH10 HB10 h8c h8f hcC HB
  refine HC.out.mono ?_
  rintro e w13 ⟨D2, rfl, hS, B13⟩
  have s13 := B13.size
  obtain ⟨p1, p2, p3⟩ := HasC.part (A := D) (O := ix0) (B := []) (N := D2) (o := 133) (HKC.out.2.2.1.keep B13) P.out.2.2.2.2 hS.len
  have h8s := (HKC.out.2.1.keep B13).only p3 (by omega)
  have h8c := h8s.cell (j := 1) (v := .int .i64 0) rfl
  have h8f : (w13.setCells x5 133 D2).frozen? ⟨x8, 1, none⟩ = false := frozen_of_row _ x8 1 _ _ h8s
  have OC : Only x8 (w13.setCells x5 133 D2) ((w13.setCells x5 133 D2).setCell ⟨x8, 1, none⟩ (.int .i64 (errT tb))) := Only.setCell _ x8 1 _
  have hEC : HasC ((w13.setCells x5 133 D2).setCell ⟨x8, 1, none⟩ (.int .i64 (errT tb))) x8 115 [.int .i64 (errT ta), .int .i64 (errT tb)] := h8s.setCell 1 (.int .i64 (errT tb))
  have hXC : HasC ((w13.setCells x5 133 D2).setCell ⟨x8, 1, none⟩ (.int .i64 (errT tb))) x5 50 (asK D D2) := p2.only OC (by omega)
  have HTS2 := hid (show (Tryz.prog.info? 31).map (·.size) = some D2.toArray.size by rw [Tryz.ty31.size, List.size_toArray, hS.len]; rfl)
  have P2 := hid (And.intro p1 (And.intro hS.one hS.len))
  have b1 := below_only (below_only (HKC.out.2.2.2.2.2.trans (B13.mono (by omega))) p3 (by omega)) OC (by omega)
  have HF := hid (And.intro hEC (And.intro hXC (And.intro (((HKC.out.2.2.2.1.keep B13).only p3 (by omega)).only OC (by omega)) (And.intro ((hS.only p3 (by omega)).only OC (by omega)) (And.intro (((HKC.out.2.2.2.2.1.keep B13).only p3 (by omega)).only OC (by omega)) b1)))))
  have szp := p3.size
  have szO := OC.size
  clear p1 p2 p3 h8s hS B13 HC HKC OC hEC hXC b1
  go_wp2_with ((with_reducible refine at_list' ?_); first
    | (refine wpList_store_mid rfl 31 (.tmp 42) (.tmp 40) rfl x5 133 D2.toArray rfl rfl P2.out.1 HTS2.out P2.out.2.1 ?_))
  generalize (w13.setCells x5 133 D2).setCell ⟨x8, 1, none⟩ (.int .i64 (errT tb)) = wF at HF szO ⊢
  clear h8c h8f
  have HCl := hid (show (asK D D2).length = 266 by simp [asK, P.out.2.2.2.2, P2.out.2.2])
  have HC1 : Hid ((asK D D2).toArray.all (·.oneCell') = true) := hid (by
    have a := P.out.2.2.2.1
    have b := P2.out.2.1
    simp only [List.all_toArray, List.all_eq_true] at a b ⊢
    intro v hv
    unfold asK at hv
    simp only [List.mem_append, List.not_mem_nil, or_false] at hv
    rcases hv with hv | hv
    · exact a v hv
    · exact b v hv)
  obtain ⟨C, hC⟩ : ∃ C, asK D D2 = C := ⟨_, rfl⟩
  have HCC := hid hC
  rw [hC] at HF HCl HC1
  clear hC
  refine wp_region_flow 7 7 (fun i v wq => match i with
    | 0 => v = .agg C.toArray
    | 1 => v = .agg #[.int .i64 (errT ta), .int .i64 (errT tb)]
    | 2 => v = .agg #[.int .i64 0, .int .i64 0]
    | 3 => v = .bool (ta && tb)
    | 4 => v = asA (ta && tb) C
    | 5 => v = .agg (if (ta && tb) then C else as0).toArray
    | _ => v = .int .i64 (if (ta && tb) then 0 else 3)) (by kernel_rfl) (by kernel_rfl) (fun _ d _ _ _ h => by cases d <;> exact h) ?_ ?_ ?_ ?_
  · intro i v wq wq' hi hv hb
    match i, hi with
    | 0, _ => exact hv
    | 1, _ => exact hv
    | 2, _ => exact hv
    | 3, _ => exact hv
    | 4, _ => exact hv
    | 5, _ => exact hv
    | 6, _ => exact hv
    | (k + 7), hk => exact absurd hk (by omega)
  · intro i o hi ho aq wq hc hk hdep
    match i, hi with
    | 0, _ =>
      cases ho
      have e1 : aq.tmps.getD 5 undef = .pointer (some ⟨x5, 0, none⟩) := hk 5 (by decide)
      exact flow_value _ (run_mid 50 (.tmp 5) rfl x5 0 e1 C ((HF.out.2.1.keep hc.bel).range 0 C (fun j v hv => by rw [Nat.zero_add]; exact hv)) _ Tryz.underlying50 rfl (by rw [HCl.out]; exact Tryz.ty50.size)) rfl
    | 1, _ =>
      cases ho
      have e1 : aq.tmps.getD 8 undef = .pointer (some ⟨x8, 0, none⟩) := hk 8 (by decide)
      exact flow_value _ (run_mid 115 (.tmp 8) rfl x8 0 e1 [.int .i64 (errT ta), .int .i64 (errT tb)] ((HF.out.1.keep hc.bel).range 0 _ (fun j v hv => by rw [Nat.zero_add]; exact hv)) _ Tryz.underlying115 rfl (by exact Tryz.ty115.size)) rfl
    | 2, _ =>
      cases ho
      exact flow_value _ (run_buildOp 115 _ rfl #[] (by simp) _ (by kernel_rfl)) rfl
    | 3, _ =>
      cases ho
      have e1 : aq.tmps.getD 45 undef = .agg #[.int .i64 (errT ta), .int .i64 (errT tb)] := hdep 1 45 rfl (by kernel_rfl)
      have e2 : aq.tmps.getD 46 undef = .agg #[.int .i64 0, .int .i64 0] := hdep 2 46 rfl (by kernel_rfl)
      exact flow_value (.bool (ta && tb)) (run_binV (.tmp 45) (.tmp 46) rfl (by simpa [Act.eval] using e1) (by simpa [Act.eval] using e2) (by kernel_rfl) (eqErrs ta tb wq)) rfl
    | 4, _ =>
      cases ho
      have e0 : aq.tmps.getD 44 undef = .agg C.toArray := hdep 0 44 rfl (by kernel_rfl)
      have e1 : aq.tmps.getD 47 undef = .bool (ta && tb) := hdep 3 47 rfl (by kernel_rfl)
      refine flow_fun 46 _ _ rfl (fun _ _ => by simp [go_sem]) #[.agg C.toArray, .bool (ta && tb)] (by rw [show (#[Operand.tmp 44, Operand.tmp 47] : Array Operand).map aq.eval = #[aq.tmps.getD 44 undef, aq.tmps.getD 47 undef] from by simp [Act.eval], e0, e1]) ?_
      refine (answerAs_any C (ta && tb) wq HCl.out HC1.out).mono ?_
      rintro e w' ⟨rfl, B⟩
      exact ⟨_, rfl, rfl, B⟩
    | 5, _ =>
      cases ho
      have e : aq.tmps.getD 48 undef = .tuple #[.agg (if (ta && tb) then C else as0).toArray, .int .i64 (if (ta && tb) then 0 else 3)] := hdep 4 48 rfl (by kernel_rfl)
      exact flow_extract (.tmp 48) 0 _ _ rfl (show aq.eval (.tmp 48) = _ from e) rfl rfl
    | 6, _ =>
      cases ho
      have e : aq.tmps.getD 48 undef = .tuple #[.agg (if (ta && tb) then C else as0).toArray, .int .i64 (if (ta && tb) then 0 else 3)] := hdep 4 48 rfl (by kernel_rfl)
      exact flow_extract (.tmp 48) 1 _ _ rfl (show aq.eval (.tmp 48) = _ from e) rfl rfl
    | (k + 7), hk => exact absurd hk (by omega)
  · intro o h7 ho
    exact absurd h7 (by decide)
  intro vf wG hc hv
  have e5 : vf 5 = _ := hv 5 49 (by decide) rfl
  have e6 : vf 6 = _ := hv 6 50 (by decide) rfl
  clear hv
  simp only [List.take_succ_cons, List.take_zero, List.drop_succ_cons, List.drop_zero, putAll, Act.put, List.setIfInBounds_toArray, List.set_cons_succ, List.set_cons_zero]
  rw [e5, e6]
  clear e5 e6
  obtain ⟨E, hE⟩ : ∃ E, (if (ta && tb) = true then C else as0) = E := ⟨_, rfl⟩
  obtain ⟨ee, hee⟩ : ∃ ee : Int, (if (ta && tb) = true then (0 : Int) else 3) = ee := ⟨_, rfl⟩
  rw [hE, hee]
  have HEl := hid (show E.length = 266 by rw [← hE]; split; exact HCl.out; kernel_rfl)
  have HE1 := hid (show E.toArray.all (·.oneCell') = true by rw [← hE]; split; exact HC1.out; exact as0_one)
  have HEE := hid (And.intro hE hee)
  have HG := hid (And.intro (HF.out.2.2.1.keep hc.bel) (And.intro (HF.out.2.2.2.1.keep hc.bel) (And.intro (HF.out.2.2.2.2.1.keep hc.bel) (HF.out.2.2.2.2.2.trans (hc.bel.mono HF.out.2.2.2.2.2.size)))))
  clear hc hE hee HF
  go_wp2_with ((with_reducible refine at_list' ?_); first
    | (refine wpList_store_c Tryz.ty50 rfl (.tmp 2) (.tmp 49) rfl w.heap.size E rfl rfl (by rw [HEl.out]; kernel_rfl) HE1.out _ HG.out.2.2.1 rfl ?_; intro wb Hb Ob))
  refine bodyPost_ret (results_c Tryz.ty50 rfl _ wb w.heap.size E (.int .i64 ee) rfl rfl Hb (by rw [HEl.out]; kernel_rfl)) rfl ⟨D, D2, ?_, ?_, ?_, below_only HG.out.2.2.2 Ob (Nat.le_refl _)⟩
  · rw [HCC.out, asA_eq, HEE.out.1, HEE.out.2]
  · exact (HG.out.1.only Ob (by omega)).low (by omega)
  · exact (HG.out.2.1.only Ob (by omega)).low (by omega)
end Go.Proofs.YtpaamhmighgjeaaGreat

/- Steps of a flow over the document's values. -/
namespace Go.Proofs.YtpaamhmighgjeaaGreat
open Go.RowKit
set_option linter.unusedVariables false
set_option maxRecDepth 100000
theorem fieldV (k off : Nat) (h : (k = 0 ∧ off = 0) ∨ (k = 1 ∧ off = 1) ∨ (k = 2 ∧ off = 33) ∨ (k = 3 ∧ off = 34)) (g : Nat) (w : World) : (Instr.fieldAt 37 (.pointer (some ⟨g, 0, none⟩)) k).run Tryz.prog w = .ok (.pointer (some ⟨g, off, none⟩)) w := by
  rcases h with ⟨rfl, rfl⟩ | ⟨rfl, rfl⟩ | ⟨rfl, rfl⟩ | ⟨rfl, rfl⟩ <;> kernel_rfl
end Go.Proofs.YtpaamhmighgjeaaGreat

/- Flows whose operations may also store into memory that the others don't read: over any order of worlds R in the place of 'nothing old has turned'. -/
namespace Go.Proofs.YtpaamhmighgjeaaGreat
open Go Go.RowKit
set_option linter.unusedVariables false
section
variable {P : Program}
structure FlowRInv (R : World → World → Prop) (ops : Array Oper) (n : Nat) (I : Nat → Value → World → Prop) (w0 : World) (a0 : Act) (done : Array Bool) (a : Act) (w : World) : Prop where
  head : HeadInv .any ops n done
  cls : R w0 w
  defers : a.defers = a0.defers
  size : a.tmps.size = a0.tmps.size
  keep : ∀ s, (∀ i, i < n → dstOf ops i ≠ some s) → a.tmps[s]? = a0.tmps[s]?
  known : ∀ i, i < n → done.getD i false = true → ∀ d, dstOf ops i = some d → I i (a.tmps.getD d undef) w
  stor : ∀ i, i < n → done.getD i false = true → dstOf ops i = none → ∃ v, I i v w
theorem flowR_any {R : World → World → Prop} {ops : Array Oper} {n late : Nat} {I : Nat → Value → World → Prop} {w0 : World} {a0 : Act} {Q : Exit → Act → World → Prop} (hB : flowGB ops n late a0.tmps.size = true)
    (hRr : ∀ w, R w w) (hRt : ∀ a b c, R a b → R b c → R a c) (hRd : ∀ w : World, R w { w with drawn := w.drawn + 1 })
    (hQ : ∀ c d v a w, Q (.panic c) (a.put d v) w → Q (.panic c) a w)
    (hguard : ∀ i o g b, i < n → ops[i]? = some o → o.guard = some (g, b) → ∀ v w, I g v w → v = .bool b)
    (hI : ∀ i v w w', i < n → I i v w → R w w' → I i v w')
    (hop : ∀ i o, i < n → ops[i]? = some o → ∀ a w, R w0 w → (∀ s, (∀ j, j < n → dstOf ops j ≠ some s) → a.tmps.getD s undef = a0.tmps.getD s undef) →
      (∀ j d, dstOf ops j = some d → (o.after.any fun e => Region.binds .any e && e.on == j) = true → I j (a.tmps.getD d undef) w) →
      o.wp P a w (fun a' w' => ∃ v, a' = a.put o.dst v ∧ I i v w' ∧ R w w') Q)
    (hlate : ∀ o, late < n → ops[late]? = some o → ∀ (a : Act) w, R w0 w → (∀ s, (∀ j, j < n → dstOf ops j ≠ some s) → a.tmps.getD s undef = a0.tmps.getD s undef) →
      (∀ j d, dstOf ops j = some d → (o.after.any fun e => Region.binds .any e && e.on == j) = true → I j (a.tmps.getD d undef) w) → ∃ v, (∀ w, (execOp a.eval o).run P w = .ok (.value v) w) ∧ I late v w)
    (htail : ∀ v w, R w0 w → (∀ i d, i < n → dstOf ops i = some d → I i (v i) w) → (∀ i, i < n → dstOf ops i = none → ∃ v, I i v w) → wpAny P .any ops Q (ops.size - n) ((List.range ops.size).map fun i => decide (i < n)).toArray (putAll v (ops.toList.take n) 0 a0) w) :
    ∀ f (done : Array Bool) (a : Act) (w : World), (List.range n).countP (fun i => !done.getD i true) = f → FlowRInv R ops n I w0 a0 done a w → wpAny P .any ops Q (f + (ops.size - n)) done a w := by
  simp only [flowGB, Bool.and_eq_true, decide_eq_true_eq, List.all_eq_true, List.mem_range, Bool.or_eq_true] at hB
  obtain ⟨⟨⟨⟨⟨hn, hsel⟩, hdir⟩, hall⟩, hlt8⟩, hseq⟩ := hB
  have hat : ∀ i, i < n → ∃ o, ops[i]? = some o := fun i hi => ⟨_, Array.getElem?_eq_getElem (by omega)⟩
  have hgd : ∀ i o, i < n → ops[i]? = some o → (∀ g b, o.guard = some (g, b) → Region.waitsFor .any ops i g = true ∧ ∃ d, dstOf ops g = some d) ∧ (∀ e ∈ o.after, Region.binds .any e = true → e.on < i) ∧ ∀ d, o.dst = some d → d < a0.tmps.size ∧ ∀ j, j < n → j ≠ i → dstOf ops j ≠ some d := by
    intro i o hi ho
    have := hall i hi
    rw [ho] at this
    simp only [Bool.and_eq_true, Array.all_eq_true_iff_forall_mem, Bool.or_eq_true, Bool.not_eq_true', decide_eq_true_eq] at this
    obtain ⟨⟨h1, h2⟩, h3⟩ := this
    refine ⟨fun g b hg => by
      rw [hg] at h1
      simp only [Bool.and_eq_true] at h1
      exact ⟨h1.1.2, Option.isSome_iff_exists.1 h1.2⟩, fun e he hb => (h2 e he).resolve_left (by rw [hb]; decide), fun d hd => ?_⟩
    rw [hd] at h3
    simp only [Bool.and_eq_true, decide_eq_true_eq, List.all_eq_true, List.mem_range, Bool.or_eq_true] at h3
    exact ⟨h3.1, fun j hj hne => (h3.2 j hj).resolve_left hne⟩
  intro f
  induction f with
  | zero =>
    intro done a w hcount inv
    have hdone : ∀ i, i < n → done.getD i true = true := fun i hi => by
      have := List.countP_eq_zero.1 hcount i (List.mem_range.2 hi)
      simpa using this
    have hdn : done = ((List.range ops.size).map fun i => decide (i < n)).toArray := by
      apply Array.ext_getElem?
      intro i
      by_cases hi : i < ops.size
      · have hi' : i < done.size := by rw [inv.head.size]; exact hi
        have h1 : (((List.range ops.size).map fun i => decide (i < n)).toArray)[i]? = some (decide (i < n)) := by simp [hi]
        rw [h1, Array.getElem?_eq_getElem hi']
        by_cases hin : i < n
        · have := hdone i hin
          simp [hi'] at this
          simp [hin, this]
        · have := inv.head.tail i (by omega) hi
          simp [hi'] at this
          simp [hin, this]
      · rw [Array.getElem?_eq_none (by rw [inv.head.size]; omega), Array.getElem?_eq_none (by simp; omega)]
    have hk : ∀ i, i < n → done.getD i false = true := fun i hi => by
      have h1 := hdone i hi
      have hi' : i < done.size := by rw [inv.head.size]; omega
      simp [hi'] at h1 ⊢
      exact h1
    have ha : a = putAll (fun i => match dstOf ops i with | some d => a.tmps.getD d undef | none => undef) (ops.toList.take n) 0 a0 := by
      have hd1 := putAll_defers (fun i => match dstOf ops i with | some d => a.tmps.getD d undef | none => undef) (ops.toList.take n) 0 a0
      have hs1 := putAll_size (fun i => match dstOf ops i with | some d => a.tmps.getD d undef | none => undef) (ops.toList.take n) 0 a0
      have ht1 : ∀ s, a.tmps[s]? = (putAll (fun i => match dstOf ops i with | some d => a.tmps.getD d undef | none => undef) (ops.toList.take n) 0 a0).tmps[s]? := fun s => by
        rw [putAll_get _ s (a.tmps.getD s undef) _ 0 a0 (fun j o hj ho => by
          rw [List.getElem?_take] at hj
          split at hj
          · have : dstOf ops j = some s := by unfold dstOf; rw [Array.getElem?_toList] at hj; rw [hj]; exact ho
            rw [Nat.zero_add, this]
          · cases hj)]
        split
        · rename_i h
          rw [Array.getElem?_eq_getElem (by rw [inv.size]; exact h.2)]
          simp [inv.size, h.2]
        · rename_i h
          by_cases hsz : s < a0.tmps.size
          · refine inv.keep s fun i hi e => h ⟨?_, hsz⟩
            obtain ⟨o, ho⟩ := hat i hi
            refine ⟨o, ?_, by unfold dstOf at e; rw [ho] at e; exact e⟩
            rw [List.mem_take_iff_getElem]
            have := Array.getElem?_eq_some_iff.1 ho
            exact ⟨i, by simp; omega, by simpa using this.2⟩
          · rw [Array.getElem?_eq_none (by rw [inv.size]; omega), Array.getElem?_eq_none (by omega)]
      generalize putAll (fun i => match dstOf ops i with | some d => a.tmps.getD d undef | none => undef) (ops.toList.take n) 0 a0 = b at *
      obtain ⟨ta, da⟩ := a
      obtain ⟨tb, db⟩ := b
      have e1 : ta = tb := Array.ext_getElem? ht1
      have e2 : da = db := inv.defers.trans hd1.symm
      rw [e1, e2]
    rw [Nat.zero_add, ha, hdn]
    refine htail _ w inv.cls (fun i d hi hd => ?_) (fun i hi hd => inv.stor i hi (hk i hi) hd)
    have := inv.known i hi (hk i hi) d hd
    simpa [hd] using this
  | succ f ih =>
    intro done a w hcount inv
    have hex : ∃ i, i < n ∧ done.getD i true = false := by
      have : 0 < (List.range n).countP (fun i => !done.getD i true) := by omega
      obtain ⟨i, hi, hd⟩ := List.countP_pos_iff.1 this
      exact ⟨i, List.mem_range.1 hi, by simpa using hd⟩
    have hready : ∃ i, i < n ∧ i ∈ Region.ready .any ops done := by
      obtain ⟨i0, hi0, hd0⟩ := hex
      have key : ∀ m, m < n → done.getD m true = false → ∃ i, i < n ∧ i ∈ Region.ready .any ops done := by
        intro m
        induction m using Nat.strongRecOn with
        | _ m ihm =>
          intro hm hd
          obtain ⟨o, ho⟩ := hat m hm
          by_cases hw : ∀ e ∈ o.after, Region.binds .any e = true → done.getD e.on false = true
          · exact ⟨m, hm, mem_ready.2 ⟨hd, o, ho, hw⟩⟩
          · simp only [Classical.not_forall] at hw
            obtain ⟨e, he, hb, hnd⟩ := hw
            have hlt := (hgd m o hm ho).2.1 e he hb
            refine ihm e.on hlt (by omega) ?_
            have hi' : e.on < done.size := by rw [inv.head.size]; omega
            simp [hi'] at hnd ⊢
            exact hnd
      exact key i0 hi0 hd0
    obtain ⟨r, hr, hrr⟩ := hready
    rw [Nat.succ_add]
    have hstep : ∀ i o v w', i < n → i ∈ Region.ready .any ops done → ops[i]? = some o → I i v w' → R w w' →
        (List.range n).countP (fun j => !(done.setIfInBounds i true).getD j true) = f ∧ FlowRInv R ops n I w0 a0 (done.setIfInBounds i true) (a.put o.dst v) w' := by
      intro i o v w' hin hi ho hv hB
      obtain ⟨hun, o', ho', hwait⟩ := mem_ready.1 hi
      obtain ⟨g1, g2, g3⟩ := hgd i o hin ho
      refine ⟨?_, inv.head.set hi hin, hRt _ _ _ inv.cls hB, by rw [put_defers]; exact inv.defers, by rw [put_size]; exact inv.size, fun s hs' => ?_, fun j hj hdj d hd => ?_, fun j hj hdj hd => ?_⟩
      · have hii : i < done.size := by rw [inv.head.size]; omega
        have hcp := count_step done i hii hun n hin
        omega
      · rw [put_get, if_neg (fun h => hs' i hin (by unfold dstOf; rw [ho]; exact h.1))]
        exact inv.keep s hs'
      · by_cases e : j = i
        · subst e
          have hd' : o.dst = some d := by unfold dstOf at hd; rw [ho] at hd; exact hd
          have : (a.put o.dst v).tmps.getD d undef = v := by
            rw [Array.getD_eq_getD_getElem?, put_get, if_pos ⟨hd', by rw [inv.size]; exact (g3 d hd').1⟩]; rfl
          rw [this]; exact hv
        · have hdj' : done.getD j false = true := by rwa [getD_set_ne false (Ne.symm e)] at hdj
          have : (a.put o.dst v).tmps.getD d undef = a.tmps.getD d undef := by
            rw [Array.getD_eq_getD_getElem?, put_get, if_neg (fun h => (g3 d h.1).2 j hj e hd), ← Array.getD_eq_getD_getElem?]
          rw [this]
          exact hI j _ w w' hj (inv.known j hj hdj' d hd) hB
      · by_cases e : j = i
        · subst e
          exact ⟨v, hv⟩
        · have hdj' : done.getD j false = true := by rwa [getD_set_ne false (Ne.symm e)] at hdj
          obtain ⟨u, hu⟩ := inv.stor j hj hdj' hd
          exact ⟨u, hI j _ w w' hj hu hB⟩
    have hdeps : ∀ i o, i < n → i ∈ Region.ready .any ops done → ops[i]? = some o → ∀ j d, dstOf ops j = some d → (o.after.any fun e => Region.binds .any e && e.on == j) = true → I j (a.tmps.getD d undef) w := by
      intro i o hin hi ho j d hd hj
      obtain ⟨hun, o', ho', hwait⟩ := mem_ready.1 hi
      obtain rfl : o' = o := Option.some.inj (ho'.symm.trans ho)
      obtain ⟨g1, g2, g3⟩ := hgd i o' hin ho
      obtain ⟨k, hk, hk2⟩ := Array.any_eq_true.1 hj
      simp only [Bool.and_eq_true, beq_iff_eq] at hk2
      have hmem := Array.getElem_mem hk
      have hl := hwait _ hmem hk2.1
      have hlt := g2 _ hmem hk2.1
      rw [hk2.2] at hl hlt
      exact inv.known j (by omega) hl d hd
    have hwant : ∀ i o, i < n → i ∈ Region.ready .any ops done → ops[i]? = some o → Region.wanted o (yielded ops a.tmps) = true := by
      intro i o hin hi ho
      unfold Region.wanted
      cases hg : o.guard with
      | none => rfl
      | some gb =>
        obtain ⟨g, b⟩ := gb
        obtain ⟨q2, d, hd⟩ := (hgd i o hin ho).1 g b hg
        unfold Region.waitsFor at q2
        rw [ho] at q2
        have hv := hguard i o g b hin ho hg _ _ (hdeps i o hin hi ho g d hd q2)
        have hv2 : a.tmps[d]? = some (.bool b) := by
          rw [Array.getD_eq_getD_getElem?] at hv
          cases hq : a.tmps[d]? with
          | none => rw [hq] at hv; cases hv
          | some u => rw [hq] at hv; exact congrArg some hv
        have hy : yielded ops a.tmps g = some b := by
          unfold dstOf at hd
          unfold yielded
          rw [hd]
          simp [hv2]
        simp [hy]
    have hkeep : ∀ s, (∀ j, j < n → dstOf ops j ≠ some s) → a.tmps.getD s undef = a0.tmps.getD s undef := fun s hs' => by rw [Array.getD_eq_getD_getElem?, inv.keep s hs', ← Array.getD_eq_getD_getElem?]
    by_cases hbut : ∀ i, i < n → i ≠ late → done.getD i true = true
    · have hrl : r = late := Classical.byContradiction fun h => by
        have h1 := hbut r hr h
        rw [(mem_ready.1 hrr).1] at h1; cases h1
      subst hrl
      have hdn : done = doneBut ops n r := by
        apply Array.ext_getElem?
        intro i
        by_cases hi : i < ops.size
        · have hi' : i < done.size := by rw [inv.head.size]; exact hi
          have h1 : (doneBut ops n r)[i]? = some (decide (i < n) && decide (i ≠ r)) := by simp [doneBut, hi]
          rw [h1, Array.getElem?_eq_getElem hi']
          by_cases hin : i < n
          · by_cases hir : i = r
            · subst hir
              have := (mem_ready.1 hrr).1
              simp [hi'] at this
              simp [this]
            · have := hbut i hin hir
              simp [hi'] at this
              simp [hin, hir, this]
          · have := inv.head.tail i (by omega) hi
            simp [hi'] at this
            simp [hin, this]
        · rw [Array.getElem?_eq_none (by rw [inv.head.size]; omega), Array.getElem?_eq_none (by simp [doneBut]; omega)]
      obtain ⟨o, ho⟩ := hat r hr
      obtain ⟨v, hrun, hv⟩ := hlate o hr ho a w inv.cls hkeep (hdeps r o hr hrr ho)
      obtain ⟨q1, q2⟩ := hstep r o v w hr hrr ho hv (hRr w)
      have hw := hwant r o hr hrr ho
      have hfr := hlt8.resolve_left (by omega)
      rw [← hdn] at hfr
      exact wpAny_take ho hsel hfr.1 hfr.2 (fun c a w h => hQ c _ _ a w h) (.inl ⟨hw, hrun⟩) (ih _ _ _ q1 q2)
    · simp only [Classical.not_forall] at hbut
      obtain ⟨u, hu, hul, hud⟩ := hbut
      have hud' : done.getD u false = false := by
        have hi' : u < done.size := by rw [inv.head.size]; omega
        simp [hi'] at hud ⊢
        exact hud
      refine ⟨fun e => (by rw [e] at hrr; cases hrr), fun i hi => ?_⟩
      obtain ⟨hun, o, ho, hwait⟩ := mem_ready.1 hi
      have hin : i < n := Nat.lt_of_not_le fun h => by
        have his : i < ops.size := (Array.getElem?_eq_some_iff.1 ho).1
        have hw := ((hdir i his).resolve_left (by omega) u hu).resolve_left hul
        have := reach_done inv.head.closed u 4 i o ho hwait hw
        rw [hud'] at this
        cases this
      unfold wpOp
      rw [ho]
      have hw := hwant i o hin hi ho
      simp only [hw, if_true]
      refine .inl (Oper.wp_mono ?_ (hop i o hin ho a w inv.cls hkeep (hdeps i o hin hi ho)))
      rintro a' w' ⟨v, rfl, hv, hB⟩
      obtain ⟨q1, q2⟩ := hstep i o v w' hin hi ho hv hB
      exact ih _ _ _ q1 q2

/-- The region, told as a flow. -/
theorem wp_region_flowR {id : Nat} {Q : Exit → Act → World → Prop} {a : Act} {w : World} {l : List Oper} (R : World → World → Prop) (n late : Nat) (I : Nat → Value → World → Prop) (hm : P.follows .mixedOrders = true) (hB : flowGB l.toArray n late a.tmps.size = true)
    (hRr : ∀ w, R w w) (hRt : ∀ a b c, R a b → R b c → R a c) (hRd : ∀ w : World, R w { w with drawn := w.drawn + 1 })
    (hQ : ∀ c d v a w, Q (.panic c) (a.put d v) w → Q (.panic c) a w)
    (hguard : ∀ i o g b, i < n → l.toArray[i]? = some o → o.guard = some (g, b) → ∀ v w, I g v w → v = .bool b)
    (hI : ∀ i v w w', i < n → I i v w → R w w' → I i v w')
    (hop : ∀ i o, i < n → l.toArray[i]? = some o → ∀ a' w', R w w' → (∀ s, (∀ j, j < n → dstOf l.toArray j ≠ some s) → a'.tmps.getD s undef = a.tmps.getD s undef) →
      (∀ j d, dstOf l.toArray j = some d → (o.after.any fun e => Region.binds .any e && e.on == j) = true → I j (a'.tmps.getD d undef) w') →
      o.wp P a' w' (fun a'' w'' => ∃ v, a'' = a'.put o.dst v ∧ I i v w'' ∧ R w' w'') Q)
    (hlate : ∀ o, late < n → l.toArray[late]? = some o → ∀ (a' : Act) w', R w w' → (∀ s, (∀ j, j < n → dstOf l.toArray j ≠ some s) → a'.tmps.getD s undef = a.tmps.getD s undef) →
      (∀ j d, dstOf l.toArray j = some d → (o.after.any fun e => Region.binds .any e && e.on == j) = true → I j (a'.tmps.getD d undef) w') → ∃ v, (∀ w, (execOp a'.eval o).run P w = .ok (.value v) w) ∧ I late v w')
    (htail : ∀ v w', R w w' → (∀ i d, i < n → dstOf l.toArray i = some d → I i (v i) w') → (∀ i, i < n → dstOf l.toArray i = none → ∃ v, I i v w') → wpList P l.toArray Q (l.drop n) (putAll v (l.take n) 0 a) w') : (Code.region id l.toArray true).wp P Q a w := by
  have hB' := hB
  simp only [flowGB, Bool.and_eq_true, decide_eq_true_eq] at hB'
  have hn : n < l.length := by simpa using hB'.1.1.1.1.1
  have h3 : (l.drop n).length = l.toArray.size - n := by simp
  refine wp_region_any hm ?_
  have hc0 : (List.range n).countP (fun i => !(Array.replicate l.toArray.size false).getD i true) = n := by
    have : (List.range n).countP (fun i => !(Array.replicate l.toArray.size false).getD i true) = (List.range n).length := List.countP_eq_length.2 fun i hi => by
      have := List.mem_range.1 hi
      simp [show i < l.length by omega]
    rw [this, List.length_range]
  have K := flowR_any (P := P) (Q := Q) (w0 := w) (a0 := a) (R := R) hB hRr hRt hRd hQ hguard hI hop hlate (fun v w' hc hv hs => by
    have := wpAny_of_seq (P := P) (md := .any) (Q' := Q) (l.drop n) n _ _ w' (fun j => by simp [List.getElem?_drop]) (by rw [h3]; exact hB'.2) (htail v w' hc hv hs)
    rw [h3] at this
    simpa using this) n (Array.replicate l.toArray.size false) a { w with drawn := w.drawn + 1 } hc0
    ⟨⟨by simp, fun j oj _ hx => (by rw [getD_replicate_false] at hx; cases hx), fun t _ ht => getD_in (by simpa using ht) (getD_replicate_false _ _)⟩, hRd w, rfl, rfl, fun _ _ => rfl, fun i _ hx => (by rw [getD_replicate_false] at hx; cases hx), fun i _ hx => (by rw [getD_replicate_false] at hx; cases hx)⟩
  rwa [show n + (l.toArray.size - n) = l.toArray.size by simp; omega] at K
end
/-- Nothing has turned but the block g, and that only to hold NEW. -/
structure TurnsTo (g : Nat) (new : Obj) (w w' : World) : Prop where
  os : w'.os = w.os
  tape : w'.tape = w.tape
  output : w'.output = w.output
  size : w.heap.size ≤ w'.heap.size
  block : ∀ k, k < w.heap.size → k ≠ g → w'.heap[k]? = w.heap[k]?
  self : w'.heap[g]? = w.heap[g]? ∨ w'.heap[g]? = some new
theorem TurnsTo.refl (g : Nat) (new : Obj) (w : World) : TurnsTo g new w w := ⟨rfl, rfl, rfl, Nat.le_refl _, fun _ _ _ => rfl, .inl rfl⟩
theorem TurnsTo.trans {g : Nat} {new : Obj} {a b c : World} (h : TurnsTo g new a b) (k : TurnsTo g new b c) : TurnsTo g new a c :=
  ⟨k.os.trans h.os, k.tape.trans h.tape, k.output.trans h.output, Nat.le_trans h.size k.size, fun i hi hg => (k.block i (Nat.lt_of_lt_of_le hi h.size) hg).trans (h.block i hi hg), by
    rcases k.self with e | e
    · rw [e]; exact h.self
    · exact .inr e⟩
theorem TurnsTo.drew (g : Nat) (new : Obj) (w : World) : TurnsTo g new w { w with drawn := w.drawn + 1 } := ⟨rfl, rfl, rfl, Nat.le_refl _, fun _ _ _ => rfl, .inl rfl⟩
theorem TurnsTo.of_below {g : Nat} {new : Obj} {w w' : World} (h : Below w.heap.size w w') (hg : g < w.heap.size) : TurnsTo g new w w' :=
  ⟨h.os, h.tape, h.output, h.size, fun k hk _ => h.block k hk, .inl (h.block g hg)⟩
theorem TurnsTo.below {B g : Nat} {new : Obj} {w w' : World} (h : TurnsTo g new w w') (hg : B ≤ g) (hB : B ≤ w.heap.size) : Below B w w' :=
  ⟨h.os, h.tape, h.output, h.size, fun k hk => h.block k (by omega) (by omega)⟩
theorem TurnsTo.cell {g : Nat} {new : Obj} {w w' : World} (h : TurnsTo g new w w') {p : Addr} (hp : p.block ≠ g) {v : Value} (hc : w.cell? p = some v) : w'.cell? p = some v :=
  (World.cell?_of_block (h.block p.block (block_lt_of_cell hc) hp)).trans hc
theorem TurnsTo.isB {g : Nat} {new : Obj} {w w' : World} (h : TurnsTo g new w w') {v : Value} {bs : List Nat} (hI : IsB w v bs) (hS : inS (fun k => k ≠ g) v) : IsB w' v bs :=
  hI.keepS hS fun k hk hl => h.block k hl hk
theorem IsT.keepS {l : List Bool} {v : Value} {w w' : World} {S : Nat → Prop} (h : IsT w v l) (hS : inS S v) (hk : ∀ k, S k → k < w.heap.size → w'.heap[k]? = w.heap[k]?) : IsT w' v l := by
  obtain ⟨ao, cap, rfl, h1, h2, h3⟩ := h
  refine ⟨ao, cap, rfl, h1, h2, ?_⟩
  rcases h3 with h3 | ⟨b, off, rfl, hc⟩
  · exact .inl h3
  · exact .inr ⟨b, off, rfl, fun i hi => (World.cell?_of_block (a := ⟨b, off + i, none⟩) (hk b hS (block_lt_of_cell (hc i hi)))).trans (hc i hi)⟩
theorem TurnsTo.isT {g : Nat} {new : Obj} {w w' : World} (h : TurnsTo g new w w') {v : Value} {l : List Bool} (hI : IsT w v l) (hS : inS (fun k => k ≠ g) v) : IsT w' v l :=
  hI.keepS hS fun k hk hl => h.block k hl hk
theorem TurnsTo.range {g : Nat} {new : Obj} {w w' : World} (h : TurnsTo g new w w') {b o : Nat} {cs : List Value} (hb : b ≠ g) (hc : w.rangeAt b o cs) : w'.rangeAt b o cs := fun j v hv => h.cell (p := ⟨b, o + j, none⟩) hb (hc j v hv)
section
variable {P : Program} {o : Oper} {a : Act} {w : World} {Q : Exit → Act → World → Prop} {I : Value → World → Prop} {R : World → World → Prop}
theorem flowR_of (hR : ∀ w', Below w.heap.size w w' → R w w') (h : o.wp P a w (fun a' w' => ∃ v, a' = a.put o.dst v ∧ I v w' ∧ Below w.heap.size w w') Q) : o.wp P a w (fun a' w' => ∃ v, a' = a.put o.dst v ∧ I v w' ∧ R w w') Q :=
  Oper.wp_mono (by rintro a' w' ⟨v, h1, h2, h3⟩; exact ⟨v, h1, h2, hR w' h3⟩) h
/-- A store of a whole array or struct over a block. -/
theorem flowR_store (ty : TypeId) (x y : Operand) (ho : o.op = .store ty x y) (g : Nat) (cells : Array Value) (hx : a.eval x = .pointer (some ⟨g, 0, none⟩)) (hy : a.eval y = .agg cells) (t : TypeId) (old : Array Value) (hg : w.heap[g]? = some (.cells old t (0, 0)))
    (hi : (P.info? ty).map (·.size) = some cells.size) (hold : old.size = cells.size) (h1 : cells.all (·.oneCell') = true) (hI : ∀ w', w'.heap[g]? = some (.cells cells t (0, 0)) → I undef w') :
    o.wp P a w (fun a' w' => ∃ v, a' = a.put o.dst v ∧ I v w' ∧ TurnsTo g (.cells cells t (0, 0)) w w') Q := by
  have hO := Only.setRow w g cells
  exact wp_store_row ty x y ho g cells hx hy t old hg hi hold h1 ⟨undef, rfl, hI _ (setRow_heap w g _ _ _ _ hg), ⟨hO.os, hO.tape, hO.output, by rw [hO.size]; exact Nat.le_refl _, fun k _ hk => hO.block k hk, .inr (setRow_heap w g _ _ _ _ hg)⟩⟩
end
theorem TurnsTo.lt {g : Nat} {new : Obj} {w w' : World} (h : TurnsTo g new w w') (hg : g < w.heap.size) : g < w'.heap.size := Nat.lt_of_lt_of_le hg h.size
end Go.Proofs.YtpaamhmighgjeaaGreat

/- Values of structs, as parts. -/
namespace Go.Proofs.YtpaamhmighgjeaaGreat
open Go.RowKit Go.Shelf
set_option linter.unusedVariables false
set_option linter.unusedSimpArgs false
set_option maxRecDepth 100000

structure Rt6 (r : List Nat) : Prop where
  len : r.length = 32
  byte : ∀ z ∈ r, z < 256
/-- A part of a struct lies where the parts before it end. -/
theorem seg {ps : List (List Value)} {i : Nat} {c : List Value} {off : Nat} (hc : ps[i]? = some c) (ho : (ps.take i).flatten.length = off) (j : Nat) (v : Value) (h : c[j]? = some v) : ps.flatten[off + j]? = some v := by
  have hi : i < ps.length := (List.getElem?_eq_some_iff.1 hc).1
  have hci : ps[i] = c := by rw [List.getElem?_eq_getElem hi] at hc; exact Option.some.inj hc
  have hps : ps = ps.take i ++ (c :: ps.drop (i + 1)) := by rw [← hci, ← List.drop_eq_getElem_cons hi, List.take_append_drop]
  have hj : j < c.length := (List.getElem?_eq_some_iff.1 h).1
  rw [hps, List.flatten_append, List.flatten_cons, ← ho, List.getElem?_append_right (by omega), Nat.add_sub_cancel_left, List.getElem?_append_left hj]
  exact h
/-- The cells of a row of values. -/
def rowV : List (Vt × Value × Value) → List (List Value)
  | [] => []
  | x :: r => valL x.1.num x.1.root x.2.1 x.2.2 :: rowV r
theorem ksAt_of {w : World} {b : Nat} {t : TypeId} {cs : List Value} (hg : HasC w b t cs) : ∀ (xs : List (Vt × Value × Value)) (off : Nat), (∀ (j : Nat) (v : Value), (rowV xs).flatten[j]? = some v → cs[off + j]? = some v) → (∀ x ∈ xs, VAt w x.1 x.2.1 x.2.2) → KsAt w (xs.map (·.1)) b off := by
  intro xs
  induction xs with
  | nil => intro off _ _; rw [List.map_nil, KsAt]; exact trivial
  | cons x xs ih =>
    intro off h hv
    have hx := hv x (List.mem_cons_self ..)
    have hrl : x.1.root.length = 32 := by
      have h2 := hx
      obtain ⟨y, sb, sk⟩ := x
      cases y
      rw [VAt] at h2
      exact h2.1.2.1
    have hl := valL_length x.1.num x.1.root x.2.1 x.2.2 hrl
    rw [List.map_cons, KsAt]
    refine ⟨⟨x.2.1, x.2.2, hg.range off _ (fun j v hj => h j v ?_), hx⟩, ih (off + 35) (fun j v hj => ?_) (fun y hy => hv y (List.mem_cons_of_mem _ hy))⟩
    · have hjl : j < (valL x.1.num x.1.root x.2.1 x.2.2).length := (List.getElem?_eq_some_iff.1 hj).1
      rw [rowV, List.flatten_cons, List.getElem?_append_left hjl]; exact hj
    · have := h (35 + j) v (by rw [rowV, List.flatten_cons, List.getElem?_append_right (by omega), hl, Nat.add_sub_cancel_left]; exact hj)
      rw [Nat.add_assoc]; exact this
mutual
/-- No lone part. -/
def wide : Vt → Prop
  | .mk _ _ _ ks => ks.length ≠ 1 ∧ wideK ks
def wideK : List Vt → Prop
  | [] => True
  | x :: r => wide x ∧ wideK r
end
theorem zero_nobool : ∀ (j : Nat) (b : Bool), (valL 0 (zeros 32) nilS nilS)[j]? ≠ some (.bool b) := by
  intro j b h
  have hm := List.mem_of_getElem? h
  simp [valL, cellsB] at hm
mutual
/-- A store into a block of one value leaves such a value as it is. -/
theorem VAt.aside {w w' : World} {g : Nat} {t : TypeId} (hg : HasC w g t (valL 0 (zeros 32) nilS nilS)) (hl : (valL 0 (zeros 32) nilS nilS).length = 35) (ho : Only g w w') : ∀ (x : Vt) {sb sk : Value}, wide x → VAt w x sb sk → VAt w' x sb sk
  | .mk n r bs ks, sb, sk, hw, h => by
    rw [wide] at hw
    obtain ⟨h1, hk⟩ := hw
    rw [VAt] at h ⊢
    obtain ⟨h0, ⟨ao, cap, e, e1, e2, e3⟩, ao', cap', h2, h3, h4, h5⟩ := h
    have e4 : bs.length = 0 ∨ ∃ b off, ao = some ⟨b, off, none⟩ ∧ ∀ i, i < bs.length → w'.cell? ⟨b, off + i, none⟩ = some (.bool (bs.getD i false)) := by
      rcases e3 with e3 | ⟨b, off, e4, e5⟩
      · exact .inl e3
      · by_cases hz : bs.length = 0
        · exact .inl hz
        · refine .inr ⟨b, off, e4, fun i hi => (World.cell?_of_block (a := ⟨b, off + i, none⟩) (ho.block b (fun eb => ?_))).trans (e5 i hi)⟩
          subst eb
          have h5 := e5 0 (by omega)
          rw [cell_of_row w b _ _ _ (0, 0) hg] at h5
          exact zero_nobool _ _ (by simpa using h5)
    refine ⟨h0, ⟨ao, cap, e, e1, e2, e4⟩, ao', cap', h2, h3, h4, ?_⟩
    rcases h5 with h5 | ⟨b, off, h6, h7⟩
    · exact .inl h5
    · by_cases hz : ks.length = 0
      · exact .inl hz
      · refine .inr ⟨b, off, h6, KsAt.aside hg hl ho ks hk ?_ h7⟩
        intro eb
        subst eb
        have hx : ks[1]? = some ks[1] := List.getElem?_eq_getElem (by omega)
        obtain ⟨sb', sk', hr, hv⟩ := KsAt.get h7 hx
        have := hr 0 _ (valL_0 _ _ _ _)
        rw [cell_of_row w b _ _ _ (0, 0) hg] at this
        have := (Array.getElem?_eq_some_iff.1 this).1
        simp at this
        omega
theorem KsAt.aside {w w' : World} {g : Nat} {t : TypeId} (hg : HasC w g t (valL 0 (zeros 32) nilS nilS)) (hl : (valL 0 (zeros 32) nilS nilS).length = 35) (ho : Only g w w') : ∀ (l : List Vt) {b off : Nat}, wideK l → b ≠ g → KsAt w l b off → KsAt w' l b off
  | [], b, off, _, _, _ => by rw [KsAt]; exact trivial
  | x :: rest, b, off, hw, hb, h => by
    rw [wideK] at hw
    rw [KsAt] at h ⊢
    obtain ⟨⟨sb, sk, h1, h2⟩, h3⟩ := h
    exact ⟨⟨sb, sk, fun j v hj => (World.cell?_of_block (a := ⟨b, off + j, none⟩) (ho.block b hb)).trans (h1 j v hj), VAt.aside hg hl ho x hw.1 h2⟩, KsAt.aside hg hl ho rest hw.2 hb h3⟩
end
/-- A value of parts. -/
theorem isV_all {w : World} {b k : Nat} {ks : List Vt} (hk : ks.length = k) (hm : k ≤ maxLen) (h : KsAt w ks b 0) : VAt w (.mk 0 (zeros 32) [] ks) nilS (.slice (some ⟨b, 0, none⟩) k k) := by
  subst hk
  rw [VAt]
  exact ⟨⟨by decide, zeros32, zeros_byte 32⟩, isT_nil w, some ⟨b, 0, none⟩, ks.length, rfl, Nat.le_refl _, hm, .inr ⟨b, 0, rfl, h⟩⟩
theorem IsV.bits {w : World} {ao : Option Addr} {c : Nat} {l : List Bool} (h : IsT w (.slice ao l.length c) l) : IsV w (.agg (valL 0 (zeros 32) (.slice ao l.length c) nilS).toArray) (.mk 0 (zeros 32) l []) := by
  refine ⟨_, nilS, rfl, ?_⟩
  rw [VAt]
  exact ⟨⟨by decide, zeros32, zeros_byte 32⟩, h, none, 0, rfl, Nat.le_refl _, by decide, .inl rfl⟩
theorem IsV.leaf (w : World) {n : Nat} {r : List Nat} (hn : n < 18446744073709551616) (hr : r.length = 32) (h8 : ∀ z ∈ r, z < 256) : IsV w (.agg (valL n r nilS nilS).toArray) (.mk n r [] []) := ⟨nilS, nilS, rfl, vAt_leaf w hn hr h8⟩
/-- A slice of structs, made, in a flow. -/
theorem flow_rowsB {P : Program} {o : Oper} {a : Act} {w : World} {Q : Exit → Act → World → Prop} {I : Value → World → Prop} (t e : TypeId) (n sz : Nat) (ps : Array (Nat × Operand)) (ho : o.op = .buildSlice t n ps) (hu : P.underlying t = some (.slice e)) (hi : (P.info? e).map (fun i => (i.zero.isSome, i.size)) = some (true, sz))
    (vs : List (List Value)) (xs : List Operand) (hps : ps.toList = (xs.zipIdx 0).map fun p => (p.2, p.1)) (hx0 : xs.map a.eval = vs.map fun c => Value.agg c.toArray) (hc : ∀ c ∈ vs, c.length = sz) (hn : vs.length = n) (hn0 : 0 < n) (hs0 : 0 < sz) (hn1 : n * sz ≤ 16777216)
    (h : ∀ w', HasC w' w.heap.size e vs.flatten → Below w.heap.size w w' → I (.slice (some ⟨w.heap.size, 0, none⟩) n n) w') : o.wp P a w (fun a' w' => ∃ v, a' = a.put o.dst v ∧ I v w' ∧ Below w.heap.size w w') Q := by
  have hx : (ps.map fun (i, x) => (i, a.eval x)).toList = (vs.zipIdx 0).map fun p => (p.2, Value.agg p.1.toArray) := by
    have e1 : ((xs.map a.eval).zipIdx 0).map (fun p => (p.2, p.1)) = ((vs.map fun c => Value.agg c.toArray).zipIdx 0).map (fun p => (p.2, p.1)) := by rw [hx0]
    rw [List.zipIdx_map, List.zipIdx_map, List.map_map, List.map_map] at e1
    rw [Array.toList_map, hps, List.map_map]
    exact e1
  cases hq : P.info? e with
  | none => rw [hq] at hi; cases hi
  | some ie =>
    rw [hq] at hi
    simp only [Option.map_some, Option.some.injEq, Prod.mk.injEq] at hi
    obtain ⟨z, hz⟩ := Option.isSome_iff_exists.1 hi.1
    refine wp_buildSlice t e n ps ho vs.flatten.toArray ie z hu hq hz (by rw [hi.2]; omega) (by rw [hi.2]; have := Nat.mul_pos hn0 hs0; omega) ?_ ⟨_, rfl, h _ (heap_alloc_new w _) ((Below.refl _ w).alloc (Nat.le_refl _) _), (Below.refl _ w).alloc (Nat.le_refl _) _⟩
    rw [hx, hi.2]
    have hfl := flatten_rows sz vs hc
    have hf := fill_out (fun i => some (i * sz, sz)) ((vs.zipIdx 0).map fun p => (p.2, Value.agg p.1.toArray)) 0 ((Array.range (n * sz)).map (z.cells[· % z.cells.size]!)).toList (by have := partsAt_rows sz vs 0 hc; rw [Nat.zero_mul] at this; exact this) (by rw [outC_rows, hfl, hn]; simp)
    rw [outC_rows, List.take_zero, List.nil_append, Nat.zero_add, List.drop_of_length_le (by rw [hfl, hn]; simp), List.append_nil] at hf
    exact hf
/-- A part of a part. -/
theorem seg2 {ps qs : List (List Value)} {i k : Nat} {c : List Value} {off o2 tot : Nat} (hc : ps[i]? = some qs.flatten) (ho : (ps.take i).flatten.length = off) (hc2 : qs[k]? = some c) (ho2 : (qs.take k).flatten.length = o2) (ht : off + o2 = tot) (j : Nat) (v : Value) (h : c[j]? = some v) : ps.flatten[tot + j]? = some v := by
  have := seg hc ho (o2 + j) v (seg hc2 ho2 j v h)
  rw [← Nat.add_assoc, ht] at this
  exact this
end Go.Proofs.YtpaamhmighgjeaaGreat

