/- Own texts of the proof, joined: DecPd Val6 Va6Checkpoint Va6Vote Va6Attestation Bits5 KdVt KdAt LenB TkLe AtF Va6Pending KdPd PdF. -/
import Derived.Test.YtoajeencniomoaaGreatH2
/- Pendings taken. -/
namespace Go.Proofs.YtoajeencniomoaaGreat
open Go.RowKit Go.Shelf
set_option linter.unusedVariables false
set_option linter.unusedSimpArgs false
set_option maxRecDepth 100000

theorem pdC_length {sb : Value} {V : List Value} {de pr : Nat} (hV : V.length = 100) : (pdC sb V de pr).length = 103 := by simp [pdC, hV]
theorem pdBuild (V : List Value) (de pr : Nat) (hV : V.length = 100) (w : World) : (Instr.build 54 #[(1, .agg V.toArray), (2, .int .u64 (de : Nat)), (3, .int .u64 (pr : Nat))]).run Tryz.prog w = .ok (.agg (pdC (.slice none 0 0) V de pr).toArray) w := by
  have ho : outC #[(1, Value.agg V.toArray), (2, Value.int .u64 (de : Nat)), (3, Value.int .u64 (pr : Nat))].toList = V ++ ([Value.int .u64 (de : Nat), Value.int .u64 (pr : Nat)] ++ []) := rfl
  have hl : (V ++ ([Value.int .u64 (de : Nat), Value.int .u64 (pr : Nat)] ++ []) : List Value).length = 102 := by simp [hV]
  have h := build_from Tryz.ty54 _ Tryz.underlying54 #[(0, 1), (1, 100), (101, 1), (102, 1)] (fun w => by kernel_rfl) #[(1, .agg V.toArray), (2, .int .u64 (de : Nat)), (3, .int .u64 (pr : Nat))] 1
    (by
      have e1 : (Value.agg V.toArray).cells.size = 100 := hV
      refine ⟨?_, ?_, ?_, trivial⟩ <;> rw [e1] <;> rfl) (by rw [ho, hl]; decide) w
  rw [ho, hl] at h
  have ht : pd0.take 1 = [.slice none 0 0] := rfl
  have hd : pd0.drop (1 + 102) = [] := by kernel_rfl
  rw [ht, hd, List.append_nil] at h
  exact h
/-- The Reader's state behind a Pending's fields. -/
def pdS (bs : List Nat) : Rs := fixS 148 8 (fixS 148 8 (vtS 148 (fixT 148 0 4 (decide (bs.length < 148)), partW bs 148 0 [] (decide (bs.length < 148)))))
def pdP (bs : List Nat) : List Nat := partS bs 148 0 [] (decide (bs.length < 148))
def pdV (bs : List Nat) : List Value := vtTake bs 148 (fixT 148 0 4 (decide (bs.length < 148)), partW bs 148 0 [] (decide (bs.length < 148)))
def pdX (bs : List Nat) : Nat := numAt bs 148 (vtS 148 (fixT 148 0 4 (decide (bs.length < 148)), partW bs 148 0 [] (decide (bs.length < 148))))
def pdY (bs : List Nat) : Nat := numAt bs 148 (fixS 148 8 (vtS 148 (fixT 148 0 4 (decide (bs.length < 148)), partW bs 148 0 [] (decide (bs.length < 148)))))
def pdG (bs : List Nat) : Bool := !partW bs 148 0 [] (decide (bs.length < 148))
theorem pdC_one {sb : Value} {V : List Value} {de pr : Nat} (hb : sb.oneCell' = true) (hV : V.toArray.all (·.oneCell') = true) : (pdC sb V de pr).toArray.all (·.oneCell') = true := by
  simp only [List.all_toArray, List.all_eq_true] at hV ⊢
  intro v hv
  unfold pdC at hv
  simp only [List.mem_append, List.mem_cons, List.not_mem_nil, or_false] at hv
  rcases hv with rfl | hv | rfl | rfl
  · exact hb
  · exact hV v hv
  · rfl
  · rfl
theorem pdBad {bs : List Nat} (h : pdG bs = false) : (pdS bs).2 = true := by
  have h' : partW bs 148 0 [] (decide (bs.length < 148)) = true := by simpa [pdG] using h
  unfold pdS
  rw [h']
  simp [fixS, vtS, cpS, cpW, fixW]
theorem pdGood {bs : List Nat} (h : pdG bs = true) : pdS bs = (148, false) ∧ pdP bs = [148] ∧ 148 ≤ bs.length := by
  have h' : partW bs 148 0 [] (decide (bs.length < 148)) = false := by simpa [pdG] using h
  have h2 := h'
  unfold partW at h2
  rw [Bool.or_eq_false_iff] at h2
  have hw : decide (bs.length < 148) = false := by
    have := h2.1
    unfold fixW at this
    rw [Bool.or_eq_false_iff] at this
    exact this.1
  have hp : partP bs 148 0 (decide (bs.length < 148)) = 148 := by
    have := h2.2
    simpa [folB] using this
  refine ⟨?_, ?_, by simpa using hw⟩
  · unfold pdS
    rw [h', hw]
    decide
  · unfold pdP partS
    rw [h', hp]
    rfl
theorem pdA_false (C : List Value) : pdA false C = .tuple #[.agg pd0.toArray, .int .i64 3] := rfl
theorem pdA_true (C : List Value) : pdA true C = .tuple #[.agg C.toArray, .int .i64 0] := rfl
theorem pdC_noBool {w : World} {g j : Nat} {bs : List Nat} {de pr : Nat} {c : Bool} (h : HasC w g 54 (pdC (.slice none 0 0) (pdV bs) de pr)) (hc : w.cell? ⟨g, j, none⟩ = some (.bool c)) : False := by
  rw [cell_of_row w g j _ _ (0, 0) h] at hc
  have hm : Value.bool c ∈ pdC (.slice none 0 0) (pdV bs) de pr := List.mem_of_getElem? (by simpa using hc)
  unfold pdC pdV vtTake at hm
  simp only [List.mem_append, List.mem_cons, List.not_mem_nil, or_false] at hm
  rcases hm with hm | hm | hm | hm
  · cases hm
  · exact vtC_noBool hm
  · cases hm
  · cases hm
theorem pd0_noBool {w : World} {g j : Nat} {c : Bool} (h : HasC w g 54 pd0) (hc : w.cell? ⟨g, j, none⟩ = some (.bool c)) : False := by
  rw [cell_of_row w g j _ _ (0, 0) h] at hc
  have hm : Value.bool c ∈ pd0 := List.mem_of_getElem? (by simpa using hc)
  unfold pd0 pdC vt0 at hm
  simp only [List.mem_append, List.mem_cons, List.not_mem_nil, or_false] at hm
  rcases hm with hm | hm | hm | hm
  · cases hm
  · exact vtC_noBool hm
  · cases hm
  · cases hm

set_option maxHeartbeats 2000000 in
theorem toPd_bad (v : Value) (bs : List Nat) (w : World) (hB : IsB w v bs) (hl : bs.length ≤ 100000000000) (hbad : pdG bs = false ∨ takeB (bs.drop 148) 32 = none) :
    Calls Tryz.prog 23 #[v] w fun x w' => x = .returned (pdA false []) ∧ Below w.heap.size w w' := by
  have HBAD := hid hbad
  clear hbad
  have HI := hid hB
  obtain ⟨⟨ao, cap, rfl, _⟩, _⟩ := hB
  go_enter Tryz.func23, Tryz.ntmps23
  go_wp2_with ((with_reducible refine at_list' ?_); first
    | (refine wpList_alloc_c Tryz.ty54 rfl 2 rfl rfl ?_; intro w1 H1 B1 S1))
  have HC := hid (read_any _ bs 148 w1 (HI.out.keep B1) (by decide) (by omega))
  have HH1 := hid H1
  have HB1 := hid B1
  have s1 := S1
  clear H1 B1 S1 HI
  refine HC.out.mono ?_
  rintro e w2 ⟨g, S, hg, rfl, q1, q2, q3⟩
  have HP := hid (rpart_any w2 q1 (by decide) (by omega) (by simp))
  have HH2 := hid (HH1.out.keep q3)
  have HB2 := hid (HB1.out.trans (q3.mono (by omega)))
  have s2 := q3.size
  have hgl := q1.gt
  clear q1 q2 q3 HC HH1 HB1
  go_wp2_with fail
  refine HP.out.mono ?_
  rintro e w3 ⟨⟨u3, rfl⟩, q1, q2⟩
  have HT := hid (takeVt_any w3 q1 (by decide) (by omega))
  have HH3 := hid (HH2.out.grown q2 (by omega))
  have s3 := q2.size
  have HB3 : Hid (Below w.heap.size w w3) := hid ⟨q2.os.trans HB2.out.os, q2.tape.trans HB2.out.tape, q2.output.trans HB2.out.output, by omega, fun j hj => (q2.block j (by omega) (fun h => by have := Option.some.inj h; omega)).trans (HB2.out.block j hj)⟩
  clear q1 q2 HP HH2 HB2
  go_wp2_with fail
  refine HT.out.mono ?_
  rintro e w4 ⟨rfl, hV, q1, q2⟩
  have HR := hid (rnum_any w4 q1 (by decide) (by omega))
  have HH4 := hid (HH3.out.grown q2 (by omega))
  have s4 := q2.size
  have HB4 : Hid (Below w.heap.size w w4) := hid ⟨q2.os.trans HB3.out.os, q2.tape.trans HB3.out.tape, q2.output.trans HB3.out.output, by omega, fun j hj => (q2.block j (by omega) (fun h => by have := Option.some.inj h; omega)).trans (HB3.out.block j hj)⟩
  have HV : Hid ((pdV bs).length = 100) := hid hV
  clear q1 q2 HT HH3 HB3 hV
  go_wp2_with fail
  refine HR.out.mono ?_
  rintro e w4' ⟨rfl, q1, q2⟩
  have HR2 := hid (rnum_any w4' q1 (by decide) (by omega))
  have HH4' := hid (HH4.out.grown q2 (by omega))
  have s4' := q2.size
  have HB4' : Hid (Below w.heap.size w w4') := hid ⟨q2.os.trans HB4.out.os, q2.tape.trans HB4.out.tape, q2.output.trans HB4.out.output, by omega, fun j hj => (q2.block j (by omega) (fun h => by have := Option.some.inj h; omega)).trans (HB4.out.block j hj)⟩
  clear q1 q2 HR HH4 HB4
  go_wp2_with fail
  refine HR2.out.mono ?_
  rintro e w5 ⟨rfl, q1, q2⟩
  have HH5 := hid (HH4'.out.grown q2 (by omega))
  have s5 := q2.size
  have HB5 : Hid (Below w.heap.size w w5) := hid ⟨q2.os.trans HB4'.out.os, q2.tape.trans HB4'.out.tape, q2.output.trans HB4'.out.output, by omega, fun j hj => (q2.block j (by omega) (fun h => by have := Option.some.inj h; omega)).trans (HB4'.out.block j hj)⟩
  have HRd : Hid (Rd w5 g (more S w2 w3) bs 148 (pdS bs).1 (pdP bs) (pdS bs).2) := hid q1
  have HBd := hid (pdBuild (pdV bs) (pdX bs) (pdY bs) HV.out w5)
  have HL := hid (pdC_length (de := pdX bs) (pr := pdY bs) (sb := .slice none 0 0) HV.out)
  have HO : Hid ((pdC (.slice none 0 0) (pdV bs) (pdX bs) (pdY bs)).toArray.all (·.oneCell') = true) := hid (pdC_one rfl (vtTake_one _ _ _))
  clear q1 q2 HR2 HH4' HB4'
  go_wp2_with ((with_reducible refine at_list' ?_); first
    | (refine wpList_build_c rfl _ rfl #[(1, .agg (pdV bs).toArray), (2, .int .u64 (pdX bs : Nat)), (3, .int .u64 (pdY bs : Nat))] (by simp only [Act.eval, List.map_toArray, List.map_cons, List.map_nil]; rfl) _ HBd.out ?_)
    | (refine wpList_alloc_c Tryz.ty54 rfl 5 rfl rfl ?_; intro w6 H6 B6 S6)
    | (refine wpList_store_c Tryz.ty54 rfl (.tmp 5) (.tmp 20) rfl w5.heap.size (pdC (.slice none 0 0) (pdV bs) (pdX bs) (pdY bs)) rfl rfl (by rw [HL.out]; rfl) HO.out _ H6 rfl ?_; intro w7 H7 O7))
  have s7 := O7.size
  have B57 : Below w5.heap.size w5 w7 := below_only B6 O7 (Nat.le_refl _)
  have HR7 := hid (HRd.out.below B57)
  have HB7 := hid (HB5.out.trans (B57.mono (by omega)))
  have HH7 := hid (HH5.out.keep B57)
  have HX7 := hid H7
  clear H6 B6 O7 H7 B57 HRd HB5 HH5 HBd
  cases hG : pdG bs with
  | false =>
    have HG := hid hG
    have HPb := hid (parts_bad w7 HR7.out (.inl (pdBad hG)) (by decide) (by omega) (by unfold pdP partS; split <;> simp))
    clear HR7
    refine HPb.out.mono ?_
    rintro e w8 ⟨rfl, nn, hw8⟩
    have B8 : Below w7.heap.size w7 w8 := by rw [hw8]; exact below_drew0 (Below.refl _ _) nn
    have HB8 := hid (HB7.out.trans (B8.mono (by omega)))
    have HH8 := hid (HH7.out.keep B8)
    have HX8 := hid (HX7.out.keep B8)
    have s8 := B8.size
    clear B8 hw8 HPb HB7 HH7 HX7 hG
    go_wp2_with ((with_reducible refine at_list' ?_); first
      | (refine wpList_load_c Tryz.ty54 rfl (.tmp 5) rfl w5.heap.size (pdC (.slice none 0 0) (pdV bs) (pdX bs) (pdY bs)) rfl (by rw [HL.out]; rfl) HX8.out ?_))
    have HN := hid (answerPd_any (pdC (.slice none 0 0) (pdV bs) (pdX bs) (pdY bs)) false w8 HL.out HO.out)
    rw [pdA_false] at HN
    refine HN.out.mono ?_
    rintro e w9 ⟨rfl, B9⟩
    have HB9 := hid (HB8.out.trans (B9.mono (by omega)))
    have HH9 := hid (HH8.out.keep B9)
    clear B9 HN HB8 HH8 HX8
    go_wp2_with ((with_reducible refine at_list' ?_); first
      | (refine wpList_store_c Tryz.ty54 rfl (.tmp 2) (.tmp 30) rfl w.heap.size pd0 rfl rfl rfl pd0_one _ HH9.out rfl ?_; intro wa Ha Oa))
    exact bodyPost_ret (results_c Tryz.ty54 rfl _ wa w.heap.size pd0 (.int .i64 3) rfl rfl Ha rfl) rfl ⟨rfl, below_only HB9.out Oa (Nat.le_refl _)⟩
  | true =>
    have HG := hid hG
    obtain ⟨eS, eP, e148⟩ := pdGood hG
    have hR : Rd w7 g (more S w2 w3) bs 148 148 [148] false := by have := HR7.out; rw [eS, eP] at this; exact this
    have HPo := hid (parts_ok w7 hR (fun e => by cases e) (fun i hi => by
      have : i = 0 := by simpa using hi
      subst this
      simp only [toI]
      simp
      exact e148) (by decide) (by omega) (by simp))
    clear hR HR7 eS eP hG
    refine HPo.out.mono ?_
    rintro e w8 ⟨u, rfl, q1, B8⟩
    obtain ⟨b0, o0, c0, v0, rfl, hcell, hI0⟩ := isBs_one bs 148 q1
    obtain ⟨D, hD⟩ : ∃ D, bs.drop 148 = D := ⟨_, rfl⟩
    have hDl : D.length ≤ 100000000000 := by rw [← hD, List.length_drop]; omega
    rw [hD] at hI0
    have HD := hid hD
    clear hD
    have HB8 := hid (HB7.out.trans (B8.mono (by omega)))
    have HH8 := hid (HH7.out.keep B8)
    have HX8 := hid (HX7.out.keep B8)
    have s8 := B8.size
    have hI0' := hI0
    obtain ⟨⟨a0, p0, rfl, _⟩, _⟩ := hI0'
    have HTk := hid (takeBits_any _ _ 32 w8 hI0 hDl (by omega))
    clear q1 B8 HPo HB7 HH7 HX7 hI0
    go_wp2_with fail
    refine HTk.out.mono ?_
    rintro e w9 ⟨⟨l, u9, e1, rfl, e3⟩ | ⟨e1, rfl⟩, B9⟩
    · exfalso
      rcases HBAD.out with hb | hb
      · rw [HG.out] at hb; cases hb
      · rw [HD.out, e1] at hb; cases hb
    · have HB9 := hid (HB8.out.trans (B9.mono (by omega)))
      have HH9 := hid (HH8.out.keep B9)
      have HX9 := HX8.out.keep B9
      have hx0 := HX9.cell (j := 0) (v := .slice none 0 0) rfl
      have hfz : w9.frozen? ⟨w5.heap.size, 0, none⟩ = false := frozen_of_row w9 w5.heap.size 0 _ _ HX9
      have s9 := B9.size
      clear B9 HTk HB8 HH8 HX8 e1
      have HXs := hid (HX9.setCell 0 (.slice none 0 0))
      have HXO := hid (Only.setCell w9 w5.heap.size 0 (.slice none 0 0))
      go_wp2_with ((with_reducible refine at_list' ?_); first
        | (refine wpList_load_c Tryz.ty54 rfl (.tmp 5) rfl w5.heap.size (pdC (.slice none 0 0) (pdV bs) (pdX bs) (pdY bs)) rfl (by rw [HL.out]; rfl) (by exact HXs.out) ?_))
      have HN := hid (answerPd_any (pdC (.slice none 0 0) (pdV bs) (pdX bs) (pdY bs)) false (w9.setCell ⟨w5.heap.size, 0, none⟩ (.slice none 0 0)) HL.out HO.out)
      rw [pdA_false] at HN
      have HHs := hid (HH9.out.only HXO.out (by omega))
      have HBs := hid (below_only HB9.out HXO.out (by omega))
      have ss := HXO.out.size
      clear HX9 hx0 hfz
      refine HN.out.mono ?_
      rintro e wa ⟨rfl, Ba⟩
      have HBa := hid (HBs.out.trans (Ba.mono (by omega)))
      have HHa := hid (HHs.out.keep Ba)
      clear Ba HN
      go_wp2_with ((with_reducible refine at_list' ?_); first
        | (refine wpList_store_c Tryz.ty54 rfl (.tmp 2) (.tmp 45) rfl w.heap.size pd0 rfl rfl rfl pd0_one _ HHa.out rfl ?_; intro wb Hb Ob))
      exact bodyPost_ret (results_c Tryz.ty54 rfl _ wb w.heap.size pd0 (.int .i64 3) rfl rfl Hb rfl) rfl ⟨rfl, below_only HBa.out Ob (Nat.le_refl _)⟩

set_option maxHeartbeats 2000000 in
theorem toPd_good (v : Value) (bs : List Nat) (L : List Bool) (w : World) (hB : IsB w v bs) (hl : bs.length ≤ 100000000000) (hG : pdG bs = true) (hT : takeB (bs.drop 148) 32 = some L) :
    Calls Tryz.prog 23 #[v] w fun x w' => (∃ u, x = .returned (pdA true (pdC u (pdV bs) (pdX bs) (pdY bs))) ∧ IsT w' u L) ∧ Below w.heap.size w w' := by
  have HTB := hid hT
  have HGB := hid hG
  clear hG hT
  have HI := hid hB
  obtain ⟨⟨ao, cap, rfl, _⟩, _⟩ := hB
  go_enter Tryz.func23, Tryz.ntmps23
  go_wp2_with ((with_reducible refine at_list' ?_); first
    | (refine wpList_alloc_c Tryz.ty54 rfl 2 rfl rfl ?_; intro w1 H1 B1 S1))
  have HC := hid (read_any _ bs 148 w1 (HI.out.keep B1) (by decide) (by omega))
  have HH1 := hid H1
  have HB1 := hid B1
  have s1 := S1
  clear H1 B1 S1 HI
  refine HC.out.mono ?_
  rintro e w2 ⟨g, S, hg, rfl, q1, q2, q3⟩
  have HP := hid (rpart_any w2 q1 (by decide) (by omega) (by simp))
  have HH2 := hid (HH1.out.keep q3)
  have HB2 := hid (HB1.out.trans (q3.mono (by omega)))
  have s2 := q3.size
  have hgl := q1.gt
  clear q1 q2 q3 HC HH1 HB1
  go_wp2_with fail
  refine HP.out.mono ?_
  rintro e w3 ⟨⟨u3, rfl⟩, q1, q2⟩
  have HT := hid (takeVt_any w3 q1 (by decide) (by omega))
  have HH3 := hid (HH2.out.grown q2 (by omega))
  have s3 := q2.size
  have HB3 : Hid (Below w.heap.size w w3) := hid ⟨q2.os.trans HB2.out.os, q2.tape.trans HB2.out.tape, q2.output.trans HB2.out.output, by omega, fun j hj => (q2.block j (by omega) (fun h => by have := Option.some.inj h; omega)).trans (HB2.out.block j hj)⟩
  clear q1 q2 HP HH2 HB2
  go_wp2_with fail
  refine HT.out.mono ?_
  rintro e w4 ⟨rfl, hV, q1, q2⟩
  have HR := hid (rnum_any w4 q1 (by decide) (by omega))
  have HH4 := hid (HH3.out.grown q2 (by omega))
  have s4 := q2.size
  have HB4 : Hid (Below w.heap.size w w4) := hid ⟨q2.os.trans HB3.out.os, q2.tape.trans HB3.out.tape, q2.output.trans HB3.out.output, by omega, fun j hj => (q2.block j (by omega) (fun h => by have := Option.some.inj h; omega)).trans (HB3.out.block j hj)⟩
  have HV : Hid ((pdV bs).length = 100) := hid hV
  clear q1 q2 HT HH3 HB3 hV
  go_wp2_with fail
  refine HR.out.mono ?_
  rintro e w4' ⟨rfl, q1, q2⟩
  have HR2 := hid (rnum_any w4' q1 (by decide) (by omega))
  have HH4' := hid (HH4.out.grown q2 (by omega))
  have s4' := q2.size
  have HB4' : Hid (Below w.heap.size w w4') := hid ⟨q2.os.trans HB4.out.os, q2.tape.trans HB4.out.tape, q2.output.trans HB4.out.output, by omega, fun j hj => (q2.block j (by omega) (fun h => by have := Option.some.inj h; omega)).trans (HB4.out.block j hj)⟩
  clear q1 q2 HR HH4 HB4
  go_wp2_with fail
  refine HR2.out.mono ?_
  rintro e w5 ⟨rfl, q1, q2⟩
  have HH5 := hid (HH4'.out.grown q2 (by omega))
  have s5 := q2.size
  have HB5 : Hid (Below w.heap.size w w5) := hid ⟨q2.os.trans HB4'.out.os, q2.tape.trans HB4'.out.tape, q2.output.trans HB4'.out.output, by omega, fun j hj => (q2.block j (by omega) (fun h => by have := Option.some.inj h; omega)).trans (HB4'.out.block j hj)⟩
  have HRd : Hid (Rd w5 g (more S w2 w3) bs 148 (pdS bs).1 (pdP bs) (pdS bs).2) := hid q1
  have HBd := hid (pdBuild (pdV bs) (pdX bs) (pdY bs) HV.out w5)
  have HL := hid (pdC_length (de := pdX bs) (pr := pdY bs) (sb := .slice none 0 0) HV.out)
  have HO : Hid ((pdC (.slice none 0 0) (pdV bs) (pdX bs) (pdY bs)).toArray.all (·.oneCell') = true) := hid (pdC_one rfl (vtTake_one _ _ _))
  clear q1 q2 HR2 HH4' HB4'
  go_wp2_with ((with_reducible refine at_list' ?_); first
    | (refine wpList_build_c rfl _ rfl #[(1, .agg (pdV bs).toArray), (2, .int .u64 (pdX bs : Nat)), (3, .int .u64 (pdY bs : Nat))] (by simp only [Act.eval, List.map_toArray, List.map_cons, List.map_nil]; rfl) _ HBd.out ?_)
    | (refine wpList_alloc_c Tryz.ty54 rfl 5 rfl rfl ?_; intro w6 H6 B6 S6)
    | (refine wpList_store_c Tryz.ty54 rfl (.tmp 5) (.tmp 20) rfl w5.heap.size (pdC (.slice none 0 0) (pdV bs) (pdX bs) (pdY bs)) rfl rfl (by rw [HL.out]; rfl) HO.out _ H6 rfl ?_; intro w7 H7 O7))
  have s7 := O7.size
  have B57 : Below w5.heap.size w5 w7 := below_only B6 O7 (Nat.le_refl _)
  have HR7 := hid (HRd.out.below B57)
  have HB7 := hid (HB5.out.trans (B57.mono (by omega)))
  have HH7 := hid (HH5.out.keep B57)
  have HX7 := hid H7
  clear H6 B6 O7 H7 B57 HRd HB5 HH5 HBd
  have hG := HGB.out
  have HG := hid hG
  obtain ⟨eS, eP, e148⟩ := pdGood hG
  have hR : Rd w7 g (more S w2 w3) bs 148 148 [148] false := by have := HR7.out; rw [eS, eP] at this; exact this
  have HPo := hid (parts_ok w7 hR (fun e => by cases e) (fun i hi => by
    have : i = 0 := by simpa using hi
    subst this
    simp only [toI]
    simp
    exact e148) (by decide) (by omega) (by simp))
  clear hR HR7 eS eP hG
  refine HPo.out.mono ?_
  rintro e w8 ⟨u, rfl, q1, B8⟩
  obtain ⟨b0, o0, c0, v0, rfl, hcell, hI0⟩ := isBs_one bs 148 q1
  obtain ⟨D, hD⟩ : ∃ D, bs.drop 148 = D := ⟨_, rfl⟩
  have hDl : D.length ≤ 100000000000 := by rw [← hD, List.length_drop]; omega
  rw [hD] at hI0
  have HD := hid hD
  clear hD
  have HB8 := hid (HB7.out.trans (B8.mono (by omega)))
  have HH8 := hid (HH7.out.keep B8)
  have HX8 := hid (HX7.out.keep B8)
  have s8 := B8.size
  have hI0' := hI0
  obtain ⟨⟨a0, p0, rfl, _⟩, _⟩ := hI0'
  have HTk := hid (takeBits_any _ _ 32 w8 hI0 hDl (by omega))
  clear q1 B8 HPo HB7 HH7 HX7 hI0
  go_wp2_with fail
  refine HTk.out.mono ?_
  rintro e w9 ⟨⟨l, u9, e1, rfl, e3⟩ | ⟨e1, rfl⟩, B9⟩
  rotate_left
  · exfalso
    rw [HD.out, e1] at HTB
    exact absurd HTB.out (by simp)
  have hlL : l = L := by
    have h := HTB.out
    rw [HD.out, e1] at h
    exact Option.some.inj h
  subst hlL
  obtain ⟨ao9, c9, hu9, _⟩ := id e3
  have HB9 := hid (HB8.out.trans (B9.mono (by omega)))
  have HH9 := hid (HH8.out.keep B9)
  have HX9 := HX8.out.keep B9
  have hx0 := HX9.cell (j := 0) (v := .slice none 0 0) rfl
  have hfz : w9.frozen? ⟨w5.heap.size, 0, none⟩ = false := frozen_of_row w9 w5.heap.size 0 _ _ HX9
  have s9 := B9.size
  subst hu9
  clear B9 HTk HB8 HH8 HX8 e1
  have HXs := hid (HX9.setCell 0 (.slice ao9 l.length c9))
  have HXO := hid (Only.setCell w9 w5.heap.size 0 (.slice ao9 l.length c9))
  have HNB : Hid (∀ k b, HasC w9 k 54 (pdC (.slice none 0 0) (pdV bs) (pdX bs) (pdY bs)) → ∀ j, w9.cell? ⟨k, j, none⟩ ≠ some (.bool b)) := hid (fun k b hk j hc => pdC_noBool hk hc)
  have HTs := hid (isT_only e3 HXO.out (fun j b => HNB.out _ b HX9 j))
  have HU : Hid ((Value.slice ao9 l.length c9).oneCell' = true) := hid (isT_oneCell e3)
  have hset : (pdC (.slice none 0 0) (pdV bs) (pdX bs) (pdY bs)).set 0 (.slice ao9 l.length c9) = pdC (.slice ao9 l.length c9) (pdV bs) (pdX bs) (pdY bs) := rfl
  rw [hset] at HXs
  have HLu := hid (pdC_length (de := pdX bs) (pr := pdY bs) (sb := (.slice ao9 l.length c9)) HV.out)
  have HOu : Hid ((pdC (.slice ao9 l.length c9) (pdV bs) (pdX bs) (pdY bs)).toArray.all (·.oneCell') = true) := hid (pdC_one HU.out (vtTake_one _ _ _))
  clear hset HNB
  go_wp2_with ((with_reducible refine at_list' ?_); first
    | (refine wpList_load_c Tryz.ty54 rfl (.tmp 5) rfl w5.heap.size (pdC (.slice ao9 l.length c9) (pdV bs) (pdX bs) (pdY bs)) rfl (by rw [HLu.out]; rfl) (by exact HXs.out) ?_))
  have HN := hid (answerPd_any (pdC (.slice ao9 l.length c9) (pdV bs) (pdX bs) (pdY bs)) true (w9.setCell ⟨w5.heap.size, 0, none⟩ (.slice ao9 l.length c9)) HLu.out HOu.out)
  rw [pdA_true] at HN
  have HHs := hid (HH9.out.only HXO.out (by omega))
  have HBs := hid (below_only HB9.out HXO.out (by omega))
  have ss := HXO.out.size
  clear HX9 hx0 hfz e3
  refine HN.out.mono ?_
  rintro e wa ⟨rfl, Ba⟩
  have HBa := hid (HBs.out.trans (Ba.mono (by omega)))
  have HHa := hid (HHs.out.keep Ba)
  have HTa := hid (IsT.keep HTs.out Ba)
  clear Ba HN
  go_wp2_with ((with_reducible refine at_list' ?_); first
    | (refine wpList_store_c Tryz.ty54 rfl (.tmp 2) (.tmp 45) rfl w.heap.size (pdC (.slice ao9 l.length c9) (pdV bs) (pdX bs) (pdY bs)) rfl rfl (by rw [HLu.out]; rfl) HOu.out _ HHa.out rfl ?_; intro wb Hb Ob))
  refine bodyPost_ret (results_c Tryz.ty54 rfl _ wb w.heap.size (pdC (.slice ao9 l.length c9) (pdV bs) (pdX bs) (pdY bs)) (.int .i64 0) rfl rfl Hb (by rw [HLu.out]; rfl)) rfl ⟨⟨(.slice ao9 l.length c9), rfl, ?_⟩, below_only HBa.out Ob (Nat.le_refl _)⟩
  exact isT_only HTa.out Ob (fun j b hc => pd0_noBool HHa.out hc)
end Go.Proofs.YtoajeencniomoaaGreat

/- Values of structs, as parts. -/
namespace Go.Proofs.YtoajeencniomoaaGreat
open Go.RowKit Go.Shelf
set_option linter.unusedVariables false
set_option linter.unusedSimpArgs false
set_option maxRecDepth 100000

structure Rt6 (r : List Nat) : Prop where
  len : r.length = 32
  byte : ∀ z ∈ r, z < 256
/-- A part of a struct lies where the parts before it end. -/
theorem seg {ps : List (List Value)} {i : Nat} {c : List Value} {off : Nat} (hc : ps[i]? = some c) (ho : (ps.take i).flatten.length = off) (j : Nat) (v : Value) (h : c[j]? = some v) : ps.flatten[off + j]? = some v := by
  have hi : i < ps.length := (List.getElem?_eq_some_iff.1 hc).1
  have hci : ps[i] = c := by rw [List.getElem?_eq_getElem hi] at hc; exact Option.some.inj hc
  have hps : ps = ps.take i ++ (c :: ps.drop (i + 1)) := by rw [← hci, ← List.drop_eq_getElem_cons hi, List.take_append_drop]
  have hj : j < c.length := (List.getElem?_eq_some_iff.1 h).1
  rw [hps, List.flatten_append, List.flatten_cons, ← ho, List.getElem?_append_right (by omega), Nat.add_sub_cancel_left, List.getElem?_append_left hj]
  exact h
/-- The cells of a row of values. -/
def rowV : List (Vt × Value × Value) → List (List Value)
  | [] => []
  | x :: r => valL x.1.num x.1.root x.2.1 x.2.2 :: rowV r
theorem ksAt_of {w : World} {b : Nat} {t : TypeId} {cs : List Value} (hg : HasC w b t cs) : ∀ (xs : List (Vt × Value × Value)) (off : Nat), (∀ (j : Nat) (v : Value), (rowV xs).flatten[j]? = some v → cs[off + j]? = some v) → (∀ x ∈ xs, VAt w x.1 x.2.1 x.2.2) → KsAt w (xs.map (·.1)) b off := by
  intro xs
  induction xs with
  | nil => intro off _ _; rw [List.map_nil, KsAt]; exact trivial
  | cons x xs ih =>
    intro off h hv
    have hx := hv x (List.mem_cons_self ..)
    have hrl : x.1.root.length = 32 := by
      have h2 := hx
      obtain ⟨y, sb, sk⟩ := x
      cases y
      rw [VAt] at h2
      exact h2.1.2.1
    have hl := valL_length x.1.num x.1.root x.2.1 x.2.2 hrl
    rw [List.map_cons, KsAt]
    refine ⟨⟨x.2.1, x.2.2, hg.range off _ (fun j v hj => h j v ?_), hx⟩, ih (off + 35) (fun j v hj => ?_) (fun y hy => hv y (List.mem_cons_of_mem _ hy))⟩
    · have hjl : j < (valL x.1.num x.1.root x.2.1 x.2.2).length := (List.getElem?_eq_some_iff.1 hj).1
      rw [rowV, List.flatten_cons, List.getElem?_append_left hjl]; exact hj
    · have := h (35 + j) v (by rw [rowV, List.flatten_cons, List.getElem?_append_right (by omega), hl, Nat.add_sub_cancel_left]; exact hj)
      rw [Nat.add_assoc]; exact this
mutual
/-- No lone part. -/
def wide : Vt → Prop
  | .mk _ _ _ ks => ks.length ≠ 1 ∧ wideK ks
def wideK : List Vt → Prop
  | [] => True
  | x :: r => wide x ∧ wideK r
end
theorem zero_nobool : ∀ (j : Nat) (b : Bool), (valL 0 (zeros 32) nilS nilS)[j]? ≠ some (.bool b) := by
  intro j b h
  have hm := List.mem_of_getElem? h
  simp [valL, cellsB] at hm
mutual
/-- A store into a block of one value leaves such a value as it is. -/
theorem VAt.aside {w w' : World} {g : Nat} {t : TypeId} (hg : HasC w g t (valL 0 (zeros 32) nilS nilS)) (hl : (valL 0 (zeros 32) nilS nilS).length = 35) (ho : Only g w w') : ∀ (x : Vt) {sb sk : Value}, wide x → VAt w x sb sk → VAt w' x sb sk
  | .mk n r bs ks, sb, sk, hw, h => by
    rw [wide] at hw
    obtain ⟨h1, hk⟩ := hw
    rw [VAt] at h ⊢
    obtain ⟨h0, ⟨ao, cap, e, e1, e2, e3⟩, ao', cap', h2, h3, h4, h5⟩ := h
    have e4 : bs.length = 0 ∨ ∃ b off, ao = some ⟨b, off, none⟩ ∧ ∀ i, i < bs.length → w'.cell? ⟨b, off + i, none⟩ = some (.bool (bs.getD i false)) := by
      rcases e3 with e3 | ⟨b, off, e4, e5⟩
      · exact .inl e3
      · by_cases hz : bs.length = 0
        · exact .inl hz
        · refine .inr ⟨b, off, e4, fun i hi => (World.cell?_of_block (a := ⟨b, off + i, none⟩) (ho.block b (fun eb => ?_))).trans (e5 i hi)⟩
          subst eb
          have h5 := e5 0 (by omega)
          rw [cell_of_row w b _ _ _ (0, 0) hg] at h5
          exact zero_nobool _ _ (by simpa using h5)
    refine ⟨h0, ⟨ao, cap, e, e1, e2, e4⟩, ao', cap', h2, h3, h4, ?_⟩
    rcases h5 with h5 | ⟨b, off, h6, h7⟩
    · exact .inl h5
    · by_cases hz : ks.length = 0
      · exact .inl hz
      · refine .inr ⟨b, off, h6, KsAt.aside hg hl ho ks hk ?_ h7⟩
        intro eb
        subst eb
        have hx : ks[1]? = some ks[1] := List.getElem?_eq_getElem (by omega)
        obtain ⟨sb', sk', hr, hv⟩ := KsAt.get h7 hx
        have := hr 0 _ (valL_0 _ _ _ _)
        rw [cell_of_row w b _ _ _ (0, 0) hg] at this
        have := (Array.getElem?_eq_some_iff.1 this).1
        simp at this
        omega
theorem KsAt.aside {w w' : World} {g : Nat} {t : TypeId} (hg : HasC w g t (valL 0 (zeros 32) nilS nilS)) (hl : (valL 0 (zeros 32) nilS nilS).length = 35) (ho : Only g w w') : ∀ (l : List Vt) {b off : Nat}, wideK l → b ≠ g → KsAt w l b off → KsAt w' l b off
  | [], b, off, _, _, _ => by rw [KsAt]; exact trivial
  | x :: rest, b, off, hw, hb, h => by
    rw [wideK] at hw
    rw [KsAt] at h ⊢
    obtain ⟨⟨sb, sk, h1, h2⟩, h3⟩ := h
    exact ⟨⟨sb, sk, fun j v hj => (World.cell?_of_block (a := ⟨b, off + j, none⟩) (ho.block b hb)).trans (h1 j v hj), VAt.aside hg hl ho x hw.1 h2⟩, KsAt.aside hg hl ho rest hw.2 hb h3⟩
end
/-- A value of parts. -/
theorem isV_all {w : World} {b k : Nat} {ks : List Vt} (hk : ks.length = k) (hm : k ≤ maxLen) (h : KsAt w ks b 0) : VAt w (.mk 0 (zeros 32) [] ks) nilS (.slice (some ⟨b, 0, none⟩) k k) := by
  subst hk
  rw [VAt]
  exact ⟨⟨by decide, zeros32, zeros_byte 32⟩, isT_nil w, some ⟨b, 0, none⟩, ks.length, rfl, Nat.le_refl _, hm, .inr ⟨b, 0, rfl, h⟩⟩
theorem IsV.bits {w : World} {ao : Option Addr} {c : Nat} {l : List Bool} (h : IsT w (.slice ao l.length c) l) : IsV w (.agg (valL 0 (zeros 32) (.slice ao l.length c) nilS).toArray) (.mk 0 (zeros 32) l []) := by
  refine ⟨_, nilS, rfl, ?_⟩
  rw [VAt]
  exact ⟨⟨by decide, zeros32, zeros_byte 32⟩, h, none, 0, rfl, Nat.le_refl _, by decide, .inl rfl⟩
theorem IsV.leaf (w : World) {n : Nat} {r : List Nat} (hn : n < 18446744073709551616) (hr : r.length = 32) (h8 : ∀ z ∈ r, z < 256) : IsV w (.agg (valL n r nilS nilS).toArray) (.mk n r [] []) := ⟨nilS, nilS, rfl, vAt_leaf w hn hr h8⟩
/-- A slice of structs, made, in a flow. -/
theorem flow_rowsB {P : Program} {o : Oper} {a : Act} {w : World} {Q : Exit → Act → World → Prop} {I : Value → World → Prop} (t e : TypeId) (n sz : Nat) (ps : Array (Nat × Operand)) (ho : o.op = .buildSlice t n ps) (hu : P.underlying t = some (.slice e)) (hi : (P.info? e).map (fun i => (i.zero.isSome, i.size)) = some (true, sz))
    (vs : List (List Value)) (xs : List Operand) (hps : ps.toList = (xs.zipIdx 0).map fun p => (p.2, p.1)) (hx0 : xs.map a.eval = vs.map fun c => Value.agg c.toArray) (hc : ∀ c ∈ vs, c.length = sz) (hn : vs.length = n) (hn0 : 0 < n) (hs0 : 0 < sz) (hn1 : n * sz ≤ 16777216)
    (h : ∀ w', HasC w' w.heap.size e vs.flatten → Below w.heap.size w w' → I (.slice (some ⟨w.heap.size, 0, none⟩) n n) w') : o.wp P a w (fun a' w' => ∃ v, a' = a.put o.dst v ∧ I v w' ∧ Below w.heap.size w w') Q := by
  have hx : (ps.map fun (i, x) => (i, a.eval x)).toList = (vs.zipIdx 0).map fun p => (p.2, Value.agg p.1.toArray) := by
    have e1 : ((xs.map a.eval).zipIdx 0).map (fun p => (p.2, p.1)) = ((vs.map fun c => Value.agg c.toArray).zipIdx 0).map (fun p => (p.2, p.1)) := by rw [hx0]
    rw [List.zipIdx_map, List.zipIdx_map, List.map_map, List.map_map] at e1
    rw [Array.toList_map, hps, List.map_map]
    exact e1
  cases hq : P.info? e with
  | none => rw [hq] at hi; cases hi
  | some ie =>
    rw [hq] at hi
    simp only [Option.map_some, Option.some.injEq, Prod.mk.injEq] at hi
    obtain ⟨z, hz⟩ := Option.isSome_iff_exists.1 hi.1
    refine wp_buildSlice t e n ps ho vs.flatten.toArray ie z hu hq hz (by rw [hi.2]; omega) (by rw [hi.2]; have := Nat.mul_pos hn0 hs0; omega) ?_ ⟨_, rfl, h _ (heap_alloc_new w _) ((Below.refl _ w).alloc (Nat.le_refl _) _), (Below.refl _ w).alloc (Nat.le_refl _) _⟩
    rw [hx, hi.2]
    have hfl := flatten_rows sz vs hc
    have hf := fill_out (fun i => some (i * sz, sz)) ((vs.zipIdx 0).map fun p => (p.2, Value.agg p.1.toArray)) 0 ((Array.range (n * sz)).map (z.cells[· % z.cells.size]!)).toList (by have := partsAt_rows sz vs 0 hc; rw [Nat.zero_mul] at this; exact this) (by rw [outC_rows, hfl, hn]; simp)
    rw [outC_rows, List.take_zero, List.nil_append, Nat.zero_add, List.drop_of_length_le (by rw [hfl, hn]; simp), List.append_nil] at hf
    exact hf
/-- A part of a part. -/
theorem seg2 {ps qs : List (List Value)} {i k : Nat} {c : List Value} {off o2 tot : Nat} (hc : ps[i]? = some qs.flatten) (ho : (ps.take i).flatten.length = off) (hc2 : qs[k]? = some c) (ho2 : (qs.take k).flatten.length = o2) (ht : off + o2 = tot) (j : Nat) (v : Value) (h : c[j]? = some v) : ps.flatten[tot + j]? = some v := by
  have := seg hc ho (o2 + j) v (seg hc2 ho2 j v h)
  rw [← Nat.add_assoc, ht] at this
  exact this
end Go.Proofs.YtoajeencniomoaaGreat

/- The document's value of a struct (Checkpoint). -/
namespace Go.Proofs.YtoajeencniomoaaGreat
open Go.RowKit Go.Shelf
set_option linter.unusedVariables false
set_option linter.unusedSimpArgs false
set_option maxRecDepth 100000

def cpP6 (ze : Nat) (zr : List Nat) : List (List Value) := [[.int .u64 (ze : Nat)], cellsB zr]
def cpC6 (ze : Nat) (zr : List Nat) : List Value := (cpP6 ze zr).flatten
theorem cpC6_length (ze : Nat) (zr : List Nat) (hzr : zr.length = 32) : (cpC6 ze zr).length = 33 := by simp [cpC6, cpP6, cellsB_length, hzr]
def cpV6 (ze : Nat) (zr : List Nat) : Vt := .mk 0 (zeros 32) [] [.mk ze (zeros 32) [] [], .mk 0 zr [] []]
theorem cpV6_wide (ze : Nat) (zr : List Nat) : wide (cpV6 ze zr) := by simp [cpV6, wide, wideK]
set_option maxHeartbeats 2000000 in
theorem cpV6_any (ze : Nat) (zr : List Nat) (hze : ze < 18446744073709551616) (hzr : Rt6 zr) (w : World) : Calls Tryz.prog 45 #[.agg (cpC6 ze zr).toArray] w fun x w' => ∃ v, x = .returned v ∧ IsV w' v (cpV6 ze zr) ∧ Below w.heap.size w w' := by
  go_enter Tryz.func45, Tryz.ntmps45
  go_wp2_with ((with_reducible refine at_list' ?_); first
    | (refine wpList_box_c rfl 1 rfl (.tmp 0) rfl (cpC6 ze zr) rfl ?_; intro w1 H1 B1 S1)
    | (refine wpList_alloc_c Tryz.ty33 rfl 2 rfl rfl ?_; intro w2 H2 B2 S2; rw [S1] at H2 S2; rw [S1]))
  have HX := hid (H1.keep B2)
  have HY := hid H2
  have HB := hid (B1.trans (B2.mono (by omega)))
  have s2 : w2.heap.size = w.heap.size + 2 := by omega
  clear H1 B1 S1 H2 B2 S2
  try simp only [Act.put, List.setIfInBounds_toArray, List.set_cons_succ, List.set_cons_zero]
  refine wp_region_flow 8 8 (fun i v wq => match i with
    | 0 => v = .pointer (some ⟨w.heap.size, 0, none⟩)
    | 1 => v = .int .u64 (ze : Nat)
    | 2 => IsV wq v (.mk ze (zeros 32) [] [])
    | 3 => v = .pointer (some ⟨w.heap.size, 1, none⟩)
    | 4 => v = .agg (nums .u8 zr)
    | 5 => IsV wq v (.mk 0 zr [] [])
    | 6 => ∃ b, v = .slice (some ⟨b, 0, none⟩) 2 2 ∧ KsAt wq [.mk ze (zeros 32) [] [], .mk 0 zr [] []] b 0
    | _ => ∃ b, v = .agg (valL 0 (zeros 32) nilS (.slice (some ⟨b, 0, none⟩) 2 2)).toArray ∧ KsAt wq [.mk ze (zeros 32) [] [], .mk 0 zr [] []] b 0) (by kernel_rfl) (by kernel_rfl) (fun _ d _ _ _ h => by cases d <;> exact h) ?_ ?_ ?_ ?_
  · intro i v wq wq' hi hv hb
    match i, hi with
    | 0, _ => exact hv
    | 1, _ => exact hv
    | 2, _ => exact hv.keep hb
    | 3, _ => exact hv
    | 4, _ => exact hv
    | 5, _ => exact hv.keep hb
    | 6, _ => obtain ⟨b, h1, h2⟩ := hv; exact ⟨b, h1, KsAt.keep hb _ h2⟩
    | 7, _ => obtain ⟨b, h1, h2⟩ := hv; exact ⟨b, h1, KsAt.keep hb _ h2⟩
    | (k + 8), hk => exact absurd hk (by omega)
  · intro i o hi ho aq wq hc hk hdep
    match i, hi with
    | 0, _ =>
      cases ho
      have e1 : aq.tmps.getD 1 undef = .pointer (some ⟨w.heap.size, 0, none⟩) := hk 1 (by decide)
      exact flow_value _ (run_fieldAt 26 (.tmp 1) 0 rfl _ _ e1 (by kernel_rfl)) rfl
    | 1, _ =>
      cases ho
      have e0 : aq.tmps.getD 3 undef = .pointer (some ⟨w.heap.size, 0, none⟩) := hdep 0 3 rfl (by kernel_rfl)
      exact flow_value _ (run_cell 22 (.tmp 3) rfl _ e0 _ ((HX.out.keep (hcB hc)).cell (seg (ps := cpP6 ze zr) (i := 0) (off := 0) rfl (by simp [cpP6, cellsB_length, hzr.len]) 0 _ rfl)) _ Tryz.underlying22 rfl) rfl
    | 2, _ =>
      cases ho
      have e0 : aq.tmps.getD 4 undef = .int .u64 (ze : Nat) := hdep 1 4 rfl (by kernel_rfl)
      refine flow_fun 43 _ _ rfl (fun _ _ => by simp [go_sem]) #[.int .u64 (ze : Nat)] (by rw [show (#[Operand.tmp 4] : Array Operand).map aq.eval = #[aq.tmps.getD 4 undef] from by simp [Act.eval], e0]) ?_
      refine (n_any ze wq).mono ?_
      rintro x w' ⟨rfl, q⟩
      exact ⟨_, rfl, IsV.leaf w' hze zeros32 (zeros_byte 32), q⟩
    | 3, _ =>
      cases ho
      have e1 : aq.tmps.getD 1 undef = .pointer (some ⟨w.heap.size, 0, none⟩) := hk 1 (by decide)
      exact flow_value _ (run_fieldAt 26 (.tmp 1) 1 rfl _ _ e1 (by kernel_rfl)) rfl
    | 4, _ =>
      cases ho
      have e0 : aq.tmps.getD 6 undef = .pointer (some ⟨w.heap.size, 1, none⟩) := hdep 3 6 rfl (by kernel_rfl)
      exact flow_value _ (run_mid 24 (.tmp 6) rfl w.heap.size 1 e0 (cellsB zr) ((HX.out.keep (hcB hc)).range 1 (cellsB zr) (seg (ps := cpP6 ze zr) (i := 1) (off := 1) rfl (by simp [cpP6, cellsB_length, hzr.len]))) _ Tryz.und24 rfl (by rw [cellsB_length, hzr.len]; exact Tryz.size24)) rfl
    | 5, _ =>
      cases ho
      have e0 : aq.tmps.getD 7 undef = .agg (nums .u8 zr) := hdep 4 7 rfl (by kernel_rfl)
      refine flow_fun 44 _ _ rfl (fun _ _ => by simp [go_sem]) #[.agg (nums .u8 zr)] (by rw [show (#[Operand.tmp 7] : Array Operand).map aq.eval = #[aq.tmps.getD 7 undef] from by simp [Act.eval], e0]) ?_
      refine (r_any zr hzr.len wq).mono ?_
      rintro x w' ⟨rfl, q⟩
      exact ⟨_, rfl, IsV.leaf w' (by decide) hzr.len hzr.byte, q⟩
    | 6, _ =>
      cases ho
      obtain ⟨sb0, sk0, e0, h0_⟩ := hdep 2 5 rfl (by kernel_rfl)
      obtain ⟨sb1, sk1, e1, h1_⟩ := hdep 5 8 rfl (by kernel_rfl)
      refine flow_rowsB 31 33 2 35 _ rfl Tryz.underlying31 valInfo [valL ze (zeros 32) sb0 sk0, valL 0 zr sb1 sk1] [.tmp 5, .tmp 8] rfl (by rw [show [Operand.tmp 5, Operand.tmp 8].map aq.eval = [aq.tmps.getD 5 undef, aq.tmps.getD 8 undef] from rfl, e0, e1]; rfl) (by simp [valL_length, zeros32, hzr.len]) rfl (by decide) (by decide) (by decide) (fun w' h hb => ⟨_, rfl, ksAt_of h [(.mk ze (zeros 32) [] [], sb0, sk0), (.mk 0 zr [] [], sb1, sk1)] 0 (fun j v hj => by rw [Nat.zero_add]; exact hj) (fun x hx => ?_)⟩)
      simp only [List.mem_cons, List.not_mem_nil, or_false] at hx
      rcases hx with rfl | rfl
      · exact VAt.keep hb _ h0_
      · exact VAt.keep hb _ h1_
    | 7, _ =>
      cases ho
      obtain ⟨b, e6, h6⟩ := hdep 6 9 rfl (by kernel_rfl)
      refine flow_fun 42 _ _ rfl (fun _ _ => by simp [go_sem]) #[.slice (some ⟨b, 0, none⟩) 2 2] (by rw [show (#[Operand.tmp 9] : Array Operand).map aq.eval = #[aq.tmps.getD 9 undef] from by simp [Act.eval], e6]) ?_
      refine (all_any (some ⟨b, 0, none⟩) 2 2 wq).mono ?_
      rintro x w' ⟨rfl, q⟩
      exact ⟨_, rfl, ⟨b, rfl, KsAt.keep q _ h6⟩, q⟩
    | (k + 8), hk => exact absurd hk (by omega)
  · intro o h8 ho
    omega
  intro vf w8 hc hv
  have e7 : ∃ b, vf 7 = _ ∧ KsAt w8 _ b 0 := hv 7 10 (by decide) rfl
  obtain ⟨b, e7, h7⟩ := e7
  have B8 := HB.out.trans ((hcB hc).mono (by omega))
  have H8v := HY.out.keep (hcB hc)
  have s8 := (hcB hc).size
  clear hv hc
  simp only [List.take_succ_cons, List.take_zero, List.drop_succ_cons, List.drop_zero, putAll, Act.put, List.setIfInBounds_toArray, List.set_cons_succ, List.set_cons_zero]
  rw [e7]
  have HB8 := hid B8
  have HK := hid h7
  clear B8 h7 e7 HB
  go_wp2_with ((with_reducible refine at_list' ?_); first
    | (refine wpList_store_c Tryz.ty33 rfl (.tmp 2) (.tmp 10) rfl (w.heap.size + 1) (valL 0 (zeros 32) nilS (.slice (some ⟨b, 0, none⟩) 2 2)) rfl rfl rfl (valL_oneC _ _ _ _ trivial trivial) _ H8v rfl ?_; intro w9 H9 O9))
  refine bodyPost_ret (results_c1 Tryz.ty33 rfl _ w9 (w.heap.size + 1) _ rfl H9 rfl) rfl ⟨_, rfl, ⟨nilS, _, rfl, ?_⟩, below_only HB8.out O9 (by omega)⟩
  exact VAt.aside H8v rfl O9 (cpV6 ze zr) (cpV6_wide ze zr) (isV_all (ks := [.mk ze (zeros 32) [] [], .mk 0 zr [] []]) rfl (by decide) HK.out)
end Go.Proofs.YtoajeencniomoaaGreat

/- The document's value of a struct (Vote). -/
namespace Go.Proofs.YtoajeencniomoaaGreat
open Go.RowKit Go.Shelf
set_option linter.unusedVariables false
set_option linter.unusedSimpArgs false
set_option maxRecDepth 100000

def vtP6 (zs : Nat) (zi : Nat) (zb : List Nat) (zcze : Nat) (zczr : List Nat) (ztze : Nat) (ztzr : List Nat) : List (List Value) := [[.int .u64 (zs : Nat)], [.int .u64 (zi : Nat)], cellsB zb, cpC6 zcze zczr, cpC6 ztze ztzr]
def vtC6 (zs : Nat) (zi : Nat) (zb : List Nat) (zcze : Nat) (zczr : List Nat) (ztze : Nat) (ztzr : List Nat) : List Value := (vtP6 zs zi zb zcze zczr ztze ztzr).flatten
theorem vtC6_length (zs : Nat) (zi : Nat) (zb : List Nat) (zcze : Nat) (zczr : List Nat) (ztze : Nat) (ztzr : List Nat) (hzb : zb.length = 32) (hzczr : zczr.length = 32) (hztzr : ztzr.length = 32) : (vtC6 zs zi zb zcze zczr ztze ztzr).length = 100 := by simp [vtC6, vtP6, cellsB_length, hzb, hzczr, hztzr, cpC6_length zcze zczr hzczr, cpC6_length ztze ztzr hztzr]
def vtV6 (zs : Nat) (zi : Nat) (zb : List Nat) (zcze : Nat) (zczr : List Nat) (ztze : Nat) (ztzr : List Nat) : Vt := .mk 0 (zeros 32) [] [.mk zs (zeros 32) [] [], .mk zi (zeros 32) [] [], .mk 0 zb [] [], cpV6 zcze zczr, cpV6 ztze ztzr]
theorem vtV6_wide (zs : Nat) (zi : Nat) (zb : List Nat) (zcze : Nat) (zczr : List Nat) (ztze : Nat) (ztzr : List Nat) : wide (vtV6 zs zi zb zcze zczr ztze ztzr) := by simp [vtV6, wide, wideK, cpV6_wide, cpV6_wide]
set_option maxHeartbeats 2000000 in
theorem vtV6_any (zs : Nat) (zi : Nat) (zb : List Nat) (zcze : Nat) (zczr : List Nat) (ztze : Nat) (ztzr : List Nat) (hzs : zs < 18446744073709551616) (hzi : zi < 18446744073709551616) (hzb : Rt6 zb) (hzcze : zcze < 18446744073709551616) (hzczr : Rt6 zczr) (hztze : ztze < 18446744073709551616) (hztzr : Rt6 ztzr) (w : World) : Calls Tryz.prog 10 #[.agg (vtC6 zs zi zb zcze zczr ztze ztzr).toArray] w fun x w' => ∃ v, x = .returned v ∧ IsV w' v (vtV6 zs zi zb zcze zczr ztze ztzr) ∧ Below w.heap.size w w' := by
  go_enter Tryz.func10, Tryz.ntmps10
  go_wp2_with ((with_reducible refine at_list' ?_); first
    | (refine wpList_box_c rfl 1 rfl (.tmp 0) rfl (vtC6 zs zi zb zcze zczr ztze ztzr) rfl ?_; intro w1 H1 B1 S1)
    | (refine wpList_alloc_c Tryz.ty33 rfl 2 rfl rfl ?_; intro w2 H2 B2 S2; rw [S1] at H2 S2; rw [S1]))
  have HX := hid (H1.keep B2)
  have HY := hid H2
  have HB := hid (B1.trans (B2.mono (by omega)))
  have s2 : w2.heap.size = w.heap.size + 2 := by omega
  clear H1 B1 S1 H2 B2 S2
  try simp only [Act.put, List.setIfInBounds_toArray, List.set_cons_succ, List.set_cons_zero]
  refine wp_region_flow 17 17 (fun i v wq => match i with
    | 0 => v = .pointer (some ⟨w.heap.size, 0, none⟩)
    | 1 => v = .int .u64 (zs : Nat)
    | 2 => IsV wq v (.mk zs (zeros 32) [] [])
    | 3 => v = .pointer (some ⟨w.heap.size, 1, none⟩)
    | 4 => v = .int .u64 (zi : Nat)
    | 5 => IsV wq v (.mk zi (zeros 32) [] [])
    | 6 => v = .pointer (some ⟨w.heap.size, 2, none⟩)
    | 7 => v = .agg (nums .u8 zb)
    | 8 => IsV wq v (.mk 0 zb [] [])
    | 9 => v = .pointer (some ⟨w.heap.size, 34, none⟩)
    | 10 => v = .agg (cpC6 zcze zczr).toArray
    | 11 => IsV wq v (cpV6 zcze zczr)
    | 12 => v = .pointer (some ⟨w.heap.size, 67, none⟩)
    | 13 => v = .agg (cpC6 ztze ztzr).toArray
    | 14 => IsV wq v (cpV6 ztze ztzr)
    | 15 => ∃ b, v = .slice (some ⟨b, 0, none⟩) 5 5 ∧ KsAt wq [.mk zs (zeros 32) [] [], .mk zi (zeros 32) [] [], .mk 0 zb [] [], cpV6 zcze zczr, cpV6 ztze ztzr] b 0
    | _ => ∃ b, v = .agg (valL 0 (zeros 32) nilS (.slice (some ⟨b, 0, none⟩) 5 5)).toArray ∧ KsAt wq [.mk zs (zeros 32) [] [], .mk zi (zeros 32) [] [], .mk 0 zb [] [], cpV6 zcze zczr, cpV6 ztze ztzr] b 0) (by kernel_rfl) (by kernel_rfl) (fun _ d _ _ _ h => by cases d <;> exact h) ?_ ?_ ?_ ?_
  · intro i v wq wq' hi hv hb
    match i, hi with
    | 0, _ => exact hv
    | 1, _ => exact hv
    | 2, _ => exact hv.keep hb
    | 3, _ => exact hv
    | 4, _ => exact hv
    | 5, _ => exact hv.keep hb
    | 6, _ => exact hv
    | 7, _ => exact hv
    | 8, _ => exact hv.keep hb
    | 9, _ => exact hv
    | 10, _ => exact hv
    | 11, _ => exact hv.keep hb
    | 12, _ => exact hv
    | 13, _ => exact hv
    | 14, _ => exact hv.keep hb
    | 15, _ => obtain ⟨b, h1, h2⟩ := hv; exact ⟨b, h1, KsAt.keep hb _ h2⟩
    | 16, _ => obtain ⟨b, h1, h2⟩ := hv; exact ⟨b, h1, KsAt.keep hb _ h2⟩
    | (k + 17), hk => exact absurd hk (by omega)
  · intro i o hi ho aq wq hc hk hdep
    match i, hi with
    | 0, _ =>
      cases ho
      have e1 : aq.tmps.getD 1 undef = .pointer (some ⟨w.heap.size, 0, none⟩) := hk 1 (by decide)
      exact flow_value _ (run_fieldAt 28 (.tmp 1) 0 rfl _ _ e1 (by kernel_rfl)) rfl
    | 1, _ =>
      cases ho
      have e0 : aq.tmps.getD 3 undef = .pointer (some ⟨w.heap.size, 0, none⟩) := hdep 0 3 rfl (by kernel_rfl)
      exact flow_value _ (run_cell 22 (.tmp 3) rfl _ e0 _ ((HX.out.keep (hcB hc)).cell (seg (ps := vtP6 zs zi zb zcze zczr ztze ztzr) (i := 0) (off := 0) rfl (by simp [vtP6, cellsB_length, hzb.len, hzczr.len, hztzr.len, cpC6_length zcze zczr hzczr.len, cpC6_length ztze ztzr hztzr.len]) 0 _ rfl)) _ Tryz.underlying22 rfl) rfl
    | 2, _ =>
      cases ho
      have e0 : aq.tmps.getD 4 undef = .int .u64 (zs : Nat) := hdep 1 4 rfl (by kernel_rfl)
      refine flow_fun 43 _ _ rfl (fun _ _ => by simp [go_sem]) #[.int .u64 (zs : Nat)] (by rw [show (#[Operand.tmp 4] : Array Operand).map aq.eval = #[aq.tmps.getD 4 undef] from by simp [Act.eval], e0]) ?_
      refine (n_any zs wq).mono ?_
      rintro x w' ⟨rfl, q⟩
      exact ⟨_, rfl, IsV.leaf w' hzs zeros32 (zeros_byte 32), q⟩
    | 3, _ =>
      cases ho
      have e1 : aq.tmps.getD 1 undef = .pointer (some ⟨w.heap.size, 0, none⟩) := hk 1 (by decide)
      exact flow_value _ (run_fieldAt 28 (.tmp 1) 1 rfl _ _ e1 (by kernel_rfl)) rfl
    | 4, _ =>
      cases ho
      have e0 : aq.tmps.getD 6 undef = .pointer (some ⟨w.heap.size, 1, none⟩) := hdep 3 6 rfl (by kernel_rfl)
      exact flow_value _ (run_cell 22 (.tmp 6) rfl _ e0 _ ((HX.out.keep (hcB hc)).cell (seg (ps := vtP6 zs zi zb zcze zczr ztze ztzr) (i := 1) (off := 1) rfl (by simp [vtP6, cellsB_length, hzb.len, hzczr.len, hztzr.len, cpC6_length zcze zczr hzczr.len, cpC6_length ztze ztzr hztzr.len]) 0 _ rfl)) _ Tryz.underlying22 rfl) rfl
    | 5, _ =>
      cases ho
      have e0 : aq.tmps.getD 7 undef = .int .u64 (zi : Nat) := hdep 4 7 rfl (by kernel_rfl)
      refine flow_fun 43 _ _ rfl (fun _ _ => by simp [go_sem]) #[.int .u64 (zi : Nat)] (by rw [show (#[Operand.tmp 7] : Array Operand).map aq.eval = #[aq.tmps.getD 7 undef] from by simp [Act.eval], e0]) ?_
      refine (n_any zi wq).mono ?_
      rintro x w' ⟨rfl, q⟩
      exact ⟨_, rfl, IsV.leaf w' hzi zeros32 (zeros_byte 32), q⟩
    | 6, _ =>
      cases ho
      have e1 : aq.tmps.getD 1 undef = .pointer (some ⟨w.heap.size, 0, none⟩) := hk 1 (by decide)
      exact flow_value _ (run_fieldAt 28 (.tmp 1) 2 rfl _ _ e1 (by kernel_rfl)) rfl
    | 7, _ =>
      cases ho
      have e0 : aq.tmps.getD 9 undef = .pointer (some ⟨w.heap.size, 2, none⟩) := hdep 6 9 rfl (by kernel_rfl)
      exact flow_value _ (run_mid 24 (.tmp 9) rfl w.heap.size 2 e0 (cellsB zb) ((HX.out.keep (hcB hc)).range 2 (cellsB zb) (seg (ps := vtP6 zs zi zb zcze zczr ztze ztzr) (i := 2) (off := 2) rfl (by simp [vtP6, cellsB_length, hzb.len, hzczr.len, hztzr.len, cpC6_length zcze zczr hzczr.len, cpC6_length ztze ztzr hztzr.len]))) _ Tryz.und24 rfl (by rw [cellsB_length, hzb.len]; exact Tryz.size24)) rfl
    | 8, _ =>
      cases ho
      have e0 : aq.tmps.getD 10 undef = .agg (nums .u8 zb) := hdep 7 10 rfl (by kernel_rfl)
      refine flow_fun 44 _ _ rfl (fun _ _ => by simp [go_sem]) #[.agg (nums .u8 zb)] (by rw [show (#[Operand.tmp 10] : Array Operand).map aq.eval = #[aq.tmps.getD 10 undef] from by simp [Act.eval], e0]) ?_
      refine (r_any zb hzb.len wq).mono ?_
      rintro x w' ⟨rfl, q⟩
      exact ⟨_, rfl, IsV.leaf w' (by decide) hzb.len hzb.byte, q⟩
    | 9, _ =>
      cases ho
      have e1 : aq.tmps.getD 1 undef = .pointer (some ⟨w.heap.size, 0, none⟩) := hk 1 (by decide)
      exact flow_value _ (run_fieldAt 28 (.tmp 1) 3 rfl _ _ e1 (by kernel_rfl)) rfl
    | 10, _ =>
      cases ho
      have e0 : aq.tmps.getD 12 undef = .pointer (some ⟨w.heap.size, 34, none⟩) := hdep 9 12 rfl (by kernel_rfl)
      exact flow_value _ (run_mid 26 (.tmp 12) rfl w.heap.size 34 e0 (cpC6 zcze zczr) ((HX.out.keep (hcB hc)).range 34 (cpC6 zcze zczr) (seg (ps := vtP6 zs zi zb zcze zczr ztze ztzr) (i := 3) (off := 34) rfl (by simp [vtP6, cellsB_length, hzb.len, hzczr.len, hztzr.len, cpC6_length zcze zczr hzczr.len, cpC6_length ztze ztzr hztzr.len]))) _ Tryz.underlying26 rfl (by rw [cpC6_length zcze zczr hzczr.len]; kernel_rfl)) rfl
    | 11, _ =>
      cases ho
      have e0 : aq.tmps.getD 13 undef = .agg (cpC6 zcze zczr).toArray := hdep 10 13 rfl (by kernel_rfl)
      refine flow_fun 45 _ _ rfl (fun _ _ => by simp [go_sem]) #[.agg (cpC6 zcze zczr).toArray] (by rw [show (#[Operand.tmp 13] : Array Operand).map aq.eval = #[aq.tmps.getD 13 undef] from by simp [Act.eval], e0]) ?_
      refine (cpV6_any zcze zczr hzcze hzczr wq).mono ?_
      rintro x w' ⟨v, rfl, hv, q⟩
      exact ⟨v, rfl, hv, q⟩
    | 12, _ =>
      cases ho
      have e1 : aq.tmps.getD 1 undef = .pointer (some ⟨w.heap.size, 0, none⟩) := hk 1 (by decide)
      exact flow_value _ (run_fieldAt 28 (.tmp 1) 4 rfl _ _ e1 (by kernel_rfl)) rfl
    | 13, _ =>
      cases ho
      have e0 : aq.tmps.getD 15 undef = .pointer (some ⟨w.heap.size, 67, none⟩) := hdep 12 15 rfl (by kernel_rfl)
      exact flow_value _ (run_mid 26 (.tmp 15) rfl w.heap.size 67 e0 (cpC6 ztze ztzr) ((HX.out.keep (hcB hc)).range 67 (cpC6 ztze ztzr) (seg (ps := vtP6 zs zi zb zcze zczr ztze ztzr) (i := 4) (off := 67) rfl (by simp [vtP6, cellsB_length, hzb.len, hzczr.len, hztzr.len, cpC6_length zcze zczr hzczr.len, cpC6_length ztze ztzr hztzr.len]))) _ Tryz.underlying26 rfl (by rw [cpC6_length ztze ztzr hztzr.len]; kernel_rfl)) rfl
    | 14, _ =>
      cases ho
      have e0 : aq.tmps.getD 16 undef = .agg (cpC6 ztze ztzr).toArray := hdep 13 16 rfl (by kernel_rfl)
      refine flow_fun 45 _ _ rfl (fun _ _ => by simp [go_sem]) #[.agg (cpC6 ztze ztzr).toArray] (by rw [show (#[Operand.tmp 16] : Array Operand).map aq.eval = #[aq.tmps.getD 16 undef] from by simp [Act.eval], e0]) ?_
      refine (cpV6_any ztze ztzr hztze hztzr wq).mono ?_
      rintro x w' ⟨v, rfl, hv, q⟩
      exact ⟨v, rfl, hv, q⟩
    | 15, _ =>
      cases ho
      obtain ⟨sb0, sk0, e0, h0_⟩ := hdep 2 5 rfl (by kernel_rfl)
      obtain ⟨sb1, sk1, e1, h1_⟩ := hdep 5 8 rfl (by kernel_rfl)
      obtain ⟨sb2, sk2, e2, h2_⟩ := hdep 8 11 rfl (by kernel_rfl)
      obtain ⟨sb3, sk3, e3, h3_⟩ := hdep 11 14 rfl (by kernel_rfl)
      obtain ⟨sb4, sk4, e4, h4_⟩ := hdep 14 17 rfl (by kernel_rfl)
      refine flow_rowsB 31 33 5 35 _ rfl Tryz.underlying31 valInfo [valL zs (zeros 32) sb0 sk0, valL zi (zeros 32) sb1 sk1, valL 0 zb sb2 sk2, valL 0 (zeros 32) sb3 sk3, valL 0 (zeros 32) sb4 sk4] [.tmp 5, .tmp 8, .tmp 11, .tmp 14, .tmp 17] rfl (by rw [show [Operand.tmp 5, Operand.tmp 8, Operand.tmp 11, Operand.tmp 14, Operand.tmp 17].map aq.eval = [aq.tmps.getD 5 undef, aq.tmps.getD 8 undef, aq.tmps.getD 11 undef, aq.tmps.getD 14 undef, aq.tmps.getD 17 undef] from rfl, e0, e1, e2, e3, e4]; rfl) (by simp [valL_length, zeros32, hzb.len]) rfl (by decide) (by decide) (by decide) (fun w' h hb => ⟨_, rfl, ksAt_of h [(.mk zs (zeros 32) [] [], sb0, sk0), (.mk zi (zeros 32) [] [], sb1, sk1), (.mk 0 zb [] [], sb2, sk2), (cpV6 zcze zczr, sb3, sk3), (cpV6 ztze ztzr, sb4, sk4)] 0 (fun j v hj => by rw [Nat.zero_add]; exact hj) (fun x hx => ?_)⟩)
      simp only [List.mem_cons, List.not_mem_nil, or_false] at hx
      rcases hx with rfl | rfl | rfl | rfl | rfl
      · exact VAt.keep hb _ h0_
      · exact VAt.keep hb _ h1_
      · exact VAt.keep hb _ h2_
      · exact VAt.keep hb _ h3_
      · exact VAt.keep hb _ h4_
    | 16, _ =>
      cases ho
      obtain ⟨b, e6, h6⟩ := hdep 15 18 rfl (by kernel_rfl)
      refine flow_fun 42 _ _ rfl (fun _ _ => by simp [go_sem]) #[.slice (some ⟨b, 0, none⟩) 5 5] (by rw [show (#[Operand.tmp 18] : Array Operand).map aq.eval = #[aq.tmps.getD 18 undef] from by simp [Act.eval], e6]) ?_
      refine (all_any (some ⟨b, 0, none⟩) 5 5 wq).mono ?_
      rintro x w' ⟨rfl, q⟩
      exact ⟨_, rfl, ⟨b, rfl, KsAt.keep q _ h6⟩, q⟩
    | (k + 17), hk => exact absurd hk (by omega)
  · intro o h17 ho
    omega
  intro vf w8 hc hv
  have e7 : ∃ b, vf 16 = _ ∧ KsAt w8 _ b 0 := hv 16 19 (by decide) rfl
  obtain ⟨b, e7, h7⟩ := e7
  have B8 := HB.out.trans ((hcB hc).mono (by omega))
  have H8v := HY.out.keep (hcB hc)
  have s8 := (hcB hc).size
  clear hv hc
  simp only [List.take_succ_cons, List.take_zero, List.drop_succ_cons, List.drop_zero, putAll, Act.put, List.setIfInBounds_toArray, List.set_cons_succ, List.set_cons_zero]
  rw [e7]
  have HB8 := hid B8
  have HK := hid h7
  clear B8 h7 e7 HB
  go_wp2_with ((with_reducible refine at_list' ?_); first
    | (refine wpList_store_c Tryz.ty33 rfl (.tmp 2) (.tmp 19) rfl (w.heap.size + 1) (valL 0 (zeros 32) nilS (.slice (some ⟨b, 0, none⟩) 5 5)) rfl rfl rfl (valL_oneC _ _ _ _ trivial trivial) _ H8v rfl ?_; intro w9 H9 O9))
  refine bodyPost_ret (results_c1 Tryz.ty33 rfl _ w9 (w.heap.size + 1) _ rfl H9 rfl) rfl ⟨_, rfl, ⟨nilS, _, rfl, ?_⟩, below_only HB8.out O9 (by omega)⟩
  exact VAt.aside H8v rfl O9 (vtV6 zs zi zb zcze zczr ztze ztzr) (vtV6_wide zs zi zb zcze zczr ztze ztzr) (isV_all (ks := [.mk zs (zeros 32) [] [], .mk zi (zeros 32) [] [], .mk 0 zb [] [], cpV6 zcze zczr, cpV6 ztze ztzr]) rfl (by decide) HK.out)
end Go.Proofs.YtoajeencniomoaaGreat

/- The document's value of a struct (Attestation). -/
namespace Go.Proofs.YtoajeencniomoaaGreat
open Go.RowKit Go.Shelf
set_option linter.unusedVariables false
set_option linter.unusedSimpArgs false
set_option maxRecDepth 100000

def atP6 (zbo : Option Addr) (zbc : Nat) (zbl : List Bool) (zdzs : Nat) (zdzi : Nat) (zdzb : List Nat) (zdzcze : Nat) (zdzczr : List Nat) (zdztze : Nat) (zdztzr : List Nat) (zsg : List Nat) : List (List Value) := [[.slice zbo zbl.length zbc], vtC6 zdzs zdzi zdzb zdzcze zdzczr zdztze zdztzr, cellsB zsg]
def atC6 (zbo : Option Addr) (zbc : Nat) (zbl : List Bool) (zdzs : Nat) (zdzi : Nat) (zdzb : List Nat) (zdzcze : Nat) (zdzczr : List Nat) (zdztze : Nat) (zdztzr : List Nat) (zsg : List Nat) : List Value := (atP6 zbo zbc zbl zdzs zdzi zdzb zdzcze zdzczr zdztze zdztzr zsg).flatten
theorem atC6_length (zbo : Option Addr) (zbc : Nat) (zbl : List Bool) (zdzs : Nat) (zdzi : Nat) (zdzb : List Nat) (zdzcze : Nat) (zdzczr : List Nat) (zdztze : Nat) (zdztzr : List Nat) (zsg : List Nat) (hzdzb : zdzb.length = 32) (hzdzczr : zdzczr.length = 32) (hzdztzr : zdztzr.length = 32) (hzsg : zsg.length = 32) : (atC6 zbo zbc zbl zdzs zdzi zdzb zdzcze zdzczr zdztze zdztzr zsg).length = 133 := by simp [atC6, atP6, cellsB_length, hzdzb, hzdzczr, hzdztzr, hzsg, vtC6_length zdzs zdzi zdzb zdzcze zdzczr zdztze zdztzr hzdzb hzdzczr hzdztzr]
def atV6 (zbo : Option Addr) (zbc : Nat) (zbl : List Bool) (zdzs : Nat) (zdzi : Nat) (zdzb : List Nat) (zdzcze : Nat) (zdzczr : List Nat) (zdztze : Nat) (zdztzr : List Nat) (zsg : List Nat) : Vt := .mk 0 (zeros 32) [] [.mk 0 (zeros 32) zbl [], vtV6 zdzs zdzi zdzb zdzcze zdzczr zdztze zdztzr, .mk 0 zsg [] []]
theorem atV6_wide (zbo : Option Addr) (zbc : Nat) (zbl : List Bool) (zdzs : Nat) (zdzi : Nat) (zdzb : List Nat) (zdzcze : Nat) (zdzczr : List Nat) (zdztze : Nat) (zdztzr : List Nat) (zsg : List Nat) : wide (atV6 zbo zbc zbl zdzs zdzi zdzb zdzcze zdzczr zdztze zdztzr zsg) := by simp [atV6, wide, wideK, vtV6_wide]
set_option maxHeartbeats 2000000 in
theorem atV6_any (zbo : Option Addr) (zbc : Nat) (zbl : List Bool) (zdzs : Nat) (zdzi : Nat) (zdzb : List Nat) (zdzcze : Nat) (zdzczr : List Nat) (zdztze : Nat) (zdztzr : List Nat) (zsg : List Nat) (hzdzs : zdzs < 18446744073709551616) (hzdzi : zdzi < 18446744073709551616) (hzdzb : Rt6 zdzb) (hzdzcze : zdzcze < 18446744073709551616) (hzdzczr : Rt6 zdzczr) (hzdztze : zdztze < 18446744073709551616) (hzdztzr : Rt6 zdztzr) (hzsg : Rt6 zsg) (w : World) (hzb : IsT w (.slice zbo zbl.length zbc) zbl) (hzbn : zbl.length ≤ 500) : Calls Tryz.prog 17 #[.agg (atC6 zbo zbc zbl zdzs zdzi zdzb zdzcze zdzczr zdztze zdztzr zsg).toArray] w fun x w' => ∃ v, x = .returned v ∧ IsV w' v (atV6 zbo zbc zbl zdzs zdzi zdzb zdzcze zdzczr zdztze zdztzr zsg) ∧ Below w.heap.size w w' := by
  go_enter Tryz.func17, Tryz.ntmps17
  go_wp2_with ((with_reducible refine at_list' ?_); first
    | (refine wpList_box_c rfl 1 rfl (.tmp 0) rfl (atC6 zbo zbc zbl zdzs zdzi zdzb zdzcze zdzczr zdztze zdztzr zsg) rfl ?_; intro w1 H1 B1 S1)
    | (refine wpList_alloc_c Tryz.ty33 rfl 2 rfl rfl ?_; intro w2 H2 B2 S2; rw [S1] at H2 S2; rw [S1]))
  have HX := hid (H1.keep B2)
  have HY := hid H2
  have HB := hid (B1.trans (B2.mono (by omega)))
  have s2 : w2.heap.size = w.heap.size + 2 := by omega
  clear H1 B1 S1 H2 B2 S2
  try simp only [Act.put, List.setIfInBounds_toArray, List.set_cons_succ, List.set_cons_zero]
  refine wp_region_flow 11 11 (fun i v wq => match i with
    | 0 => v = .pointer (some ⟨w.heap.size, 0, none⟩)
    | 1 => v = .slice zbo zbl.length zbc
    | 2 => IsV wq v (.mk 0 (zeros 32) zbl [])
    | 3 => v = .pointer (some ⟨w.heap.size, 1, none⟩)
    | 4 => v = .agg (vtC6 zdzs zdzi zdzb zdzcze zdzczr zdztze zdztzr).toArray
    | 5 => IsV wq v (vtV6 zdzs zdzi zdzb zdzcze zdzczr zdztze zdztzr)
    | 6 => v = .pointer (some ⟨w.heap.size, 101, none⟩)
    | 7 => v = .agg (nums .u8 zsg)
    | 8 => IsV wq v (.mk 0 zsg [] [])
    | 9 => ∃ b, v = .slice (some ⟨b, 0, none⟩) 3 3 ∧ KsAt wq [.mk 0 (zeros 32) zbl [], vtV6 zdzs zdzi zdzb zdzcze zdzczr zdztze zdztzr, .mk 0 zsg [] []] b 0
    | _ => ∃ b, v = .agg (valL 0 (zeros 32) nilS (.slice (some ⟨b, 0, none⟩) 3 3)).toArray ∧ KsAt wq [.mk 0 (zeros 32) zbl [], vtV6 zdzs zdzi zdzb zdzcze zdzczr zdztze zdztzr, .mk 0 zsg [] []] b 0) (by kernel_rfl) (by kernel_rfl) (fun _ d _ _ _ h => by cases d <;> exact h) ?_ ?_ ?_ ?_
  · intro i v wq wq' hi hv hb
    match i, hi with
    | 0, _ => exact hv
    | 1, _ => exact hv
    | 2, _ => exact hv.keep hb
    | 3, _ => exact hv
    | 4, _ => exact hv
    | 5, _ => exact hv.keep hb
    | 6, _ => exact hv
    | 7, _ => exact hv
    | 8, _ => exact hv.keep hb
    | 9, _ => obtain ⟨b, h1, h2⟩ := hv; exact ⟨b, h1, KsAt.keep hb _ h2⟩
    | 10, _ => obtain ⟨b, h1, h2⟩ := hv; exact ⟨b, h1, KsAt.keep hb _ h2⟩
    | (k + 11), hk => exact absurd hk (by omega)
  · intro i o hi ho aq wq hc hk hdep
    match i, hi with
    | 0, _ =>
      cases ho
      have e1 : aq.tmps.getD 1 undef = .pointer (some ⟨w.heap.size, 0, none⟩) := hk 1 (by decide)
      exact flow_value _ (run_fieldAt 46 (.tmp 1) 0 rfl _ _ e1 (by kernel_rfl)) rfl
    | 1, _ =>
      cases ho
      have e0 : aq.tmps.getD 3 undef = .pointer (some ⟨w.heap.size, 0, none⟩) := hdep 0 3 rfl (by kernel_rfl)
      exact flow_value _ (run_cell 30 (.tmp 3) rfl _ e0 _ ((HX.out.keep (hcB hc)).cell (seg (ps := atP6 zbo zbc zbl zdzs zdzi zdzb zdzcze zdzczr zdztze zdztzr zsg) (i := 0) (off := 0) rfl (by simp [atP6, cellsB_length, hzdzb.len, hzdzczr.len, hzdztzr.len, hzsg.len, vtC6_length zdzs zdzi zdzb zdzcze zdzczr zdztze zdztzr hzdzb.len hzdzczr.len hzdztzr.len]) 0 _ rfl)) _ Tryz.underlying30 rfl) rfl
    | 2, _ =>
      cases ho
      have e0 : aq.tmps.getD 4 undef = .slice zbo zbl.length zbc := hdep 1 4 rfl (by kernel_rfl)
      exact flow_value _ (run_buildOp 33 _ rfl #[(2, .slice zbo zbl.length zbc)] (by rw [show (#[(2, Operand.tmp 4)] : Array (Nat × Operand)).map (fun p => (p.1, aq.eval p.2)) = #[(2, aq.tmps.getD 4 undef)] from by simp [Act.eval], e0]) _ (build_bits zbo zbl.length zbc _)) (IsV.bits (hzb.keep (HB.out.trans ((hcB hc).mono HB.out.size))))
    | 3, _ =>
      cases ho
      have e1 : aq.tmps.getD 1 undef = .pointer (some ⟨w.heap.size, 0, none⟩) := hk 1 (by decide)
      exact flow_value _ (run_fieldAt 46 (.tmp 1) 1 rfl _ _ e1 (by kernel_rfl)) rfl
    | 4, _ =>
      cases ho
      have e0 : aq.tmps.getD 6 undef = .pointer (some ⟨w.heap.size, 1, none⟩) := hdep 3 6 rfl (by kernel_rfl)
      exact flow_value _ (run_mid 28 (.tmp 6) rfl w.heap.size 1 e0 (vtC6 zdzs zdzi zdzb zdzcze zdzczr zdztze zdztzr) ((HX.out.keep (hcB hc)).range 1 (vtC6 zdzs zdzi zdzb zdzcze zdzczr zdztze zdztzr) (seg (ps := atP6 zbo zbc zbl zdzs zdzi zdzb zdzcze zdzczr zdztze zdztzr zsg) (i := 1) (off := 1) rfl (by simp [atP6, cellsB_length, hzdzb.len, hzdzczr.len, hzdztzr.len, hzsg.len, vtC6_length zdzs zdzi zdzb zdzcze zdzczr zdztze zdztzr hzdzb.len hzdzczr.len hzdztzr.len]))) _ Tryz.underlying28 rfl (by rw [vtC6_length zdzs zdzi zdzb zdzcze zdzczr zdztze zdztzr hzdzb.len hzdzczr.len hzdztzr.len]; kernel_rfl)) rfl
    | 5, _ =>
      cases ho
      have e0 : aq.tmps.getD 7 undef = .agg (vtC6 zdzs zdzi zdzb zdzcze zdzczr zdztze zdztzr).toArray := hdep 4 7 rfl (by kernel_rfl)
      refine flow_fun 10 _ _ rfl (fun _ _ => by simp [go_sem]) #[.agg (vtC6 zdzs zdzi zdzb zdzcze zdzczr zdztze zdztzr).toArray] (by rw [show (#[Operand.tmp 7] : Array Operand).map aq.eval = #[aq.tmps.getD 7 undef] from by simp [Act.eval], e0]) ?_
      refine (vtV6_any zdzs zdzi zdzb zdzcze zdzczr zdztze zdztzr hzdzs hzdzi hzdzb hzdzcze hzdzczr hzdztze hzdztzr wq).mono ?_
      rintro x w' ⟨v, rfl, hv, q⟩
      exact ⟨v, rfl, hv, q⟩
    | 6, _ =>
      cases ho
      have e1 : aq.tmps.getD 1 undef = .pointer (some ⟨w.heap.size, 0, none⟩) := hk 1 (by decide)
      exact flow_value _ (run_fieldAt 46 (.tmp 1) 2 rfl _ _ e1 (by kernel_rfl)) rfl
    | 7, _ =>
      cases ho
      have e0 : aq.tmps.getD 9 undef = .pointer (some ⟨w.heap.size, 101, none⟩) := hdep 6 9 rfl (by kernel_rfl)
      exact flow_value _ (run_mid 24 (.tmp 9) rfl w.heap.size 101 e0 (cellsB zsg) ((HX.out.keep (hcB hc)).range 101 (cellsB zsg) (seg (ps := atP6 zbo zbc zbl zdzs zdzi zdzb zdzcze zdzczr zdztze zdztzr zsg) (i := 2) (off := 101) rfl (by simp [atP6, cellsB_length, hzdzb.len, hzdzczr.len, hzdztzr.len, hzsg.len, vtC6_length zdzs zdzi zdzb zdzcze zdzczr zdztze zdztzr hzdzb.len hzdzczr.len hzdztzr.len]))) _ Tryz.und24 rfl (by rw [cellsB_length, hzsg.len]; exact Tryz.size24)) rfl
    | 8, _ =>
      cases ho
      have e0 : aq.tmps.getD 10 undef = .agg (nums .u8 zsg) := hdep 7 10 rfl (by kernel_rfl)
      refine flow_fun 44 _ _ rfl (fun _ _ => by simp [go_sem]) #[.agg (nums .u8 zsg)] (by rw [show (#[Operand.tmp 10] : Array Operand).map aq.eval = #[aq.tmps.getD 10 undef] from by simp [Act.eval], e0]) ?_
      refine (r_any zsg hzsg.len wq).mono ?_
      rintro x w' ⟨rfl, q⟩
      exact ⟨_, rfl, IsV.leaf w' (by decide) hzsg.len hzsg.byte, q⟩
    | 9, _ =>
      cases ho
      obtain ⟨sb0, sk0, e0, h0_⟩ := hdep 2 5 rfl (by kernel_rfl)
      obtain ⟨sb1, sk1, e1, h1_⟩ := hdep 5 8 rfl (by kernel_rfl)
      obtain ⟨sb2, sk2, e2, h2_⟩ := hdep 8 11 rfl (by kernel_rfl)
      refine flow_rowsB 31 33 3 35 _ rfl Tryz.underlying31 valInfo [valL 0 (zeros 32) sb0 sk0, valL 0 (zeros 32) sb1 sk1, valL 0 zsg sb2 sk2] [.tmp 5, .tmp 8, .tmp 11] rfl (by rw [show [Operand.tmp 5, Operand.tmp 8, Operand.tmp 11].map aq.eval = [aq.tmps.getD 5 undef, aq.tmps.getD 8 undef, aq.tmps.getD 11 undef] from rfl, e0, e1, e2]; rfl) (by simp [valL_length, zeros32, hzsg.len]) rfl (by decide) (by decide) (by decide) (fun w' h hb => ⟨_, rfl, ksAt_of h [(.mk 0 (zeros 32) zbl [], sb0, sk0), (vtV6 zdzs zdzi zdzb zdzcze zdzczr zdztze zdztzr, sb1, sk1), (.mk 0 zsg [] [], sb2, sk2)] 0 (fun j v hj => by rw [Nat.zero_add]; exact hj) (fun x hx => ?_)⟩)
      simp only [List.mem_cons, List.not_mem_nil, or_false] at hx
      rcases hx with rfl | rfl | rfl
      · exact VAt.keep hb _ h0_
      · exact VAt.keep hb _ h1_
      · exact VAt.keep hb _ h2_
    | 10, _ =>
      cases ho
      obtain ⟨b, e6, h6⟩ := hdep 9 12 rfl (by kernel_rfl)
      refine flow_fun 42 _ _ rfl (fun _ _ => by simp [go_sem]) #[.slice (some ⟨b, 0, none⟩) 3 3] (by rw [show (#[Operand.tmp 12] : Array Operand).map aq.eval = #[aq.tmps.getD 12 undef] from by simp [Act.eval], e6]) ?_
      refine (all_any (some ⟨b, 0, none⟩) 3 3 wq).mono ?_
      rintro x w' ⟨rfl, q⟩
      exact ⟨_, rfl, ⟨b, rfl, KsAt.keep q _ h6⟩, q⟩
    | (k + 11), hk => exact absurd hk (by omega)
  · intro o h11 ho
    omega
  intro vf w8 hc hv
  have e7 : ∃ b, vf 10 = _ ∧ KsAt w8 _ b 0 := hv 10 13 (by decide) rfl
  obtain ⟨b, e7, h7⟩ := e7
  have B8 := HB.out.trans ((hcB hc).mono (by omega))
  have H8v := HY.out.keep (hcB hc)
  have s8 := (hcB hc).size
  clear hv hc
  simp only [List.take_succ_cons, List.take_zero, List.drop_succ_cons, List.drop_zero, putAll, Act.put, List.setIfInBounds_toArray, List.set_cons_succ, List.set_cons_zero]
  rw [e7]
  have HB8 := hid B8
  have HK := hid h7
  clear B8 h7 e7 HB
  go_wp2_with ((with_reducible refine at_list' ?_); first
    | (refine wpList_store_c Tryz.ty33 rfl (.tmp 2) (.tmp 13) rfl (w.heap.size + 1) (valL 0 (zeros 32) nilS (.slice (some ⟨b, 0, none⟩) 3 3)) rfl rfl rfl (valL_oneC _ _ _ _ trivial trivial) _ H8v rfl ?_; intro w9 H9 O9))
  refine bodyPost_ret (results_c1 Tryz.ty33 rfl _ w9 (w.heap.size + 1) _ rfl H9 rfl) rfl ⟨_, rfl, ⟨nilS, _, rfl, ?_⟩, below_only HB8.out O9 (by omega)⟩
  exact VAt.aside H8v rfl O9 (atV6 zbo zbc zbl zdzs zdzi zdzb zdzcze zdzczr zdztze zdztzr zsg) (atV6_wide zbo zbc zbl zdzs zdzi zdzb zdzcze zdzczr zdztze zdztzr zsg) (isV_all (ks := [.mk 0 (zeros 32) zbl [], vtV6 zdzs zdzi zdzb zdzcze zdzczr zdztze zdztzr, .mk 0 zsg [] []]) rfl (by decide) HK.out)
end Go.Proofs.YtoajeencniomoaaGreat

/- The document's kind of bits, few of them. -/
namespace Go.Proofs.YtoajeencniomoaaGreat
open Go.RowKit
set_option linter.unusedVariables false
set_option maxRecDepth 100000

def dBits : Dt := .mk 7 32 []
theorem dAt_leaf2 {w : World} {p f n : Nat} (h : w.heap[p]? = some (.cells #[.int .i64 (f : Nat), .int .i64 (n : Nat), .slice none 0 0] 116 (0, 0))) : DAt w (.mk f n []) p := by
  rw [DAt]
  exact ⟨cell_of_row w p 0 _ _ (0, 0) h, cell_of_row w p 1 _ _ (0, 0) h, none, 0, cell_of_row w p 2 _ _ (0, 0) h, by simp, by simp, .inl rfl⟩
end Go.Proofs.YtoajeencniomoaaGreat

/- The document's kind of a Vote. -/
namespace Go.Proofs.YtoajeencniomoaaGreat
open Go.RowKit
set_option linter.unusedVariables false
set_option maxRecDepth 100000

set_option maxHeartbeats 2000000 in
theorem dvt_any (w : World) : Calls Tryz.prog 14 #[] w fun x w' => ∃ p, x = .returned (.pointer (some ⟨p, 0, none⟩)) ∧ DAt w' (dBox [dNum, dNum, dRoot, dBox [dNum, dRoot], dBox [dNum, dRoot]]) p ∧ Below w.heap.size w w' := by
  have HB0 := hid (Below.refl w.heap.size w)
  go_enter Tryz.func14, Tryz.ntmps14
  go_wp2_with fail
  refine (num_any' w).mono ?_
  rintro e w1 ⟨rfl, q1, q2⟩
  have HD0_0 := hid q1
  have HB1 := hid (HB0.out.trans (q2.mono HB0.out.size))
  clear q1 q2 HB0
  go_wp2_with fail
  refine (num_any' w1).mono ?_
  rintro e w2 ⟨rfl, q1, q2⟩
  have HD0_1 := hid (DAt.keep q2 _ HD0_0.out)
  have HD1_1 := hid q1
  have HB2 := hid (HB1.out.trans (q2.mono HB1.out.size))
  clear q1 q2 HB1 HD0_0
  go_wp2_with fail
  refine (root_any' w2).mono ?_
  rintro e w3 ⟨rfl, q1, q2⟩
  have HD0_2 := hid (DAt.keep q2 _ HD0_1.out)
  have HD1_2 := hid (DAt.keep q2 _ HD1_1.out)
  have HD2_2 := hid q1
  have HB3 := hid (HB2.out.trans (q2.mono HB2.out.size))
  clear q1 q2 HB2 HD0_1 HD1_1
  go_wp2_with fail
  refine (dcp_any w3).mono ?_
  rintro e w4 ⟨p3, rfl, q1, q2⟩
  have HD0_3 := hid (DAt.keep q2 _ HD0_2.out)
  have HD1_3 := hid (DAt.keep q2 _ HD1_2.out)
  have HD2_3 := hid (DAt.keep q2 _ HD2_2.out)
  have HD3_3 := hid q1
  have HB4 := hid (HB3.out.trans (q2.mono HB3.out.size))
  clear q1 q2 HB3 HD0_2 HD1_2 HD2_2
  go_wp2_with fail
  refine (dcp_any w4).mono ?_
  rintro e w5 ⟨p4, rfl, q1, q2⟩
  have HD0_4 := hid (DAt.keep q2 _ HD0_3.out)
  have HD1_4 := hid (DAt.keep q2 _ HD1_3.out)
  have HD2_4 := hid (DAt.keep q2 _ HD2_3.out)
  have HD3_4 := hid (DAt.keep q2 _ HD3_3.out)
  have HD4_4 := hid q1
  have HB5 := hid (HB4.out.trans (q2.mono HB4.out.size))
  clear q1 q2 HB4 HD0_3 HD1_3 HD2_3 HD3_3
  go_wp2_with fail
  have hB : Below w5.heap.size w5 (w5.alloc (.cells #[.pointer (some ⟨w.heap.size, 0, none⟩), .pointer (some ⟨w1.heap.size, 0, none⟩), .pointer (some ⟨w2.heap.size, 0, none⟩), .pointer (some ⟨p3, 0, none⟩), .pointer (some ⟨p4, 0, none⟩)] 41)) := (Below.refl _ w5).alloc (Nat.le_refl _) _
  have h := heap_alloc_new w5 (.cells #[.pointer (some ⟨w.heap.size, 0, none⟩), .pointer (some ⟨w1.heap.size, 0, none⟩), .pointer (some ⟨w2.heap.size, 0, none⟩), .pointer (some ⟨p3, 0, none⟩), .pointer (some ⟨p4, 0, none⟩)] 41)
  generalize w5.alloc (.cells #[.pointer (some ⟨w.heap.size, 0, none⟩), .pointer (some ⟨w1.heap.size, 0, none⟩), .pointer (some ⟨w2.heap.size, 0, none⟩), .pointer (some ⟨p3, 0, none⟩), .pointer (some ⟨p4, 0, none⟩)] 41) = w6 at hB h ⊢
  have hD : DsAt w6 [dNum, dNum, dRoot, dBox [dNum, dRoot], dBox [dNum, dRoot]] w5.heap.size 0 := by
    simp only [DsAt]
    exact ⟨⟨_, cell_of_row _ _ 0 _ _ (0, 0) h, DAt.keep hB _ HD0_4.out⟩, ⟨_, cell_of_row _ _ 1 _ _ (0, 0) h, DAt.keep hB _ HD1_4.out⟩, ⟨_, cell_of_row _ _ 2 _ _ (0, 0) h, DAt.keep hB _ HD2_4.out⟩, ⟨_, cell_of_row _ _ 3 _ _ (0, 0) h, DAt.keep hB _ HD3_4.out⟩, ⟨_, cell_of_row _ _ 4 _ _ (0, 0) h, DAt.keep hB _ HD4_4.out⟩, trivial⟩
  have HC := hid (box_any w5.heap.size 5 [dNum, dNum, dRoot, dBox [dNum, dRoot], dBox [dNum, dRoot]] w6 rfl (by decide) hD)
  have HBm := hid (HB5.out.trans (hB.mono HB5.out.size))
  clear hB h hD
  refine HC.out.mono ?_
  rintro e wz ⟨rfl, q1, q2⟩
  have X := hid (And.intro q1 q2)
  clear q1 q2 HC
  go_wp2
  go_ret
  exact ⟨_, rfl, X.out.1, HBm.out.trans (X.out.2.mono HBm.out.size)⟩
end Go.Proofs.YtoajeencniomoaaGreat

/- The document's kind of a Attestation. -/
namespace Go.Proofs.YtoajeencniomoaaGreat
open Go.RowKit
set_option linter.unusedVariables false
set_option maxRecDepth 100000

set_option maxHeartbeats 2000000 in
theorem dat_any (w : World) : Calls Tryz.prog 20 #[] w fun x w' => ∃ p, x = .returned (.pointer (some ⟨p, 0, none⟩)) ∧ DAt w' (dBox [dBits, dBox [dNum, dNum, dRoot, dBox [dNum, dRoot], dBox [dNum, dRoot]], dRoot]) p ∧ Below w.heap.size w w' := by
  have HB0 := hid (Below.refl w.heap.size w)
  go_enter Tryz.func20, Tryz.ntmps20
  go_wp2_with fail
  have q1 : DAt (w.alloc (.cells #[.int .i64 7, .int .i64 32, .slice none 0 0] 116)) dBits w.heap.size := dAt_leaf2 (f := 7) (n := 32) (heap_alloc_new w _)
  have q2 : Below w.heap.size w (w.alloc (.cells #[.int .i64 7, .int .i64 32, .slice none 0 0] 116)) := (Below.refl _ w).alloc (Nat.le_refl _) _
  generalize w.alloc (.cells #[.int .i64 7, .int .i64 32, .slice none 0 0] 116) = w1 at q1 q2 ⊢
  have HD0_0 := hid q1
  have HB1 := hid (HB0.out.trans (q2.mono HB0.out.size))
  clear q1 q2 HB0
  go_wp2_with fail
  refine (dvt_any w1).mono ?_
  rintro e w2 ⟨p1, rfl, q1, q2⟩
  have HD0_1 := hid (DAt.keep q2 _ HD0_0.out)
  have HD1_1 := hid q1
  have HB2 := hid (HB1.out.trans (q2.mono HB1.out.size))
  clear q1 q2 HB1 HD0_0
  go_wp2_with fail
  refine (root_any' w2).mono ?_
  rintro e w3 ⟨rfl, q1, q2⟩
  have HD0_2 := hid (DAt.keep q2 _ HD0_1.out)
  have HD1_2 := hid (DAt.keep q2 _ HD1_1.out)
  have HD2_2 := hid q1
  have HB3 := hid (HB2.out.trans (q2.mono HB2.out.size))
  clear q1 q2 HB2 HD0_1 HD1_1
  go_wp2_with fail
  have hB : Below w3.heap.size w3 (w3.alloc (.cells #[.pointer (some ⟨w.heap.size, 0, none⟩), .pointer (some ⟨p1, 0, none⟩), .pointer (some ⟨w2.heap.size, 0, none⟩)] 41)) := (Below.refl _ w3).alloc (Nat.le_refl _) _
  have h := heap_alloc_new w3 (.cells #[.pointer (some ⟨w.heap.size, 0, none⟩), .pointer (some ⟨p1, 0, none⟩), .pointer (some ⟨w2.heap.size, 0, none⟩)] 41)
  generalize w3.alloc (.cells #[.pointer (some ⟨w.heap.size, 0, none⟩), .pointer (some ⟨p1, 0, none⟩), .pointer (some ⟨w2.heap.size, 0, none⟩)] 41) = w4 at hB h ⊢
  have hD : DsAt w4 [dBits, dBox [dNum, dNum, dRoot, dBox [dNum, dRoot], dBox [dNum, dRoot]], dRoot] w3.heap.size 0 := by
    simp only [DsAt]
    exact ⟨⟨_, cell_of_row _ _ 0 _ _ (0, 0) h, DAt.keep hB _ HD0_2.out⟩, ⟨_, cell_of_row _ _ 1 _ _ (0, 0) h, DAt.keep hB _ HD1_2.out⟩, ⟨_, cell_of_row _ _ 2 _ _ (0, 0) h, DAt.keep hB _ HD2_2.out⟩, trivial⟩
  have HC := hid (box_any w3.heap.size 3 [dBits, dBox [dNum, dNum, dRoot, dBox [dNum, dRoot], dBox [dNum, dRoot]], dRoot] w4 rfl (by decide) hD)
  have HBm := hid (HB3.out.trans (hB.mono HB3.out.size))
  clear hB h hD
  refine HC.out.mono ?_
  rintro e wz ⟨rfl, q1, q2⟩
  have X := hid (And.intro q1 q2)
  clear q1 q2 HC
  go_wp2
  go_ret
  exact ⟨_, rfl, X.out.1, HBm.out.trans (X.out.2.mono HBm.out.size)⟩
end Go.Proofs.YtoajeencniomoaaGreat

/- Lengths of parts, and numbers as bytes: there and back. -/
namespace Go.Proofs.YtoajeencniomoaaGreat
open Go.RowKit
set_option linter.unusedVariables false
/-- What parts are joined to. -/
def joinB (bss : List (List Nat)) : List Nat := cont (bss.map fun b => (b, true))
def lenB (bss : List (List Nat)) : Nat := (bss.map List.length).sum
theorem lenB_F (bss : List (List Nat)) : lenF (bss.map fun b => (b, true)) = lenB bss := by
  unfold lenF lenB
  rw [List.map_map]; rfl
theorem lenB_take (bss : List (List Nat)) (k : Nat) : lenB (bss.take k) ≤ lenB bss := by
  have := lenF_take (bss.map fun b => (b, true)) k
  rw [← List.map_take, lenB_F, lenB_F] at this
  exact this
theorem lenB_mem {bss : List (List Nat)} {i : Nat} {x : List Nat} (h : bss[i]? = some x) : x.length ≤ lenB bss := by
  have h1 := lenB_take bss (i + 1)
  have hi := (List.getElem?_eq_some_iff.1 h).1
  rw [List.take_succ_eq_append_getElem hi] at h1
  rw [List.getElem?_eq_getElem hi] at h
  cases h
  have e : ∀ (a : List (List Nat)) (b : List Nat), lenB (a ++ [b]) = lenB a + b.length := fun a b => by simp [lenB]
  rw [e] at h1
  omega

theorem le_putL (x k : Nat) : ((le x k).map fun n : Nat => (n : Int)) = putL x k := by
  simp [le, putL, byteAt]
theorem tk_le (x k : Nat) (hk : k ≤ 8) : tk (le x k) = x % 256 ^ k := by
  unfold tk takeV
  rw [le_putL, List.take_of_length_le (by rw [putL_length]; omega), takeL_put]
theorem tk_le4 (x : Nat) (h : x < 4294967296) : tk (le x 4) = x := by
  rw [tk_le x 4 (by decide)]
  exact Nat.mod_eq_of_lt h
theorem lenB_cons (b : List Nat) (r : List (List Nat)) : lenB (b :: r) = b.length + lenB r := by simp [lenB]
theorem lenB_flat (bss : List (List Nat)) : bss.flatten.length = lenB bss := by
  induction bss with
  | nil => rfl
  | cons b r ih => rw [List.flatten_cons, List.length_append, ih, lenB_cons]
theorem back_flat (bss : List (List Nat)) : backB (bss.map fun b => (b, true)) = bss.flatten := by
  induction bss with
  | nil => rfl
  | cons b r ih =>
    rw [List.map_cons, List.flatten_cons, ← ih]
    simp [backB]
theorem front_at (rest : List Nat) : ∀ (bss : List (List Nat)) (p j : Nat), j < bss.length → ((frontB p (bss.map fun b => (b, true)) ++ rest).drop (4 * j)).take 4 = le (p + lenB (bss.take j)) 4
  | [], p, j, h => by simp at h
  | b :: r, p, 0, h => by
    rw [List.map_cons, frontB]
    simp only [if_true, List.append_assoc, Nat.mul_zero, List.drop_zero, List.take_zero]
    rw [List.take_append_of_le_length (by rw [le_length]; exact Nat.le_refl _), List.take_of_length_le (by rw [le_length]; exact Nat.le_refl _)]
    rfl
  | b :: r, p, j + 1, h => by
    rw [List.map_cons, frontB]
    simp only [if_true, List.append_assoc]
    have h4 : (le p 4).length = 4 := le_length _ _
    rw [show 4 * (j + 1) = (le p 4).length + 4 * j by rw [h4]; omega, List.drop_append, List.take_succ_cons, lenB_cons]
    have e : List.drop ((le p 4).length + 4 * j) (le p 4) = [] := List.drop_eq_nil_of_le (by omega)
    rw [e, List.nil_append, show (le p 4).length + 4 * j - (le p 4).length = 4 * j by omega, front_at rest r (p + b.length) j (by simpa using h), Nat.add_assoc]
theorem flat_part : ∀ (bss : List (List Nat)) (i : Nat) (x : List Nat), bss[i]? = some x → (bss.flatten.drop (lenB (bss.take i))).take x.length = x
  | [], i, x, h => by simp at h
  | b :: r, 0, x, h => by
    simp at h
    subst h
    simp [lenB]
  | b :: r, i + 1, x, h => by
    rw [List.take_succ_cons, lenB_cons, List.flatten_cons, List.drop_append, List.drop_eq_nil_of_le (by omega), List.nil_append, show b.length + lenB (r.take i) - b.length = lenB (r.take i) by omega]
    exact flat_part r i x (by simpa using h)
theorem lenB_succ (bss : List (List Nat)) (i : Nat) (x : List Nat) (h : bss[i]? = some x) : lenB (bss.take (i + 1)) = lenB (bss.take i) + x.length := by
  have hi := (List.getElem?_eq_some_iff.1 h).1
  rw [List.getElem?_eq_getElem hi] at h
  cases h
  rw [List.take_succ_eq_append_getElem hi]
  have e : ∀ (a : List (List Nat)) (b : List Nat), lenB (a ++ [b]) = lenB a + b.length := fun a b => by simp [lenB]
  exact e _ _
end Go.Proofs.YtoajeencniomoaaGreat

/- Numbers as eight bytes, there and back. -/
namespace Go.Proofs.YtoajeencniomoaaGreat
open Go.RowKit
set_option maxRecDepth 100000

theorem tk_le8 (n : Nat) (h : n < 18446744073709551616) : tk (le n 8) = n := by
  unfold tk
  rw [le_putL]
  exact takeV_put8 n h
end Go.Proofs.YtoajeencniomoaaGreat

/- An Attestation's bytes, and what is read of them. -/
namespace Go.Proofs.YtoajeencniomoaaGreat
open Go.RowKit
set_option linter.unusedVariables false
set_option linter.unusedSimpArgs false
set_option maxRecDepth 100000

theorem take_lim (l : List Bool) (lim : Nat) (h : l.length ≤ lim) : takeB (putB l true) (lim : Nat) = some l := by
  have h1 := take_put l
  unfold takeB at h1 ⊢
  split at h1
  · cases h1
  · rename_i hn
    simp only [not_or] at hn
    rw [if_neg (by simp only [not_or]; exact ⟨hn.1, hn.2.1, by have := hn.2.2; omega⟩)]
    exact h1
theorem take_more (l : List Bool) (lim : Nat) (h : lim < l.length) : takeB (putB l true) (lim : Nat) = none := by
  have h1 := take_put l
  unfold takeB at h1 ⊢
  split at h1
  · cases h1
  · have h2 := congrArg List.length (Option.some.inj h1)
    have h3 : (bitsL (putB l true) (endB (putB l true))).length = endB (putB l true) := by simp [bitsL]
    rw [if_pos (.inr (.inr (by omega)))]
/-- An Attestation's bytes. -/
def atBS (l : List Bool) (sl : Nat) (ix : Nat) (b : List Nat) (es : Nat) (rs : List Nat) (et : Nat) (rt : List Nat) (sg : List Nat) : List Nat := le 164 4 ++ (le sl 8 ++ (le ix 8 ++ (b ++ (le es 8 ++ (rs ++ (le et 8 ++ (rt ++ (sg ++ (putB l true)))))))))
theorem atB (l : List Bool) (sl : Nat) (ix : Nat) (b : List Nat) (es : Nat) (rs : List Nat) (et : Nat) (rt : List Nat) (sg : List Nat) (hb : b.length = 32) (hrs : rs.length = 32) (hrt : rt.length = 32) (hsg : sg.length = 32) : cont ([(putB l true, true)] ++ (vtF sl ix b es rs et rt ++ rootF [sg])) = atBS l sl ix b es rs et rt sg := by
  have h : szF ([(putB l true, true)] ++ (vtF sl ix b es rs et rt ++ rootF [sg])) = 164 := by simp [szF, sz1, vtF, cpF, numF, rootF, le_length, hb, hrs, hrt, hsg]
  unfold cont
  rw [h]
  simp [atBS, vtF, cpF, numF, rootF, frontB, backB]
theorem atK_ok : okD (dBox [dBits, dBox [dNum, dNum, dRoot, dBox [dNum, dRoot], dBox [dNum, dRoot]], dRoot]) := by simp [okD, okDs, dBox, dNum, dRoot, dBits, small, sizeD, sizeS, sizeH]
theorem atV_enc (ao : Option Addr) (c : Nat) (l : List Bool) (sl : Nat) (ix : Nat) (b : List Nat) (es : Nat) (rs : List Nat) (et : Nat) (rt : List Nat) (sg : List Nat) (hb : b.length = 32) (hrs : rs.length = 32) (hrt : rt.length = 32) (hsg : sg.length = 32) : encV (dBox [dBits, dBox [dNum, dNum, dRoot, dBox [dNum, dRoot], dBox [dNum, dRoot]], dRoot]) (atV6 ao c l sl ix b es rs et rt sg) = atBS l sl ix b es rs et rt sg := by
  simp [dBox, dNum, dRoot, dBits, atV6, vtV6, cpV6, encV, encK, kdsV, sizeD, sizeS, sizeH, cont, szF, sz1, frontB, backB, atBS, le_length, hb, hrs, hrt, hsg]
theorem atV_ok (ao : Option Addr) (c : Nat) (l : List Bool) (sl : Nat) (ix : Nat) (b : List Nat) (es : Nat) (rs : List Nat) (et : Nat) (rt : List Nat) (sg : List Nat) (hl : l.length ≤ 500) (hb : b.length = 32) (hrs : rs.length = 32) (hrt : rt.length = 32) (hsg : sg.length = 32) : okV (dBox [dBits, dBox [dNum, dNum, dRoot, dBox [dNum, dRoot], dBox [dNum, dRoot]], dRoot]) (atV6 ao c l sl ix b es rs et rt sg) := by
  have hp : (putB l true).length ≤ 1000 := by rw [putB_length]; simp; omega
  simp [dBox, dNum, dRoot, dBits, atV6, vtV6, cpV6, okV, okK, encV, encK, kdsV, sizeD, sizeS, sizeH, lenF, cont, szF, sz1, frontB, backB, le_length, hb, hrs, hrt, hsg]
  omega
theorem at_read (l : List Bool) (sl : Nat) (ix : Nat) (b : List Nat) (es : Nat) (rs : List Nat) (et : Nat) (rt : List Nat) (sg : List Nat) (hsl : sl < 18446744073709551616) (hix : ix < 18446744073709551616) (hes : es < 18446744073709551616) (het : et < 18446744073709551616) (hb : b.length = 32) (hrs : rs.length = 32) (hrt : rt.length = 32) (hsg : sg.length = 32) : atG (atBS l sl ix b es rs et rt sg) = true ∧ (atBS l sl ix b es rs et rt sg).drop 164 = putB l true ∧ atV (atBS l sl ix b es rs et rt sg) = vtC sl ix b es rs et rt ∧ atR (atBS l sl ix b es rs et rt sg) = sg := by
  obtain ⟨y, hy, hyl⟩ : ∃ y, le 164 4 = y ∧ y.length = 4 := ⟨_, rfl, le_length _ _⟩
  have ey : tk y = 164 := by rw [← hy]; exact tk_le4 164 (by decide)
  obtain ⟨y0, hy0, hyn0⟩ : ∃ y, le sl 8 = y ∧ y.length = 8 := ⟨_, rfl, le_length _ _⟩
  have e0 : tk y0 = sl := by rw [← hy0]; exact tk_le8 sl hsl
  obtain ⟨y1, hy1, hyn1⟩ : ∃ y, le ix 8 = y ∧ y.length = 8 := ⟨_, rfl, le_length _ _⟩
  have e1 : tk y1 = ix := by rw [← hy1]; exact tk_le8 ix hix
  obtain ⟨y3, hy3, hyn3⟩ : ∃ y, le es 8 = y ∧ y.length = 8 := ⟨_, rfl, le_length _ _⟩
  have e3 : tk y3 = es := by rw [← hy3]; exact tk_le8 es hes
  obtain ⟨y5, hy5, hyn5⟩ : ∃ y, le et 8 = y ∧ y.length = 8 := ⟨_, rfl, le_length _ _⟩
  have e5 : tk y5 = et := by rw [← hy5]; exact tk_le8 et het
  obtain ⟨P, hP⟩ : ∃ P, putB l true = P := ⟨_, rfl⟩
  obtain ⟨BS, hBS⟩ : ∃ B, atBS l sl ix b es rs et rt sg = B := ⟨_, rfl⟩
  have hBe : BS = y ++ (y0 ++ (y1 ++ (b ++ (y3 ++ (rs ++ (y5 ++ (rt ++ (sg ++ (P))))))))) := by rw [← hBS]; unfold atBS; rw [hy, hy0, hy1, hy3, hy5, hP]
  rw [hBS, hP]
  have hl : 164 ≤ BS.length := by rw [hBe]; simp [hyl, hyn0, hyn1, hb, hyn3, hrs, hyn5, hrt, hsg]; omega
  have d0 : BS.drop 0 = y ++ (y0 ++ (y1 ++ (b ++ (y3 ++ (rs ++ (y5 ++ (rt ++ (sg ++ (P))))))))) := by rw [List.drop_zero]; exact hBe
  have d1 : BS.drop 4 = y0 ++ (y1 ++ (b ++ (y3 ++ (rs ++ (y5 ++ (rt ++ (sg ++ (P)))))))) := by rw [show (4 : Nat) = 0 + 4 from rfl, ← List.drop_drop, d0]; exact List.drop_left' hyl
  have d2 : BS.drop 12 = y1 ++ (b ++ (y3 ++ (rs ++ (y5 ++ (rt ++ (sg ++ (P))))))) := by rw [show (12 : Nat) = 4 + 8 from rfl, ← List.drop_drop, d1]; exact List.drop_left' hyn0
  have d3 : BS.drop 20 = b ++ (y3 ++ (rs ++ (y5 ++ (rt ++ (sg ++ (P)))))) := by rw [show (20 : Nat) = 12 + 8 from rfl, ← List.drop_drop, d2]; exact List.drop_left' hyn1
  have d4 : BS.drop 52 = y3 ++ (rs ++ (y5 ++ (rt ++ (sg ++ (P))))) := by rw [show (52 : Nat) = 20 + 32 from rfl, ← List.drop_drop, d3]; exact List.drop_left' hb
  have d5 : BS.drop 60 = rs ++ (y5 ++ (rt ++ (sg ++ (P)))) := by rw [show (60 : Nat) = 52 + 8 from rfl, ← List.drop_drop, d4]; exact List.drop_left' hyn3
  have d6 : BS.drop 92 = y5 ++ (rt ++ (sg ++ (P))) := by rw [show (92 : Nat) = 60 + 32 from rfl, ← List.drop_drop, d5]; exact List.drop_left' hrs
  have d7 : BS.drop 100 = rt ++ (sg ++ (P)) := by rw [show (100 : Nat) = 92 + 8 from rfl, ← List.drop_drop, d6]; exact List.drop_left' hyn5
  have d8 : BS.drop 132 = sg ++ (P) := by rw [show (132 : Nat) = 100 + 32 from rfl, ← List.drop_drop, d7]; exact List.drop_left' hrt
  have d9 : BS.drop 164 = P := by rw [show (164 : Nat) = 132 + 32 from rfl, ← List.drop_drop, d8]; exact List.drop_left' hsg
  have t0 : (BS.drop 0).take 4 = y := by rw [d0]; exact List.take_left' hyl
  have t1 : (BS.drop 4).take 8 = y0 := by rw [d1]; exact List.take_left' hyn0
  have t2 : (BS.drop 12).take 8 = y1 := by rw [d2]; exact List.take_left' hyn1
  have t3 : (BS.drop 20).take 32 = b := by rw [d3]; exact List.take_left' hb
  have t4 : (BS.drop 52).take 8 = y3 := by rw [d4]; exact List.take_left' hyn3
  have t5 : (BS.drop 60).take 32 = rs := by rw [d5]; exact List.take_left' hrs
  have t6 : (BS.drop 92).take 8 = y5 := by rw [d6]; exact List.take_left' hyn5
  have t7 : (BS.drop 100).take 32 = rt := by rw [d7]; exact List.take_left' hrt
  have t8 : (BS.drop 132).take 32 = sg := by rw [d8]; exact List.take_left' hsg
  have hlt : decide (BS.length < 164) = false := by simp; omega
  have hW : partW BS 164 0 [] false = false := by
    unfold partW partP folB
    have h4 : fixB BS 164 0 4 false = y := by unfold fixB fixW; simp; exact t0
    rw [h4, ey]
    rfl
  refine ⟨?_, d9, ?_, ?_⟩
  · unfold atG
    rw [hlt, hW]
    rfl
  · unfold atV
    rw [hlt, hW, show fixT 164 0 4 false = 4 from rfl]
    have t : vtTake BS 164 (4, false) = vtC (tk ((BS.drop 4).take 8)) (tk ((BS.drop 12).take 8)) ((BS.drop 20).take 32) (tk ((BS.drop 52).take 8)) ((BS.drop 60).take 32) (tk ((BS.drop 92).take 8)) ((BS.drop 100).take 32) := rfl
    rw [t, t1, t2, t3, t4, t5, t6, t7, e0, e1, e3, e5]
  · unfold atR
    rw [hlt, hW, show fixT 164 0 4 false = 4 from rfl]
    have t : rootAt BS 164 (vtS 164 (4, false)) = (BS.drop 132).take 32 := rfl
    rw [t, t8]
end Go.Proofs.YtoajeencniomoaaGreat

/- The document's value of a struct (Pending). -/
namespace Go.Proofs.YtoajeencniomoaaGreat
open Go.RowKit Go.Shelf
set_option linter.unusedVariables false
set_option linter.unusedSimpArgs false
set_option maxRecDepth 100000

def pdP6 (zbo : Option Addr) (zbc : Nat) (zbl : List Bool) (zdzs : Nat) (zdzi : Nat) (zdzb : List Nat) (zdzcze : Nat) (zdzczr : List Nat) (zdztze : Nat) (zdztzr : List Nat) (zde : Nat) (zpr : Nat) : List (List Value) := [[.slice zbo zbl.length zbc], vtC6 zdzs zdzi zdzb zdzcze zdzczr zdztze zdztzr, [.int .u64 (zde : Nat)], [.int .u64 (zpr : Nat)]]
def pdC6 (zbo : Option Addr) (zbc : Nat) (zbl : List Bool) (zdzs : Nat) (zdzi : Nat) (zdzb : List Nat) (zdzcze : Nat) (zdzczr : List Nat) (zdztze : Nat) (zdztzr : List Nat) (zde : Nat) (zpr : Nat) : List Value := (pdP6 zbo zbc zbl zdzs zdzi zdzb zdzcze zdzczr zdztze zdztzr zde zpr).flatten
theorem pdC6_length (zbo : Option Addr) (zbc : Nat) (zbl : List Bool) (zdzs : Nat) (zdzi : Nat) (zdzb : List Nat) (zdzcze : Nat) (zdzczr : List Nat) (zdztze : Nat) (zdztzr : List Nat) (zde : Nat) (zpr : Nat) (hzdzb : zdzb.length = 32) (hzdzczr : zdzczr.length = 32) (hzdztzr : zdztzr.length = 32) : (pdC6 zbo zbc zbl zdzs zdzi zdzb zdzcze zdzczr zdztze zdztzr zde zpr).length = 103 := by simp [pdC6, pdP6, cellsB_length, hzdzb, hzdzczr, hzdztzr, vtC6_length zdzs zdzi zdzb zdzcze zdzczr zdztze zdztzr hzdzb hzdzczr hzdztzr]
def pdV6 (zbo : Option Addr) (zbc : Nat) (zbl : List Bool) (zdzs : Nat) (zdzi : Nat) (zdzb : List Nat) (zdzcze : Nat) (zdzczr : List Nat) (zdztze : Nat) (zdztzr : List Nat) (zde : Nat) (zpr : Nat) : Vt := .mk 0 (zeros 32) [] [.mk 0 (zeros 32) zbl [], vtV6 zdzs zdzi zdzb zdzcze zdzczr zdztze zdztzr, .mk zde (zeros 32) [] [], .mk zpr (zeros 32) [] []]
theorem pdV6_wide (zbo : Option Addr) (zbc : Nat) (zbl : List Bool) (zdzs : Nat) (zdzi : Nat) (zdzb : List Nat) (zdzcze : Nat) (zdzczr : List Nat) (zdztze : Nat) (zdztzr : List Nat) (zde : Nat) (zpr : Nat) : wide (pdV6 zbo zbc zbl zdzs zdzi zdzb zdzcze zdzczr zdztze zdztzr zde zpr) := by simp [pdV6, wide, wideK, vtV6_wide]
set_option maxHeartbeats 2000000 in
theorem pdV6_any (zbo : Option Addr) (zbc : Nat) (zbl : List Bool) (zdzs : Nat) (zdzi : Nat) (zdzb : List Nat) (zdzcze : Nat) (zdzczr : List Nat) (zdztze : Nat) (zdztzr : List Nat) (zde : Nat) (zpr : Nat) (hzdzs : zdzs < 18446744073709551616) (hzdzi : zdzi < 18446744073709551616) (hzdzb : Rt6 zdzb) (hzdzcze : zdzcze < 18446744073709551616) (hzdzczr : Rt6 zdzczr) (hzdztze : zdztze < 18446744073709551616) (hzdztzr : Rt6 zdztzr) (hzde : zde < 18446744073709551616) (hzpr : zpr < 18446744073709551616) (w : World) (hzb : IsT w (.slice zbo zbl.length zbc) zbl) (hzbn : zbl.length ≤ 500) : Calls Tryz.prog 21 #[.agg (pdC6 zbo zbc zbl zdzs zdzi zdzb zdzcze zdzczr zdztze zdztzr zde zpr).toArray] w fun x w' => ∃ v, x = .returned v ∧ IsV w' v (pdV6 zbo zbc zbl zdzs zdzi zdzb zdzcze zdzczr zdztze zdztzr zde zpr) ∧ Below w.heap.size w w' := by
  go_enter Tryz.func21, Tryz.ntmps21
  go_wp2_with ((with_reducible refine at_list' ?_); first
    | (refine wpList_box_c rfl 1 rfl (.tmp 0) rfl (pdC6 zbo zbc zbl zdzs zdzi zdzb zdzcze zdzczr zdztze zdztzr zde zpr) rfl ?_; intro w1 H1 B1 S1)
    | (refine wpList_alloc_c Tryz.ty33 rfl 2 rfl rfl ?_; intro w2 H2 B2 S2; rw [S1] at H2 S2; rw [S1]))
  have HX := hid (H1.keep B2)
  have HY := hid H2
  have HB := hid (B1.trans (B2.mono (by omega)))
  have s2 : w2.heap.size = w.heap.size + 2 := by omega
  clear H1 B1 S1 H2 B2 S2
  try simp only [Act.put, List.setIfInBounds_toArray, List.set_cons_succ, List.set_cons_zero]
  refine wp_region_flow 14 14 (fun i v wq => match i with
    | 0 => v = .pointer (some ⟨w.heap.size, 0, none⟩)
    | 1 => v = .slice zbo zbl.length zbc
    | 2 => IsV wq v (.mk 0 (zeros 32) zbl [])
    | 3 => v = .pointer (some ⟨w.heap.size, 1, none⟩)
    | 4 => v = .agg (vtC6 zdzs zdzi zdzb zdzcze zdzczr zdztze zdztzr).toArray
    | 5 => IsV wq v (vtV6 zdzs zdzi zdzb zdzcze zdzczr zdztze zdztzr)
    | 6 => v = .pointer (some ⟨w.heap.size, 101, none⟩)
    | 7 => v = .int .u64 (zde : Nat)
    | 8 => IsV wq v (.mk zde (zeros 32) [] [])
    | 9 => v = .pointer (some ⟨w.heap.size, 102, none⟩)
    | 10 => v = .int .u64 (zpr : Nat)
    | 11 => IsV wq v (.mk zpr (zeros 32) [] [])
    | 12 => ∃ b, v = .slice (some ⟨b, 0, none⟩) 4 4 ∧ KsAt wq [.mk 0 (zeros 32) zbl [], vtV6 zdzs zdzi zdzb zdzcze zdzczr zdztze zdztzr, .mk zde (zeros 32) [] [], .mk zpr (zeros 32) [] []] b 0
    | _ => ∃ b, v = .agg (valL 0 (zeros 32) nilS (.slice (some ⟨b, 0, none⟩) 4 4)).toArray ∧ KsAt wq [.mk 0 (zeros 32) zbl [], vtV6 zdzs zdzi zdzb zdzcze zdzczr zdztze zdztzr, .mk zde (zeros 32) [] [], .mk zpr (zeros 32) [] []] b 0) (by kernel_rfl) (by kernel_rfl) (fun _ d _ _ _ h => by cases d <;> exact h) ?_ ?_ ?_ ?_
  · intro i v wq wq' hi hv hb
    match i, hi with
    | 0, _ => exact hv
    | 1, _ => exact hv
    | 2, _ => exact hv.keep hb
    | 3, _ => exact hv
    | 4, _ => exact hv
    | 5, _ => exact hv.keep hb
    | 6, _ => exact hv
    | 7, _ => exact hv
    | 8, _ => exact hv.keep hb
    | 9, _ => exact hv
    | 10, _ => exact hv
    | 11, _ => exact hv.keep hb
    | 12, _ => obtain ⟨b, h1, h2⟩ := hv; exact ⟨b, h1, KsAt.keep hb _ h2⟩
    | 13, _ => obtain ⟨b, h1, h2⟩ := hv; exact ⟨b, h1, KsAt.keep hb _ h2⟩
    | (k + 14), hk => exact absurd hk (by omega)
  · intro i o hi ho aq wq hc hk hdep
    match i, hi with
    | 0, _ =>
      cases ho
      have e1 : aq.tmps.getD 1 undef = .pointer (some ⟨w.heap.size, 0, none⟩) := hk 1 (by decide)
      exact flow_value _ (run_fieldAt 54 (.tmp 1) 0 rfl _ _ e1 (by kernel_rfl)) rfl
    | 1, _ =>
      cases ho
      have e0 : aq.tmps.getD 3 undef = .pointer (some ⟨w.heap.size, 0, none⟩) := hdep 0 3 rfl (by kernel_rfl)
      exact flow_value _ (run_cell 30 (.tmp 3) rfl _ e0 _ ((HX.out.keep (hcB hc)).cell (seg (ps := pdP6 zbo zbc zbl zdzs zdzi zdzb zdzcze zdzczr zdztze zdztzr zde zpr) (i := 0) (off := 0) rfl (by simp [pdP6, cellsB_length, hzdzb.len, hzdzczr.len, hzdztzr.len, vtC6_length zdzs zdzi zdzb zdzcze zdzczr zdztze zdztzr hzdzb.len hzdzczr.len hzdztzr.len]) 0 _ rfl)) _ Tryz.underlying30 rfl) rfl
    | 2, _ =>
      cases ho
      have e0 : aq.tmps.getD 4 undef = .slice zbo zbl.length zbc := hdep 1 4 rfl (by kernel_rfl)
      exact flow_value _ (run_buildOp 33 _ rfl #[(2, .slice zbo zbl.length zbc)] (by rw [show (#[(2, Operand.tmp 4)] : Array (Nat × Operand)).map (fun p => (p.1, aq.eval p.2)) = #[(2, aq.tmps.getD 4 undef)] from by simp [Act.eval], e0]) _ (build_bits zbo zbl.length zbc _)) (IsV.bits (hzb.keep (HB.out.trans ((hcB hc).mono HB.out.size))))
    | 3, _ =>
      cases ho
      have e1 : aq.tmps.getD 1 undef = .pointer (some ⟨w.heap.size, 0, none⟩) := hk 1 (by decide)
      exact flow_value _ (run_fieldAt 54 (.tmp 1) 1 rfl _ _ e1 (by kernel_rfl)) rfl
    | 4, _ =>
      cases ho
      have e0 : aq.tmps.getD 6 undef = .pointer (some ⟨w.heap.size, 1, none⟩) := hdep 3 6 rfl (by kernel_rfl)
      exact flow_value _ (run_mid 28 (.tmp 6) rfl w.heap.size 1 e0 (vtC6 zdzs zdzi zdzb zdzcze zdzczr zdztze zdztzr) ((HX.out.keep (hcB hc)).range 1 (vtC6 zdzs zdzi zdzb zdzcze zdzczr zdztze zdztzr) (seg (ps := pdP6 zbo zbc zbl zdzs zdzi zdzb zdzcze zdzczr zdztze zdztzr zde zpr) (i := 1) (off := 1) rfl (by simp [pdP6, cellsB_length, hzdzb.len, hzdzczr.len, hzdztzr.len, vtC6_length zdzs zdzi zdzb zdzcze zdzczr zdztze zdztzr hzdzb.len hzdzczr.len hzdztzr.len]))) _ Tryz.underlying28 rfl (by rw [vtC6_length zdzs zdzi zdzb zdzcze zdzczr zdztze zdztzr hzdzb.len hzdzczr.len hzdztzr.len]; kernel_rfl)) rfl
    | 5, _ =>
      cases ho
      have e0 : aq.tmps.getD 7 undef = .agg (vtC6 zdzs zdzi zdzb zdzcze zdzczr zdztze zdztzr).toArray := hdep 4 7 rfl (by kernel_rfl)
      refine flow_fun 10 _ _ rfl (fun _ _ => by simp [go_sem]) #[.agg (vtC6 zdzs zdzi zdzb zdzcze zdzczr zdztze zdztzr).toArray] (by rw [show (#[Operand.tmp 7] : Array Operand).map aq.eval = #[aq.tmps.getD 7 undef] from by simp [Act.eval], e0]) ?_
      refine (vtV6_any zdzs zdzi zdzb zdzcze zdzczr zdztze zdztzr hzdzs hzdzi hzdzb hzdzcze hzdzczr hzdztze hzdztzr wq).mono ?_
      rintro x w' ⟨v, rfl, hv, q⟩
      exact ⟨v, rfl, hv, q⟩
    | 6, _ =>
      cases ho
      have e1 : aq.tmps.getD 1 undef = .pointer (some ⟨w.heap.size, 0, none⟩) := hk 1 (by decide)
      exact flow_value _ (run_fieldAt 54 (.tmp 1) 2 rfl _ _ e1 (by kernel_rfl)) rfl
    | 7, _ =>
      cases ho
      have e0 : aq.tmps.getD 9 undef = .pointer (some ⟨w.heap.size, 101, none⟩) := hdep 6 9 rfl (by kernel_rfl)
      exact flow_value _ (run_cell 22 (.tmp 9) rfl _ e0 _ ((HX.out.keep (hcB hc)).cell (seg (ps := pdP6 zbo zbc zbl zdzs zdzi zdzb zdzcze zdzczr zdztze zdztzr zde zpr) (i := 2) (off := 101) rfl (by simp [pdP6, cellsB_length, hzdzb.len, hzdzczr.len, hzdztzr.len, vtC6_length zdzs zdzi zdzb zdzcze zdzczr zdztze zdztzr hzdzb.len hzdzczr.len hzdztzr.len]) 0 _ rfl)) _ Tryz.underlying22 rfl) rfl
    | 8, _ =>
      cases ho
      have e0 : aq.tmps.getD 10 undef = .int .u64 (zde : Nat) := hdep 7 10 rfl (by kernel_rfl)
      refine flow_fun 43 _ _ rfl (fun _ _ => by simp [go_sem]) #[.int .u64 (zde : Nat)] (by rw [show (#[Operand.tmp 10] : Array Operand).map aq.eval = #[aq.tmps.getD 10 undef] from by simp [Act.eval], e0]) ?_
      refine (n_any zde wq).mono ?_
      rintro x w' ⟨rfl, q⟩
      exact ⟨_, rfl, IsV.leaf w' hzde zeros32 (zeros_byte 32), q⟩
    | 9, _ =>
      cases ho
      have e1 : aq.tmps.getD 1 undef = .pointer (some ⟨w.heap.size, 0, none⟩) := hk 1 (by decide)
      exact flow_value _ (run_fieldAt 54 (.tmp 1) 3 rfl _ _ e1 (by kernel_rfl)) rfl
    | 10, _ =>
      cases ho
      have e0 : aq.tmps.getD 12 undef = .pointer (some ⟨w.heap.size, 102, none⟩) := hdep 9 12 rfl (by kernel_rfl)
      exact flow_value _ (run_cell 22 (.tmp 12) rfl _ e0 _ ((HX.out.keep (hcB hc)).cell (seg (ps := pdP6 zbo zbc zbl zdzs zdzi zdzb zdzcze zdzczr zdztze zdztzr zde zpr) (i := 3) (off := 102) rfl (by simp [pdP6, cellsB_length, hzdzb.len, hzdzczr.len, hzdztzr.len, vtC6_length zdzs zdzi zdzb zdzcze zdzczr zdztze zdztzr hzdzb.len hzdzczr.len hzdztzr.len]) 0 _ rfl)) _ Tryz.underlying22 rfl) rfl
    | 11, _ =>
      cases ho
      have e0 : aq.tmps.getD 13 undef = .int .u64 (zpr : Nat) := hdep 10 13 rfl (by kernel_rfl)
      refine flow_fun 43 _ _ rfl (fun _ _ => by simp [go_sem]) #[.int .u64 (zpr : Nat)] (by rw [show (#[Operand.tmp 13] : Array Operand).map aq.eval = #[aq.tmps.getD 13 undef] from by simp [Act.eval], e0]) ?_
      refine (n_any zpr wq).mono ?_
      rintro x w' ⟨rfl, q⟩
      exact ⟨_, rfl, IsV.leaf w' hzpr zeros32 (zeros_byte 32), q⟩
    | 12, _ =>
      cases ho
      obtain ⟨sb0, sk0, e0, h0_⟩ := hdep 2 5 rfl (by kernel_rfl)
      obtain ⟨sb1, sk1, e1, h1_⟩ := hdep 5 8 rfl (by kernel_rfl)
      obtain ⟨sb2, sk2, e2, h2_⟩ := hdep 8 11 rfl (by kernel_rfl)
      obtain ⟨sb3, sk3, e3, h3_⟩ := hdep 11 14 rfl (by kernel_rfl)
      refine flow_rowsB 31 33 4 35 _ rfl Tryz.underlying31 valInfo [valL 0 (zeros 32) sb0 sk0, valL 0 (zeros 32) sb1 sk1, valL zde (zeros 32) sb2 sk2, valL zpr (zeros 32) sb3 sk3] [.tmp 5, .tmp 8, .tmp 11, .tmp 14] rfl (by rw [show [Operand.tmp 5, Operand.tmp 8, Operand.tmp 11, Operand.tmp 14].map aq.eval = [aq.tmps.getD 5 undef, aq.tmps.getD 8 undef, aq.tmps.getD 11 undef, aq.tmps.getD 14 undef] from rfl, e0, e1, e2, e3]; rfl) (by simp [valL_length, zeros32]) rfl (by decide) (by decide) (by decide) (fun w' h hb => ⟨_, rfl, ksAt_of h [(.mk 0 (zeros 32) zbl [], sb0, sk0), (vtV6 zdzs zdzi zdzb zdzcze zdzczr zdztze zdztzr, sb1, sk1), (.mk zde (zeros 32) [] [], sb2, sk2), (.mk zpr (zeros 32) [] [], sb3, sk3)] 0 (fun j v hj => by rw [Nat.zero_add]; exact hj) (fun x hx => ?_)⟩)
      simp only [List.mem_cons, List.not_mem_nil, or_false] at hx
      rcases hx with rfl | rfl | rfl | rfl
      · exact VAt.keep hb _ h0_
      · exact VAt.keep hb _ h1_
      · exact VAt.keep hb _ h2_
      · exact VAt.keep hb _ h3_
    | 13, _ =>
      cases ho
      obtain ⟨b, e6, h6⟩ := hdep 12 15 rfl (by kernel_rfl)
      refine flow_fun 42 _ _ rfl (fun _ _ => by simp [go_sem]) #[.slice (some ⟨b, 0, none⟩) 4 4] (by rw [show (#[Operand.tmp 15] : Array Operand).map aq.eval = #[aq.tmps.getD 15 undef] from by simp [Act.eval], e6]) ?_
      refine (all_any (some ⟨b, 0, none⟩) 4 4 wq).mono ?_
      rintro x w' ⟨rfl, q⟩
      exact ⟨_, rfl, ⟨b, rfl, KsAt.keep q _ h6⟩, q⟩
    | (k + 14), hk => exact absurd hk (by omega)
  · intro o h14 ho
    omega
  intro vf w8 hc hv
  have e7 : ∃ b, vf 13 = _ ∧ KsAt w8 _ b 0 := hv 13 16 (by decide) rfl
  obtain ⟨b, e7, h7⟩ := e7
  have B8 := HB.out.trans ((hcB hc).mono (by omega))
  have H8v := HY.out.keep (hcB hc)
  have s8 := (hcB hc).size
  clear hv hc
  simp only [List.take_succ_cons, List.take_zero, List.drop_succ_cons, List.drop_zero, putAll, Act.put, List.setIfInBounds_toArray, List.set_cons_succ, List.set_cons_zero]
  rw [e7]
  have HB8 := hid B8
  have HK := hid h7
  clear B8 h7 e7 HB
  go_wp2_with ((with_reducible refine at_list' ?_); first
    | (refine wpList_store_c Tryz.ty33 rfl (.tmp 2) (.tmp 16) rfl (w.heap.size + 1) (valL 0 (zeros 32) nilS (.slice (some ⟨b, 0, none⟩) 4 4)) rfl rfl rfl (valL_oneC _ _ _ _ trivial trivial) _ H8v rfl ?_; intro w9 H9 O9))
  refine bodyPost_ret (results_c1 Tryz.ty33 rfl _ w9 (w.heap.size + 1) _ rfl H9 rfl) rfl ⟨_, rfl, ⟨nilS, _, rfl, ?_⟩, below_only HB8.out O9 (by omega)⟩
  exact VAt.aside H8v rfl O9 (pdV6 zbo zbc zbl zdzs zdzi zdzb zdzcze zdzczr zdztze zdztzr zde zpr) (pdV6_wide zbo zbc zbl zdzs zdzi zdzb zdzcze zdzczr zdztze zdztzr zde zpr) (isV_all (ks := [.mk 0 (zeros 32) zbl [], vtV6 zdzs zdzi zdzb zdzcze zdzczr zdztze zdztzr, .mk zde (zeros 32) [] [], .mk zpr (zeros 32) [] []]) rfl (by decide) HK.out)
end Go.Proofs.YtoajeencniomoaaGreat

/- The document's kind of a Pending. -/
namespace Go.Proofs.YtoajeencniomoaaGreat
open Go.RowKit
set_option linter.unusedVariables false
set_option maxRecDepth 100000

set_option maxHeartbeats 2000000 in
theorem dpd_any (w : World) : Calls Tryz.prog 24 #[] w fun x w' => ∃ p, x = .returned (.pointer (some ⟨p, 0, none⟩)) ∧ DAt w' (dBox [dBits, dBox [dNum, dNum, dRoot, dBox [dNum, dRoot], dBox [dNum, dRoot]], dNum, dNum]) p ∧ Below w.heap.size w w' := by
  have HB0 := hid (Below.refl w.heap.size w)
  go_enter Tryz.func24, Tryz.ntmps24
  go_wp2_with fail
  have q1 : DAt (w.alloc (.cells #[.int .i64 7, .int .i64 32, .slice none 0 0] 116)) dBits w.heap.size := dAt_leaf2 (f := 7) (n := 32) (heap_alloc_new w _)
  have q2 : Below w.heap.size w (w.alloc (.cells #[.int .i64 7, .int .i64 32, .slice none 0 0] 116)) := (Below.refl _ w).alloc (Nat.le_refl _) _
  generalize w.alloc (.cells #[.int .i64 7, .int .i64 32, .slice none 0 0] 116) = w1 at q1 q2 ⊢
  have HD0_0 := hid q1
  have HB1 := hid (HB0.out.trans (q2.mono HB0.out.size))
  clear q1 q2 HB0
  go_wp2_with fail
  refine (dvt_any w1).mono ?_
  rintro e w2 ⟨p1, rfl, q1, q2⟩
  have HD0_1 := hid (DAt.keep q2 _ HD0_0.out)
  have HD1_1 := hid q1
  have HB2 := hid (HB1.out.trans (q2.mono HB1.out.size))
  clear q1 q2 HB1 HD0_0
  go_wp2_with fail
  refine (num_any' w2).mono ?_
  rintro e w3 ⟨rfl, q1, q2⟩
  have HD0_2 := hid (DAt.keep q2 _ HD0_1.out)
  have HD1_2 := hid (DAt.keep q2 _ HD1_1.out)
  have HD2_2 := hid q1
  have HB3 := hid (HB2.out.trans (q2.mono HB2.out.size))
  clear q1 q2 HB2 HD0_1 HD1_1
  go_wp2_with fail
  refine (num_any' w3).mono ?_
  rintro e w4 ⟨rfl, q1, q2⟩
  have HD0_3 := hid (DAt.keep q2 _ HD0_2.out)
  have HD1_3 := hid (DAt.keep q2 _ HD1_2.out)
  have HD2_3 := hid (DAt.keep q2 _ HD2_2.out)
  have HD3_3 := hid q1
  have HB4 := hid (HB3.out.trans (q2.mono HB3.out.size))
  clear q1 q2 HB3 HD0_2 HD1_2 HD2_2
  go_wp2_with fail
  have hB : Below w4.heap.size w4 (w4.alloc (.cells #[.pointer (some ⟨w.heap.size, 0, none⟩), .pointer (some ⟨p1, 0, none⟩), .pointer (some ⟨w2.heap.size, 0, none⟩), .pointer (some ⟨w3.heap.size, 0, none⟩)] 41)) := (Below.refl _ w4).alloc (Nat.le_refl _) _
  have h := heap_alloc_new w4 (.cells #[.pointer (some ⟨w.heap.size, 0, none⟩), .pointer (some ⟨p1, 0, none⟩), .pointer (some ⟨w2.heap.size, 0, none⟩), .pointer (some ⟨w3.heap.size, 0, none⟩)] 41)
  generalize w4.alloc (.cells #[.pointer (some ⟨w.heap.size, 0, none⟩), .pointer (some ⟨p1, 0, none⟩), .pointer (some ⟨w2.heap.size, 0, none⟩), .pointer (some ⟨w3.heap.size, 0, none⟩)] 41) = w5 at hB h ⊢
  have hD : DsAt w5 [dBits, dBox [dNum, dNum, dRoot, dBox [dNum, dRoot], dBox [dNum, dRoot]], dNum, dNum] w4.heap.size 0 := by
    simp only [DsAt]
    exact ⟨⟨_, cell_of_row _ _ 0 _ _ (0, 0) h, DAt.keep hB _ HD0_3.out⟩, ⟨_, cell_of_row _ _ 1 _ _ (0, 0) h, DAt.keep hB _ HD1_3.out⟩, ⟨_, cell_of_row _ _ 2 _ _ (0, 0) h, DAt.keep hB _ HD2_3.out⟩, ⟨_, cell_of_row _ _ 3 _ _ (0, 0) h, DAt.keep hB _ HD3_3.out⟩, trivial⟩
  have HC := hid (box_any w4.heap.size 4 [dBits, dBox [dNum, dNum, dRoot, dBox [dNum, dRoot], dBox [dNum, dRoot]], dNum, dNum] w5 rfl (by decide) hD)
  have HBm := hid (HB4.out.trans (hB.mono HB4.out.size))
  clear hB h hD
  refine HC.out.mono ?_
  rintro e wz ⟨rfl, q1, q2⟩
  have X := hid (And.intro q1 q2)
  clear q1 q2 HC
  go_wp2
  go_ret
  exact ⟨_, rfl, X.out.1, HBm.out.trans (X.out.2.mono HBm.out.size)⟩
end Go.Proofs.YtoajeencniomoaaGreat

/- A Pending's bytes, and what is read of them. -/
namespace Go.Proofs.YtoajeencniomoaaGreat
open Go.RowKit
set_option linter.unusedVariables false
set_option linter.unusedSimpArgs false
set_option maxRecDepth 100000

/-- A Pending's bytes. -/
def pdBS (l : List Bool) (sl : Nat) (ix : Nat) (b : List Nat) (es : Nat) (rs : List Nat) (et : Nat) (rt : List Nat) (de : Nat) (pr : Nat) : List Nat := le 148 4 ++ (le sl 8 ++ (le ix 8 ++ (b ++ (le es 8 ++ (rs ++ (le et 8 ++ (rt ++ (le de 8 ++ (le pr 8 ++ (putB l true))))))))))
theorem pdB (l : List Bool) (sl : Nat) (ix : Nat) (b : List Nat) (es : Nat) (rs : List Nat) (et : Nat) (rt : List Nat) (de : Nat) (pr : Nat) (hb : b.length = 32) (hrs : rs.length = 32) (hrt : rt.length = 32) : cont ([(putB l true, true)] ++ (vtF sl ix b es rs et rt ++ numF [de, pr])) = pdBS l sl ix b es rs et rt de pr := by
  have h : szF ([(putB l true, true)] ++ (vtF sl ix b es rs et rt ++ numF [de, pr])) = 148 := by simp [szF, sz1, vtF, cpF, numF, rootF, le_length, hb, hrs, hrt]
  unfold cont
  rw [h]
  simp [pdBS, vtF, cpF, numF, rootF, frontB, backB]
theorem pdK_ok : okD (dBox [dBits, dBox [dNum, dNum, dRoot, dBox [dNum, dRoot], dBox [dNum, dRoot]], dNum, dNum]) := by simp [okD, okDs, dBox, dNum, dRoot, dBits, small, sizeD, sizeS, sizeH]
theorem pdV_enc (ao : Option Addr) (c : Nat) (l : List Bool) (sl : Nat) (ix : Nat) (b : List Nat) (es : Nat) (rs : List Nat) (et : Nat) (rt : List Nat) (de : Nat) (pr : Nat) (hb : b.length = 32) (hrs : rs.length = 32) (hrt : rt.length = 32) : encV (dBox [dBits, dBox [dNum, dNum, dRoot, dBox [dNum, dRoot], dBox [dNum, dRoot]], dNum, dNum]) (pdV6 ao c l sl ix b es rs et rt de pr) = pdBS l sl ix b es rs et rt de pr := by
  simp [dBox, dNum, dRoot, dBits, pdV6, vtV6, cpV6, encV, encK, kdsV, sizeD, sizeS, sizeH, cont, szF, sz1, frontB, backB, pdBS, le_length, hb, hrs, hrt]
theorem pdV_ok (ao : Option Addr) (c : Nat) (l : List Bool) (sl : Nat) (ix : Nat) (b : List Nat) (es : Nat) (rs : List Nat) (et : Nat) (rt : List Nat) (de : Nat) (pr : Nat) (hl : l.length ≤ 500) (hb : b.length = 32) (hrs : rs.length = 32) (hrt : rt.length = 32) : okV (dBox [dBits, dBox [dNum, dNum, dRoot, dBox [dNum, dRoot], dBox [dNum, dRoot]], dNum, dNum]) (pdV6 ao c l sl ix b es rs et rt de pr) := by
  have hp : (putB l true).length ≤ 1000 := by rw [putB_length]; simp; omega
  simp [dBox, dNum, dRoot, dBits, pdV6, vtV6, cpV6, okV, okK, encV, encK, kdsV, sizeD, sizeS, sizeH, lenF, cont, szF, sz1, frontB, backB, le_length, hb, hrs, hrt]
  omega
theorem pd_read (l : List Bool) (sl : Nat) (ix : Nat) (b : List Nat) (es : Nat) (rs : List Nat) (et : Nat) (rt : List Nat) (de : Nat) (pr : Nat) (hsl : sl < 18446744073709551616) (hix : ix < 18446744073709551616) (hes : es < 18446744073709551616) (het : et < 18446744073709551616) (hde : de < 18446744073709551616) (hpr : pr < 18446744073709551616) (hb : b.length = 32) (hrs : rs.length = 32) (hrt : rt.length = 32) : pdG (pdBS l sl ix b es rs et rt de pr) = true ∧ (pdBS l sl ix b es rs et rt de pr).drop 148 = putB l true ∧ pdV (pdBS l sl ix b es rs et rt de pr) = vtC sl ix b es rs et rt ∧ pdX (pdBS l sl ix b es rs et rt de pr) = de ∧ pdY (pdBS l sl ix b es rs et rt de pr) = pr := by
  obtain ⟨y, hy, hyl⟩ : ∃ y, le 148 4 = y ∧ y.length = 4 := ⟨_, rfl, le_length _ _⟩
  have ey : tk y = 148 := by rw [← hy]; exact tk_le4 148 (by decide)
  obtain ⟨y0, hy0, hyn0⟩ : ∃ y, le sl 8 = y ∧ y.length = 8 := ⟨_, rfl, le_length _ _⟩
  have e0 : tk y0 = sl := by rw [← hy0]; exact tk_le8 sl hsl
  obtain ⟨y1, hy1, hyn1⟩ : ∃ y, le ix 8 = y ∧ y.length = 8 := ⟨_, rfl, le_length _ _⟩
  have e1 : tk y1 = ix := by rw [← hy1]; exact tk_le8 ix hix
  obtain ⟨y3, hy3, hyn3⟩ : ∃ y, le es 8 = y ∧ y.length = 8 := ⟨_, rfl, le_length _ _⟩
  have e3 : tk y3 = es := by rw [← hy3]; exact tk_le8 es hes
  obtain ⟨y5, hy5, hyn5⟩ : ∃ y, le et 8 = y ∧ y.length = 8 := ⟨_, rfl, le_length _ _⟩
  have e5 : tk y5 = et := by rw [← hy5]; exact tk_le8 et het
  obtain ⟨y7, hy7, hyn7⟩ : ∃ y, le de 8 = y ∧ y.length = 8 := ⟨_, rfl, le_length _ _⟩
  have e7 : tk y7 = de := by rw [← hy7]; exact tk_le8 de hde
  obtain ⟨y8, hy8, hyn8⟩ : ∃ y, le pr 8 = y ∧ y.length = 8 := ⟨_, rfl, le_length _ _⟩
  have e8 : tk y8 = pr := by rw [← hy8]; exact tk_le8 pr hpr
  obtain ⟨P, hP⟩ : ∃ P, putB l true = P := ⟨_, rfl⟩
  obtain ⟨BS, hBS⟩ : ∃ B, pdBS l sl ix b es rs et rt de pr = B := ⟨_, rfl⟩
  have hBe : BS = y ++ (y0 ++ (y1 ++ (b ++ (y3 ++ (rs ++ (y5 ++ (rt ++ (y7 ++ (y8 ++ (P)))))))))) := by rw [← hBS]; unfold pdBS; rw [hy, hy0, hy1, hy3, hy5, hy7, hy8, hP]
  rw [hBS, hP]
  have hl : 148 ≤ BS.length := by rw [hBe]; simp [hyl, hyn0, hyn1, hb, hyn3, hrs, hyn5, hrt, hyn7, hyn8]; omega
  have d0 : BS.drop 0 = y ++ (y0 ++ (y1 ++ (b ++ (y3 ++ (rs ++ (y5 ++ (rt ++ (y7 ++ (y8 ++ (P)))))))))) := by rw [List.drop_zero]; exact hBe
  have d1 : BS.drop 4 = y0 ++ (y1 ++ (b ++ (y3 ++ (rs ++ (y5 ++ (rt ++ (y7 ++ (y8 ++ (P))))))))) := by rw [show (4 : Nat) = 0 + 4 from rfl, ← List.drop_drop, d0]; exact List.drop_left' hyl
  have d2 : BS.drop 12 = y1 ++ (b ++ (y3 ++ (rs ++ (y5 ++ (rt ++ (y7 ++ (y8 ++ (P)))))))) := by rw [show (12 : Nat) = 4 + 8 from rfl, ← List.drop_drop, d1]; exact List.drop_left' hyn0
  have d3 : BS.drop 20 = b ++ (y3 ++ (rs ++ (y5 ++ (rt ++ (y7 ++ (y8 ++ (P))))))) := by rw [show (20 : Nat) = 12 + 8 from rfl, ← List.drop_drop, d2]; exact List.drop_left' hyn1
  have d4 : BS.drop 52 = y3 ++ (rs ++ (y5 ++ (rt ++ (y7 ++ (y8 ++ (P)))))) := by rw [show (52 : Nat) = 20 + 32 from rfl, ← List.drop_drop, d3]; exact List.drop_left' hb
  have d5 : BS.drop 60 = rs ++ (y5 ++ (rt ++ (y7 ++ (y8 ++ (P))))) := by rw [show (60 : Nat) = 52 + 8 from rfl, ← List.drop_drop, d4]; exact List.drop_left' hyn3
  have d6 : BS.drop 92 = y5 ++ (rt ++ (y7 ++ (y8 ++ (P)))) := by rw [show (92 : Nat) = 60 + 32 from rfl, ← List.drop_drop, d5]; exact List.drop_left' hrs
  have d7 : BS.drop 100 = rt ++ (y7 ++ (y8 ++ (P))) := by rw [show (100 : Nat) = 92 + 8 from rfl, ← List.drop_drop, d6]; exact List.drop_left' hyn5
  have d8 : BS.drop 132 = y7 ++ (y8 ++ (P)) := by rw [show (132 : Nat) = 100 + 32 from rfl, ← List.drop_drop, d7]; exact List.drop_left' hrt
  have d9 : BS.drop 140 = y8 ++ (P) := by rw [show (140 : Nat) = 132 + 8 from rfl, ← List.drop_drop, d8]; exact List.drop_left' hyn7
  have d10 : BS.drop 148 = P := by rw [show (148 : Nat) = 140 + 8 from rfl, ← List.drop_drop, d9]; exact List.drop_left' hyn8
  have t0 : (BS.drop 0).take 4 = y := by rw [d0]; exact List.take_left' hyl
  have t1 : (BS.drop 4).take 8 = y0 := by rw [d1]; exact List.take_left' hyn0
  have t2 : (BS.drop 12).take 8 = y1 := by rw [d2]; exact List.take_left' hyn1
  have t3 : (BS.drop 20).take 32 = b := by rw [d3]; exact List.take_left' hb
  have t4 : (BS.drop 52).take 8 = y3 := by rw [d4]; exact List.take_left' hyn3
  have t5 : (BS.drop 60).take 32 = rs := by rw [d5]; exact List.take_left' hrs
  have t6 : (BS.drop 92).take 8 = y5 := by rw [d6]; exact List.take_left' hyn5
  have t7 : (BS.drop 100).take 32 = rt := by rw [d7]; exact List.take_left' hrt
  have t8 : (BS.drop 132).take 8 = y7 := by rw [d8]; exact List.take_left' hyn7
  have t9 : (BS.drop 140).take 8 = y8 := by rw [d9]; exact List.take_left' hyn8
  have hlt : decide (BS.length < 148) = false := by simp; omega
  have hW : partW BS 148 0 [] false = false := by
    unfold partW partP folB
    have h4 : fixB BS 148 0 4 false = y := by unfold fixB fixW; simp; exact t0
    rw [h4, ey]
    rfl
  refine ⟨?_, d10, ?_, ?_, ?_⟩
  · unfold pdG
    rw [hlt, hW]
    rfl
  · unfold pdV
    rw [hlt, hW, show fixT 148 0 4 false = 4 from rfl]
    have t : vtTake BS 148 (4, false) = vtC (tk ((BS.drop 4).take 8)) (tk ((BS.drop 12).take 8)) ((BS.drop 20).take 32) (tk ((BS.drop 52).take 8)) ((BS.drop 60).take 32) (tk ((BS.drop 92).take 8)) ((BS.drop 100).take 32) := rfl
    rw [t, t1, t2, t3, t4, t5, t6, t7, e0, e1, e3, e5]
  · unfold pdX
    rw [hlt, hW, show fixT 148 0 4 false = 4 from rfl]
    have t : numAt BS 148 (vtS 148 (4, false)) = tk ((BS.drop 132).take 8) := rfl
    rw [t, t8, e7]
  · unfold pdY
    rw [hlt, hW, show fixT 148 0 4 false = 4 from rfl]
    have t : numAt BS 148 (fixS 148 8 (vtS 148 (4, false))) = tk ((BS.drop 140).take 8) := rfl
    rw [t, t9, e8]
end Go.Proofs.YtoajeencniomoaaGreat

