/- Attestations taken: ToAttestation. -/
import Derived.Test.YtpaamhmighgjeaaGreatAnsA
import Derived.Test.YtpaamhmighgjeaaGreatParts
import Derived.Test.YtpaamhmighgjeaaGreatTakeB
namespace Go.Proofs.YtpaamhmighgjeaaGreat
open Go.RowKit Go.Shelf
set_option linter.unusedVariables false
set_option maxRecDepth 100000

theorem atC_length {sb : Value} {V : List Value} {sig : List Nat} (hV : V.length = 100) (hs : sig.length = 32) : (atC sb V sig).length = 133 := by simp [atC, cellsB_length, hV, hs]
theorem atBuild (V : List Value) (sig : List Nat) (hV : V.length = 100) (hs : sig.length = 32) (w : World) : (Instr.build 58 #[(1, .agg V.toArray), (2, .agg (nums .u8 sig))]).run Tryz.prog w = .ok (.agg (atC (.slice none 0 0) V sig).toArray) w := by
  have ho : outC #[(1, Value.agg V.toArray), (2, Value.agg (nums .u8 sig))].toList = V ++ (cellsB sig ++ []) := rfl
  have hl : (V ++ (cellsB sig ++ [])).length = 132 := by simp [cellsB_length, hV, hs]
  have h := build_from Tryz.ty58 _ Tryz.underlying58 #[(0, 1), (1, 100), (101, 32)] (fun w => by kernel_rfl) #[(1, .agg V.toArray), (2, .agg (nums .u8 sig))] 1
    (by
      have e1 : (Value.agg V.toArray).cells.size = 100 := hV
      have e2 : (Value.agg (nums .u8 sig)).cells.size = 32 := (nums_size _ _).trans hs
      refine ⟨?_, ?_, trivial⟩ <;> (try rw [e2]) <;> rw [e1] <;> rfl) (by rw [ho, hl]; decide) w
  rw [ho, hl] at h
  have ht : at0.take 1 = [.slice none 0 0] := rfl
  have hd : at0.drop (1 + 132) = [] := by kernel_rfl
  rw [ht, hd, List.append_nil] at h
  exact h
/-- The Reader's state behind an Attestation's fields. -/
def atS (bs : List Nat) : Rs := fixS 164 32 (vtS 164 (fixT 164 0 4 (decide (bs.length < 164)), partW bs 164 0 [] (decide (bs.length < 164))))
def atP (bs : List Nat) : List Nat := partS bs 164 0 [] (decide (bs.length < 164))
def atV (bs : List Nat) : List Value := vtTake bs 164 (fixT 164 0 4 (decide (bs.length < 164)), partW bs 164 0 [] (decide (bs.length < 164)))
def atR (bs : List Nat) : List Nat := rootAt bs 164 (vtS 164 (fixT 164 0 4 (decide (bs.length < 164)), partW bs 164 0 [] (decide (bs.length < 164))))
def atG (bs : List Nat) : Bool := !partW bs 164 0 [] (decide (bs.length < 164))
theorem vtTake_one (bs : List Nat) (size : Nat) (s : Rs) : (vtTake bs size s).toArray.all (·.oneCell') = true := vtC_one _ _ _ _ _ _ _
theorem atC_one {sb : Value} {V : List Value} {sig : List Nat} (hb : sb.oneCell' = true) (hV : V.toArray.all (·.oneCell') = true) : (atC sb V sig).toArray.all (·.oneCell') = true := by
  simp only [List.all_toArray, List.all_eq_true] at hV ⊢
  intro v hv
  unfold atC at hv
  simp only [List.mem_append, List.mem_cons, List.not_mem_nil, or_false] at hv
  rcases hv with rfl | hv | hv
  · exact hb
  · exact hV v hv
  · exact cellsB_one sig v hv
theorem atBad {bs : List Nat} (h : atG bs = false) : (atS bs).2 = true := by
  have h' : partW bs 164 0 [] (decide (bs.length < 164)) = true := by simpa [atG] using h
  unfold atS
  rw [h']
  simp [fixS, vtS, cpS, cpW, fixW]
theorem atGood {bs : List Nat} (h : atG bs = true) : atS bs = (164, false) ∧ atP bs = [164] ∧ 164 ≤ bs.length := by
  have h' : partW bs 164 0 [] (decide (bs.length < 164)) = false := by simpa [atG] using h
  have h2 := h'
  unfold partW at h2
  rw [Bool.or_eq_false_iff] at h2
  have hw : decide (bs.length < 164) = false := by
    have := h2.1
    unfold fixW at this
    rw [Bool.or_eq_false_iff] at this
    exact this.1
  have hp : partP bs 164 0 (decide (bs.length < 164)) = 164 := by
    have := h2.2
    simpa [folB] using this
  refine ⟨?_, ?_, by simpa using hw⟩
  · unfold atS
    rw [h', hw]
    decide
  · unfold atP partS
    rw [h', hp]
    rfl
theorem isBs_one {w : World} {u : Value} (bs : List Nat) (p : Nat) (h : IsBs w u (cutL bs [p])) : ∃ b o c v, u = .slice (some ⟨b, o, none⟩) 1 c ∧ w.cell? ⟨b, o, none⟩ = some v ∧ IsB w v (bs.drop p) := by
  have e : cutL bs [p] = [bs.drop p] := by
    simp [cutL, toI]
    exact List.take_of_length_le (by rw [List.length_drop]; exact Nat.le_refl _)
  rw [e] at h
  obtain ⟨ao, cap, rfl, h1, h2, h3, h4⟩ := h
  rcases h4 with h4 | ⟨b, off, rfl, hc⟩
  · simp at h4
  · obtain ⟨v, hv, hI⟩ := hc 0 _ rfl
    exact ⟨b, off, cap, v, rfl, hv, hI⟩
theorem HasC.setCell {w : World} {g : Nat} {t : TypeId} {cs : List Value} (h : HasC w g t cs) (j : Nat) (v : Value) : HasC (w.setCell ⟨g, j, none⟩ v) g t (cs.set j v) := by
  unfold HasC at *
  simp [World.setCell, Array.getElem?_modify, h]
theorem atA_false (C : List Value) : atA false C = .tuple #[.agg at0.toArray, .int .i64 3] := rfl
theorem atA_true (C : List Value) : atA true C = .tuple #[.agg C.toArray, .int .i64 0] := rfl

set_option maxHeartbeats 2000000 in
theorem toAt_bad (v : Value) (bs : List Nat) (w : World) (hB : IsB w v bs) (hl : bs.length ≤ 100000000000) (hbad : atG bs = false ∨ takeB (bs.drop 164) 32 = none) :
    Calls Tryz.prog 18 #[v] w fun x w' => x = .returned (atA false []) ∧ Below w.heap.size w w' := by
  have HBAD := hid hbad
  clear hbad
  have HI := hid hB
  obtain ⟨⟨ao, cap, rfl, _⟩, _⟩ := hB
  go_enter Tryz.func18, Tryz.ntmps18
  go_wp2_with ((with_reducible refine at_list' ?_); first
    | (refine wpList_alloc_c Tryz.ty58 rfl 2 rfl rfl ?_; intro w1 H1 B1 S1))
  have HC := hid (read_any _ bs 164 w1 (HI.out.keep B1) (by decide) (by omega))
  have HH1 := hid H1
  have HB1 := hid B1
  have s1 := S1
  clear H1 B1 S1 HI
  refine HC.out.mono ?_
  rintro e w2 ⟨g, S, hg, rfl, q1, q2, q3⟩
  have HP := hid (rpart_any w2 q1 (by decide) (by omega) (by simp))
  have HH2 := hid (HH1.out.keep q3)
  have HB2 := hid (HB1.out.trans (q3.mono (by omega)))
  have s2 := q3.size
  have hgl := q1.gt
  clear q1 q2 q3 HC HH1 HB1
  go_wp2_with fail
  refine HP.out.mono ?_
  rintro e w3 ⟨⟨u3, rfl⟩, q1, q2⟩
  have HT := hid (takeVt_any w3 q1 (by decide) (by omega))
  have HH3 := hid (HH2.out.grown q2 (by omega))
  have s3 := q2.size
  have HB3 : Hid (Below w.heap.size w w3) := hid ⟨q2.os.trans HB2.out.os, q2.tape.trans HB2.out.tape, q2.output.trans HB2.out.output, by omega, fun j hj => (q2.block j (by omega) (fun h => by have := Option.some.inj h; omega)).trans (HB2.out.block j hj)⟩
  clear q1 q2 HP HH2 HB2
  go_wp2_with fail
  refine HT.out.mono ?_
  rintro e w4 ⟨rfl, hV, q1, q2⟩
  have HR := hid (rroot_any w4 q1 (by decide) (by omega))
  have hr : (atR bs).length = 32 := fixB_length q1.ts q1.ok
  have HH4 := hid (HH3.out.grown q2 (by omega))
  have s4 := q2.size
  have HB4 : Hid (Below w.heap.size w w4) := hid ⟨q2.os.trans HB3.out.os, q2.tape.trans HB3.out.tape, q2.output.trans HB3.out.output, by omega, fun j hj => (q2.block j (by omega) (fun h => by have := Option.some.inj h; omega)).trans (HB3.out.block j hj)⟩
  have HV : Hid ((atV bs).length = 100) := hid hV
  have HRl := hid hr
  clear q1 q2 HT HH3 HB3 hV hr
  go_wp2_with fail
  refine HR.out.mono ?_
  rintro e w5 ⟨rfl, q1, q2⟩
  have HH5 := hid (HH4.out.grown q2 (by omega))
  have s5 := q2.size
  have HB5 : Hid (Below w.heap.size w w5) := hid ⟨q2.os.trans HB4.out.os, q2.tape.trans HB4.out.tape, q2.output.trans HB4.out.output, by omega, fun j hj => (q2.block j (by omega) (fun h => by have := Option.some.inj h; omega)).trans (HB4.out.block j hj)⟩
  have HRd : Hid (Rd w5 g (more S w2 w3) bs 164 (atS bs).1 (atP bs) (atS bs).2) := hid q1
  have HBd := hid (atBuild (atV bs) (atR bs) HV.out HRl.out w5)
  have HL := hid (atC_length (sb := .slice none 0 0) HV.out HRl.out)
  have HO : Hid ((atC (.slice none 0 0) (atV bs) (atR bs)).toArray.all (·.oneCell') = true) := hid (atC_one rfl (vtTake_one _ _ _))
  clear q1 q2 HR HH4 HB4
  go_wp2_with ((with_reducible refine at_list' ?_); first
    | (refine wpList_build_c rfl _ rfl #[(1, .agg (atV bs).toArray), (2, .agg (nums .u8 (atR bs)))] (by simp only [Act.eval, List.map_toArray, List.map_cons, List.map_nil]; rfl) _ HBd.out ?_)
    | (refine wpList_alloc_c Tryz.ty58 rfl 5 rfl rfl ?_; intro w6 H6 B6 S6)
    | (refine wpList_store_c Tryz.ty58 rfl (.tmp 5) (.tmp 18) rfl w5.heap.size (atC (.slice none 0 0) (atV bs) (atR bs)) rfl rfl (by rw [HL.out]; rfl) HO.out _ H6 rfl ?_; intro w7 H7 O7))
  have s7 := O7.size
  have B57 : Below w5.heap.size w5 w7 := below_only B6 O7 (Nat.le_refl _)
  have HR7 := hid (HRd.out.below B57)
  have HB7 := hid (HB5.out.trans (B57.mono (by omega)))
  have HH7 := hid (HH5.out.keep B57)
  have HX7 := hid H7
  clear H6 B6 O7 H7 B57 HRd HB5 HH5 HBd
  cases hG : atG bs with
  | false =>
    have HG := hid hG
    have HPb := hid (parts_bad w7 HR7.out (.inl (atBad hG)) (by decide) (by omega) (by unfold atP partS; split <;> simp))
    clear HR7
    refine HPb.out.mono ?_
    rintro e w8 ⟨rfl, nn, hw8⟩
    have B8 : Below w7.heap.size w7 w8 := by rw [hw8]; exact below_drew0 (Below.refl _ _) nn
    have HB8 := hid (HB7.out.trans (B8.mono (by omega)))
    have HH8 := hid (HH7.out.keep B8)
    have HX8 := hid (HX7.out.keep B8)
    have s8 := B8.size
    clear B8 hw8 HPb HB7 HH7 HX7 hG
    go_wp2_with ((with_reducible refine at_list' ?_); first
      | (refine wpList_load_c Tryz.ty58 rfl (.tmp 5) rfl w5.heap.size (atC (.slice none 0 0) (atV bs) (atR bs)) rfl (by rw [HL.out]; rfl) HX8.out ?_))
    have HN := hid (answerAt_any (atC (.slice none 0 0) (atV bs) (atR bs)) false w8 HL.out HO.out)
    rw [atA_false] at HN
    refine HN.out.mono ?_
    rintro e w9 ⟨rfl, B9⟩
    have HB9 := hid (HB8.out.trans (B9.mono (by omega)))
    have HH9 := hid (HH8.out.keep B9)
    clear B9 HN HB8 HH8 HX8
    go_wp2_with ((with_reducible refine at_list' ?_); first
      | (refine wpList_store_c Tryz.ty58 rfl (.tmp 2) (.tmp 28) rfl w.heap.size at0 rfl rfl rfl at0_one _ HH9.out rfl ?_; intro wa Ha Oa))
    exact bodyPost_ret (results_c Tryz.ty58 rfl _ wa w.heap.size at0 (.int .i64 3) rfl rfl Ha rfl) rfl ⟨rfl, below_only HB9.out Oa (Nat.le_refl _)⟩
  | true =>
    have HG := hid hG
    obtain ⟨eS, eP, e164⟩ := atGood hG
    have hR : Rd w7 g (more S w2 w3) bs 164 164 [164] false := by have := HR7.out; rw [eS, eP] at this; exact this
    have HPo := hid (parts_ok w7 hR (fun e => by cases e) (fun i hi => by
      have : i = 0 := by simpa using hi
      subst this
      simp only [toI]
      simp
      exact e164) (by decide) (by omega) (by simp))
    clear hR HR7 eS eP hG
    refine HPo.out.mono ?_
    rintro e w8 ⟨u, rfl, q1, B8⟩
    obtain ⟨b0, o0, c0, v0, rfl, hcell, hI0⟩ := isBs_one bs 164 q1
    obtain ⟨D, hD⟩ : ∃ D, bs.drop 164 = D := ⟨_, rfl⟩
    have hDl : D.length ≤ 100000000000 := by rw [← hD, List.length_drop]; omega
    rw [hD] at hI0
    have HD := hid hD
    clear hD
    have HB8 := hid (HB7.out.trans (B8.mono (by omega)))
    have HH8 := hid (HH7.out.keep B8)
    have HX8 := hid (HX7.out.keep B8)
    have s8 := B8.size
    have hI0' := hI0
    obtain ⟨⟨a0, p0, rfl, _⟩, _⟩ := hI0'
    have HTk := hid (takeBits_any _ _ 32 w8 hI0 hDl (by omega))
    clear q1 B8 HPo HB7 HH7 HX7 hI0
    go_wp2_with fail
    refine HTk.out.mono ?_
    rintro e w9 ⟨⟨l, u9, e1, rfl, e3⟩ | ⟨e1, rfl⟩, B9⟩
    · exfalso
      rcases HBAD.out with hb | hb
      · rw [HG.out] at hb; cases hb
      · rw [HD.out, e1] at hb; cases hb
    · have HB9 := hid (HB8.out.trans (B9.mono (by omega)))
      have HH9 := hid (HH8.out.keep B9)
      have HX9 := HX8.out.keep B9
      have hx0 := HX9.cell (j := 0) (v := .slice none 0 0) rfl
      have hfz : w9.frozen? ⟨w5.heap.size, 0, none⟩ = false := frozen_of_row w9 w5.heap.size 0 _ _ HX9
      have s9 := B9.size
      clear B9 HTk HB8 HH8 HX8 e1
      have HXs := hid (HX9.setCell 0 (.slice none 0 0))
      have HXO := hid (Only.setCell w9 w5.heap.size 0 (.slice none 0 0))
      go_wp2_with ((with_reducible refine at_list' ?_); first
        | (refine wpList_load_c Tryz.ty58 rfl (.tmp 5) rfl w5.heap.size (atC (.slice none 0 0) (atV bs) (atR bs)) rfl (by rw [HL.out]; rfl) (by exact HXs.out) ?_))
      have HN := hid (answerAt_any (atC (.slice none 0 0) (atV bs) (atR bs)) false (w9.setCell ⟨w5.heap.size, 0, none⟩ (.slice none 0 0)) HL.out HO.out)
      rw [atA_false] at HN
      have HHs := hid (HH9.out.only HXO.out (by omega))
      have HBs := hid (below_only HB9.out HXO.out (by omega))
      have ss := HXO.out.size
      clear HX9 hx0 hfz
      refine HN.out.mono ?_
      rintro e wa ⟨rfl, Ba⟩
      have HBa := hid (HBs.out.trans (Ba.mono (by omega)))
      have HHa := hid (HHs.out.keep Ba)
      clear Ba HN
      go_wp2_with ((with_reducible refine at_list' ?_); first
        | (refine wpList_store_c Tryz.ty58 rfl (.tmp 2) (.tmp 43) rfl w.heap.size at0 rfl rfl rfl at0_one _ HHa.out rfl ?_; intro wb Hb Ob))
      exact bodyPost_ret (results_c Tryz.ty58 rfl _ wb w.heap.size at0 (.int .i64 3) rfl rfl Hb rfl) rfl ⟨rfl, below_only HBa.out Ob (Nat.le_refl _)⟩
end Go.Proofs.YtpaamhmighgjeaaGreat
