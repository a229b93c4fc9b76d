/- Own texts of the proof, joined: Lw5Checkpoint Dec5 LenB Cp5 Open5. -/
import Derived.Test.YtlpemcjjaijgcaaH2
import Derived.ProofKit
import Derived.OpenShut
import Derived.ShutString
import Derived.ChangeOld
import Derived.Deep.Slices
import Derived.SevenTiedAt
import Derived.Stop.Joined
/- The walk of CodecCheckpoints, over contracts. -/
namespace Go.Proofs.Ytlpemcjjaijgcaa
open Go.RowKit
set_option linter.unusedVariables false
set_option linter.unusedSimpArgs false
set_option maxRecDepth 100000

theorem rneqs {o : Oper} {a : Act} {w : World} {s : ByteArray} (x y : Operand) (ho : o.op = .binOp .neq 9 x y 9) (hx : a.eval x = .string s) (hy : a.eval y = .string s) : (execOp a.eval o).run Try.prog w = .ok (.value (.bool false)) w := by
  unfold execOp
  simp only [ho, hx, hy]
  simp [go_sem, toList_beq]
theorem valL_oneV {w : World} {x : Vt} {sb sk : Value} (h : VAt w x sb sk) : (valL x.num x.root sb sk).toArray.all (·.oneCell') = true ∧ (valL x.num x.root sb sk).length = 35 := by
  cases x
  rename_i n r bs ks
  rw [VAt] at h
  obtain ⟨⟨_, hr, _⟩, hT, ao, cap, rfl, _⟩ := h
  exact ⟨valL_oneC _ _ _ _ hT.sl trivial, valL_length _ _ _ _ hr⟩
set_option maxHeartbeats 8000000 in
theorem codecCheckpoint_walk (C zs : List Value) (X : Vt) (BS : List Nat) (D : Dt) (w : World) (hT : Ty Try.prog 26 zs) (hl : C.length = zs.length) (h1 : C.toArray.all (·.oneCell') = true) (hb8 : ∀ z ∈ BS, z < 256)
    (href : ∀ wq, Calls Try.prog 5 #[.agg C.toArray] wq fun x w' => ∃ v, x = .returned v ∧ IsV w' v X ∧ Below wq.heap.size wq w')
    (henc : ∀ wq, Calls Try.prog 6 #[.agg C.toArray] wq fun x w' => ∃ v, x = .returned v ∧ Row w' wq.heap.size v BS ∧ Below wq.heap.size wq w')
    (hdec : ∀ v wq, IsB wq v BS → Calls Try.prog 7 #[v] wq fun x w' => x = .returned (.tuple #[.agg C.toArray, .int .i64 0]) ∧ Below wq.heap.size wq w')
    (hkd : ∀ wq, Calls Try.prog 9 #[] wq fun x w' => ∃ p, x = .returned (.pointer (some ⟨p, 0, none⟩)) ∧ DAt w' D p ∧ Below wq.heap.size wq w')
    (henv : ∀ p u wq, DAt wq D p → IsV wq u X → Calls Try.prog 8 #[.pointer (some ⟨p, 0, none⟩), u] wq fun x w' => ∃ v, x = .returned v ∧ Row w' wq.heap.size v BS ∧ Below wq.heap.size wq w')
    (hsm : ∀ u v wq, IsV wq u X → IsV wq v X → Calls Try.prog 10 #[u, v] wq fun x w' => x = .returned (.bool true) ∧ Below wq.heap.size wq w') :
    Calls Try.prog 3 #[.agg C.toArray] w fun e w' => e = .returned (.bool true) ∧ Below w.heap.size w w' := by
  have HT := hid hT
  have HL := hid hl
  have H1C := hid h1
  have HB8 := hid hb8
  have HREF := hid href
  have HENC := hid henc
  have HDEC := hid hdec
  have HKD := hid hkd
  have HENV := hid henv
  have HSM := hid hsm
  clear hT hl h1 hb8 href henc hdec hkd henv hsm
  go_enter Try.func3, Try.ntmps3
  go_wp2_with (refine wpList_box_c rfl 1 rfl (.tmp 0) rfl C rfl ?_; intro w1 H1 B1 S1)
  refine (awake_any w1).mono ?_
  rintro x w2 ⟨rfl, B2⟩
  have X2 := H1.keep B2
  have T2 := below_more B1 B2 (Nat.le_refl _)
  clear H1 B1 B2 S1
  go_wp2_with ((with_reducible refine at_list' ?_); (refine wpList_load_c HT.out rfl (.tmp 1) rfl w.heap.size C rfl HL.out X2 ?_))
  refine (HREF.out w2).mono ?_
  rintro x w3 ⟨v3, rfl, q1, q2⟩
  obtain ⟨sb, sk, rfl, hV⟩ := q1
  obtain ⟨hone, hlen⟩ := valL_oneV hV
  obtain ⟨cs, hcs⟩ : ∃ cs, Same (valL X.num X.root sb sk) cs := ⟨_, ⟨rfl⟩⟩
  have hIV : ∀ wq, Below w3.heap.size w3 wq → IsV wq (.agg cs.toArray) X := fun wq hq => ⟨sb, sk, by rw [hcs.out], hV.keep hq⟩
  rw [hcs.out] at hone hlen ⊢
  have HIV := hid hIV
  have HONE := hid hone
  have HCL := hid hlen
  have X3 := X2.keep q2
  have T3 := below_more T2 q2 (Nat.le_refl _)
  have tyV : Ty Try.prog 31 (valL 0 (zeros 32) nilS nilS) := ⟨zeroVal, _, Try.underlying31, rfl⟩
  have HTV := hid tyV
  have hvl : (valL 0 (zeros 32) nilS nilS).length = 35 := valL_length _ _ _ _ (zeros_length 32)
  have HVL := hid (hlen.trans hvl.symm)
  clear X2 T2 q2 hV hone hlen hIV tyV hvl hcs
  go_wp2_with ((with_reducible refine at_list' ?_); first
    | (refine wpList_alloc_c HTV.out rfl 3 rfl rfl ?_; intro w4 H4 B4 S4)
    | (refine wpList_store_c HTV.out rfl (.tmp 3) (.tmp 10) rfl w3.heap.size cs rfl rfl HVL.out HONE.out _ H4 rfl ?_; intro w5 H5 O5; have B35 := hid (below_only B4 O5 (Nat.le_refl _)); have X5 := X3.keep B35.out)
    | (refine wpList_load_c HT.out rfl (.tmp 1) rfl w.heap.size C rfl HL.out X5 ?_))
  have T5 := below_more T3 B35.out (Nat.le_refl _)
  have hgv : w3.heap.size < w5.heap.size := H5.lt
  refine (HENC.out w5).mono ?_
  rintro x w6 ⟨v4, rfl, R6, B6⟩
  have HV6 := hid (R6.isB HB8.out)
  have X6 := X5.keep B6
  have V6 := H5.keep B6
  have T6 := below_more T5 B6 (Nat.le_refl _)
  have B36 := hid (below_more B35.out B6 (Nat.le_refl _))
  clear R6 B6 X5 H5 O5 H4 B4 S4 T5 X3 T3 B35
  go_wp2_with fail
  refine (HDEC.out v4 w6 HV6.out).mono ?_
  rintro x w7 ⟨rfl, B7⟩
  have V4 := HV6.out.keep B7
  have X7 := X6.keep B7
  have V7 := V6.keep B7
  have T7 := below_more T6 B7 (Nat.le_refl _)
  have B37 := hid (below_more B36.out B7 (Nat.le_refl _))
  clear B7 X6 V6 T6 B36 HV6
  go_wp2_with ((with_reducible refine at_list' ?_); first
    | (refine wpList_alloc_c HT.out rfl 5 rfl rfl ?_; intro w8 H8 B8 S8)
    | (refine wpList_store_c HT.out rfl (.tmp 5) (.tmp 16) rfl w7.heap.size C rfl rfl HL.out H1C.out _ H8 rfl ?_; intro w9 H9 O9; have B79 := hid (below_only B8 O9 (Nat.le_refl _))))
  have HV4 := hid (V4.keep B79.out)
  have HX1 := hid (X7.keep B79.out)
  have HG3 := hid (V7.keep B79.out)
  have T9 := hid (below_more T7 B79.out (Nat.le_refl _))
  have HX5 := hid H9
  have HX := hid (HIV.out w9 (below_more B37.out B79.out (Nat.le_refl _)))
  obtain ⟨gv, hgve⟩ : ∃ g, w3.heap.size = g := ⟨_, rfl⟩
  obtain ⟨g5, hg5e⟩ : ∃ g, w7.heap.size = g := ⟨_, rfl⟩
  rw [hgve] at HG3 ⊢
  rw [hg5e] at HX5 ⊢
  clear V4 X7 V7 T7 H8 B8 S8 H9 O9 B79 B37 HIV hgve hg5e hgv
  refine wp_region_flowM 13 13 (fun i v wq => match i with
    | 0 => v = v4
    | 1 => v = .string (strOf BS)
    | 2 => ∃ p, v = .pointer (some ⟨p, 0, none⟩) ∧ DAt wq D p
    | 3 => v = .agg cs.toArray
    | 4 => IsB wq v BS
    | 5 => v = .string (strOf BS)
    | 6 => v = .bool false
    | 7 => v = .bool false
    | 8 => v = .agg C.toArray
    | 9 => IsV wq v X
    | 10 => v = .agg cs.toArray
    | 11 => v = .bool true
    | _ => v = .bool false) (by kernel_rfl) (by kernel_rfl) (fun _ d _ _ _ h => by cases d <;> exact h) ?_ ?_ ?_ ?_ ?_
  · intro i o g b hi ho hg v wq hv
    match i, hi with
    | 0, _ => cases ho; cases hg
    | 1, _ => cases ho; cases hg
    | 2, _ => cases ho; cases hg
    | 3, _ => cases ho; cases hg
    | 4, _ => cases ho; cases hg
    | 5, _ => cases ho; cases hg
    | 6, _ => cases ho; cases hg
    | 7, _ => cases ho; cases hg
    | 8, _ => cases ho; cases hg; exact hv
    | 9, _ => cases ho; cases hg; exact hv
    | 10, _ => cases ho; cases hg; exact hv
    | 11, _ => cases ho; cases hg; exact hv
    | 12, _ => cases ho; cases hg; exact hv
    | (k + 13), hk => exact absurd hk (by omega)
  · intro i v wq wq' hi hv hb
    match i, hi with
    | 0, _ => exact hv
    | 1, _ => exact hv
    | 2, _ => obtain ⟨p, e, h⟩ := hv; exact ⟨p, e, h.keep hb⟩
    | 3, _ => exact hv
    | 4, _ => exact hv.keep hb
    | 5, _ => exact hv
    | 6, _ => exact hv
    | 7, _ => exact hv
    | 8, _ => exact hv
    | 9, _ => exact hv.keep hb
    | 10, _ => exact hv
    | 11, _ => exact hv
    | 12, _ => exact hv
    | (k + 13), hk => exact absurd hk (by omega)
  · intro i o hi ho aq wq hc hk hdep
    match i, hi with
    | 0, _ =>
      cases ho
      exact flow_move (.tmp 4) rfl (hk 4 (by decide))
    | 1, _ =>
      cases ho
      have e18 : aq.tmps.getD 18 undef = v4 := hdep 0 18 rfl (by kernel_rfl)
      exact flow_value _ (rconv (.tmp 18) rfl (by rw [show aq.eval (.tmp 18) = v4 from by simpa [Act.eval] using e18]; exact HV4.out.keep hc.bel)) rfl
    | 2, _ =>
      cases ho
      refine flow_fun 9 _ _ rfl (fun _ _ => by simp [go_sem]) #[] (by simp) ?_
      refine (HKD.out wq).mono ?_
      rintro e w' ⟨p, rfl, h, B⟩
      exact ⟨_, rfl, ⟨p, rfl, h⟩, B⟩
    | 3, _ =>
      cases ho
      exact flow_value _ (run_mid 31 (.tmp 3) rfl gv 0 (by simpa [Act.eval] using hk 3 (by decide)) cs ((HG3.out.keep hc.bel).range 0 cs (fun j v hv => by rw [Nat.zero_add]; exact hv)) _ Try.underlying31 rfl (by rw [HCL.out]; kernel_rfl)) rfl
    | 4, _ =>
      cases ho
      obtain ⟨p, e20, hD⟩ : ∃ p, aq.tmps.getD 20 undef = .pointer (some ⟨p, 0, none⟩) ∧ DAt wq D p := hdep 2 20 rfl (by kernel_rfl)
      have e21 : aq.tmps.getD 21 undef = .agg cs.toArray := hdep 3 21 rfl (by kernel_rfl)
      refine flow_fun 8 _ _ rfl (fun _ _ => by simp [go_sem]) #[.pointer (some ⟨p, 0, none⟩), .agg cs.toArray] (by rw [show (#[Operand.tmp 20, Operand.tmp 21] : Array Operand).map aq.eval = #[aq.tmps.getD 20 undef, aq.tmps.getD 21 undef] from by simp [Act.eval], e20, e21]) ?_
      refine (HENV.out p _ wq hD (HX.out.keep hc.bel)).mono ?_
      rintro e w' ⟨v, rfl, R, B⟩
      exact ⟨_, rfl, R.isB HB8.out, B⟩
    | 5, _ =>
      cases ho
      have e22 : IsB wq (aq.tmps.getD 22 undef) BS := hdep 4 22 rfl (by kernel_rfl)
      exact flow_value _ (rconv (.tmp 22) rfl (by simpa [Act.eval] using e22)) rfl
    | 6, _ =>
      cases ho
      have e19 : aq.tmps.getD 19 undef = .string (strOf BS) := hdep 1 19 rfl (by kernel_rfl)
      have e23 : aq.tmps.getD 23 undef = .string (strOf BS) := hdep 5 23 rfl (by kernel_rfl)
      exact flow_value _ (rneqs (.tmp 19) (.tmp 23) rfl (by simpa [Act.eval] using e19) (by simpa [Act.eval] using e23)) rfl
    | 7, _ =>
      cases ho
      have e24 : aq.tmps.getD 24 undef = .bool false := hdep 6 24 rfl (by kernel_rfl)
      exact flow_move (.tmp 24) rfl (by simpa [Act.eval] using e24)
    | 8, _ =>
      cases ho
      exact flow_value _ (run_mid 26 (.tmp 1) rfl w.heap.size 0 (by simpa [Act.eval] using hk 1 (by decide)) C ((HX1.out.keep hc.bel).range 0 C (fun j v hv => by rw [Nat.zero_add]; exact hv)) _ Try.underlying26 rfl (by rw [HL.out]; exact HT.out.size)) rfl
    | 9, _ =>
      cases ho
      have e26 : aq.tmps.getD 26 undef = .agg C.toArray := hdep 8 26 rfl (by kernel_rfl)
      refine flow_fun 5 _ _ rfl (fun _ _ => by simp [go_sem]) #[.agg C.toArray] (by rw [show (#[Operand.tmp 26] : Array Operand).map aq.eval = #[aq.tmps.getD 26 undef] from by simp [Act.eval], e26]) ?_
      refine (HREF.out wq).mono ?_
      rintro e w' ⟨v, rfl, h, B⟩
      exact ⟨_, rfl, h, B⟩
    | 10, _ =>
      cases ho
      exact flow_value _ (run_mid 31 (.tmp 3) rfl gv 0 (by simpa [Act.eval] using hk 3 (by decide)) cs ((HG3.out.keep hc.bel).range 0 cs (fun j v hv => by rw [Nat.zero_add]; exact hv)) _ Try.underlying31 rfl (by rw [HCL.out]; kernel_rfl)) rfl
    | 11, _ =>
      cases ho
      have e27 : IsV wq (aq.tmps.getD 27 undef) X := hdep 9 27 rfl (by kernel_rfl)
      have e28 : aq.tmps.getD 28 undef = .agg cs.toArray := hdep 10 28 rfl (by kernel_rfl)
      refine flow_fun 10 _ _ rfl (fun _ _ => by simp [go_sem]) #[aq.tmps.getD 27 undef, .agg cs.toArray] (by rw [show (#[Operand.tmp 27, Operand.tmp 28] : Array Operand).map aq.eval = #[aq.tmps.getD 27 undef, aq.tmps.getD 28 undef] from by simp [Act.eval], e28]) ?_
      refine (HSM.out _ _ wq e27 (HX.out.keep hc.bel)).mono ?_
      rintro e w' ⟨rfl, B⟩
      exact ⟨_, rfl, rfl, B⟩
    | 12, _ =>
      cases ho
      have e29 : aq.tmps.getD 29 undef = .bool true := hdep 11 29 rfl (by kernel_rfl)
      refine flow_value _ ?_ rfl
      have e29' : aq.tmps[29]?.getD undef = .bool true := by simpa using e29
      unfold execOp
      simp [e29', go_sem]
    | (k + 13), hk => exact absurd hk (by omega)
  · intro o h13 ho
    omega
  intro vf w10 hc hv
  have e25 : vf 7 = _ := hv 7 25 (by decide) rfl
  have e30 : vf 12 = _ := hv 12 30 (by decide) rfl
  clear hv
  simp only [List.take_succ_cons, List.take_zero, List.drop_succ_cons, List.drop_zero, putAll, Act.put, List.setIfInBounds_toArray, List.set_cons_succ, List.set_cons_zero]
  rw [e25, e30]
  clear e25 e30
  have HX1 := hid (HX1.out.keep hc.bel)
  have HG3 := hid (HG3.out.keep hc.bel)
  have HX5 := hid (HX5.out.keep hc.bel)
  have HX := hid (HX.out.keep hc.bel)
  have T10 := hid (below_more T9.out hc.bel (Nat.le_refl _))
  clear hc T9
  go_wp2
  refine wp_region_flowM 7 7 (fun i v wq => match i with
    | 0 => v = .int .i64 0
    | 1 => v = .bool true
    | 2 => v = .bool true
    | 3 => v = .agg C.toArray
    | 4 => IsV wq v X
    | 5 => v = .agg cs.toArray
    | _ => v = .bool true) (by kernel_rfl) (by kernel_rfl) (fun _ d _ _ _ h => by cases d <;> exact h) ?_ ?_ ?_ ?_ ?_
  · intro i o g b hi ho hg v wq hv
    match i, hi with
    | 0, _ => cases ho; cases hg
    | 1, _ => cases ho; cases hg
    | 2, _ => cases ho; cases hg
    | 3, _ => cases ho; cases hg; exact hv
    | 4, _ => cases ho; cases hg; exact hv
    | 5, _ => cases ho; cases hg; exact hv
    | 6, _ => cases ho; cases hg; exact hv
    | (k + 7), hk => exact absurd hk (by omega)
  · intro i v wq wq' hi hv hb
    match i, hi with
    | 0, _ => exact hv
    | 1, _ => exact hv
    | 2, _ => exact hv
    | 3, _ => exact hv
    | 4, _ => exact hv.keep hb
    | 5, _ => exact hv
    | 6, _ => exact hv
    | (k + 7), hk => exact absurd hk (by omega)
  · intro i o hi ho aq wq hc hk hdep
    match i, hi with
    | 0, _ =>
      cases ho
      exact flow_move (.tmp 6) rfl (hk 6 (by decide))
    | 1, _ =>
      cases ho
      have e32 : aq.tmps.getD 32 undef = .int .i64 0 := hdep 0 32 rfl (by kernel_rfl)
      refine flow_value _ ?_ rfl
      have e32' : aq.tmps[32]?.getD undef = .int .i64 0 := by simpa using e32
      unfold execOp
      simp [e32', go_sem]
    | 2, _ =>
      cases ho
      have e33 : aq.tmps.getD 33 undef = .bool true := hdep 1 33 rfl (by kernel_rfl)
      exact flow_move (.tmp 33) rfl (by simpa [Act.eval] using e33)
    | 3, _ =>
      cases ho
      exact flow_value _ (run_mid 26 (.tmp 5) rfl g5 0 (by simpa [Act.eval] using hk 5 (by decide)) C ((HX5.out.keep hc.bel).range 0 C (fun j v hv => by rw [Nat.zero_add]; exact hv)) _ Try.underlying26 rfl (by rw [HL.out]; exact HT.out.size)) rfl
    | 4, _ =>
      cases ho
      have e35 : aq.tmps.getD 35 undef = .agg C.toArray := hdep 3 35 rfl (by kernel_rfl)
      refine flow_fun 5 _ _ rfl (fun _ _ => by simp [go_sem]) #[.agg C.toArray] (by rw [show (#[Operand.tmp 35] : Array Operand).map aq.eval = #[aq.tmps.getD 35 undef] from by simp [Act.eval], e35]) ?_
      refine (HREF.out wq).mono ?_
      rintro e w' ⟨v, rfl, h, B⟩
      exact ⟨_, rfl, h, B⟩
    | 5, _ =>
      cases ho
      exact flow_value _ (run_mid 31 (.tmp 3) rfl gv 0 (by simpa [Act.eval] using hk 3 (by decide)) cs ((HG3.out.keep hc.bel).range 0 cs (fun j v hv => by rw [Nat.zero_add]; exact hv)) _ Try.underlying31 rfl (by rw [HCL.out]; kernel_rfl)) rfl
    | 6, _ =>
      cases ho
      have e36 : IsV wq (aq.tmps.getD 36 undef) X := hdep 4 36 rfl (by kernel_rfl)
      have e37 : aq.tmps.getD 37 undef = .agg cs.toArray := hdep 5 37 rfl (by kernel_rfl)
      refine flow_fun 10 _ _ rfl (fun _ _ => by simp [go_sem]) #[aq.tmps.getD 36 undef, .agg cs.toArray] (by rw [show (#[Operand.tmp 36, Operand.tmp 37] : Array Operand).map aq.eval = #[aq.tmps.getD 36 undef, aq.tmps.getD 37 undef] from by simp [Act.eval], e37]) ?_
      refine (HSM.out _ _ wq e36 (HX.out.keep hc.bel)).mono ?_
      rintro e w' ⟨rfl, B⟩
      exact ⟨_, rfl, rfl, B⟩
    | (k + 7), hk => exact absurd hk (by omega)
  · intro o h7 ho
    omega
  intro vf w11 hc hv
  have e34 : vf 2 = _ := hv 2 34 (by decide) rfl
  have e38 : vf 6 = _ := hv 6 38 (by decide) rfl
  clear hv
  simp only [List.take_succ_cons, List.take_zero, List.drop_succ_cons, List.drop_zero, putAll, Act.put, List.setIfInBounds_toArray, List.set_cons_succ, List.set_cons_zero]
  rw [e34, e38]
  have T11 := hid (below_more T10.out hc.bel (Nat.le_refl _))
  clear e34 e38 hc
  go_wp2
  go_ret
  exact ⟨rfl, T11.out⟩
end Go.Proofs.Ytlpemcjjaijgcaa

/- Checkpoints taken: decode, ToCheckpoint. -/
namespace Go.Proofs.Ytlpemcjjaijgcaa
open Go.RowKit Go.Shelf
set_option linter.unusedVariables false
set_option maxRecDepth 100000

/-- What ToCheckpoint answers. -/
def cpD (bs : List Nat) : Value := if bs.length = 40 then cpA true (tk (bs.take 8)) (bs.drop 8) else cpA false 0 []

theorem cpA_form (t : Bool) (e : Nat) (r : List Nat) (hr : r.length = 32) : ∃ (C : List Value) (n : Int), cpA t e r = .tuple #[.agg C.toArray, .int .i64 n] ∧ C.length = 33 ∧ C.toArray.all (·.oneCell') = true := by
  cases t
  · exact ⟨cpC 0 (zeros 32), 3, rfl, rfl, cpC_one _ _⟩
  · exact ⟨cpC e r, 0, rfl, cpC_length e hr, cpC_one _ _⟩
theorem cp_ans (e : Nat) (r bs : List Nat) (he : cpE bs 40 0 (decide (bs.length < 40)) = e) (hr : cpR bs 40 0 (decide (bs.length < 40)) = r) : cpA (decide (bs.length = 40)) e r = cpD bs := by
  unfold cpD
  by_cases h : bs.length = 40
  · rw [if_pos h]
    have h1 : decide (bs.length < 40) = false := by simp; omega
    have h2 : decide (bs.length = 40) = true := by simp [h]
    rw [h1] at he hr
    rw [h2, ← he, ← hr]
    have e1 : cpE bs 40 0 false = tk (bs.take 8) := by simp [cpE, fixB, fixW]
    have e2 : cpR bs 40 0 false = bs.drop 8 := by
      have e3 : cpR bs 40 0 false = (bs.drop 8).take 32 := rfl
      rw [e3, List.take_of_length_le (by rw [List.length_drop]; omega)]
    rw [e1, e2]
  · rw [if_neg h]
    have h2 : decide (bs.length = 40) = false := by simp [h]
    rw [h2]
    rfl
theorem partsCp {g : Nat} {S : Nat → Prop} {bs : List Nat} (w : World) (h : Rd w g S bs 40 (cpT 40 0 (decide (bs.length < 40))) [] (cpW 40 0 (decide (bs.length < 40)))) (hl : bs.length ≤ 140737488355328) :
    Calls Try.prog 36 #[.pointer (some ⟨g, 0, none⟩)] w fun e w' => ∃ u, e = .returned (.tuple #[u, .bool (decide (bs.length = 40))]) ∧ Below w.heap.size w w' := by
  by_cases hlt : bs.length < 40
  · have h1 : decide (bs.length < 40) = true := by simp [hlt]
    have h2 : decide (bs.length = 40) = false := by simp; omega
    rw [h1] at h
    rw [h2]
    refine (parts_bad w h (.inl rfl) (by decide) hl (by simp)).mono ?_
    rintro e w' ⟨rfl, n, rfl⟩
    exact ⟨_, rfl, below_drew0 (Below.refl _ _) n⟩
  · have h1 : decide (bs.length < 40) = false := by simp; omega
    rw [h1] at h
    by_cases heq : bs.length = 40
    · rw [show decide (bs.length = 40) = true by simp [heq]]
      refine (parts_ok w h (fun _ => heq) (fun i hi => by simp at hi) (by decide) hl (by simp)).mono ?_
      rintro e w' ⟨u, rfl, _, hb⟩
      exact ⟨u, rfl, hb⟩
    · rw [show decide (bs.length = 40) = false by simp [heq]]
      refine (parts_bad w h (.inr (.inr ⟨rfl, heq⟩)) (by decide) hl (by simp)).mono ?_
      rintro e w' ⟨rfl, n, rfl⟩
      exact ⟨_, rfl, below_drew0 (Below.refl _ _) n⟩

set_option maxHeartbeats 1000000 in
theorem decodeCp_any (v : Value) (bs : List Nat) (w : World) (hB : IsB w v bs) (hl : bs.length ≤ 140737488355328) :
    Calls Try.prog 19 #[v, .int .i64 40, .func (.func 20) #[] #[]] w fun x w' => x = .returned (cpD bs) ∧ Below w.heap.size w w' := by
  have HI := hid hB
  obtain ⟨⟨ao, cap, rfl, _⟩, _⟩ := hB
  go_enter Try.func19, Try.ntmps19
  go_wp2_with ((with_reducible refine at_list' ?_); first
    | (refine wpList_alloc_c Try.ty26 rfl 6 rfl rfl ?_; intro w1 H1 B1 S1))
  have HC := hid (read_any _ bs 40 w1 (HI.out.keep B1) (by decide) hl)
  have HH1 := hid H1
  have HB1 := hid B1
  have s1 := S1
  clear H1 B1 S1 HI
  refine HC.out.mono ?_
  rintro e w2 ⟨g, S, hg, rfl, q1, q2, q3⟩
  have HT := hid (takeCp_any w2 q1 (by decide) hl)
  have HH2 := hid (HH1.out.keep q3)
  have HB2 := hid (HB1.out.trans (q3.mono (by omega)))
  have s2 := q3.size
  have hgl := q1.gt
  clear q1 q2 q3 HC HH1 HB1
  go_wp2_with fail
  refine HT.out.mono ?_
  rintro e w3 ⟨rfl, h32, q1, q2⟩
  have HH3 := hid (HH2.out.grown q2 (by omega))
  have s3 := q2.size
  have HB3 : Hid (Below w.heap.size w w3) := hid ⟨q2.os.trans HB2.out.os, q2.tape.trans HB2.out.tape, q2.output.trans HB2.out.output, by omega, fun j hj => (q2.block j (by omega) (fun h => by have := Option.some.inj h; omega)).trans (HB2.out.block j hj)⟩
  have HR := hid q1
  have H32 := hid h32
  clear q1 q2 h32 HT HH2 HB2
  obtain ⟨E, hE⟩ : ∃ E, cpE bs 40 0 (decide (bs.length < 40)) = E := ⟨_, rfl⟩
  obtain ⟨R, hR⟩ : ∃ R, cpR bs 40 0 (decide (bs.length < 40)) = R := ⟨_, rfl⟩
  rw [hR] at H32
  rw [hE, hR]
  have HE := hid hE
  have HRR := hid hR
  clear hE hR
  go_wp2_with ((with_reducible refine at_list' ?_); first
    | (refine wpList_alloc_c Try.ty26 rfl 9 rfl rfl ?_; intro w4 H4 B4 S4)
    | (refine wpList_store_c Try.ty26 rfl (.tmp 9) (.tmp 17) rfl w3.heap.size (cpC E R) rfl rfl (by rw [cpC_length _ H32.out]; rfl) (cpC_one _ _) _ H4 rfl ?_; intro w5 H5 O5))
  have s5 := O5.size
  have B35 : Below w3.heap.size w3 w5 := below_only B4 O5 (Nat.le_refl _)
  have HP := hid (partsCp w5 (HR.out.below B35) hl)
  have HB5 := hid (HB3.out.trans (B35.mono (by omega)))
  have HH5 := hid (HH3.out.keep B35)
  have HX5 := hid H5
  have HA := hid (cp_ans E R bs HE.out HRR.out)
  clear H4 B4 O5 H5 B35 HR HB3 HH3 HE HRR
  refine HP.out.mono ?_
  rintro e w6 ⟨u, rfl, B6⟩
  have HB6 := hid (HB5.out.trans (B6.mono (by omega)))
  have HH6 := hid (HH5.out.keep B6)
  have HX6 := hid (HX5.out.keep B6)
  have s6 := B6.size
  clear B6 HP HB5 HH5 HX5
  obtain ⟨t, ht⟩ : ∃ t, decide (bs.length = 40) = t := ⟨_, rfl⟩
  rw [ht]
  rw [ht] at HA
  obtain ⟨C, n, hC, hCl, hC1⟩ := cpA_form t E R H32.out
  have HC := hid hC
  have HCl := hid hCl
  have HC1 := hid hC1
  clear ht hC hCl hC1
  go_wp2_with ((with_reducible refine at_list' ?_); first
    | (refine wpList_load_c Try.ty26 rfl (.tmp 9) rfl w3.heap.size (cpC E R) rfl (by rw [cpC_length _ H32.out]; rfl) HX6.out ?_))
  have HN := hid (answerCp_any E R t w6 H32.out)
  rw [HC.out] at HN
  refine HN.out.mono ?_
  rintro e w7 ⟨rfl, B7⟩
  have HB7 := hid (HB6.out.trans (B7.mono (by omega)))
  have HH7 := hid (HH6.out.keep B7)
  have s7 := B7.size
  clear B7 HB6 HH6 HN HX6
  go_wp2_with ((with_reducible refine at_list' ?_); first
    | (refine wpList_store_c Try.ty26 rfl (.tmp 6) (.tmp 26) rfl w.heap.size C rfl rfl (by rw [HCl.out]; rfl) HC1.out _ HH7.out rfl ?_; intro w8 H8 O8))
  refine bodyPost_ret (results_c Try.ty26 rfl _ w8 w.heap.size C (.int .i64 n) rfl rfl H8 (by rw [HCl.out]; rfl)) rfl ⟨?_, below_only HB7.out O8 (Nat.le_refl _)⟩
  rw [← HC.out, HA.out]

set_option maxHeartbeats 1000000 in
theorem toCp_any (v : Value) (bs : List Nat) (w : World) (hB : IsB w v bs) (hl : bs.length ≤ 140737488355328) :
    Calls Try.prog 7 #[v] w fun x w' => x = .returned (cpD bs) ∧ Below w.heap.size w w' := by
  have HI := hid hB
  obtain ⟨⟨ao, cap, rfl, _⟩, _⟩ := hB
  obtain ⟨C, n, hC, hCl, hC1⟩ : ∃ (C : List Value) (n : Int), cpD bs = .tuple #[.agg C.toArray, .int .i64 n] ∧ C.length = 33 ∧ C.toArray.all (·.oneCell') = true := by
    unfold cpD
    split
    · rename_i h
      exact cpA_form true _ _ (by rw [List.length_drop]; omega)
    · exact ⟨cpC 0 (zeros 32), 3, rfl, rfl, cpC_one _ _⟩
  have HC := hid hC
  have HCl := hid hCl
  have HC1 := hid hC1
  rw [hC]
  clear hC hCl hC1
  go_enter Try.func7, Try.ntmps7
  go_wp2_with ((with_reducible refine at_list' ?_); first
    | (refine wpList_alloc_c Try.ty26 rfl 2 rfl rfl ?_; intro w1 H1 B1 S1))
  have HN := hid (decodeCp_any _ bs w1 (HI.out.keep B1) hl)
  rw [HC.out] at HN
  have HH := hid H1
  have HB := hid B1
  have s1 := S1
  clear H1 B1 S1 HI
  refine HN.out.mono ?_
  rintro e w7 ⟨rfl, B7⟩
  have HB7 := hid (HB.out.trans (B7.mono (by omega)))
  have HH7 := hid (HH.out.keep B7)
  have s7 := B7.size
  clear B7 HN HH HB
  go_wp2_with ((with_reducible refine at_list' ?_); first
    | (refine wpList_store_c Try.ty26 rfl (.tmp 2) (.tmp 6) rfl w.heap.size C rfl rfl (by rw [HCl.out]; rfl) HC1.out _ HH7.out rfl ?_; intro w8 H8 O8))
  refine bodyPost_ret (results_c Try.ty26 rfl _ w8 w.heap.size C (.int .i64 n) rfl rfl H8 (by rw [HCl.out]; rfl)) rfl ⟨rfl, below_only HB7.out O8 (Nat.le_refl _)⟩
end Go.Proofs.Ytlpemcjjaijgcaa

/- Lengths of parts, and numbers as bytes: there and back. -/
namespace Go.Proofs.Ytlpemcjjaijgcaa
open Go.RowKit
set_option linter.unusedVariables false
/-- What parts are joined to. -/
def joinB (bss : List (List Nat)) : List Nat := cont (bss.map fun b => (b, true))
def lenB (bss : List (List Nat)) : Nat := (bss.map List.length).sum
theorem lenB_F (bss : List (List Nat)) : lenF (bss.map fun b => (b, true)) = lenB bss := by
  unfold lenF lenB
  rw [List.map_map]; rfl
theorem lenB_take (bss : List (List Nat)) (k : Nat) : lenB (bss.take k) ≤ lenB bss := by
  have := lenF_take (bss.map fun b => (b, true)) k
  rw [← List.map_take, lenB_F, lenB_F] at this
  exact this
theorem lenB_mem {bss : List (List Nat)} {i : Nat} {x : List Nat} (h : bss[i]? = some x) : x.length ≤ lenB bss := by
  have h1 := lenB_take bss (i + 1)
  have hi := (List.getElem?_eq_some_iff.1 h).1
  rw [List.take_succ_eq_append_getElem hi] at h1
  rw [List.getElem?_eq_getElem hi] at h
  cases h
  have e : ∀ (a : List (List Nat)) (b : List Nat), lenB (a ++ [b]) = lenB a + b.length := fun a b => by simp [lenB]
  rw [e] at h1
  omega

theorem le_putL (x k : Nat) : ((le x k).map fun n : Nat => (n : Int)) = putL x k := by
  simp [le, putL, byteAt]
theorem tk_le (x k : Nat) (hk : k ≤ 8) : tk (le x k) = x % 256 ^ k := by
  unfold tk takeV
  rw [le_putL, List.take_of_length_le (by rw [putL_length]; omega), takeL_put]
theorem tk_le4 (x : Nat) (h : x < 4294967296) : tk (le x 4) = x := by
  rw [tk_le x 4 (by decide)]
  exact Nat.mod_eq_of_lt h
theorem lenB_cons (b : List Nat) (r : List (List Nat)) : lenB (b :: r) = b.length + lenB r := by simp [lenB]
theorem lenB_flat (bss : List (List Nat)) : bss.flatten.length = lenB bss := by
  induction bss with
  | nil => rfl
  | cons b r ih => rw [List.flatten_cons, List.length_append, ih, lenB_cons]
theorem back_flat (bss : List (List Nat)) : backB (bss.map fun b => (b, true)) = bss.flatten := by
  induction bss with
  | nil => rfl
  | cons b r ih =>
    rw [List.map_cons, List.flatten_cons, ← ih]
    simp [backB]
theorem front_at (rest : List Nat) : ∀ (bss : List (List Nat)) (p j : Nat), j < bss.length → ((frontB p (bss.map fun b => (b, true)) ++ rest).drop (4 * j)).take 4 = le (p + lenB (bss.take j)) 4
  | [], p, j, h => by simp at h
  | b :: r, p, 0, h => by
    rw [List.map_cons, frontB]
    simp only [if_true, List.append_assoc, Nat.mul_zero, List.drop_zero, List.take_zero]
    rw [List.take_append_of_le_length (by rw [le_length]; exact Nat.le_refl _), List.take_of_length_le (by rw [le_length]; exact Nat.le_refl _)]
    rfl
  | b :: r, p, j + 1, h => by
    rw [List.map_cons, frontB]
    simp only [if_true, List.append_assoc]
    have h4 : (le p 4).length = 4 := le_length _ _
    rw [show 4 * (j + 1) = (le p 4).length + 4 * j by rw [h4]; omega, List.drop_append, List.take_succ_cons, lenB_cons]
    have e : List.drop ((le p 4).length + 4 * j) (le p 4) = [] := List.drop_eq_nil_of_le (by omega)
    rw [e, List.nil_append, show (le p 4).length + 4 * j - (le p 4).length = 4 * j by omega, front_at rest r (p + b.length) j (by simpa using h), Nat.add_assoc]
theorem flat_part : ∀ (bss : List (List Nat)) (i : Nat) (x : List Nat), bss[i]? = some x → (bss.flatten.drop (lenB (bss.take i))).take x.length = x
  | [], i, x, h => by simp at h
  | b :: r, 0, x, h => by
    simp at h
    subst h
    simp [lenB]
  | b :: r, i + 1, x, h => by
    rw [List.take_succ_cons, lenB_cons, List.flatten_cons, List.drop_append, List.drop_eq_nil_of_le (by omega), List.nil_append, show b.length + lenB (r.take i) - b.length = lenB (r.take i) by omega]
    exact flat_part r i x (by simpa using h)
theorem lenB_succ (bss : List (List Nat)) (i : Nat) (x : List Nat) (h : bss[i]? = some x) : lenB (bss.take (i + 1)) = lenB (bss.take i) + x.length := by
  have hi := (List.getElem?_eq_some_iff.1 h).1
  rw [List.getElem?_eq_getElem hi] at h
  cases h
  rw [List.take_succ_eq_append_getElem hi]
  have e : ∀ (a : List (List Nat)) (b : List Nat), lenB (a ++ [b]) = lenB a + b.length := fun a b => by simp [lenB]
  exact e _ _
end Go.Proofs.Ytlpemcjjaijgcaa

/- CodecCheckpoints: its contracts, made one. -/
namespace Go.Proofs.Ytlpemcjjaijgcaa
open Go.RowKit
set_option linter.unusedVariables false
set_option linter.unusedSimpArgs false
set_option maxRecDepth 100000

theorem tk_le8 (n : Nat) (h : n < 18446744073709551616) : tk (le n 8) = n := by
  unfold tk
  rw [le_putL]
  exact takeV_put8 n h
theorem cpB (e : Nat) (r : List Nat) : cont (cpF e r) = le e 8 ++ r := by simp [cpF, numF, rootF, cont, frontB, backB]
theorem cpK_ok : okD (dBox [dNum, dRoot]) := by simp [okD, okDs, dBox, dNum, dRoot, small, sizeD, sizeS, sizeH]
theorem cpV_enc (e : Nat) (r : List Nat) : encV (dBox [dNum, dRoot]) (cpV e r) = cont (cpF e r) := by
  simp [dBox, dNum, dRoot, cpV, encV, encK, kdsV, sizeD, cpF, numF, rootF]
theorem cpV_ok (e : Nat) (r : List Nat) (hr : r.length = 32) : okV (dBox [dNum, dRoot]) (cpV e r) := by
  simp [dBox, dNum, dRoot, cpV, okV, okK, encV, encK, kdsV, sizeD, lenF, le_length, hr]
theorem cp_walk (e : Nat) (r : List Nat) (he : e < 18446744073709551616) (hr : r.length = 32) (h8 : ∀ z ∈ r, z < 256) (w : World) :
    Calls Try.prog 3 #[.agg (cpC e r).toArray] w fun e w' => e = .returned (.bool true) ∧ Below w.heap.size w w' := by
  have hB := cpB e r
  refine codecCheckpoint_walk (cpC e r) (cpC 0 (zeros 32)) (cpV e r) (cont (cpF e r)) (dBox [dNum, dRoot]) w Try.ty26 (by rw [cpC_length e hr]; rfl) (cpC_one _ _) ?_ (fun wq => refCp_any e r wq he hr h8) (fun wq => checkpoint_any e r wq he hr h8) (fun v wq hI => ?_) (fun wq => dcp_any wq) (fun p u wq hD hV => ?_) (fun u v wq hu hv => ?_)
  · rw [hB]
    intro z hz
    rcases List.mem_append.1 hz with hz | hz
    · exact le_byte _ _ z hz
    · exact h8 z hz
  · have h := toCp_any v _ wq hI (by rw [hB, List.length_append, le_length, hr]; decide)
    have e1 : cpD (cont (cpF e r)) = .tuple #[.agg (cpC e r).toArray, .int .i64 0] := by
      unfold cpD
      rw [hB, if_pos (by rw [List.length_append, le_length, hr]), List.take_left' (le_length e 8), List.drop_left' (le_length e 8), tk_le8 e he]
      rfl
    rw [e1] at h
    exact h
  · have h := enc_any _ _ u p wq cpK_ok (cpV_ok e r hr) hD hV
    rw [cpV_enc] at h
    exact h
  · have h := same_any _ _ u v wq hu hv
    rw [sameV_refl] at h
    exact h
end Go.Proofs.Ytlpemcjjaijgcaa

/- Structs that came in by value. -/
namespace Go.Proofs.Ytlpemcjjaijgcaa
open Go.RowKit Go.Deep Go.WideShapes
set_option linter.unusedVariables false
set_option linter.unusedSimpArgs false
set_option maxRecDepth 100000

theorem cellsRt : Try.prog.cellsOf 24 = 32 := by kernel_rfl
theorem cellsU8 : Try.prog.cellsOf 5 = 1 := by kernel_rfl
theorem cellsU64 : Try.prog.cellsOf 22 = 1 := by kernel_rfl
/-- Parts of a list, one behind the other. -/
def cutAt {α : Type} (cs : List α) : Nat → List Nat → List (List α)
  | _, [] => []
  | o, k :: ks => (cs.drop o).take k :: cutAt cs (o + k) ks
theorem cut_flat {α : Type} (cs : List α) : ∀ (ks : List Nat) (o : Nat), o + ks.sum = cs.length → cs.drop o = (cutAt cs o ks).flatten := by
  intro ks
  induction ks with
  | nil => intro o h; simp at h; rw [h, List.drop_length]; rfl
  | cons k ks ih =>
    intro o h
    rw [cutAt, List.flatten_cons, ← ih (o + k) (by simp at h; omega), ← List.drop_drop, List.take_append_drop]
section
variable {H : Type} {enc : TypeId × Value → H} {W : World} {b0 : Nat} {sp : Nat → Bool} {held : Bool}
theorem root_of_trod {fuel : Nat} {cs : List Value} {x : DataW H × List MemPlace} (h : DataW.trod enc Try.prog W b0 sp held fuel 24 cs = some x) : ∃ r : List Nat, cs = cellsB r ∧ r.length = 32 ∧ ∀ z ∈ r, z < 256 := by
  obtain ⟨xs, m, _, _, hl, hxs, hel⟩ := DataW.trod_array Try.und24 h
  rw [cellsRt] at hl
  have key : ∀ i (hi : i < cs.length), ∃ n : Nat, cs[i] = .int .u8 (n : Int) ∧ n < 256 := by
    intro i hi
    have h1 := hel i (by omega)
    rw [cellsU8, Nat.mul_one, List.getElem?_eq_getElem (by omega)] at h1
    obtain ⟨n, e1, _, hw⟩ := DataW.trod_int Try.underlying5 h1
    have hb := bounds_u8 hw
    have e2 : (cs.drop i).take 1 = [cs[i]] := by
      rw [List.drop_eq_getElem_cons hi, List.take_succ_cons, List.take_zero]
    have e3 : [cs[i]] = [Value.int .u8 n] := e2.symm.trans e1
    refine ⟨n.toNat, ?_, by omega⟩
    have e4 : cs[i] = Value.int .u8 n := by simpa using e3
    rw [e4]
    congr 1
    omega
  refine ⟨cs.map fun v => (intOf v).toNat, ?_, by simp [hl], ?_⟩
  · unfold cellsB
    apply List.ext_getElem
    · simp
    · intro i h1 h2
      obtain ⟨n, e, hn⟩ := key i h1
      simp [e, intOf]
  · intro z hz
    obtain ⟨v, hv, rfl⟩ := List.mem_map.1 hz
    obtain ⟨i, hi, rfl⟩ := List.mem_iff_getElem.1 hv
    obtain ⟨n, e, hn⟩ := key i hi
    simp [e, intOf, hn]
theorem num_of_trod {fuel : Nat} {cs : List Value} {x : DataW H × List MemPlace} (h : DataW.trod enc Try.prog W b0 sp held fuel 22 cs = some x) : ∃ n : Nat, cs = [.int .u64 (n : Nat)] ∧ n < 18446744073709551616 := by
  obtain ⟨i, e, _, hw⟩ := DataW.trod_int Try.underlying22 h
  have hb := bounds_u64 hw
  refine ⟨i.toNat, ?_, by omega⟩
  rw [e, Int.toNat_of_nonneg hb.1]
theorem cells_cp : Try.prog.cellsOf 26 = 33 := by kernel_rfl
theorem cp_of_trod {fuel : Nat} {cs : List Value} {x : DataW H × List MemPlace} (h : DataW.trod enc Try.prog W b0 sp held fuel 26 cs = some x) : ∃ (ze : Nat) (zr : List Nat), cs = cpC ze zr ∧ ze < 18446744073709551616 ∧ zr.length = 32 ∧ ∀ z ∈ zr, z < 256 := by
  obtain ⟨xs, n, _, _, hl, hlen, hf⟩ := DataW.trod_struct Try.underlying26 h
  rw [cells_cp] at hl
  have hx : xs.length = 2 := hlen
  have f0 : ∃ y, DataW.trod enc Try.prog W b0 sp held n 22 ((cs.drop 0).take 1) = some y := by
    have := hf 0 _ rfl
    change DataW.trod enc Try.prog W b0 sp held n 22 (List.take (Try.prog.cellsOf 22) (List.drop 0 cs)) = xs[0]? at this
    rw [cellsU64, List.getElem?_eq_getElem (by omega)] at this
    exact ⟨_, this⟩
  obtain ⟨y0, f0⟩ := f0
  obtain ⟨ze, e0, hze⟩ := num_of_trod f0
  have f1 : ∃ y, DataW.trod enc Try.prog W b0 sp held n 24 ((cs.drop 1).take 32) = some y := by
    have := hf 1 _ rfl
    change DataW.trod enc Try.prog W b0 sp held n 24 (List.take (Try.prog.cellsOf 24) (List.drop 1 cs)) = xs[1]? at this
    rw [cellsRt, List.getElem?_eq_getElem (by omega)] at this
    exact ⟨_, this⟩
  obtain ⟨y1, f1⟩ := f1
  obtain ⟨zr, e1, hzr⟩ := root_of_trod f1
  have hc := cut_flat cs [1, 32] 0 (by rw [hl]; rfl)
  rw [List.drop_zero] at e0
  simp only [cutAt, List.drop_zero, Nat.zero_add, Nat.reduceAdd, e0, e1] at hc
  refine ⟨ze, zr, by rw [hc]; simp [cpC], hze, hzr⟩
theorem open_cp {base : Nat} {v : Value} {d : DataW H} {p : List MemPlace} (hv : Value.okWide Try.prog W .any base 26 v) (h : DataW.Trod enc Try.prog W b0 sp held 26 v d p) : ∃ (ze : Nat) (zr : List Nat), v = .agg (cpC ze zr).toArray ∧ ze < 18446744073709551616 ∧ zr.length = 32 ∧ ∀ z ∈ zr, z < 256 := by
  obtain ⟨cs, rfl, _⟩ := okWide_struct Try.underlying26 hv
  obtain ⟨fuel, hf⟩ := h
  obtain ⟨ze, zr, e, hze, hzr⟩ := cp_of_trod hf
  exact ⟨ze, zr, by rw [← Array.toList_inj.1 (show cs.toList = (cpC ze zr).toArray.toList from e)], hze, hzr⟩end
end Go.Proofs.Ytlpemcjjaijgcaa

