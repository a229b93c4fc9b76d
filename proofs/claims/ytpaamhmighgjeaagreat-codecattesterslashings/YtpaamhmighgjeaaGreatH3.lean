/- Own texts of the proof, joined: Lw5AttSl AnsIx LisE LisC LisD TkLe. -/
import Derived.Test.YtpaamhmighgjeaaGreatH2
import Derived.OwnWalkIn
import Derived.RangeFuncLeaves
import Derived.RangeFuncCalls
/- The walk of CodecAttSl, over contracts. -/
namespace Go.Proofs.YtpaamhmighgjeaaGreat
open Go.RowKit
set_option linter.unusedVariables false
set_option linter.unusedSimpArgs false
set_option maxRecDepth 100000

theorem rneqs {o : Oper} {a : Act} {w : World} {s : ByteArray} (x y : Operand) (ho : o.op = .binOp .neq 9 x y 9) (hx : a.eval x = .string s) (hy : a.eval y = .string s) : (execOp a.eval o).run Tryz.prog w = .ok (.value (.bool false)) w := by
  unfold execOp
  simp only [ho, hx, hy]
  simp [go_sem, toList_beq]
theorem valL_oneV {w : World} {x : Vt} {sb sk : Value} (h : VAt w x sb sk) : (valL x.num x.root sb sk).toArray.all (·.oneCell') = true ∧ (valL x.num x.root sb sk).length = 35 := by
  cases x
  rename_i n r bs ks
  rw [VAt] at h
  obtain ⟨⟨_, hr, _⟩, hT, ao, cap, rfl, _⟩ := h
  exact ⟨valL_oneC _ _ _ _ hT.sl trivial, valL_length _ _ _ _ hr⟩
theorem wpList_wantV {P : Program} {w : World} {ops : Array Oper} {rest : List Oper} {o : Oper} {a : Act} {Q : Exit → Act → World → Prop} (hw : Region.wanted o (yielded ops a.tmps) = true) (v : Value) (hr : (execOp a.eval o).run P w = .ok (.value v) w)
    (h : wpList P ops Q rest (a.put o.dst v) w) : wpList P ops Q (o :: rest) a w :=
  BigFrame.wpList_want hw fun K hK => wp_run hr (hK _ _ h)
set_option maxHeartbeats 1000000 in
theorem wide_any (n : Nat) (w : World) : Calls Tryz.prog 6 #[.int .i64 (n : Nat)] w fun e w' => e = .returned (.bool (decide (500 < n))) ∧ w' = w := by
  have h : decide ((n : Int) > 500) = decide (500 < n) := by by_cases c : 500 < n <;> simp [c] <;> omega
  go_enter Tryz.func6, Tryz.ntmps6
  go_wp2
  go_ret
  exact ⟨by simp [← h], rfl⟩
/-- Both lists of numbers. -/
structure Two (ao bo : Option Addr) (c d : Nat) (l m : List Nat) (w : World) : Prop where
  one : IsN w (.slice ao l.length c) l
  two : IsN w (.slice bo m.length d) m
theorem Two.keep {ao bo : Option Addr} {c d : Nat} {l m : List Nat} {w w' : World} (h : Two ao bo c d l m w) (hb : Below w.heap.size w w') : Two ao bo c d l m w' := ⟨h.one.keep hb, h.two.keep hb⟩
set_option maxHeartbeats 2000000 in
theorem CodecAttSl_wide1 (C zs : List Value) (ao bo : Option Addr) (c d : Nat) (l m : List Nat) (w : World) (hT : Ty Tryz.prog 50 zs) (hl : C.length = zs.length) (h0 : C[0]? = some (.slice ao l.length c)) (h133 : C[133]? = some (.slice bo m.length d)) (hw : 500 < l.length) :
    Calls Tryz.prog 4 #[.agg C.toArray] w fun e w' => e = .returned (.bool true) ∧ Below w.heap.size w w' := by
  have HW : Hid (decide (500 < l.length) = true) := hid (by simp [hw])
  have H0 := hid h0
  have H133 := hid h133
  clear hT hl h0 h133 hw
  go_enter Tryz.func4, Tryz.ntmps4
  go_wp2_with (refine wpList_box_c rfl 1 rfl (.tmp 0) rfl C rfl ?_; intro w1 H1 B1 S1)
  refine (awake_any w1).mono ?_
  rintro x w2 ⟨rfl, B2⟩
  have hx0 := (H1.keep B2).cell H0.out
  have T2 := hid (below_more B1 B2 (Nat.le_refl _))
  clear H1 B1 B2 S1
  go_wp2_with fail
  refine (wide_any l.length w2).mono ?_
  rintro x w3 ⟨rfl, rfl⟩
  rw [HW.out]
  go_wp2
  go_ret
  exact ⟨rfl, T2.out⟩
set_option maxHeartbeats 2000000 in
theorem CodecAttSl_wide2 (C zs : List Value) (ao bo : Option Addr) (c d : Nat) (l m : List Nat) (w : World) (hT : Ty Tryz.prog 50 zs) (hl : C.length = zs.length) (h0 : C[0]? = some (.slice ao l.length c)) (h133 : C[133]? = some (.slice bo m.length d)) (hn : l.length ≤ 500) (hw : 500 < m.length) :
    Calls Tryz.prog 4 #[.agg C.toArray] w fun e w' => e = .returned (.bool true) ∧ Below w.heap.size w w' := by
  have HW : Hid (decide (500 < l.length) = false) := hid (by simp; omega)
  have HWm : Hid (decide (500 < m.length) = true) := hid (by simp [hw])
  have H0 := hid h0
  have H133 := hid h133
  clear hT hl h0 h133 hw hn
  go_enter Tryz.func4, Tryz.ntmps4
  go_wp2_with (refine wpList_box_c rfl 1 rfl (.tmp 0) rfl C rfl ?_; intro w1 H1 B1 S1)
  refine (awake_any w1).mono ?_
  rintro x w2 ⟨rfl, B2⟩
  have hx0 := (H1.keep B2).cell H0.out
  have hx1 := (H1.keep B2).cell H133.out
  have T2 := hid (below_more B1 B2 (Nat.le_refl _))
  clear H1 B1 B2 S1
  go_wp2_with fail
  refine (wide_any l.length w2).mono ?_
  rintro x w3 ⟨rfl, rfl⟩
  rw [HW.out]
  go_wp2_with fail
  refine (wide_any m.length _).mono ?_
  rintro x w4 ⟨rfl, rfl⟩
  rw [HWm.out]
  go_wp2
  go_ret
  exact ⟨rfl, T2.out⟩
set_option maxHeartbeats 8000000 in
theorem codecAttSl_good (C zs : List Value) (ao bo : Option Addr) (c d : Nat) (l m : List Nat) (PY : List Value → World → Prop) (hPY : ∀ u wq w', PY u wq → Below wq.heap.size wq w' → PY u w') (X : Vt) (BS : List Nat) (D : Dt) (w : World) (hT : Ty Tryz.prog 50 zs) (hl : C.length = zs.length) (h1 : C.toArray.all (·.oneCell') = true) (h0 : C[0]? = some (.slice ao l.length c)) (h133 : C[133]? = some (.slice bo m.length d)) (hn : l.length ≤ 500) (hm : m.length ≤ 500) (hIT : Two ao bo c d l m w) (hb8 : ∀ z ∈ BS, z < 256)
    (href : ∀ wq, Two ao bo c d l m wq → Calls Tryz.prog 13 #[.agg C.toArray] wq fun x w' => ∃ v, x = .returned v ∧ IsV w' v X ∧ Below wq.heap.size wq w')
    (henc : ∀ wq, Two ao bo c d l m wq → Calls Tryz.prog 14 #[.agg C.toArray] wq fun x w' => ∃ v, x = .returned v ∧ Row w' wq.heap.size v BS ∧ Below wq.heap.size wq w')
    (hdec : ∀ v wq, IsB wq v BS → Calls Tryz.prog 15 #[v] wq fun x w' => (∃ u, x = .returned (.tuple #[.agg u.toArray, .int .i64 0]) ∧ PY u w') ∧ Below wq.heap.size wq w')
    (hly : ∀ u wq, PY u wq → u.length = zs.length ∧ u.toArray.all (·.oneCell') = true) (hrefy : ∀ u wq, PY u wq → Calls Tryz.prog 13 #[.agg u.toArray] wq fun x w' => ∃ v, x = .returned v ∧ IsV w' v X ∧ Below wq.heap.size wq w') (hle : l.length ≤ 32 ∧ m.length ≤ 32)
    (hkd : ∀ wq, Calls Tryz.prog 16 #[] wq fun x w' => ∃ p, x = .returned (.pointer (some ⟨p, 0, none⟩)) ∧ DAt w' D p ∧ Below wq.heap.size wq w')
    (henv : ∀ p u wq, DAt wq D p → IsV wq u X → Calls Tryz.prog 10 #[.pointer (some ⟨p, 0, none⟩), u] wq fun x w' => ∃ v, x = .returned v ∧ Row w' wq.heap.size v BS ∧ Below wq.heap.size wq w')
    (hsm : ∀ Y u v wq, IsV wq u Y → IsV wq v Y → Calls Tryz.prog 12 #[u, v] wq fun x w' => x = .returned (.bool true) ∧ Below wq.heap.size wq w') :
    Calls Tryz.prog 4 #[.agg C.toArray] w fun e w' => e = .returned (.bool true) ∧ Below w.heap.size w w' := by
  have HT := hid hT
  have HL := hid hl
  have H1C := hid h1
  have H0 := hid h0
  have H133 := hid h133
  have HB8 := hid hb8
  have HREF := hid href
  have HENC := hid henc
  have HDEC := hid hdec
  have HKD := hid hkd
  have HENV := hid henv
  have HSM := hid (fun u v wq => hsm X u v wq)
  have HSMY := hid hsm
  have HIT0 := hid hIT
  have HW : Hid (decide (500 < l.length) = false) := hid (by simp; omega)
  have HWm : Hid (decide (500 < m.length) = false) := hid (by simp; omega)
  have HLYA := hid hly
  have HPY := hid hPY
  clear hPY
  have HREFA := hid hrefy
  have hd32 : decide ((l.length : Int) ≤ 32) = true := by simp; omega
  have hd33 : decide ((m.length : Int) ≤ 32) = true := by simp; omega
  clear hly hrefy
  clear hT hl h1 h0 h133 hb8 href henc hdec hkd henv hsm hIT
  go_enter Tryz.func4, Tryz.ntmps4
  go_wp2_with (refine wpList_box_c rfl 1 rfl (.tmp 0) rfl C rfl ?_; intro w1 H1 B1 S1)
  refine (awake_any w1).mono ?_
  rintro x w2 ⟨rfl, B2⟩
  have X2 := H1.keep B2
  have hx0 := X2.cell H0.out
  have hx1 := X2.cell H133.out
  have T2 := below_more B1 B2 (Nat.le_refl _)
  clear H1 B1 B2 S1
  go_wp2_with fail
  refine (wide_any l.length w2).mono ?_
  rintro x w2' ⟨rfl, rfl⟩
  rw [HW.out]
  go_wp2_with fail
  refine (wide_any m.length _).mono ?_
  rintro x w2'' ⟨rfl, rfl⟩
  rw [HWm.out]
  clear hx0 hx1
  go_wp2_with ((with_reducible refine at_list' ?_); (refine wpList_load_c HT.out rfl (.tmp 1) rfl w.heap.size C rfl HL.out X2 ?_))
  refine (HREF.out _ (HIT0.out.keep T2)).mono ?_
  rintro x w3 ⟨v3, rfl, q1, q2⟩
  obtain ⟨sb, sk, rfl, hV⟩ := q1
  obtain ⟨hone, hlen⟩ := valL_oneV hV
  obtain ⟨cs, hcs⟩ : ∃ cs, Same (valL X.num X.root sb sk) cs := ⟨_, ⟨rfl⟩⟩
  have hIV : ∀ wq, Below w3.heap.size w3 wq → IsV wq (.agg cs.toArray) X := fun wq hq => ⟨sb, sk, by rw [hcs.out], hV.keep hq⟩
  rw [hcs.out] at hone hlen ⊢
  have HIV := hid hIV
  have HONE := hid hone
  have HCL := hid hlen
  have X3 := X2.keep q2
  have T3 := below_more T2 q2 (Nat.le_refl _)
  have tyV : Ty Tryz.prog 37 (valL 0 (zeros 32) nilS nilS) := ⟨zeroVal, _, Tryz.underlying37, rfl⟩
  have HTV := hid tyV
  have hvl : (valL 0 (zeros 32) nilS nilS).length = 35 := valL_length _ _ _ _ (zeros_length 32)
  have HVL := hid (hlen.trans hvl.symm)
  clear X2 T2 q2 hV hone hlen hIV tyV hvl hcs
  go_wp2_with ((with_reducible refine at_list' ?_); first
    | (refine wpList_alloc_c HTV.out rfl 3 rfl rfl ?_; intro w4 H4 B4 S4)
    | (refine wpList_store_c HTV.out rfl (.tmp 3) (.tmp 22) rfl w3.heap.size cs rfl rfl HVL.out HONE.out _ H4 rfl ?_; intro w5 H5 O5; have B35 := hid (below_only B4 O5 (Nat.le_refl _)); have X5 := X3.keep B35.out)
    | (refine wpList_load_c HT.out rfl (.tmp 1) rfl w.heap.size C rfl HL.out X5 ?_))
  have T5 := below_more T3 B35.out (Nat.le_refl _)
  have hgv : w3.heap.size < w5.heap.size := H5.lt
  refine (HENC.out w5 (HIT0.out.keep T5)).mono ?_
  rintro x w6 ⟨v4, rfl, R6, B6⟩
  have HV6 := hid (R6.isB HB8.out)
  have X6 := X5.keep B6
  have V6 := H5.keep B6
  have T6 := below_more T5 B6 (Nat.le_refl _)
  have B36 := hid (below_more B35.out B6 (Nat.le_refl _))
  clear R6 B6 X5 H5 O5 H4 B4 S4 T5 X3 T3 B35
  go_wp2_with fail
  refine (HDEC.out v4 w6 HV6.out).mono ?_
  rintro x w7 ⟨⟨CYl, rfl, hIu⟩, B7⟩
  have HLY := hid (HLYA.out CYl w7 hIu).1
  have H1Y := hid (HLYA.out CYl w7 hIu).2
  have HREFY := hid (HREFA.out CYl)
  have HIU7 := hid hIu
  clear hIu
  have V4 := HV6.out.keep B7
  have X7 := X6.keep B7
  have V7 := V6.keep B7
  have T7 := below_more T6 B7 (Nat.le_refl _)
  have B37 := hid (below_more B36.out B7 (Nat.le_refl _))
  clear X6 V6 T6 B36 HV6
  go_wp2_with ((with_reducible refine at_list' ?_); first
    | (refine wpList_alloc_c HT.out rfl 5 rfl rfl ?_; intro w8 H8 B8 S8)
    | (refine wpList_store_c HT.out rfl (.tmp 5) (.tmp 28) rfl w7.heap.size CYl rfl rfl HLY.out H1Y.out _ H8 rfl ?_; intro w9 H9 O9; have B79 := hid (below_only B8 O9 (Nat.le_refl _))))
  have HV4 := hid (V4.keep B79.out)
  have HX1 := hid (X7.keep B79.out)
  have HG3 := hid (V7.keep B79.out)
  have T9 := hid (below_more T7 B79.out (Nat.le_refl _))
  have HIT := hid (HIT0.out.keep T9.out)
  have HIU := hid (HPY.out _ _ _ HIU7.out B79.out)
  have HX5 := hid H9
  have HX := hid (HIV.out w9 (below_more B37.out B79.out (Nat.le_refl _)))
  obtain ⟨gv, hgve⟩ : ∃ g, w3.heap.size = g := ⟨_, rfl⟩
  obtain ⟨g5, hg5e⟩ : ∃ g, w7.heap.size = g := ⟨_, rfl⟩
  rw [hgve] at HG3 ⊢
  rw [hg5e] at HX5 ⊢
  clear V4 X7 V7 T7 H8 B8 S8 H9 O9 B7 B79 B37 HIV hgve hg5e hgv
  refine wp_region_flowM 13 13 (fun i v wq => match i with
    | 0 => v = v4
    | 1 => v = .string (strOf BS)
    | 2 => ∃ p, v = .pointer (some ⟨p, 0, none⟩) ∧ DAt wq D p
    | 3 => v = .agg cs.toArray
    | 4 => IsB wq v BS
    | 5 => v = .string (strOf BS)
    | 6 => v = .bool false
    | 7 => v = .bool false
    | 8 => v = .agg C.toArray
    | 9 => IsV wq v X
    | 10 => v = .agg cs.toArray
    | 11 => v = .bool true
    | _ => v = .bool false) (by kernel_rfl) (by kernel_rfl) (fun _ d _ _ _ h => by cases d <;> exact h) ?_ ?_ ?_ ?_ ?_
  · intro i o g b hi ho hg v wq hv
    match i, hi with
    | 0, _ => cases ho; cases hg
    | 1, _ => cases ho; cases hg
    | 2, _ => cases ho; cases hg
    | 3, _ => cases ho; cases hg
    | 4, _ => cases ho; cases hg
    | 5, _ => cases ho; cases hg
    | 6, _ => cases ho; cases hg
    | 7, _ => cases ho; cases hg
    | 8, _ => cases ho; cases hg; exact hv
    | 9, _ => cases ho; cases hg; exact hv
    | 10, _ => cases ho; cases hg; exact hv
    | 11, _ => cases ho; cases hg; exact hv
    | 12, _ => cases ho; cases hg; exact hv
    | (k + 13), hk => exact absurd hk (by omega)
  · intro i v wq wq' hi hv hb
    match i, hi with
    | 0, _ => exact hv
    | 1, _ => exact hv
    | 2, _ => obtain ⟨p, e, h⟩ := hv; exact ⟨p, e, h.keep hb⟩
    | 3, _ => exact hv
    | 4, _ => exact hv.keep hb
    | 5, _ => exact hv
    | 6, _ => exact hv
    | 7, _ => exact hv
    | 8, _ => exact hv
    | 9, _ => exact hv.keep hb
    | 10, _ => exact hv
    | 11, _ => exact hv
    | 12, _ => exact hv
    | (k + 13), hk => exact absurd hk (by omega)
  · intro i o hi ho aq wq hc hk hdep
    match i, hi with
    | 0, _ =>
      cases ho
      exact flow_move (.tmp 4) rfl (hk 4 (by decide))
    | 1, _ =>
      cases ho
      have e22 : aq.tmps.getD 30 undef = v4 := hdep 0 30 rfl (by kernel_rfl)
      exact flow_value _ (rconv (.tmp 30) rfl (by rw [show aq.eval (.tmp 30) = v4 from by simpa [Act.eval] using e22]; exact HV4.out.keep hc.bel)) rfl
    | 2, _ =>
      cases ho
      refine flow_fun 16 _ _ rfl (fun _ _ => by simp [go_sem]) #[] (by simp) ?_
      refine (HKD.out wq).mono ?_
      rintro e w' ⟨p, rfl, h, B⟩
      exact ⟨_, rfl, ⟨p, rfl, h⟩, B⟩
    | 3, _ =>
      cases ho
      exact flow_value _ (run_mid 37 (.tmp 3) rfl gv 0 (by simpa [Act.eval] using hk 3 (by decide)) cs ((HG3.out.keep hc.bel).range 0 cs (fun j v hv => by rw [Nat.zero_add]; exact hv)) _ Tryz.underlying37 rfl (by rw [HCL.out]; kernel_rfl)) rfl
    | 4, _ =>
      cases ho
      obtain ⟨p, e24, hD⟩ : ∃ p, aq.tmps.getD 32 undef = .pointer (some ⟨p, 0, none⟩) ∧ DAt wq D p := hdep 2 32 rfl (by kernel_rfl)
      have e25 : aq.tmps.getD 33 undef = .agg cs.toArray := hdep 3 33 rfl (by kernel_rfl)
      refine flow_fun 10 _ _ rfl (fun _ _ => by simp [go_sem]) #[.pointer (some ⟨p, 0, none⟩), .agg cs.toArray] (by rw [show (#[Operand.tmp 32, Operand.tmp 33] : Array Operand).map aq.eval = #[aq.tmps.getD 32 undef, aq.tmps.getD 33 undef] from by simp [Act.eval], e24, e25]) ?_
      refine (HENV.out p _ wq hD (HX.out.keep hc.bel)).mono ?_
      rintro e w' ⟨v, rfl, R, B⟩
      exact ⟨_, rfl, R.isB HB8.out, B⟩
    | 5, _ =>
      cases ho
      have e26 : IsB wq (aq.tmps.getD 34 undef) BS := hdep 4 34 rfl (by kernel_rfl)
      exact flow_value _ (rconv (.tmp 34) rfl (by simpa [Act.eval] using e26)) rfl
    | 6, _ =>
      cases ho
      have e23 : aq.tmps.getD 31 undef = .string (strOf BS) := hdep 1 31 rfl (by kernel_rfl)
      have e27 : aq.tmps.getD 35 undef = .string (strOf BS) := hdep 5 35 rfl (by kernel_rfl)
      exact flow_value _ (rneqs (.tmp 31) (.tmp 35) rfl (by simpa [Act.eval] using e23) (by simpa [Act.eval] using e27)) rfl
    | 7, _ =>
      cases ho
      have e28 : aq.tmps.getD 36 undef = .bool false := hdep 6 36 rfl (by kernel_rfl)
      exact flow_move (.tmp 36) rfl (by simpa [Act.eval] using e28)
    | 8, _ =>
      cases ho
      exact flow_value _ (run_mid 50 (.tmp 1) rfl w.heap.size 0 (by simpa [Act.eval] using hk 1 (by decide)) C ((HX1.out.keep hc.bel).range 0 C (fun j v hv => by rw [Nat.zero_add]; exact hv)) _ Tryz.underlying50 rfl (by rw [HL.out]; exact HT.out.size)) rfl
    | 9, _ =>
      cases ho
      have e30 : aq.tmps.getD 38 undef = .agg C.toArray := hdep 8 38 rfl (by kernel_rfl)
      refine flow_fun 13 _ _ rfl (fun _ _ => by simp [go_sem]) #[.agg C.toArray] (by rw [show (#[Operand.tmp 38] : Array Operand).map aq.eval = #[aq.tmps.getD 38 undef] from by simp [Act.eval], e30]) ?_
      refine (HREF.out wq (HIT.out.keep hc.bel)).mono ?_
      rintro e w' ⟨v, rfl, h, B⟩
      exact ⟨_, rfl, h, B⟩
    | 10, _ =>
      cases ho
      exact flow_value _ (run_mid 37 (.tmp 3) rfl gv 0 (by simpa [Act.eval] using hk 3 (by decide)) cs ((HG3.out.keep hc.bel).range 0 cs (fun j v hv => by rw [Nat.zero_add]; exact hv)) _ Tryz.underlying37 rfl (by rw [HCL.out]; kernel_rfl)) rfl
    | 11, _ =>
      cases ho
      have e31 : IsV wq (aq.tmps.getD 39 undef) X := hdep 9 39 rfl (by kernel_rfl)
      have e32 : aq.tmps.getD 40 undef = .agg cs.toArray := hdep 10 40 rfl (by kernel_rfl)
      refine flow_fun 12 _ _ rfl (fun _ _ => by simp [go_sem]) #[aq.tmps.getD 39 undef, .agg cs.toArray] (by rw [show (#[Operand.tmp 39, Operand.tmp 40] : Array Operand).map aq.eval = #[aq.tmps.getD 39 undef, aq.tmps.getD 40 undef] from by simp [Act.eval], e32]) ?_
      refine (HSM.out _ _ wq e31 (HX.out.keep hc.bel)).mono ?_
      rintro e w' ⟨rfl, B⟩
      exact ⟨_, rfl, rfl, B⟩
    | 12, _ =>
      cases ho
      have e33 : aq.tmps.getD 41 undef = .bool true := hdep 11 41 rfl (by kernel_rfl)
      refine flow_value _ ?_ rfl
      have e33' : aq.tmps[41]?.getD undef = .bool true := by simpa using e33
      unfold execOp
      simp [e33', go_sem]
    | (k + 13), hk => exact absurd hk (by omega)
  · intro o h13 ho
    omega
  intro vf w10 hc hv
  have e25 : vf 7 = _ := hv 7 37 (by decide) rfl
  have e30 : vf 12 = _ := hv 12 42 (by decide) rfl
  clear hv
  simp only [List.take_succ_cons, List.take_zero, List.drop_succ_cons, List.drop_zero, putAll, Act.put, List.setIfInBounds_toArray, List.set_cons_succ, List.set_cons_zero]
  rw [e25, e30]
  clear e25 e30
  have HX1 := hid (HX1.out.keep hc.bel)
  have HG3 := hid (HG3.out.keep hc.bel)
  have HX5 := hid (HX5.out.keep hc.bel)
  have HX := hid (HX.out.keep hc.bel)
  have hx0 := HX1.out.cell H0.out
  have hx1 := HX1.out.cell H133.out
  have HIU := hid (HPY.out _ _ _ HIU.out hc.bel)
  have T10 := hid (below_more T9.out hc.bel (Nat.le_refl _))
  clear hc T9
  go_wp2
  refine wp_region_flowM 7 7 (fun i v wq => match i with
    | 0 => v = .int .i64 0
    | 1 => v = .bool true
    | 2 => v = .bool true
    | 3 => v = .agg CYl.toArray
    | 4 => IsV wq v X
    | 5 => v = .agg cs.toArray
    | _ => v = .bool true) (by kernel_rfl) (by kernel_rfl) (fun _ d _ _ _ h => by cases d <;> exact h) ?_ ?_ ?_ ?_ ?_
  · intro i o g b hi ho hg v wq hv
    match i, hi with
    | 0, _ => cases ho; cases hg
    | 1, _ => cases ho; cases hg
    | 2, _ => cases ho; cases hg
    | 3, _ => cases ho; cases hg; exact hv
    | 4, _ => cases ho; cases hg; exact hv
    | 5, _ => cases ho; cases hg; exact hv
    | 6, _ => cases ho; cases hg; exact hv
    | (k + 7), hk => exact absurd hk (by omega)
  · intro i v wq wq' hi hv hb
    match i, hi with
    | 0, _ => exact hv
    | 1, _ => exact hv
    | 2, _ => exact hv
    | 3, _ => exact hv
    | 4, _ => exact hv.keep hb
    | 5, _ => exact hv
    | 6, _ => exact hv
    | (k + 7), hk => exact absurd hk (by omega)
  · intro i o hi ho aq wq hc hk hdep
    match i, hi with
    | 0, _ =>
      cases ho
      exact flow_move (.tmp 6) rfl (hk 6 (by decide))
    | 1, _ =>
      cases ho
      have e50 : aq.tmps.getD 66 undef = .int .i64 0 := hdep 0 66 rfl (by kernel_rfl)
      refine flow_value _ ?_ rfl
      have e50' : aq.tmps[66]?.getD undef = .int .i64 0 := by simpa using e50
      unfold execOp
      simp [e50', go_sem]
    | 2, _ =>
      cases ho
      have e51 : aq.tmps.getD 67 undef = .bool true := hdep 1 67 rfl (by kernel_rfl)
      exact flow_move (.tmp 67) rfl (by simpa [Act.eval] using e51)
    | 3, _ =>
      cases ho
      exact flow_value _ (run_mid 50 (.tmp 5) rfl g5 0 (by simpa [Act.eval] using hk 5 (by decide)) CYl ((HX5.out.keep hc.bel).range 0 CYl (fun j v hv => by rw [Nat.zero_add]; exact hv)) _ Tryz.underlying50 rfl (by rw [HLY.out]; exact HT.out.size)) rfl
    | 4, _ =>
      cases ho
      have e53 : aq.tmps.getD 69 undef = .agg CYl.toArray := hdep 3 69 rfl (by kernel_rfl)
      refine flow_fun 13 _ _ rfl (fun _ _ => by simp [go_sem]) #[.agg CYl.toArray] (by rw [show (#[Operand.tmp 69] : Array Operand).map aq.eval = #[aq.tmps.getD 69 undef] from by simp [Act.eval], e53]) ?_
      refine (HREFY.out wq (HPY.out _ _ _ HIU.out hc.bel)).mono ?_
      rintro e w' ⟨v, rfl, h, B⟩
      exact ⟨_, rfl, h, B⟩
    | 5, _ =>
      cases ho
      exact flow_value _ (run_mid 37 (.tmp 3) rfl gv 0 (by simpa [Act.eval] using hk 3 (by decide)) cs ((HG3.out.keep hc.bel).range 0 cs (fun j v hv => by rw [Nat.zero_add]; exact hv)) _ Tryz.underlying37 rfl (by rw [HCL.out]; kernel_rfl)) rfl
    | 6, _ =>
      cases ho
      have e54 : IsV wq (aq.tmps.getD 70 undef) X := hdep 4 70 rfl (by kernel_rfl)
      have e55 : aq.tmps.getD 71 undef = .agg cs.toArray := hdep 5 71 rfl (by kernel_rfl)
      refine flow_fun 12 _ _ rfl (fun _ _ => by simp [go_sem]) #[aq.tmps.getD 70 undef, .agg cs.toArray] (by rw [show (#[Operand.tmp 70, Operand.tmp 71] : Array Operand).map aq.eval = #[aq.tmps.getD 70 undef, aq.tmps.getD 71 undef] from by simp [Act.eval], e55]) ?_
      refine (HSM.out _ _ wq e54 (HX.out.keep hc.bel)).mono ?_
      rintro e w' ⟨rfl, B⟩
      exact ⟨_, rfl, rfl, B⟩
    | (k + 7), hk => exact absurd hk (by omega)
  · intro o h7 ho
    omega
  intro vf w11 hc hv
  have e34 : vf 2 = _ := hv 2 68 (by decide) rfl
  have e38 : vf 6 = _ := hv 6 72 (by decide) rfl
  clear hv
  simp only [List.take_succ_cons, List.take_zero, List.drop_succ_cons, List.drop_zero, putAll, Act.put, List.setIfInBounds_toArray, List.set_cons_succ, List.set_cons_zero]
  rw [e34, e38]
  have T11 := hid (below_more T10.out hc.bel (Nat.le_refl _))
  clear e34 e38 hc
  go_wp2
  go_ret
  exact ⟨rfl, T11.out⟩
set_option maxHeartbeats 8000000 in
theorem codecAttSl_bad1 (C zs : List Value) (ao bo : Option Addr) (c d : Nat) (l m : List Nat) (X : Vt) (BS : List Nat) (D : Dt) (w : World) (hT : Ty Tryz.prog 50 zs) (hl : C.length = zs.length) (h1 : C.toArray.all (·.oneCell') = true) (h0 : C[0]? = some (.slice ao l.length c)) (h133 : C[133]? = some (.slice bo m.length d)) (hn : l.length ≤ 500) (hm : m.length ≤ 500) (hIT : Two ao bo c d l m w) (hb8 : ∀ z ∈ BS, z < 256)
    (href : ∀ wq, Two ao bo c d l m wq → Calls Tryz.prog 13 #[.agg C.toArray] wq fun x w' => ∃ v, x = .returned v ∧ IsV w' v X ∧ Below wq.heap.size wq w')
    (henc : ∀ wq, Two ao bo c d l m wq → Calls Tryz.prog 14 #[.agg C.toArray] wq fun x w' => ∃ v, x = .returned v ∧ Row w' wq.heap.size v BS ∧ Below wq.heap.size wq w')
    (X0 : Vt) (hdec : ∀ v wq, IsB wq v BS → Calls Tryz.prog 15 #[v] wq fun x w' => x = .returned (.tuple #[.agg zs.toArray, .int .i64 3]) ∧ Below wq.heap.size wq w')
    (hz1 : zs.toArray.all (·.oneCell') = true) (hzb : Tryz.prog.built 50 [] = some zs.toArray) (href0 : ∀ wq, Calls Tryz.prog 13 #[.agg zs.toArray] wq fun x w' => ∃ v, x = .returned v ∧ IsV w' v X0 ∧ Below wq.heap.size wq w') (hgt : 32 < l.length)
    (hkd : ∀ wq, Calls Tryz.prog 16 #[] wq fun x w' => ∃ p, x = .returned (.pointer (some ⟨p, 0, none⟩)) ∧ DAt w' D p ∧ Below wq.heap.size wq w')
    (henv : ∀ p u wq, DAt wq D p → IsV wq u X → Calls Tryz.prog 10 #[.pointer (some ⟨p, 0, none⟩), u] wq fun x w' => ∃ v, x = .returned v ∧ Row w' wq.heap.size v BS ∧ Below wq.heap.size wq w')
    (hsm : ∀ Y u v wq, IsV wq u Y → IsV wq v Y → Calls Tryz.prog 12 #[u, v] wq fun x w' => x = .returned (.bool true) ∧ Below wq.heap.size wq w') :
    Calls Tryz.prog 4 #[.agg C.toArray] w fun e w' => e = .returned (.bool true) ∧ Below w.heap.size w w' := by
  have HT := hid hT
  have HL := hid hl
  have H1C := hid h1
  have H0 := hid h0
  have H133 := hid h133
  have HB8 := hid hb8
  have HREF := hid href
  have HENC := hid henc
  have HDEC := hid hdec
  have HKD := hid hkd
  have HENV := hid henv
  have HSM := hid (fun u v wq => hsm X u v wq)
  have HSMY := hid hsm
  have HIT0 := hid hIT
  have HW : Hid (decide (500 < l.length) = false) := hid (by simp; omega)
  have HWm : Hid (decide (500 < m.length) = false) := hid (by simp; omega)
  have HREF0 := hid href0
  have HZ1 := hid hz1
  have HZB := hid hzb
  have hd32 : decide ((l.length : Int) ≤ 32) = false := by simp; omega
  clear href0 hz1 hzb
  clear hT hl h1 h0 h133 hb8 href henc hdec hkd henv hsm hIT
  go_enter Tryz.func4, Tryz.ntmps4
  go_wp2_with (refine wpList_box_c rfl 1 rfl (.tmp 0) rfl C rfl ?_; intro w1 H1 B1 S1)
  refine (awake_any w1).mono ?_
  rintro x w2 ⟨rfl, B2⟩
  have X2 := H1.keep B2
  have hx0 := X2.cell H0.out
  have hx1 := X2.cell H133.out
  have T2 := below_more B1 B2 (Nat.le_refl _)
  clear H1 B1 B2 S1
  go_wp2_with fail
  refine (wide_any l.length w2).mono ?_
  rintro x w2' ⟨rfl, rfl⟩
  rw [HW.out]
  go_wp2_with fail
  refine (wide_any m.length _).mono ?_
  rintro x w2'' ⟨rfl, rfl⟩
  rw [HWm.out]
  clear hx0 hx1
  go_wp2_with ((with_reducible refine at_list' ?_); (refine wpList_load_c HT.out rfl (.tmp 1) rfl w.heap.size C rfl HL.out X2 ?_))
  refine (HREF.out _ (HIT0.out.keep T2)).mono ?_
  rintro x w3 ⟨v3, rfl, q1, q2⟩
  obtain ⟨sb, sk, rfl, hV⟩ := q1
  obtain ⟨hone, hlen⟩ := valL_oneV hV
  obtain ⟨cs, hcs⟩ : ∃ cs, Same (valL X.num X.root sb sk) cs := ⟨_, ⟨rfl⟩⟩
  have hIV : ∀ wq, Below w3.heap.size w3 wq → IsV wq (.agg cs.toArray) X := fun wq hq => ⟨sb, sk, by rw [hcs.out], hV.keep hq⟩
  rw [hcs.out] at hone hlen ⊢
  have HIV := hid hIV
  have HONE := hid hone
  have HCL := hid hlen
  have X3 := X2.keep q2
  have T3 := below_more T2 q2 (Nat.le_refl _)
  have tyV : Ty Tryz.prog 37 (valL 0 (zeros 32) nilS nilS) := ⟨zeroVal, _, Tryz.underlying37, rfl⟩
  have HTV := hid tyV
  have hvl : (valL 0 (zeros 32) nilS nilS).length = 35 := valL_length _ _ _ _ (zeros_length 32)
  have HVL := hid (hlen.trans hvl.symm)
  clear X2 T2 q2 hV hone hlen hIV tyV hvl hcs
  go_wp2_with ((with_reducible refine at_list' ?_); first
    | (refine wpList_alloc_c HTV.out rfl 3 rfl rfl ?_; intro w4 H4 B4 S4)
    | (refine wpList_store_c HTV.out rfl (.tmp 3) (.tmp 22) rfl w3.heap.size cs rfl rfl HVL.out HONE.out _ H4 rfl ?_; intro w5 H5 O5; have B35 := hid (below_only B4 O5 (Nat.le_refl _)); have X5 := X3.keep B35.out)
    | (refine wpList_load_c HT.out rfl (.tmp 1) rfl w.heap.size C rfl HL.out X5 ?_))
  have T5 := below_more T3 B35.out (Nat.le_refl _)
  have hgv : w3.heap.size < w5.heap.size := H5.lt
  refine (HENC.out w5 (HIT0.out.keep T5)).mono ?_
  rintro x w6 ⟨v4, rfl, R6, B6⟩
  have HV6 := hid (R6.isB HB8.out)
  have X6 := X5.keep B6
  have V6 := H5.keep B6
  have T6 := below_more T5 B6 (Nat.le_refl _)
  have B36 := hid (below_more B35.out B6 (Nat.le_refl _))
  clear R6 B6 X5 H5 O5 H4 B4 S4 T5 X3 T3 B35
  go_wp2_with fail
  refine (HDEC.out v4 w6 HV6.out).mono ?_
  rintro x w7 ⟨rfl, B7⟩
  have V4 := HV6.out.keep B7
  have X7 := X6.keep B7
  have V7 := V6.keep B7
  have T7 := below_more T6 B7 (Nat.le_refl _)
  have B37 := hid (below_more B36.out B7 (Nat.le_refl _))
  clear X6 V6 T6 B36 HV6
  go_wp2_with ((with_reducible refine at_list' ?_); first
    | (refine wpList_alloc_c HT.out rfl 5 rfl rfl ?_; intro w8 H8 B8 S8)
    | (refine wpList_store_c HT.out rfl (.tmp 5) (.tmp 28) rfl w7.heap.size zs rfl rfl rfl HZ1.out _ H8 rfl ?_; intro w9 H9 O9; have B79 := hid (below_only B8 O9 (Nat.le_refl _))))
  have HV4 := hid (V4.keep B79.out)
  have HX1 := hid (X7.keep B79.out)
  have HG3 := hid (V7.keep B79.out)
  have T9 := hid (below_more T7 B79.out (Nat.le_refl _))
  have HIT := hid (HIT0.out.keep T9.out)
  have HX5 := hid H9
  have HX := hid (HIV.out w9 (below_more B37.out B79.out (Nat.le_refl _)))
  obtain ⟨gv, hgve⟩ : ∃ g, w3.heap.size = g := ⟨_, rfl⟩
  obtain ⟨g5, hg5e⟩ : ∃ g, w7.heap.size = g := ⟨_, rfl⟩
  rw [hgve] at HG3 ⊢
  rw [hg5e] at HX5 ⊢
  clear V4 X7 V7 T7 H8 B8 S8 H9 O9 B7 B79 B37 HIV hgve hg5e hgv
  refine wp_region_flowM 13 13 (fun i v wq => match i with
    | 0 => v = v4
    | 1 => v = .string (strOf BS)
    | 2 => ∃ p, v = .pointer (some ⟨p, 0, none⟩) ∧ DAt wq D p
    | 3 => v = .agg cs.toArray
    | 4 => IsB wq v BS
    | 5 => v = .string (strOf BS)
    | 6 => v = .bool false
    | 7 => v = .bool false
    | 8 => v = .agg C.toArray
    | 9 => IsV wq v X
    | 10 => v = .agg cs.toArray
    | 11 => v = .bool true
    | _ => v = .bool false) (by kernel_rfl) (by kernel_rfl) (fun _ d _ _ _ h => by cases d <;> exact h) ?_ ?_ ?_ ?_ ?_
  · intro i o g b hi ho hg v wq hv
    match i, hi with
    | 0, _ => cases ho; cases hg
    | 1, _ => cases ho; cases hg
    | 2, _ => cases ho; cases hg
    | 3, _ => cases ho; cases hg
    | 4, _ => cases ho; cases hg
    | 5, _ => cases ho; cases hg
    | 6, _ => cases ho; cases hg
    | 7, _ => cases ho; cases hg
    | 8, _ => cases ho; cases hg; exact hv
    | 9, _ => cases ho; cases hg; exact hv
    | 10, _ => cases ho; cases hg; exact hv
    | 11, _ => cases ho; cases hg; exact hv
    | 12, _ => cases ho; cases hg; exact hv
    | (k + 13), hk => exact absurd hk (by omega)
  · intro i v wq wq' hi hv hb
    match i, hi with
    | 0, _ => exact hv
    | 1, _ => exact hv
    | 2, _ => obtain ⟨p, e, h⟩ := hv; exact ⟨p, e, h.keep hb⟩
    | 3, _ => exact hv
    | 4, _ => exact hv.keep hb
    | 5, _ => exact hv
    | 6, _ => exact hv
    | 7, _ => exact hv
    | 8, _ => exact hv
    | 9, _ => exact hv.keep hb
    | 10, _ => exact hv
    | 11, _ => exact hv
    | 12, _ => exact hv
    | (k + 13), hk => exact absurd hk (by omega)
  · intro i o hi ho aq wq hc hk hdep
    match i, hi with
    | 0, _ =>
      cases ho
      exact flow_move (.tmp 4) rfl (hk 4 (by decide))
    | 1, _ =>
      cases ho
      have e22 : aq.tmps.getD 30 undef = v4 := hdep 0 30 rfl (by kernel_rfl)
      exact flow_value _ (rconv (.tmp 30) rfl (by rw [show aq.eval (.tmp 30) = v4 from by simpa [Act.eval] using e22]; exact HV4.out.keep hc.bel)) rfl
    | 2, _ =>
      cases ho
      refine flow_fun 16 _ _ rfl (fun _ _ => by simp [go_sem]) #[] (by simp) ?_
      refine (HKD.out wq).mono ?_
      rintro e w' ⟨p, rfl, h, B⟩
      exact ⟨_, rfl, ⟨p, rfl, h⟩, B⟩
    | 3, _ =>
      cases ho
      exact flow_value _ (run_mid 37 (.tmp 3) rfl gv 0 (by simpa [Act.eval] using hk 3 (by decide)) cs ((HG3.out.keep hc.bel).range 0 cs (fun j v hv => by rw [Nat.zero_add]; exact hv)) _ Tryz.underlying37 rfl (by rw [HCL.out]; kernel_rfl)) rfl
    | 4, _ =>
      cases ho
      obtain ⟨p, e24, hD⟩ : ∃ p, aq.tmps.getD 32 undef = .pointer (some ⟨p, 0, none⟩) ∧ DAt wq D p := hdep 2 32 rfl (by kernel_rfl)
      have e25 : aq.tmps.getD 33 undef = .agg cs.toArray := hdep 3 33 rfl (by kernel_rfl)
      refine flow_fun 10 _ _ rfl (fun _ _ => by simp [go_sem]) #[.pointer (some ⟨p, 0, none⟩), .agg cs.toArray] (by rw [show (#[Operand.tmp 32, Operand.tmp 33] : Array Operand).map aq.eval = #[aq.tmps.getD 32 undef, aq.tmps.getD 33 undef] from by simp [Act.eval], e24, e25]) ?_
      refine (HENV.out p _ wq hD (HX.out.keep hc.bel)).mono ?_
      rintro e w' ⟨v, rfl, R, B⟩
      exact ⟨_, rfl, R.isB HB8.out, B⟩
    | 5, _ =>
      cases ho
      have e26 : IsB wq (aq.tmps.getD 34 undef) BS := hdep 4 34 rfl (by kernel_rfl)
      exact flow_value _ (rconv (.tmp 34) rfl (by simpa [Act.eval] using e26)) rfl
    | 6, _ =>
      cases ho
      have e23 : aq.tmps.getD 31 undef = .string (strOf BS) := hdep 1 31 rfl (by kernel_rfl)
      have e27 : aq.tmps.getD 35 undef = .string (strOf BS) := hdep 5 35 rfl (by kernel_rfl)
      exact flow_value _ (rneqs (.tmp 31) (.tmp 35) rfl (by simpa [Act.eval] using e23) (by simpa [Act.eval] using e27)) rfl
    | 7, _ =>
      cases ho
      have e28 : aq.tmps.getD 36 undef = .bool false := hdep 6 36 rfl (by kernel_rfl)
      exact flow_move (.tmp 36) rfl (by simpa [Act.eval] using e28)
    | 8, _ =>
      cases ho
      exact flow_value _ (run_mid 50 (.tmp 1) rfl w.heap.size 0 (by simpa [Act.eval] using hk 1 (by decide)) C ((HX1.out.keep hc.bel).range 0 C (fun j v hv => by rw [Nat.zero_add]; exact hv)) _ Tryz.underlying50 rfl (by rw [HL.out]; exact HT.out.size)) rfl
    | 9, _ =>
      cases ho
      have e30 : aq.tmps.getD 38 undef = .agg C.toArray := hdep 8 38 rfl (by kernel_rfl)
      refine flow_fun 13 _ _ rfl (fun _ _ => by simp [go_sem]) #[.agg C.toArray] (by rw [show (#[Operand.tmp 38] : Array Operand).map aq.eval = #[aq.tmps.getD 38 undef] from by simp [Act.eval], e30]) ?_
      refine (HREF.out wq (HIT.out.keep hc.bel)).mono ?_
      rintro e w' ⟨v, rfl, h, B⟩
      exact ⟨_, rfl, h, B⟩
    | 10, _ =>
      cases ho
      exact flow_value _ (run_mid 37 (.tmp 3) rfl gv 0 (by simpa [Act.eval] using hk 3 (by decide)) cs ((HG3.out.keep hc.bel).range 0 cs (fun j v hv => by rw [Nat.zero_add]; exact hv)) _ Tryz.underlying37 rfl (by rw [HCL.out]; kernel_rfl)) rfl
    | 11, _ =>
      cases ho
      have e31 : IsV wq (aq.tmps.getD 39 undef) X := hdep 9 39 rfl (by kernel_rfl)
      have e32 : aq.tmps.getD 40 undef = .agg cs.toArray := hdep 10 40 rfl (by kernel_rfl)
      refine flow_fun 12 _ _ rfl (fun _ _ => by simp [go_sem]) #[aq.tmps.getD 39 undef, .agg cs.toArray] (by rw [show (#[Operand.tmp 39, Operand.tmp 40] : Array Operand).map aq.eval = #[aq.tmps.getD 39 undef, aq.tmps.getD 40 undef] from by simp [Act.eval], e32]) ?_
      refine (HSM.out _ _ wq e31 (HX.out.keep hc.bel)).mono ?_
      rintro e w' ⟨rfl, B⟩
      exact ⟨_, rfl, rfl, B⟩
    | 12, _ =>
      cases ho
      have e33 : aq.tmps.getD 41 undef = .bool true := hdep 11 41 rfl (by kernel_rfl)
      refine flow_value _ ?_ rfl
      have e33' : aq.tmps[41]?.getD undef = .bool true := by simpa using e33
      unfold execOp
      simp [e33', go_sem]
    | (k + 13), hk => exact absurd hk (by omega)
  · intro o h13 ho
    omega
  intro vf w10 hc hv
  have e25 : vf 7 = _ := hv 7 37 (by decide) rfl
  have e30 : vf 12 = _ := hv 12 42 (by decide) rfl
  clear hv
  simp only [List.take_succ_cons, List.take_zero, List.drop_succ_cons, List.drop_zero, putAll, Act.put, List.setIfInBounds_toArray, List.set_cons_succ, List.set_cons_zero]
  rw [e25, e30]
  clear e25 e30
  have HX1 := hid (HX1.out.keep hc.bel)
  have HG3 := hid (HG3.out.keep hc.bel)
  have HX5 := hid (HX5.out.keep hc.bel)
  have HX := hid (HX.out.keep hc.bel)
  have hx0 := HX1.out.cell H0.out
  have hx1 := HX1.out.cell H133.out
  have T10 := hid (below_more T9.out hc.bel (Nat.le_refl _))
  clear hc T9
  go_wp2_with ((with_reducible refine at_list' ?_); (refine wpList_wantV (by rfl) (.agg zs.toArray) (run_mid 50 (.tmp 5) rfl g5 0 rfl zs (HX5.out.range 0 zs (fun j v hv => by rw [Nat.zero_add]; exact hv)) _ Tryz.underlying50 rfl (by exact HT.out.size)) ?_))
  refine (HREF0.out w10).mono ?_
  rintro x w11 ⟨v11, rfl, q1, q2⟩
  have HQ := hid q1
  have T11 := hid (below_more T10.out q2 (Nat.le_refl _))
  clear q1 q2 hx0 hx1
  go_wp2_with ((with_reducible refine at_list' ?_); (refine wpList_buildNW (by rfl) 50 rfl zs.toArray HZB.out ?_))
  refine (HREF0.out w11).mono ?_
  rintro x w12 ⟨v12, rfl, q1, q2⟩
  have HQ2 := hid q1
  have HQ1 := hid (HQ.out.keep q2)
  have T12 := hid (below_more T11.out q2 (Nat.le_refl _))
  clear q1 q2
  go_wp2_with fail
  refine (HSMY.out X0 v11 v12 w12 HQ1.out HQ2.out).mono ?_
  rintro x w13 ⟨rfl, B13⟩
  have T13 := hid (below_more T12.out B13 (Nat.le_refl _))
  clear B13
  go_wp2
  go_ret
  exact ⟨rfl, T13.out⟩
set_option maxHeartbeats 8000000 in
theorem codecAttSl_bad2 (C zs : List Value) (ao bo : Option Addr) (c d : Nat) (l m : List Nat) (X : Vt) (BS : List Nat) (D : Dt) (w : World) (hT : Ty Tryz.prog 50 zs) (hl : C.length = zs.length) (h1 : C.toArray.all (·.oneCell') = true) (h0 : C[0]? = some (.slice ao l.length c)) (h133 : C[133]? = some (.slice bo m.length d)) (hn : l.length ≤ 500) (hm : m.length ≤ 500) (hIT : Two ao bo c d l m w) (hb8 : ∀ z ∈ BS, z < 256)
    (href : ∀ wq, Two ao bo c d l m wq → Calls Tryz.prog 13 #[.agg C.toArray] wq fun x w' => ∃ v, x = .returned v ∧ IsV w' v X ∧ Below wq.heap.size wq w')
    (henc : ∀ wq, Two ao bo c d l m wq → Calls Tryz.prog 14 #[.agg C.toArray] wq fun x w' => ∃ v, x = .returned v ∧ Row w' wq.heap.size v BS ∧ Below wq.heap.size wq w')
    (X0 : Vt) (hdec : ∀ v wq, IsB wq v BS → Calls Tryz.prog 15 #[v] wq fun x w' => x = .returned (.tuple #[.agg zs.toArray, .int .i64 3]) ∧ Below wq.heap.size wq w')
    (hz1 : zs.toArray.all (·.oneCell') = true) (hzb : Tryz.prog.built 50 [] = some zs.toArray) (href0 : ∀ wq, Calls Tryz.prog 13 #[.agg zs.toArray] wq fun x w' => ∃ v, x = .returned v ∧ IsV w' v X0 ∧ Below wq.heap.size wq w') (hle : l.length ≤ 32) (hgt : 32 < m.length)
    (hkd : ∀ wq, Calls Tryz.prog 16 #[] wq fun x w' => ∃ p, x = .returned (.pointer (some ⟨p, 0, none⟩)) ∧ DAt w' D p ∧ Below wq.heap.size wq w')
    (henv : ∀ p u wq, DAt wq D p → IsV wq u X → Calls Tryz.prog 10 #[.pointer (some ⟨p, 0, none⟩), u] wq fun x w' => ∃ v, x = .returned v ∧ Row w' wq.heap.size v BS ∧ Below wq.heap.size wq w')
    (hsm : ∀ Y u v wq, IsV wq u Y → IsV wq v Y → Calls Tryz.prog 12 #[u, v] wq fun x w' => x = .returned (.bool true) ∧ Below wq.heap.size wq w') :
    Calls Tryz.prog 4 #[.agg C.toArray] w fun e w' => e = .returned (.bool true) ∧ Below w.heap.size w w' := by
  have HT := hid hT
  have HL := hid hl
  have H1C := hid h1
  have H0 := hid h0
  have H133 := hid h133
  have HB8 := hid hb8
  have HREF := hid href
  have HENC := hid henc
  have HDEC := hid hdec
  have HKD := hid hkd
  have HENV := hid henv
  have HSM := hid (fun u v wq => hsm X u v wq)
  have HSMY := hid hsm
  have HIT0 := hid hIT
  have HW : Hid (decide (500 < l.length) = false) := hid (by simp; omega)
  have HWm : Hid (decide (500 < m.length) = false) := hid (by simp; omega)
  have HREF0 := hid href0
  have HZ1 := hid hz1
  have HZB := hid hzb
  have hd32 : decide ((l.length : Int) ≤ 32) = true := by simp; omega
  have hd33 : decide ((m.length : Int) ≤ 32) = false := by simp; omega
  clear href0 hz1 hzb
  clear hT hl h1 h0 h133 hb8 href henc hdec hkd henv hsm hIT
  go_enter Tryz.func4, Tryz.ntmps4
  go_wp2_with (refine wpList_box_c rfl 1 rfl (.tmp 0) rfl C rfl ?_; intro w1 H1 B1 S1)
  refine (awake_any w1).mono ?_
  rintro x w2 ⟨rfl, B2⟩
  have X2 := H1.keep B2
  have hx0 := X2.cell H0.out
  have hx1 := X2.cell H133.out
  have T2 := below_more B1 B2 (Nat.le_refl _)
  clear H1 B1 B2 S1
  go_wp2_with fail
  refine (wide_any l.length w2).mono ?_
  rintro x w2' ⟨rfl, rfl⟩
  rw [HW.out]
  go_wp2_with fail
  refine (wide_any m.length _).mono ?_
  rintro x w2'' ⟨rfl, rfl⟩
  rw [HWm.out]
  clear hx0 hx1
  go_wp2_with ((with_reducible refine at_list' ?_); (refine wpList_load_c HT.out rfl (.tmp 1) rfl w.heap.size C rfl HL.out X2 ?_))
  refine (HREF.out _ (HIT0.out.keep T2)).mono ?_
  rintro x w3 ⟨v3, rfl, q1, q2⟩
  obtain ⟨sb, sk, rfl, hV⟩ := q1
  obtain ⟨hone, hlen⟩ := valL_oneV hV
  obtain ⟨cs, hcs⟩ : ∃ cs, Same (valL X.num X.root sb sk) cs := ⟨_, ⟨rfl⟩⟩
  have hIV : ∀ wq, Below w3.heap.size w3 wq → IsV wq (.agg cs.toArray) X := fun wq hq => ⟨sb, sk, by rw [hcs.out], hV.keep hq⟩
  rw [hcs.out] at hone hlen ⊢
  have HIV := hid hIV
  have HONE := hid hone
  have HCL := hid hlen
  have X3 := X2.keep q2
  have T3 := below_more T2 q2 (Nat.le_refl _)
  have tyV : Ty Tryz.prog 37 (valL 0 (zeros 32) nilS nilS) := ⟨zeroVal, _, Tryz.underlying37, rfl⟩
  have HTV := hid tyV
  have hvl : (valL 0 (zeros 32) nilS nilS).length = 35 := valL_length _ _ _ _ (zeros_length 32)
  have HVL := hid (hlen.trans hvl.symm)
  clear X2 T2 q2 hV hone hlen hIV tyV hvl hcs
  go_wp2_with ((with_reducible refine at_list' ?_); first
    | (refine wpList_alloc_c HTV.out rfl 3 rfl rfl ?_; intro w4 H4 B4 S4)
    | (refine wpList_store_c HTV.out rfl (.tmp 3) (.tmp 22) rfl w3.heap.size cs rfl rfl HVL.out HONE.out _ H4 rfl ?_; intro w5 H5 O5; have B35 := hid (below_only B4 O5 (Nat.le_refl _)); have X5 := X3.keep B35.out)
    | (refine wpList_load_c HT.out rfl (.tmp 1) rfl w.heap.size C rfl HL.out X5 ?_))
  have T5 := below_more T3 B35.out (Nat.le_refl _)
  have hgv : w3.heap.size < w5.heap.size := H5.lt
  refine (HENC.out w5 (HIT0.out.keep T5)).mono ?_
  rintro x w6 ⟨v4, rfl, R6, B6⟩
  have HV6 := hid (R6.isB HB8.out)
  have X6 := X5.keep B6
  have V6 := H5.keep B6
  have T6 := below_more T5 B6 (Nat.le_refl _)
  have B36 := hid (below_more B35.out B6 (Nat.le_refl _))
  clear R6 B6 X5 H5 O5 H4 B4 S4 T5 X3 T3 B35
  go_wp2_with fail
  refine (HDEC.out v4 w6 HV6.out).mono ?_
  rintro x w7 ⟨rfl, B7⟩
  have V4 := HV6.out.keep B7
  have X7 := X6.keep B7
  have V7 := V6.keep B7
  have T7 := below_more T6 B7 (Nat.le_refl _)
  have B37 := hid (below_more B36.out B7 (Nat.le_refl _))
  clear X6 V6 T6 B36 HV6
  go_wp2_with ((with_reducible refine at_list' ?_); first
    | (refine wpList_alloc_c HT.out rfl 5 rfl rfl ?_; intro w8 H8 B8 S8)
    | (refine wpList_store_c HT.out rfl (.tmp 5) (.tmp 28) rfl w7.heap.size zs rfl rfl rfl HZ1.out _ H8 rfl ?_; intro w9 H9 O9; have B79 := hid (below_only B8 O9 (Nat.le_refl _))))
  have HV4 := hid (V4.keep B79.out)
  have HX1 := hid (X7.keep B79.out)
  have HG3 := hid (V7.keep B79.out)
  have T9 := hid (below_more T7 B79.out (Nat.le_refl _))
  have HIT := hid (HIT0.out.keep T9.out)
  have HX5 := hid H9
  have HX := hid (HIV.out w9 (below_more B37.out B79.out (Nat.le_refl _)))
  obtain ⟨gv, hgve⟩ : ∃ g, w3.heap.size = g := ⟨_, rfl⟩
  obtain ⟨g5, hg5e⟩ : ∃ g, w7.heap.size = g := ⟨_, rfl⟩
  rw [hgve] at HG3 ⊢
  rw [hg5e] at HX5 ⊢
  clear V4 X7 V7 T7 H8 B8 S8 H9 O9 B7 B79 B37 HIV hgve hg5e hgv
  refine wp_region_flowM 13 13 (fun i v wq => match i with
    | 0 => v = v4
    | 1 => v = .string (strOf BS)
    | 2 => ∃ p, v = .pointer (some ⟨p, 0, none⟩) ∧ DAt wq D p
    | 3 => v = .agg cs.toArray
    | 4 => IsB wq v BS
    | 5 => v = .string (strOf BS)
    | 6 => v = .bool false
    | 7 => v = .bool false
    | 8 => v = .agg C.toArray
    | 9 => IsV wq v X
    | 10 => v = .agg cs.toArray
    | 11 => v = .bool true
    | _ => v = .bool false) (by kernel_rfl) (by kernel_rfl) (fun _ d _ _ _ h => by cases d <;> exact h) ?_ ?_ ?_ ?_ ?_
  · intro i o g b hi ho hg v wq hv
    match i, hi with
    | 0, _ => cases ho; cases hg
    | 1, _ => cases ho; cases hg
    | 2, _ => cases ho; cases hg
    | 3, _ => cases ho; cases hg
    | 4, _ => cases ho; cases hg
    | 5, _ => cases ho; cases hg
    | 6, _ => cases ho; cases hg
    | 7, _ => cases ho; cases hg
    | 8, _ => cases ho; cases hg; exact hv
    | 9, _ => cases ho; cases hg; exact hv
    | 10, _ => cases ho; cases hg; exact hv
    | 11, _ => cases ho; cases hg; exact hv
    | 12, _ => cases ho; cases hg; exact hv
    | (k + 13), hk => exact absurd hk (by omega)
  · intro i v wq wq' hi hv hb
    match i, hi with
    | 0, _ => exact hv
    | 1, _ => exact hv
    | 2, _ => obtain ⟨p, e, h⟩ := hv; exact ⟨p, e, h.keep hb⟩
    | 3, _ => exact hv
    | 4, _ => exact hv.keep hb
    | 5, _ => exact hv
    | 6, _ => exact hv
    | 7, _ => exact hv
    | 8, _ => exact hv
    | 9, _ => exact hv.keep hb
    | 10, _ => exact hv
    | 11, _ => exact hv
    | 12, _ => exact hv
    | (k + 13), hk => exact absurd hk (by omega)
  · intro i o hi ho aq wq hc hk hdep
    match i, hi with
    | 0, _ =>
      cases ho
      exact flow_move (.tmp 4) rfl (hk 4 (by decide))
    | 1, _ =>
      cases ho
      have e22 : aq.tmps.getD 30 undef = v4 := hdep 0 30 rfl (by kernel_rfl)
      exact flow_value _ (rconv (.tmp 30) rfl (by rw [show aq.eval (.tmp 30) = v4 from by simpa [Act.eval] using e22]; exact HV4.out.keep hc.bel)) rfl
    | 2, _ =>
      cases ho
      refine flow_fun 16 _ _ rfl (fun _ _ => by simp [go_sem]) #[] (by simp) ?_
      refine (HKD.out wq).mono ?_
      rintro e w' ⟨p, rfl, h, B⟩
      exact ⟨_, rfl, ⟨p, rfl, h⟩, B⟩
    | 3, _ =>
      cases ho
      exact flow_value _ (run_mid 37 (.tmp 3) rfl gv 0 (by simpa [Act.eval] using hk 3 (by decide)) cs ((HG3.out.keep hc.bel).range 0 cs (fun j v hv => by rw [Nat.zero_add]; exact hv)) _ Tryz.underlying37 rfl (by rw [HCL.out]; kernel_rfl)) rfl
    | 4, _ =>
      cases ho
      obtain ⟨p, e24, hD⟩ : ∃ p, aq.tmps.getD 32 undef = .pointer (some ⟨p, 0, none⟩) ∧ DAt wq D p := hdep 2 32 rfl (by kernel_rfl)
      have e25 : aq.tmps.getD 33 undef = .agg cs.toArray := hdep 3 33 rfl (by kernel_rfl)
      refine flow_fun 10 _ _ rfl (fun _ _ => by simp [go_sem]) #[.pointer (some ⟨p, 0, none⟩), .agg cs.toArray] (by rw [show (#[Operand.tmp 32, Operand.tmp 33] : Array Operand).map aq.eval = #[aq.tmps.getD 32 undef, aq.tmps.getD 33 undef] from by simp [Act.eval], e24, e25]) ?_
      refine (HENV.out p _ wq hD (HX.out.keep hc.bel)).mono ?_
      rintro e w' ⟨v, rfl, R, B⟩
      exact ⟨_, rfl, R.isB HB8.out, B⟩
    | 5, _ =>
      cases ho
      have e26 : IsB wq (aq.tmps.getD 34 undef) BS := hdep 4 34 rfl (by kernel_rfl)
      exact flow_value _ (rconv (.tmp 34) rfl (by simpa [Act.eval] using e26)) rfl
    | 6, _ =>
      cases ho
      have e23 : aq.tmps.getD 31 undef = .string (strOf BS) := hdep 1 31 rfl (by kernel_rfl)
      have e27 : aq.tmps.getD 35 undef = .string (strOf BS) := hdep 5 35 rfl (by kernel_rfl)
      exact flow_value _ (rneqs (.tmp 31) (.tmp 35) rfl (by simpa [Act.eval] using e23) (by simpa [Act.eval] using e27)) rfl
    | 7, _ =>
      cases ho
      have e28 : aq.tmps.getD 36 undef = .bool false := hdep 6 36 rfl (by kernel_rfl)
      exact flow_move (.tmp 36) rfl (by simpa [Act.eval] using e28)
    | 8, _ =>
      cases ho
      exact flow_value _ (run_mid 50 (.tmp 1) rfl w.heap.size 0 (by simpa [Act.eval] using hk 1 (by decide)) C ((HX1.out.keep hc.bel).range 0 C (fun j v hv => by rw [Nat.zero_add]; exact hv)) _ Tryz.underlying50 rfl (by rw [HL.out]; exact HT.out.size)) rfl
    | 9, _ =>
      cases ho
      have e30 : aq.tmps.getD 38 undef = .agg C.toArray := hdep 8 38 rfl (by kernel_rfl)
      refine flow_fun 13 _ _ rfl (fun _ _ => by simp [go_sem]) #[.agg C.toArray] (by rw [show (#[Operand.tmp 38] : Array Operand).map aq.eval = #[aq.tmps.getD 38 undef] from by simp [Act.eval], e30]) ?_
      refine (HREF.out wq (HIT.out.keep hc.bel)).mono ?_
      rintro e w' ⟨v, rfl, h, B⟩
      exact ⟨_, rfl, h, B⟩
    | 10, _ =>
      cases ho
      exact flow_value _ (run_mid 37 (.tmp 3) rfl gv 0 (by simpa [Act.eval] using hk 3 (by decide)) cs ((HG3.out.keep hc.bel).range 0 cs (fun j v hv => by rw [Nat.zero_add]; exact hv)) _ Tryz.underlying37 rfl (by rw [HCL.out]; kernel_rfl)) rfl
    | 11, _ =>
      cases ho
      have e31 : IsV wq (aq.tmps.getD 39 undef) X := hdep 9 39 rfl (by kernel_rfl)
      have e32 : aq.tmps.getD 40 undef = .agg cs.toArray := hdep 10 40 rfl (by kernel_rfl)
      refine flow_fun 12 _ _ rfl (fun _ _ => by simp [go_sem]) #[aq.tmps.getD 39 undef, .agg cs.toArray] (by rw [show (#[Operand.tmp 39, Operand.tmp 40] : Array Operand).map aq.eval = #[aq.tmps.getD 39 undef, aq.tmps.getD 40 undef] from by simp [Act.eval], e32]) ?_
      refine (HSM.out _ _ wq e31 (HX.out.keep hc.bel)).mono ?_
      rintro e w' ⟨rfl, B⟩
      exact ⟨_, rfl, rfl, B⟩
    | 12, _ =>
      cases ho
      have e33 : aq.tmps.getD 41 undef = .bool true := hdep 11 41 rfl (by kernel_rfl)
      refine flow_value _ ?_ rfl
      have e33' : aq.tmps[41]?.getD undef = .bool true := by simpa using e33
      unfold execOp
      simp [e33', go_sem]
    | (k + 13), hk => exact absurd hk (by omega)
  · intro o h13 ho
    omega
  intro vf w10 hc hv
  have e25 : vf 7 = _ := hv 7 37 (by decide) rfl
  have e30 : vf 12 = _ := hv 12 42 (by decide) rfl
  clear hv
  simp only [List.take_succ_cons, List.take_zero, List.drop_succ_cons, List.drop_zero, putAll, Act.put, List.setIfInBounds_toArray, List.set_cons_succ, List.set_cons_zero]
  rw [e25, e30]
  clear e25 e30
  have HX1 := hid (HX1.out.keep hc.bel)
  have HG3 := hid (HG3.out.keep hc.bel)
  have HX5 := hid (HX5.out.keep hc.bel)
  have HX := hid (HX.out.keep hc.bel)
  have hx0 := HX1.out.cell H0.out
  have hx1 := HX1.out.cell H133.out
  have T10 := hid (below_more T9.out hc.bel (Nat.le_refl _))
  clear hc T9
  go_wp2_with ((with_reducible refine at_list' ?_); (refine wpList_wantV (by rfl) (.agg zs.toArray) (run_mid 50 (.tmp 5) rfl g5 0 rfl zs (HX5.out.range 0 zs (fun j v hv => by rw [Nat.zero_add]; exact hv)) _ Tryz.underlying50 rfl (by exact HT.out.size)) ?_))
  refine (HREF0.out w10).mono ?_
  rintro x w11 ⟨v11, rfl, q1, q2⟩
  have HQ := hid q1
  have T11 := hid (below_more T10.out q2 (Nat.le_refl _))
  clear q1 q2 hx0 hx1
  go_wp2_with ((with_reducible refine at_list' ?_); (refine wpList_buildNW (by rfl) 50 rfl zs.toArray HZB.out ?_))
  refine (HREF0.out w11).mono ?_
  rintro x w12 ⟨v12, rfl, q1, q2⟩
  have HQ2 := hid q1
  have HQ1 := hid (HQ.out.keep q2)
  have T12 := hid (below_more T11.out q2 (Nat.le_refl _))
  clear q1 q2
  go_wp2_with fail
  refine (HSMY.out X0 v11 v12 w12 HQ1.out HQ2.out).mono ?_
  rintro x w13 ⟨rfl, B13⟩
  have T13 := hid (below_more T12.out B13 (Nat.le_refl _))
  clear B13
  go_wp2
  go_ret
  exact ⟨rfl, T13.out⟩
end Go.Proofs.YtpaamhmighgjeaaGreat

/- Attestations taken: answer. -/
namespace Go.Proofs.YtpaamhmighgjeaaGreat
open Go.RowKit Go.Shelf
set_option linter.unusedVariables false
set_option maxRecDepth 100000

/-- An Attestation's cells; the zero one. -/
abbrev ix0 : List Value := atC (.slice none 0 0) vt0 (zeros 32)
theorem Tryz.ty31 : Ty Tryz.prog 31 ix0 := ⟨by kernel_rfl, _, Tryz.underlying31, rfl⟩
theorem ix0_one : ix0.toArray.all (·.oneCell') = true := by kernel_rfl
/-- What a good or a bad Indexed answers. -/
def ixA (t : Bool) (C : List Value) : Value := .tuple #[.agg (if t then C else ix0).toArray, .int .i64 (if t then 0 else 3)]

set_option maxHeartbeats 1000000 in
theorem answerIx_any (C : List Value) (t : Bool) (w : World) (hl : C.length = 133) (h1 : C.toArray.all (·.oneCell') = true) :
    Calls Tryz.prog 36 #[.agg C.toArray, .bool t] w fun x w' => x = .returned (ixA t C) ∧ Below w.heap.size w w' := by
  have HL := hid hl
  have HO := hid h1
  clear hl h1
  cases t with
  | true =>
    go_enter Tryz.func36, Tryz.ntmps36
    go_wp2_with (first
      | (refine wpList_box_c rfl 2 rfl (.tmp 0) rfl C rfl ?_; intro w1 H1 B1 S1)
      | (refine wpList_alloc_c Tryz.ty31 rfl 4 rfl rfl ?_; intro w2 H2 B2 S2; rw [S1] at H2 S2; rw [S1])
      | (refine wpList_load_c Tryz.ty31 rfl (.tmp 2) rfl w.heap.size C rfl (by rw [HL.out]; rfl) (H1.keep B2) ?_)
      | (refine wpList_store_c Tryz.ty31 rfl (.tmp 4) (.tmp 10) rfl (w.heap.size + 1) C rfl rfl (by rw [HL.out]; rfl) HO.out _ H2 rfl ?_; intro w3 H3 O3))
    refine bodyPost_ret (results_c Tryz.ty31 rfl _ w3 (w.heap.size + 1) C (.int .i64 0) rfl rfl H3 (by rw [HL.out]; rfl)) rfl ⟨rfl, ?_⟩
    exact below_only (B1.trans (B2.mono (by omega))) O3 (by omega)
  | false =>
    go_enter Tryz.func36, Tryz.ntmps36
    go_wp2_with (first
      | (refine wpList_box_c rfl 2 rfl (.tmp 0) rfl C rfl ?_; intro w1 H1 B1 S1)
      | (refine wpList_alloc_c Tryz.ty31 rfl 4 rfl rfl ?_; intro w2 H2 B2 S2; rw [S1] at H2 S2; rw [S1])
      | (refine wpList_alloc_c Tryz.ty31 rfl 6 rfl rfl ?_; intro w4 H4 B4 S4; rw [S2] at H4 S4; rw [S2])
      | (refine wpList_load_c Tryz.ty31 rfl (.tmp 6) rfl (w.heap.size + 1 + 1) ix0 rfl rfl H4 ?_)
      | (refine wpList_store_c Tryz.ty31 rfl (.tmp 4) (.tmp 9) rfl (w.heap.size + 1) ix0 rfl rfl rfl ix0_one _ (H2.keep B4) rfl ?_; intro w3 H3 O3))
    refine bodyPost_ret (results_c Tryz.ty31 rfl _ w3 (w.heap.size + 1) ix0 (.int .i64 3) rfl rfl H3 rfl) rfl ⟨rfl, ?_⟩
    exact below_only (B1.trans ((B2.mono (by omega)).trans (B4.mono (by omega)))) O3 (by omega)
end Go.Proofs.YtpaamhmighgjeaaGreat

/- Lists of numbers: Encode, pieces. -/
namespace Go.Proofs.YtpaamhmighgjeaaGreat
open Go.RowKit Go.Shelf
set_option linter.unusedVariables false
set_option linter.unusedSimpArgs false
set_option maxRecDepth 100000

theorem numF_succ (ns : List Nat) (t : Nat) (h : t < ns.length) : numF (ns.take t) ++ [(le (ns.getD t 0) 8, false)] = numF (ns.take (t + 1)) := by
  unfold numF
  rw [List.take_add_one, List.getElem?_eq_getElem h, List.getD_eq_getElem?_getD, List.getElem?_eq_getElem h, List.map_append]
  rfl
theorem numF_length (ns : List Nat) : (numF ns).length = ns.length := by simp [numF]
set_option maxHeartbeats 2000000 in
theorem lenc_any (limit : Int) (v : Value) (ns : List Nat) (w : World) (hN : IsN w v ns) (hl : ns.length ≤ 100000000) :
    Calls Tryz.prog 27 #[.agg (lsN limit).toArray, v] w fun x w' => ∃ u, x = .returned u ∧ Row w' w.heap.size u (bytesN ns) ∧ Below w.heap.size w w' := by
  obtain ⟨⟨nao, ncap, rfl, hcap, hmx, hc⟩, h64⟩ := hN
  have HC := hid hc
  have H64 := hid h64
  clear hc h64
  go_enter Tryz.func27, Tryz.ntmps27
  go_wp2_with ((with_reducible refine at_list' ?_); first
    | (refine wpList_box_c rfl 2 rfl (.tmp 0) rfl (lsN limit) rfl ?_; intro w1 H1 B1 S1; have hc0 := H1.cell (j := 0) (v := .int .i64 8) rfl))
  have W2 := wr_new w1
  have B2 : Below w1.heap.size w1 (w1.alloc (.cells #[.int .i64 0, .pointer none] 84)) := (Below.refl _ w1).alloc (Nat.le_refl _) _
  have S2 := World.size_alloc w1 (.cells #[.int .i64 0, .pointer none] 84)
  rw [S1] at W2
  generalize w1.alloc (.cells #[.int .i64 0, .pointer none] 84) = w2 at W2 B2 S2 ⊢
  have hg2 := W2.gt
  have W2' : Wr w2 (w.heap.size + 1) (more (fun _ => False) w2 w2) [] := W2.grow (fun k a => a.elim) (fun a => by rcases a with a | a; exact a; omega) (fun k a => by rcases a with a | a; exact a.elim; omega)
  have HX := hid (And.intro (H1.keep B2) (And.intro W2' (B1.trans (B2.mono (by omega)))))
  have s2 : w2.heap.size = w.heap.size + 2 := by omega
  clear H1 B1 S1 hc0 W2 W2' B2 S2
  go_loopw [7, 13] (fun _ i wr => ∃ t : Nat, t ≤ ns.length ∧ i = .int .i64 t ∧ Wr wr (w.heap.size + 1) (more (fun _ => False) w2 wr) (numF (ns.take t)) ∧ w2.grownBy wr (some (w.heap.size + 1))) (fun _ i _ => ns.length - (intOf i).toNat)
  case atStart => exact ⟨0, Nat.zero_le _, rfl, HX.out.2.1, grown_refl _ _⟩
  case round =>
    obtain ⟨t, ht, rfl, hW, hG⟩ := hrel
    have H0 := hid (And.intro hW hG)
    have hbl : Below w.heap.size w wr := ⟨hG.os.trans HX.out.2.2.os, hG.tape.trans HX.out.2.2.tape, hG.output.trans HX.out.2.2.output, by have := hG.size; omega, fun j hj => (hG.block j (by omega) (fun h => by have := Option.some.inj h; omega)).trans (HX.out.2.2.block j hj)⟩
    have hLs := HX.out.1.grown hG (by omega)
    have hgs := hG.size
    have HB := hid hbl
    clear hW hG hbl
    by_cases hlt : t < ns.length
    · obtain ⟨b, off, rfl, hcc⟩ := HC.out.resolve_left (by omega)
      have hct := cell_keep HB.out (hcc t hlt)
      have hn64 : ns.getD t 0 < 18446744073709551616 := by
        rw [List.getD_eq_getElem?_getD, List.getElem?_eq_getElem hlt]
        exact H64.out _ (List.getElem_mem hlt)
      have hsu := numF_succ ns t hlt
      obtain ⟨x, HX1⟩ : ∃ x, Hid (ns.getD t 0 = x) := ⟨_, hid rfl⟩
      rw [HX1.out] at hct hn64 hsu
      have hc0 := hLs.cell (j := 0) (v := .int .i64 8) rfl
      have HL := hid hLs
      have HSU := hid hsu
      have HP := hid (lput_any limit x wr hn64)
      clear hcc hLs hsu hn64
      go_wp2_with ((with_reducible refine at_list' ?_); first
        | (refine wpList_load_c Tryz.ty89 rfl (.tmp 2) rfl w.heap.size (lsN limit) rfl rfl HL.out ?_))
      refine HP.out.mono ?_
      rintro e w3 ⟨u, rfl, R, B3⟩
      have hI := R.isB (le_byte x 8)
      have s3 := B3.size
      have W3 := hid (Wr.start H0.out.1 B3 (by omega) (fun a => a) (fun k a => a.elim) hgs)
      have HF := hid (fixed_wr (w.heap.size + 1) _ _ u (le x 8) w3 W3.out hI (by rw [numF_length, List.length_take]; omega) (by rw [le_length]; omega))
      obtain ⟨ua, uc, hu, _⟩ := R.form
      subst hu
      have HG3 := hid (grown_below H0.out.2 B3)
      clear R B3 hI hct hc0 HP
      go_wp2_with fail
      refine HF.out.mono ?_
      rintro e w4 ⟨⟨u4, rfl⟩, q1, q2⟩
      have W4 := hid (Wr.next (show w.heap.size + 1 < w2.heap.size by omega) (fun a => a) (fun k a => a.elim) (Nat.le_trans hgs s3) q2.size q1)
      have G4 := hid (grown_trans HG3.out q2)
      clear q1 q2 HF
      go_wp2
      exact ⟨⟨t + 1, by omega, by simp, by rw [← HSU.out]; exact W4.out, G4.out⟩, by simp [intOf]; omega⟩
    · obtain rfl : t = ns.length := by omega
      rw [List.take_length] at H0
      have HB5 := hid (bytes_any (w.heap.size + 1) _ _ wr H0.out.1 (by rw [numF_length]; omega) (by rw [lenF_numF]; omega))
      clear hLs
      go_wp2_with fail
      refine HB5.out.mono ?_
      rintro e w5 ⟨u, rfl, R, B5⟩
      rw [cont_numF] at R
      have HY := hid (And.intro R B5)
      clear R B5 HB5
      go_wp2
      go_ret
      exact ⟨u, rfl, HY.out.1.base HB.out.size, below_more HB.out HY.out.2 (Nat.le_refl _)⟩

theorem split8_ok (v : Value) (bs : List Nat) (k : Nat) (limit : Int) (w : World) (hI : IsB w v bs) (hk : bs.length = k * 8) (hlen : bs.length ≤ 1099511627776) (hkl : (k : Int) ≤ limit) :
    Calls Tryz.prog 109 #[v, .int .i64 8, .int .i64 limit] w fun x w' => ∃ u bo bz, x = .returned (.tuple #[.func (.func 120) #[] #[.pointer (some ⟨bo, 0, none⟩), .pointer (some ⟨bz, 0, none⟩)], .int .i64 0]) ∧ w.heap.size ≤ bo ∧ w.heap.size ≤ bz ∧
      w'.heap[bo]? = some (.cells #[u] 39 (0, 0)) ∧ w'.heap[bz]? = some (.cells #[.int .i64 8] 3 (0, 0)) ∧ IsB w' u bs ∧ Below w.heap.size w w' := by
  have h := split_ok v bs 8 k limit w hI (by decide) hk hlen hkl (by decide)
  rw [show ((8 : Nat) : Int) = 8 from rfl] at h
  exact h
set_option maxHeartbeats 1000000 in
theorem pieces_ok (v : Value) (bs : List Nat) (k : Nat) (limit : Int) (w : World) (hI : IsB w v bs) (hk : bs.length = k * 8) (hlen : bs.length ≤ 1099511627776) (hkl : (k : Int) ≤ limit) :
    Calls Tryz.prog 85 #[.agg (lsN limit).toArray, v] w fun x w' => ∃ u bo bz, x = .returned (.tuple #[.func (.func 120) #[] #[.pointer (some ⟨bo, 0, none⟩), .pointer (some ⟨bz, 0, none⟩)], .int .i64 0]) ∧ w.heap.size ≤ bo ∧ w.heap.size ≤ bz ∧
      w'.heap[bo]? = some (.cells #[u] 39 (0, 0)) ∧ w'.heap[bz]? = some (.cells #[.int .i64 8] 3 (0, 0)) ∧ IsB w' u bs ∧ Below w.heap.size w w' := by
  have HD := hid (fun w' (hb : Below w.heap.size w w') => split8_ok v bs k limit w' (hI.keep hb) hk hlen hkl)
  obtain ⟨⟨ao, cap, rfl, _⟩, _⟩ := hI
  clear hk hlen hkl
  go_enter Tryz.func85, Tryz.ntmps85
  go_wp2_with ((with_reducible refine at_list' ?_); first
    | (refine wpList_box_c rfl 2 rfl (.tmp 0) rfl (lsN limit) rfl ?_; intro w1 H1 B1 S1; have hc0 := H1.cell (j := 0) (v := .int .i64 8) rfl; have hc1 := H1.cell (j := 1) (v := .int .i64 limit) rfl))
  have HX := hid B1
  have HD2 := hid (HD.out w1 B1)
  clear H1 B1 hc0 hc1 HD
  refine HD2.out.mono ?_
  rintro e w2 ⟨u, bo, bz, rfl, q1, q2, q3, q4, q5, q6⟩
  have HY := hid (And.intro q1 (And.intro q2 (And.intro q3 (And.intro q4 (And.intro q5 q6)))))
  clear q1 q2 q3 q4 q5 q6 HD2
  go_wp2
  refine bodyPost_ret (v := .tuple #[.func (.func 120) #[] #[.pointer (some ⟨bo, 0, none⟩), .pointer (some ⟨bz, 0, none⟩)], .int .i64 0]) (by simp [results, Tryz.results85, go_sem]) rfl ?_
  exact ⟨u, bo, bz, rfl, by have := HY.out.1; omega, by have := HY.out.2.1; omega, HY.out.2.2.1, HY.out.2.2.2.1, HY.out.2.2.2.2.1, below_more HX.out HY.out.2.2.2.2.2 (Nat.le_refl _)⟩
set_option maxHeartbeats 1000000 in
theorem pieces_bad (v : Value) (bs : List Nat) (limit : Int) (w : World) (hI : IsB w v bs) (hlen : bs.length ≤ 1099511627776) (hbad : ((bs.length : Int).tmod 8 ≠ 0) ∨ limit < (bs.length : Int).tdiv 8) :
    Calls Tryz.prog 85 #[.agg (lsN limit).toArray, v] w fun x w' => x = .returned (.tuple #[.nilFunc, .int .i64 3]) ∧ Below w.heap.size w w' := by
  have HD := hid (fun w' (hb : Below w.heap.size w w') => split_bad v bs 8 limit w' (hI.keep hb) hlen (by decide) (.inr hbad))
  obtain ⟨⟨ao, cap, rfl, _⟩, _⟩ := hI
  go_enter Tryz.func85, Tryz.ntmps85
  go_wp2_with ((with_reducible refine at_list' ?_); first
    | (refine wpList_box_c rfl 2 rfl (.tmp 0) rfl (lsN limit) rfl ?_; intro w1 H1 B1 S1; have hc0 := H1.cell (j := 0) (v := .int .i64 8) rfl; have hc1 := H1.cell (j := 1) (v := .int .i64 limit) rfl))
  have HX := hid B1
  have HD2 := hid (HD.out w1 B1)
  clear H1 B1 hc0 hc1 HD
  refine HD2.out.mono ?_
  rintro e w2 ⟨rfl, q6⟩
  have HY := hid q6
  clear q6 HD2
  go_wp2
  refine bodyPost_ret (v := .tuple #[.nilFunc, .int .i64 3]) (by simp [results, Tryz.results85, go_sem]) rfl ?_
  exact ⟨rfl, below_more HX.out HY.out (Nat.le_refl _)⟩
end Go.Proofs.YtpaamhmighgjeaaGreat

/- Structs in memory, inside a fence; how List[uint64].Decode's variables stand. -/
namespace Go.Proofs.YtpaamhmighgjeaaGreat
open Go.RowKit Go.Shelf
set_option linter.unusedVariables false
set_option linter.unusedSimpArgs false
set_option maxRecDepth 100000

section
variable {F : Fence} {n : Nat} {P : Program} {w : World} {ops : Array Oper} {rest : List Oper} {o : Oper} {a : Act} {Q : Exit → Act → World → Prop} {t : TypeId} {zs : List Value}
theorem wpListIn_run {w' : World} (hgd : o.guard = none) (ha : o.about P w a.eval = none) (hd : ∀ c, o.op ≠ .defer c) (v : Value) (hrun : (execOp a.eval o).run P w = .ok (.value v) w') (h : wpListIn F n P ops Q rest (a.put o.dst v) w') :
    wpListIn F n P ops Q (o :: rest) a w := by
  refine wpListIn_plain hgd fun K hK => ?_
  unfold Oper.wpIn
  refine ⟨fun f hf => (by rw [ha] at hf; cases hf), ?_⟩
  rw [Oper.semAt_plain F _ _ hd, hrun]
  exact hK _ _ h
theorem wpListIn_box_c (hgd : o.guard = none) (d : Tmp) (hdst : o.dst = some d) (x : Operand) (ho : o.op = .box t x) (cs : List Value) (hx : a.eval x = .agg cs.toArray)
    (h : ∀ w', HasC w' w.heap.size t cs → Below w.heap.size w w' → w'.heap.size = w.heap.size + 1 → wpListIn F n P ops Q rest (a.put (some d) (.pointer (some ⟨w.heap.size, 0, none⟩))) w') :
    wpListIn F n P ops Q (o :: rest) a w := by
  refine wpListIn_run hgd (by simp [Oper.about, ho]) (by rw [ho]; intro c hc; cases hc) (.pointer (some ⟨w.heap.size, 0, none⟩)) (w' := w.alloc (.cells cs.toArray t)) ?_ ?_
  · simp only [execOp, ho, hx, Instr.box]
    simp [newVar, newRow, newObj, Value.cells, go_sem]
    rfl
  · rw [hdst]
    exact h _ (heap_alloc_new w _) ((Below.refl _ _).alloc (Nat.le_refl _) _) (by simp)
theorem wpListIn_load_c (hT : Ty P t zs) (hgd : o.guard = none) (x : Operand) (ho : o.op = .load t x) (g : Nat) (cs : List Value) (hx : a.eval x = .pointer (some ⟨g, 0, none⟩)) (hl : cs.length = zs.length) (hg : HasC w g t cs)
    (h : wpListIn F n P ops Q rest (a.put o.dst (.agg cs.toArray)) w) : wpListIn F n P ops Q (o :: rest) a w := by
  obtain ⟨d, hu, hd⟩ := hT.row
  have hr := run_loadVar_mid (P := P) w g 0 t cs d (hg.range 0 cs (fun j v hv => by rw [Nat.zero_add]; exact hv)) hu hd (by rw [hT.size, hl])
  refine wpListIn_run hgd (by simp [Oper.about, ho]) (by rw [ho]; intro c hc; cases hc) (.agg cs.toArray) (w' := w) ?_ h
  unfold execOp
  simp only [ho, hx, Instr.loadAt, Instr.sureAddr, Sem.run_bind, Sem.run_pure, Result.andThen_ok, hr]
end
theorem row_kept {W W' : World} {row : Option Nat} {b : Nat} {c : Array Value} {t : TypeId} {z : Nat × Nat} (h : W.heap[b]? = some (.cells c t z)) (hg : W.grownBy W' row) (hr : ∀ r, row = some r → ∃ o : Obj, W.heap[r]? = some o ∧ o.isCells = false) : W'.heap[b]? = some (.cells c t z) := by
  refine (hg.block b (Array.getElem?_eq_some_iff.1 h).1 (fun e => ?_)).trans h
  obtain ⟨o, ho, hc⟩ := hr b e.symm
  rw [h] at ho
  cases ho
  cases hc
theorem keepsF_only {B g : Nat} {W V : World} {c : Array Value} {t : TypeId} {f : Nat × Nat} (h : W.heap[g]? = some (.cells c t f)) (ho : Only g W V) : KeepsFrom B W V :=
  ⟨by rw [ho.size]; exact Nat.le_refl _, fun k o _ hk hc => by
    by_cases e : k = g
    · subst e; rw [h] at hk; cases hk; cases hc
    · exact (ho.block k e).trans hk⟩
theorem keepsF_below {B : Nat} {W V : World} (h : Below W.heap.size W V) : KeepsFrom B W V := ⟨h.size, fun k o _ hk _ => (h.block k (Array.getElem?_eq_some_iff.1 hk).1).trans hk⟩
theorem keepsF_grown {B : Nat} {W V : World} {row : Option Nat} (h : W.grownBy V row) (hr : ∀ r, row = some r → ∃ c t f, W.heap[r]? = some (.cells c t f)) : KeepsFrom B W V :=
  ⟨h.size, fun k o _ hk ho => (h.block k (Array.getElem?_eq_some_iff.1 hk).1 (fun e => by
    obtain ⟨c, t, f, hc⟩ := hr k e.symm
    rw [hk] at hc
    cases hc
    cases ho)).trans hk⟩
theorem own_cells {W : World} {base : Nat} {e : TypeId} {size n : Nat} {v : Value} {xs : List Value} (h : W.ownsRow base e size v n xs) : ∀ r, v.ownBlock = some r → base ≤ r ∧ ∃ c, W.heap[r]? = some (.cells c e (0, 0)) := by
  intro r hr
  rcases h.2 with ⟨rfl, _⟩ | ⟨g, cap, cur, rfl, hb, hc, _⟩
  · cases hr
  · cases hr
    exact ⟨hb, cur, hc⟩
theorem own_kept {W V : World} {base : Nat} {e : TypeId} {size n : Nat} {v : Value} {xs : List Value} (h : W.ownsRow base e size v n xs) (k : ∀ r, v.ownBlock = some r → V.heap[r]? = W.heap[r]?) : V.ownsRow base e size v n xs := by
  refine ⟨h.1, ?_⟩
  rcases h.2 with h2 | ⟨g, cap, cur, rfl, hb, hc, h3⟩
  · exact .inl h2
  · exact .inr ⟨g, cap, cur, rfl, hb, (k g rfl).trans hc, h3⟩
/-- The numbers as cells. -/
def n64 (ns : List Nat) : List Value := ns.map fun n : Nat => Value.int .u64 (n : Int)
/-- How the variables of Decode stand. -/
structure DI (w : World) (A B : Nat) (limit : Int) (u : Value) (ns : List Nat) (V : World) : Prop where
  ls : HasC V w.heap.size 89 (lsN limit)
  r4 : HasC V (w.heap.size + 1) 22 [.slice none 0 0]
  r5 : HasC V (w.heap.size + 2) 41 [.int .i64 0]
  al : HasC V A 22 [u]
  ow : V.ownsRow B 23 1 u ns.length (n64 ns)
  be : Below w.heap.size w V
  ha : w.heap.size + 2 < A
  hb : A < B
theorem DI.same {w : World} {A B : Nat} {limit : Int} {u : Value} {ns : List Nat} {V V' : World} (h : DI w A B limit u ns V) (hb : Below w.heap.size w V')
    (k : ∀ b, (b = w.heap.size ∨ b = w.heap.size + 1 ∨ b = w.heap.size + 2 ∨ b = A) → V'.heap[b]? = V.heap[b]?) (ko : ∀ r, u.ownBlock = some r → V'.heap[r]? = V.heap[r]?) : DI w A B limit u ns V' :=
  ⟨(k _ (by simp)).trans h.ls, (k _ (by simp)).trans h.r4, (k _ (by simp)).trans h.r5, (k _ (by simp)).trans h.al, own_kept h.ow ko, hb, h.ha, h.hb⟩
theorem DI.keep {w : World} {A B : Nat} {limit : Int} {u : Value} {ns : List Nat} {V V' : World} (h : DI w A B limit u ns V) (hb : Below V.heap.size V V') : DI w A B limit u ns V' :=
  h.same (below_more h.be hb (Nat.le_refl _)) (fun b k => hb.block b (by
    rcases k with rfl | rfl | rfl | rfl
    · exact h.ls.lt
    · exact h.r4.lt
    · exact h.r5.lt
    · exact h.al.lt)) (fun r hr => hb.block r (by obtain ⟨_, c, hc⟩ := own_cells h.ow r hr; exact (Array.getElem?_eq_some_iff.1 hc).1))
theorem DI.own {w : World} {A B : Nat} {limit : Int} {u : Value} {ns : List Nat} {V V' : World} {row : Option Nat} (h : DI w A B limit u ns V) (hg : V.grownBy V' row) (hr : ∀ r, row = some r → w.heap.size ≤ r ∧ ∃ o : Obj, V.heap[r]? = some o ∧ o.isCells = false) : DI w A B limit u ns V' := by
  have hk : ∀ (b : Nat) (c : Array Value) (t : TypeId) (f : Nat × Nat), V.heap[b]? = some (Obj.cells c t f) → V'.heap[b]? = V.heap[b]? := fun b c t f hc => (row_kept (c := c) (t := t) (z := f) hc hg (fun r e => (hr r e).2)).trans hc.symm
  refine h.same (h.be.grown hg (by have := h.be.size; omega) (fun k e => (hr k e).1)) (fun b k => ?_) (fun r e => ?_)
  · rcases k with rfl | rfl | rfl | rfl
    · exact hk _ _ _ _ h.ls
    · exact hk _ _ _ _ h.r4
    · exact hk _ _ _ _ h.r5
    · exact hk _ _ _ _ h.al
  · obtain ⟨_, c, hc⟩ := own_cells h.ow r e
    exact hk _ _ _ _ hc
/-- A number more, and the variable set. -/
theorem DI.step {w : World} {A B : Nat} {limit : Int} {u v : Value} {ns : List Nat} {x : Nat} {V V' : World} (h : DI w A B limit u ns V) (hg : V.grownBy V' u.ownBlock) (hn : V'.ownsRow B 23 1 v (ns.length + 1) (n64 ns ++ [.int .u64 (x : Nat)])) :
    DI w A B limit v (ns ++ [x]) (V'.setCell ⟨A, 0, none⟩ v) := by
  have hA := h.ha
  have hB := h.hb
  have hu : ∀ b, b ≤ A → b < V.heap.size → V'.heap[b]? = V.heap[b]? := fun b hb hl => hg.block b hl (fun e => by have := (own_cells h.ow b e.symm).1; omega)
  have o : ∀ b, b ≠ A → (V'.setCell ⟨A, 0, none⟩ v).heap[b]? = V'.heap[b]? := fun b hb => heap_setCell_other V' ⟨A, 0, none⟩ b v hb
  have ha : HasC V' A 22 [u] := (hu A (Nat.le_refl _) h.al.lt).trans h.al
  refine ⟨(o _ (by omega)).trans ((hu _ (by omega) h.ls.lt).trans h.ls), (o _ (by omega)).trans ((hu _ (by omega) h.r4.lt).trans h.r4), (o _ (by omega)).trans ((hu _ (by omega) h.r5.lt).trans h.r5), ?_, ?_, ?_, hA, hB⟩
  · unfold HasC at ha ⊢
    simp [World.setCell, Array.getElem?_modify, ha]
  · have e : n64 (ns ++ [x]) = n64 ns ++ [.int .u64 (x : Nat)] := by simp [n64]
    rw [e, List.length_append, List.length_singleton]
    exact own_kept hn (fun r hr => o r (fun e => by have := (own_cells hn r hr).1; omega))
  · have hb1 : Below w.heap.size w V' := h.be.grown hg (by have := h.be.size; omega) (fun k e => by have := (own_cells h.ow k e).1; omega)
    exact hb1.setCell (p := ⟨A, 0, none⟩) (by show w.heap.size ≤ A; omega) v
/-- What a round keeps besides. -/
theorem DI.kp {w : World} {A B bo bz : Nat} {limit : Int} {u v : Value} {ns : List Nat} {V0 V V' : World} {x : Value × List Nat} (h : DI w A B limit u ns V) (h0 : Below V0.heap.size V0 V) (hg : V.grownBy V' u.ownBlock) (hbo : bo < A) (hbz : bz < A) (hA0 : A < V0.heap.size)
    (hu0 : ∀ r, u.ownBlock = some r → r < V0.heap.size) :
    KeepsFrom B V0 (V'.setCell ⟨A, 0, none⟩ v) ∧ KP 8 bo bz x V0 (V'.setCell ⟨A, 0, none⟩ v) := by
  have hA := h.ha
  have hB := h.hb
  have ha : HasC V' A 22 [u] := (hg.block A h.al.lt (fun e => by have := (own_cells h.ow A e.symm).1; omega)).trans h.al
  have o : ∀ b, b ≠ A → (V'.setCell ⟨A, 0, none⟩ v).heap[b]? = V'.heap[b]? := fun b hb => heap_setCell_other V' ⟨A, 0, none⟩ b v hb
  refine ⟨((keepsF_below h0).trans (keepsF_grown hg (fun r e => by obtain ⟨_, c, hc⟩ := own_cells h.ow r e; exact ⟨c, _, _, hc⟩))).trans (keepsF_only ha (Only.setCell V' A 0 v)), fun b hb cs t f e => ?_, fun g off e cur hc => ⟨cur, ?_, rfl, fun _ _ => rfl⟩⟩
  · have hlt : b < A := by rcases hb with rfl | rfl <;> assumption
    have hl := (Array.getElem?_eq_some_iff.1 e).1
    rw [o b (by omega), hg.block b (by have := h0.size; omega) (fun e' => by have := (own_cells h.ow b e'.symm).1; omega), h0.block b hl]
    exact e
  · have hl := (Array.getElem?_eq_some_iff.1 hc).1
    have hcV : V.heap[g]? = some (.cells cur 5 (0, 0)) := (h0.block g hl).trans hc
    have n1 : g ≠ A := fun e => by
      subst e
      have h2 := h.al
      unfold HasC at h2
      rw [hcV] at h2
      cases h2
    have n2 : u.ownBlock ≠ some g := fun e => by
      obtain ⟨_, c, h2⟩ := own_cells h.ow g e
      rw [hcV] at h2
      cases h2
    rw [o g n1, hg.block g (by have := h0.size; omega) (fun e' => n2 e'.symm)]
    exact hcV
theorem own_base {W : World} {base b' : Nat} {e : TypeId} {size n : Nat} {v : Value} {xs : List Value} (h : W.ownsRow base e size v n xs) (hb : b' ≤ base) : W.ownsRow b' e size v n xs := by
  refine ⟨h.1, ?_⟩
  rcases h.2 with h2 | ⟨g, cap, cur, rfl, hg, hc, h3⟩
  · exact .inl h2
  · exact .inr ⟨g, cap, cur, rfl, Nat.le_trans hb hg, hc, h3⟩
/-- The end: the results are set, the mark is taken. -/
theorem DI.fin {w : World} {A B : Nat} {limit : Int} {u : Value} {ns : List Nat} {V : World} (h : DI w A B limit u ns V) (hK : V.heap[B]? = some (.deferred (some []))) :
    ((V.setCell ⟨w.heap.size + 1, 0, none⟩ u).setCell ⟨w.heap.size + 2, 0, none⟩ (.int .i64 0)).heap[B]? = some (.deferred (some [])) ∧
    HasC (((V.setCell ⟨w.heap.size + 1, 0, none⟩ u).setCell ⟨w.heap.size + 2, 0, none⟩ (.int .i64 0)).putObj B (.deferred none)) (w.heap.size + 1) 22 [u] ∧
    HasC (((V.setCell ⟨w.heap.size + 1, 0, none⟩ u).setCell ⟨w.heap.size + 2, 0, none⟩ (.int .i64 0)).putObj B (.deferred none)) (w.heap.size + 2) 41 [.int .i64 0] ∧
    (((V.setCell ⟨w.heap.size + 1, 0, none⟩ u).setCell ⟨w.heap.size + 2, 0, none⟩ (.int .i64 0)).putObj B (.deferred none)).ownsRow w.heap.size 23 1 u ns.length (n64 ns) ∧
    Below w.heap.size w (((V.setCell ⟨w.heap.size + 1, 0, none⟩ u).setCell ⟨w.heap.size + 2, 0, none⟩ (.int .i64 0)).putObj B (.deferred none)) := by
  have hA := h.ha
  have hB := h.hb
  have o1 : ∀ b, b ≠ w.heap.size + 1 → (V.setCell ⟨w.heap.size + 1, 0, none⟩ u).heap[b]? = V.heap[b]? := fun b hb => heap_setCell_other V ⟨w.heap.size + 1, 0, none⟩ b u hb
  have c1 : HasC (V.setCell ⟨w.heap.size + 1, 0, none⟩ u) (w.heap.size + 1) 22 [u] := by
    have := h.r4
    unfold HasC at this ⊢
    simp [World.setCell, Array.getElem?_modify, this]
  have c5 : HasC (V.setCell ⟨w.heap.size + 1, 0, none⟩ u) (w.heap.size + 2) 41 [.int .i64 0] := (o1 _ (by omega)).trans h.r5
  have b1 : Below w.heap.size w (V.setCell ⟨w.heap.size + 1, 0, none⟩ u) := h.be.setCell (p := ⟨w.heap.size + 1, 0, none⟩) (by show w.heap.size ≤ w.heap.size + 1; omega) u
  have w1 : (V.setCell ⟨w.heap.size + 1, 0, none⟩ u).ownsRow B 23 1 u ns.length (n64 ns) := own_kept h.ow (fun r hr => o1 r (fun e => by have := (own_cells h.ow r hr).1; omega))
  have k1 := (o1 B (by omega)).trans hK
  generalize V.setCell ⟨w.heap.size + 1, 0, none⟩ u = V1 at *
  have o2 : ∀ b, b ≠ w.heap.size + 2 → (V1.setCell ⟨w.heap.size + 2, 0, none⟩ (.int .i64 0)).heap[b]? = V1.heap[b]? := fun b hb => heap_setCell_other V1 ⟨w.heap.size + 2, 0, none⟩ b _ hb
  have c4' : HasC (V1.setCell ⟨w.heap.size + 2, 0, none⟩ (.int .i64 0)) (w.heap.size + 1) 22 [u] := (o2 _ (by omega)).trans c1
  have c5' : HasC (V1.setCell ⟨w.heap.size + 2, 0, none⟩ (.int .i64 0)) (w.heap.size + 2) 41 [.int .i64 0] := by
    unfold HasC at c5 ⊢
    simp [World.setCell, Array.getElem?_modify, c5]
  have b2 : Below w.heap.size w (V1.setCell ⟨w.heap.size + 2, 0, none⟩ (.int .i64 0)) := b1.setCell (p := ⟨w.heap.size + 2, 0, none⟩) (by show w.heap.size ≤ w.heap.size + 2; omega) _
  have w2 : (V1.setCell ⟨w.heap.size + 2, 0, none⟩ (.int .i64 0)).ownsRow B 23 1 u ns.length (n64 ns) := own_kept w1 (fun r hr => o2 r (fun e => by have := (own_cells w1 r hr).1; omega))
  have k2 := (o2 B (by omega)).trans k1
  generalize V1.setCell ⟨w.heap.size + 2, 0, none⟩ (.int .i64 0) = V2 at *
  have o3 : ∀ b, b ≠ B → (V2.putObj B (.deferred none)).heap[b]? = V2.heap[b]? := fun b hb => World.putObj_heap_other hb
  refine ⟨k2, (o3 _ (by omega)).trans c4', (o3 _ (by omega)).trans c5', own_base (own_kept w2 (fun r hr => o3 r (fun e => ?_))) (by omega), b2.trans (belowK_b (w := w) (Nat.le_refl _) _ B _ (.deferred none) (by omega) k2 rfl rfl)⟩
  obtain ⟨_, c, hc⟩ := own_cells w2 r hr
  rw [e, k2] at hc
  cases hc
theorem results_cc {fn : Func} {p q : Tmp} (hf : fn.results = #[.cell p 22, .cell q 41]) (tmps : Array Value) (w : World) (g h : Nat) (u v : Value) (hp : tmps.getD p undef = .pointer (some ⟨g, 0, none⟩)) (hq : tmps.getD q undef = .pointer (some ⟨h, 0, none⟩)) (h1 : HasC w g 22 [u]) (h2 : HasC w h 41 [v]) :
    (results fn tmps).run Tryz.prog w = .ok (.tuple #[u, v]) w := by
  have hp' : tmps[p]?.getD undef = .pointer (some ⟨g, 0, none⟩) := by simpa using hp
  have hq' : tmps[q]?.getD undef = .pointer (some ⟨h, 0, none⟩) := by simpa using hq
  have hc1 := h1.cell (j := 0) (v := u) rfl
  have hc2 := h2.cell (j := 0) (v := v) rfl
  simp only [results, hf]
  simp [hp', hq', asAddr, go_sem, hc1, hc2]
end Go.Proofs.YtpaamhmighgjeaaGreat

/- Lists of numbers: Decode. -/
namespace Go.Proofs.YtpaamhmighgjeaaGreat
open Go.RowKit Go.Shelf
set_option linter.unusedVariables false
set_option linter.unusedSimpArgs false
set_option maxRecDepth 100000
attribute [local go_sem] Oper.semAt_some

theorem inf64 : ∃ i, Tryz.prog.info? 23 = some i ∧ i.zero = some (.int .u64 0) ∧ i.size = 1 ∧ i.bytes = 8 := by
  have hz : (Tryz.prog.info? 23).map (fun i => (i.zero, i.size, i.bytes)) = some (some (.int .u64 0), 1, 8) := by kernel_rfl
  cases hq : Tryz.prog.info? 23 with
  | none => simp [hq] at hz
  | some i => simp [hq] at hz; exact ⟨i, rfl, hz.1, hz.2.1, hz.2.2⟩
theorem own_slice {W : World} {base : Nat} {e : TypeId} {size n : Nat} {v : Value} {xs : List Value} (h : W.ownsRow base e size v n xs) : ∃ a m c, v = .slice a m c := by
  rcases h.2 with ⟨rfl, _⟩ | ⟨g, cap, cur, rfl, _⟩
  · exact ⟨_, _, _, rfl⟩
  · exact ⟨_, _, _, rfl⟩
set_option maxHeartbeats 4000000 in
theorem ldec_in (ao : Option Addr) (cap : Nat) (bs : List Nat) (k : Nat) (limit : Int) (w : World) (hI : IsB w (.slice ao bs.length cap) bs) (hk : bs.length = k * 8) (hlen : bs.length ≤ 1099511627776) (hkl : (k : Int) ≤ limit) :
    CallsIn Fence.wide 5 Tryz.prog 37 #[.agg (lsN limit).toArray, .slice ao bs.length cap] w fun e w' => ∃ u, e = .returned (.tuple #[u, .int .i64 0]) ∧ w'.ownsRow w.heap.size 23 1 u k (n64 ((pcs bs 8 k).map tk)) ∧ Below w.heap.size w w' := by
  have HD := hid (fun w' (hb : Below w.heap.size w w') => pieces_ok (.slice ao bs.length cap) bs k limit w' (hI.keep hb) hk hlen hkl)
  have HK := hid (And.intro hk (And.intro hlen hkl))
  clear hk hlen hkl
  refine callsIn_of_wp_marks Tryz.func37 rfl trivial ?_ rfl
  simp only [Tryz.ntmps37, List.size_toArray, List.length_cons, List.length_nil, Nat.reduceAdd, Nat.reduceSub, Array.replicate_succ, Array.replicate_zero, List.push_toArray, List.append_toArray, List.nil_append, List.cons_append]
  gi_wp2_with (first
    | (refine wpListIn_box_c rfl 2 rfl (.tmp 0) rfl (lsN limit) rfl ?_; intro w1 H1 B1 S1)
    | (refine wpListIn_load_c Tryz.ty89 rfl (.tmp 2) rfl w.heap.size (lsN limit) rfl rfl (H1.keep (((Below.refl _ w1).alloc (Nat.le_refl _) _).alloc (by simp) _)) ?_))
  have BA : Below w.heap.size w ((w1.alloc (.cells #[.slice none 0 0] 22)).alloc (.cells #[.int .i64 0] 41)) := (B1.alloc (by omega) _).alloc (by simp; omega) _
  have H4 : HasC ((w1.alloc (.cells #[.slice none 0 0] 22)).alloc (.cells #[.int .i64 0] 41)) (w.heap.size + 1) 22 [.slice none 0 0] := by
    have h := heap_alloc_new w1 (.cells #[.slice none 0 0] 22)
    rw [S1] at h
    exact HasC.keep (t := 22) (cs := [.slice none 0 0]) h ((Below.refl _ _).alloc (Nat.le_refl _) _)
  have H5 : HasC ((w1.alloc (.cells #[.slice none 0 0] 22)).alloc (.cells #[.int .i64 0] 41)) (w.heap.size + 2) 41 [.int .i64 0] := by
    have h := heap_alloc_new (w1.alloc (.cells #[.slice none 0 0] 22)) (.cells #[.int .i64 0] 41)
    rw [World.size_alloc, S1] at h
    exact h
  have H0 := H1.keep (((Below.refl _ w1).alloc (Nat.le_refl _) (.cells #[.slice none 0 0] 22)).alloc (by simp) (.cells #[.int .i64 0] 41))
  have S3 : ((w1.alloc (.cells #[.slice none 0 0] 22)).alloc (.cells #[.int .i64 0] 41)).heap.size = w.heap.size + 3 := by simp [S1]
  clear H1 B1 S1
  generalize (w1.alloc (.cells #[.slice none 0 0] 22)).alloc (.cells #[.int .i64 0] 41) = w2 at BA H4 H5 H0 S3 ⊢
  simp only [Nat.add_assoc, Nat.reduceAdd]
  have HP := hid (HD.out w2 BA)
  have HX := hid (And.intro H0 (And.intro H4 (And.intro H5 BA)))
  clear H0 H4 H5 BA HD
  refine ⟨trivial, ?_⟩
  refine (callsIn_wide.2 HP.out).mono ?_
  rintro e w3 ⟨u, bo, bz, rfl, q1, q2, q3, q4, q5, B3⟩
  have s3 := B3.size
  have HQ := hid (And.intro q3 (And.intro q4 q5))
  have HX3 := hid (And.intro (HX.out.1.keep B3) (And.intro (HX.out.2.1.keep B3) (And.intro (HX.out.2.2.1.keep B3) (below_more HX.out.2.2.2 B3 (Nat.le_refl _)))))
  clear q3 q4 q5 B3 HP HX
  gi_wp2_with fail
  have hA := heap_alloc_new w3 (.cells #[.slice none 0 0] 22)
  have BA : Below w3.heap.size w3 (w3.alloc (.cells #[.slice none 0 0] 22)) := (Below.refl _ _).alloc (Nat.le_refl _) _
  have SA : (w3.alloc (.cells #[.slice none 0 0] 22)).heap.size = w3.heap.size + 1 := World.size_alloc _ _
  generalize w3.alloc (.cells #[.slice none 0 0] 22) = wA at hA BA SA ⊢
  have D0 : DI w w3.heap.size wA.heap.size limit (.slice none 0 0) [] wA := ⟨HX3.out.1.keep BA, HX3.out.2.1.keep BA, HX3.out.2.2.1.keep BA, hA, World.ownsRow_nil _ _ _ _, below_more HX3.out.2.2.2 BA (Nat.le_refl _), by omega, by omega⟩
  have lbo : bo < w3.heap.size := (Array.getElem?_eq_some_iff.1 HQ.out.1).1
  have lbz : bz < w3.heap.size := (Array.getElem?_eq_some_iff.1 HQ.out.2.1).1
  have HV := hid (And.intro ((BA.block _ lbo).trans HQ.out.1) (And.intro ((BA.block _ lbz).trans HQ.out.2.1) (HQ.out.2.2.keep BA)))
  have HP := hid (fun l J Jx V (hV : Below wA.heap.size wA V) hJ hY h0 => splitIt_in 4 (by decide) l bo bz bs 8 k (by decide) HK.out.1 HK.out.2.1 u J Jx V ((hV.block _ (by omega)).trans HV.out.1) ((hV.block _ (by omega)).trans HV.out.2.1) (HV.out.2.2.keep hV) hJ hY h0)
  have HD0 := hid D0
  clear D0 hA BA HX3 HQ
  refine wpIn_rangeM (F := Fence.wide) rfl (by decide) (gf := 120) (lb := #[.pointer (some ⟨bo, 0, none⟩), .pointer (some ⟨bz, 0, none⟩)]) rfl trivial (enters_of Tryz.func120 (by kernel_rfl) rfl)
    (encs := fun x : Value × List Nat => #[x.1]) (M := MP 8) (Kp := KP 8 bo bz) (S := fun xs => xs.map (·.2) = pcs bs 8 k) (Sp := fun pre => pre.map (·.2) = pcs bs 8 pre.length ∧ 0 < pre.length ∧ pre.length ≤ k) (N := k) (w0 := wA)
    (fun l J Jx V hV hJ _ hY h0 => HP.out l J Jx V hV hJ hY h0) (Below.refl _ _) KP.trans KP.put (fun _ => rfl) (fun B x V l o o' h hl ho => MP.put B x V l o o' h hl ho)
    (fun pre V => ∃ u, DI w w3.heap.size wA.heap.size limit u (pre.map fun x => tk x.2) V) (fun cd pre V => False) ?fi ?fx ⟨_, HD0.out⟩
    (fun x => { tmps := #[.agg (lsN limit).toArray, .slice ao bs.length cap, .pointer (some ⟨w.heap.size, 0, none⟩), undef, .pointer (some ⟨w.heap.size + 1, 0, none⟩), .pointer (some ⟨w.heap.size + 2, 0, none⟩), .func (.func 120) #[] #[.pointer (some ⟨bo, 0, none⟩), .pointer (some ⟨bz, 0, none⟩)], .int .i64 0, .pointer (some ⟨w3.heap.size, 0, none⟩), x.1, undef, undef, .tuple #[.func (.func 120) #[] #[.pointer (some ⟨bo, 0, none⟩), .pointer (some ⟨bz, 0, none⟩)], .int .i64 0], .agg (lsN limit).toArray, .slice ao bs.length cap, .tuple #[.func (.func 120) #[] #[.pointer (some ⟨bo, 0, none⟩), .pointer (some ⟨bz, 0, none⟩)], .int .i64 0], .func (.func 120) #[] #[.pointer (some ⟨bo, 0, none⟩), .pointer (some ⟨bz, 0, none⟩)], .int .i64 0, .int .i64 0, .bool false, undef, .func (.func 120) #[] #[.pointer (some ⟨bo, 0, none⟩), .pointer (some ⟨bz, 0, none⟩)], x.1, undef, undef, undef, undef, undef, undef, undef, undef, undef, undef, undef, undef, undef, undef], defers := [] }) ?assign ?body ?done ?stop
  case fi =>
    intro pre A B row hs hg hr
    obtain ⟨u, hs⟩ := hs
    exact ⟨u, hs.own hg (fun r e => ⟨by have := (hr r e).1; have := hs.hb; have := hs.ha; omega, (hr r e).2⟩)⟩
  case fx =>
    intro cd pre A B row hs hg hr
    exact hs.elim
  case assign =>
    intro l x V K hK
    gi_wp2
    exact hK
  case body =>
    rintro l pre ⟨xv, xb⟩ V hl ⟨u, hD⟩ hM hlt
    have hIX := hM.isB (by decide)
    have hxl : xb.length = 8 := by obtain ⟨_, _, _, _, _, _, _, h, _⟩ := hM; exact h
    obtain ⟨g, off, cur, hx1, hgB, hgc, _⟩ := hM
    have hgl := (Array.getElem?_eq_some_iff.1 hgc).1
    clear hgc
    dsimp only at hx1 hIX
    subst hx1
    have HT := hid (ltake_any limit _ xb V hIX hxl)
    obtain ⟨ns, hns⟩ : ∃ ns, (pre.map fun x => tk x.2) = ns := ⟨_, rfl⟩
    have HNS := hid hns
    have hnl : ns.length = pre.length := by rw [← hns, List.length_map]
    rw [hns] at hD
    clear hns
    have HD1 := hid hD
    have hls := hD.ls
    have hVs : w3.heap.size < V.heap.size := hD.al.lt
    have hou := hD.ow.lt
    clear hD hIX
    obtain ⟨n, hn⟩ : ∃ n, tk xb = n := ⟨_, rfl⟩
    have HN := hid hn
    rw [hn] at HT
    clear hn
    gi_wp2_with (first
      | (refine wpListIn_load_c Tryz.ty89 rfl (.tmp 2) rfl w.heap.size (lsN limit) rfl rfl hls ?_))
    refine ⟨trivial, ?_⟩
    refine (CallsIn.inRound l (callsIn_wide.2 HT.out)).mono ?_
    rintro e V1 ⟨rfl, B1⟩
    have D1 := HD1.out.keep B1
    have s1 := B1.size
    have B2 : Below V1.heap.size V1 (V1.alloc (.cells #[.int .u64 (n : Nat)] 23)) := (Below.refl _ _).alloc (Nat.le_refl _) _
    have hcn := heap_alloc_new V1 (.cells #[.int .u64 (n : Nat)] 23)
    have HD2 := hid (And.intro (D1.keep B2) (And.intro (B1.trans (B2.mono s1)) (cell_of_row _ V1.heap.size 0 _ _ (0, 0) hcn)))
    have hac := D1.al.cell (j := 0) (v := u) rfl
    obtain ⟨i0, hi, hz0, hz1, hz2⟩ := inf64
    have hk8 := HK.out.1
    have hk9 := HK.out.2.1
    have hnb : ns.length + 1 ≤ 137438953472 := by omega
    clear D1 B1 B2 HT HD1 hls hcn hk8 hk9
    gi_wp2_with (first
      | (refine wpListIn_append_own _ rfl (.tmp 32) (.tmp 34) 22 rfl wA.heap.size 23 i0 (.int .u64 0) 1 8 Tryz.underlying22 hi hz0 hz1 hz2 rfl (by decide) u ns.length (n64 ns) rfl HD2.out.1.ow ⟨V1.heap.size, 0, none⟩ 1 1 [.int .u64 (n : Nat)] rfl rfl ?c1 ?c2 ?c3 ?c4 ?c5 ?_))
    case c1 =>
      intro j u hj
      match j, hj with
      | 0, hj => cases hj; exact HD2.out.2.2
    case c2 => intro u hu; simp at hu; subst hu; rfl
    case c3 => unfold maxLen; omega
    case c4 => omega
    case c5 => simp; omega
    · intro v' w4 r1 r2 r3
      rw [← SA, ← hnl] at r1
      obtain ⟨va, vn, vc, rfl⟩ := own_slice r1
      have hg := HD2.out.1
      have ha4 : HasC w4 w3.heap.size 22 [u] := (r2.block _ hg.al.lt (fun e => by have := (own_cells hg.ow _ e.symm).1; omega)).trans hg.al
      have hac4 := ha4.cell (j := 0) (v := u) rfl
      have hfr4 := frozen_of_row w4 w3.heap.size 0 _ _ ha4
      have HF := hid (And.intro (hg.step r2 r1) (hg.kp (x := (.slice (some ⟨g, off, none⟩) 8 8, xb)) (v := .slice va vn vc) HD2.out.2.1 r2 lbo lbz hVs (fun r hr => (hou r hr).2)))
      clear r1 r2 r3 hg ha4 hac
      gi_wp2
      have e : List.map (fun x : Value × List Nat => tk x.2) (pre ++ [(.slice (some ⟨g, off, none⟩) 8 8, xb)]) = ns ++ [n] := by rw [List.map_append, HNS.out, ← HN.out]; rfl
      refine ⟨HF.out.2.1, HF.out.2.2, .slice va vn vc, ?_⟩
      rw [e]
      exact HF.out.1
  case done =>
    rintro xs V hS ⟨u, hD⟩ hK
    have hns : (xs.map fun x => tk x.2) = (pcs bs 8 k).map tk := by rw [← hS, List.map_map]; rfl
    rw [hns] at hD
    obtain ⟨va, vn, vc, rfl⟩ := own_slice hD.ow
    have HF := hid (hD.fin hK)
    rw [SA] at HF
    have ha := hD.al.cell (j := 0) (v := .slice va vn vc) rfl
    have h4c := hD.r4.cell (j := 0) (v := .slice none 0 0) rfl
    have h4f : V.frozen? ⟨w.heap.size + 1, 0, none⟩ = false := frozen_of_row V (w.heap.size + 1) 0 _ _ hD.r4
    have h5c := hD.r5.cell (j := 0) (v := .int .i64 0) rfl
    have h5f : V.frozen? ⟨w.heap.size + 2, 0, none⟩ = false := frozen_of_row V (w.heap.size + 2) 0 _ _ hD.r5
    clear hD hK hS hns
    gi_wp2
    refine ⟨by simp, .inl ⟨_, _, rfl, run_takeDeferred HF.out.1, ?_⟩⟩
    have how := HF.out.2.2.2.1
    rw [List.length_map, pcs_length] at how
    exact ⟨_, results_cc rfl _ _ (w.heap.size + 1) (w.heap.size + 2) _ _ rfl rfl HF.out.2.1 HF.out.2.2.1, _, rfl, how, HF.out.2.2.2.2⟩
  case stop =>
    intro c pre V hSp hf
    exact hf.elim
theorem ldec_ok (v : Value) (bs : List Nat) (k : Nat) (limit : Int) (w : World) (hI : IsB w v bs) (hk : bs.length = k * 8) (hlen : bs.length ≤ 1099511627776) (hkl : (k : Int) ≤ limit) :
    Calls Tryz.prog 37 #[.agg (lsN limit).toArray, v] w fun e w' => ∃ u, e = .returned (.tuple #[u, .int .i64 0]) ∧ w'.ownsRow w.heap.size 23 1 u k (n64 ((pcs bs 8 k).map tk)) ∧ Below w.heap.size w w' := by
  obtain ⟨⟨ao, cap, rfl, h1⟩, h2⟩ := hI
  exact callsIn_wide.1 (ldec_in ao cap bs k limit w ⟨⟨ao, cap, rfl, h1⟩, h2⟩ hk hlen hkl)
set_option maxHeartbeats 2000000 in
theorem ldec_bad (v : Value) (bs : List Nat) (limit : Int) (w : World) (hI : IsB w v bs) (hlen : bs.length ≤ 1099511627776) (hbad : ((bs.length : Int).tmod 8 ≠ 0) ∨ limit < (bs.length : Int).tdiv 8) :
    Calls Tryz.prog 37 #[.agg (lsN limit).toArray, v] w fun e w' => e = .returned (.tuple #[.slice none 0 0, .int .i64 3]) ∧ Below w.heap.size w w' := by
  obtain ⟨⟨ao, cap, rfl, h1⟩, h2⟩ := hI
  have HD := hid (fun w' (hb : Below w.heap.size w w') => pieces_bad (.slice ao bs.length cap) bs limit w' (IsB.keep ⟨⟨ao, cap, rfl, h1⟩, h2⟩ hb) hlen hbad)
  clear hlen hbad h1 h2
  refine (callsIn_wide (n := 5)).1 ?_
  refine callsIn_of_wp_marks Tryz.func37 rfl trivial ?_ rfl
  simp only [Tryz.ntmps37, List.size_toArray, List.length_cons, List.length_nil, Nat.reduceAdd, Nat.reduceSub, Array.replicate_succ, Array.replicate_zero, List.push_toArray, List.append_toArray, List.nil_append, List.cons_append]
  gi_wp2_with (first
    | (refine wpListIn_box_c rfl 2 rfl (.tmp 0) rfl (lsN limit) rfl ?_; intro w1 H1 B1 S1)
    | (refine wpListIn_load_c Tryz.ty89 rfl (.tmp 2) rfl w.heap.size (lsN limit) rfl rfl (H1.keep (((Below.refl _ w1).alloc (Nat.le_refl _) _).alloc (by simp) _)) ?_))
  have BA : Below w.heap.size w ((w1.alloc (.cells #[.slice none 0 0] 22)).alloc (.cells #[.int .i64 0] 41)) := (B1.alloc (by omega) _).alloc (by simp; omega) _
  have H4 : HasC ((w1.alloc (.cells #[.slice none 0 0] 22)).alloc (.cells #[.int .i64 0] 41)) (w.heap.size + 1) 22 [.slice none 0 0] := by
    have h := heap_alloc_new w1 (.cells #[.slice none 0 0] 22)
    rw [S1] at h
    exact HasC.keep (t := 22) (cs := [.slice none 0 0]) h ((Below.refl _ _).alloc (Nat.le_refl _) _)
  have H5 : HasC ((w1.alloc (.cells #[.slice none 0 0] 22)).alloc (.cells #[.int .i64 0] 41)) (w.heap.size + 2) 41 [.int .i64 0] := by
    have h := heap_alloc_new (w1.alloc (.cells #[.slice none 0 0] 22)) (.cells #[.int .i64 0] 41)
    rw [World.size_alloc, S1] at h
    exact h
  have S3 : ((w1.alloc (.cells #[.slice none 0 0] 22)).alloc (.cells #[.int .i64 0] 41)).heap.size = w.heap.size + 3 := by simp [S1]
  clear H1 B1 S1
  generalize (w1.alloc (.cells #[.slice none 0 0] 22)).alloc (.cells #[.int .i64 0] 41) = w2 at BA H4 H5 S3 ⊢
  simp only [Nat.add_assoc, Nat.reduceAdd]
  have HP := hid (HD.out w2 BA)
  have HX := hid (And.intro H4 (And.intro H5 BA))
  clear H4 H5 BA HD
  refine ⟨trivial, ?_⟩
  refine (callsIn_wide.2 HP.out).mono ?_
  rintro e w3 ⟨rfl, B3⟩
  have H4 := HX.out.1.keep B3
  have H5 := HX.out.2.1.keep B3
  have h4c := H4.cell (j := 0) (v := .slice none 0 0) rfl
  have h4f : w3.frozen? ⟨w.heap.size + 1, 0, none⟩ = false := frozen_of_row w3 (w.heap.size + 1) 0 _ _ H4
  have h5c := H5.cell (j := 0) (v := .int .i64 0) rfl
  have h5f : w3.frozen? ⟨w.heap.size + 2, 0, none⟩ = false := frozen_of_row w3 (w.heap.size + 2) 0 _ _ H5
  have o1 : ∀ b, b ≠ w.heap.size + 1 → (w3.setCell ⟨w.heap.size + 1, 0, none⟩ (.slice none 0 0)).heap[b]? = w3.heap[b]? := fun b hb => heap_setCell_other w3 ⟨w.heap.size + 1, 0, none⟩ b _ hb
  have c1 : HasC (w3.setCell ⟨w.heap.size + 1, 0, none⟩ (.slice none 0 0)) (w.heap.size + 1) 22 [.slice none 0 0] := by
    unfold HasC at H4 ⊢
    simp [World.setCell, Array.getElem?_modify, H4]
  have c5 : HasC (w3.setCell ⟨w.heap.size + 1, 0, none⟩ (.slice none 0 0)) (w.heap.size + 2) 41 [.int .i64 0] := (o1 _ (by omega)).trans H5
  have b1 : Below w.heap.size w (w3.setCell ⟨w.heap.size + 1, 0, none⟩ (.slice none 0 0)) := (below_more HX.out.2.2 B3 (Nat.le_refl _)).setCell (p := ⟨w.heap.size + 1, 0, none⟩) (by show w.heap.size ≤ w.heap.size + 1; omega) _
  have o2 : ∀ b, b ≠ w.heap.size + 2 → ((w3.setCell ⟨w.heap.size + 1, 0, none⟩ (.slice none 0 0)).setCell ⟨w.heap.size + 2, 0, none⟩ (.int .i64 3)).heap[b]? = (w3.setCell ⟨w.heap.size + 1, 0, none⟩ (.slice none 0 0)).heap[b]? := fun b hb => heap_setCell_other _ ⟨w.heap.size + 2, 0, none⟩ b _ hb
  have e4 : HasC ((w3.setCell ⟨w.heap.size + 1, 0, none⟩ (.slice none 0 0)).setCell ⟨w.heap.size + 2, 0, none⟩ (.int .i64 3)) (w.heap.size + 1) 22 [.slice none 0 0] := (o2 _ (by omega)).trans c1
  have e5 : HasC ((w3.setCell ⟨w.heap.size + 1, 0, none⟩ (.slice none 0 0)).setCell ⟨w.heap.size + 2, 0, none⟩ (.int .i64 3)) (w.heap.size + 2) 41 [.int .i64 3] := by
    unfold HasC at c5 ⊢
    simp [World.setCell, Array.getElem?_modify] at c5 ⊢
    simp [c5]
  have HE := hid (And.intro e4 (And.intro e5 (b1.setCell (p := ⟨w.heap.size + 2, 0, none⟩) (by show w.heap.size ≤ w.heap.size + 2; omega) (.int .i64 3))))
  clear B3 HP HX H4 H5 o1 c1 c5 b1 o2 e4 e5
  gi_wp2
  exact ⟨_, results_cc rfl _ _ (w.heap.size + 1) (w.heap.size + 2) _ _ rfl rfl HE.out.1 HE.out.2.1, rfl, HE.out.2.2⟩
end Go.Proofs.YtpaamhmighgjeaaGreat

/- Numbers as eight bytes, there and back. -/
namespace Go.Proofs.YtpaamhmighgjeaaGreat
open Go.RowKit
set_option maxRecDepth 100000

theorem tk_le8 (n : Nat) (h : n < 18446744073709551616) : tk (le n 8) = n := by
  unfold tk
  rw [le_putL]
  exact takeV_put8 n h
end Go.Proofs.YtpaamhmighgjeaaGreat

