/- Own texts of the proof, joined: IxF PutIx Ix5 Open5i. -/
import Derived.Test.YtpaamhmighgjeaaGreatH4
import Derived.ProofKit
import Derived.OpenShut
import Derived.ShutString
import Derived.ChangeOld
import Derived.Deep.Slices
import Derived.SevenTiedAt
import Derived.Stop.Joined
import Derived.Deep.Grids
/- An Indexed's bytes, and what is read of them. -/
namespace Go.Proofs.YtpaamhmighgjeaaGreat
open Go.RowKit
set_option linter.unusedVariables false
set_option linter.unusedSimpArgs false
set_option maxRecDepth 100000

/-- A list of numbers: its bytes by the document. -/
theorem encK_nums : ∀ l : List Nat, encK (List.replicate l.length dNum) (l.map fun n => .mk n (zeros 32) [] []) = numF l
  | [] => rfl
  | n :: l => by
    have e : encV dNum (.mk n (zeros 32) [] []) = le n 8 := by simp [dNum, encV]
    simp only [List.length_cons, List.replicate_succ, List.map_cons, encK, encK_nums l, e]
    rfl
theorem encV_nums (l : List Nat) : encV dNums (numsV l) = bytesN l := by
  have e : encV dNums (numsV l) = cont (encK (kdsV 5 [dNum] (l.map fun n => (Vt.mk n (zeros 32) [] [])).length) (l.map fun n => .mk n (zeros 32) [] [])) := by
    unfold dNums numsV
    rw [encV]
    simp
  rw [e, List.length_map]
  show cont (encK (List.replicate l.length dNum) _) = _
  rw [encK_nums, cont_numF]
theorem sizeD_nums : sizeD dNums = -1 := by simp [dNums, sizeD]
theorem okK_nums : ∀ l : List Nat, okK (List.replicate l.length dNum) (l.map fun n => .mk n (zeros 32) [] [])
  | [] => trivial
  | n :: l => by
    simp only [List.length_cons, List.replicate_succ, List.map_cons, okK]
    exact ⟨by simp [dNum, okV, okK, encK, kdsV, lenF], okK_nums l⟩
theorem okV_nums (l : List Nat) (hl : l.length ≤ 500) : okV dNums (numsV l) := by
  unfold dNums numsV
  rw [okV]
  refine ⟨(by simp), (by simp; omega), (fun h => (by cases h)), (fun _ => (by simp)), ?_, ?_⟩
  · rw [List.length_map]
    show lenF (encK (List.replicate l.length dNum) _) ≤ _
    rw [encK_nums, lenF_numF]
    omega
  · rw [List.length_map]
    exact okK_nums l
theorem isN_oneCell {w : World} {u : Value} {l : List Nat} (h : IsN w u l) : u.oneCell' = true := by
  obtain ⟨⟨ao, cap, rfl, _⟩, _⟩ := h
  rfl
theorem isN_nil (w : World) : IsN w nilS [] := ⟨⟨none, 0, rfl, Nat.le_refl _, by decide, .inl rfl⟩, fun _ h => absurd h List.not_mem_nil⟩
/-- An Indexed's bytes. -/
def ixBS (l : List Nat) (sl : Nat) (ix : Nat) (b : List Nat) (es : Nat) (rs : List Nat) (et : Nat) (rt : List Nat) (sg : List Nat) : List Nat := le 164 4 ++ (le sl 8 ++ (le ix 8 ++ (b ++ (le es 8 ++ (rs ++ (le et 8 ++ (rt ++ (sg ++ (bytesN l)))))))))
theorem ixB (l : List Nat) (sl : Nat) (ix : Nat) (b : List Nat) (es : Nat) (rs : List Nat) (et : Nat) (rt : List Nat) (sg : List Nat) (hb : b.length = 32) (hrs : rs.length = 32) (hrt : rt.length = 32) (hsg : sg.length = 32) : cont ([(bytesN l, true)] ++ (vtF sl ix b es rs et rt ++ rootF [sg])) = ixBS l sl ix b es rs et rt sg := by
  have h : szF ([(bytesN l, true)] ++ (vtF sl ix b es rs et rt ++ rootF [sg])) = 164 := by simp [szF, sz1, vtF, cpF, numF, rootF, le_length, hb, hrs, hrt, hsg]
  unfold cont
  rw [h]
  simp [ixBS, vtF, cpF, numF, rootF, frontB, backB]
theorem ixK_ok : okD (dBox [dNums, dBox [dNum, dNum, dRoot, dBox [dNum, dRoot], dBox [dNum, dRoot]], dRoot]) := by simp [okD, okDs, dBox, dNum, dRoot, dNums, small, sizeD, sizeS, sizeH]
theorem ixV_enc (ao : Option Addr) (c : Nat) (l : List Nat) (sl : Nat) (ix : Nat) (b : List Nat) (es : Nat) (rs : List Nat) (et : Nat) (rt : List Nat) (sg : List Nat) (hb : b.length = 32) (hrs : rs.length = 32) (hrt : rt.length = 32) (hsg : sg.length = 32) : encV (dBox [dNums, dBox [dNum, dNum, dRoot, dBox [dNum, dRoot], dBox [dNum, dRoot]], dRoot]) (ixV6 ao c l sl ix b es rs et rt sg) = ixBS l sl ix b es rs et rt sg := by
  have hp := bytesN_length l
  simp [encV_nums, sizeD_nums, dBox, dNum, dRoot, ixV6, vtV6, cpV6, encV, encK, kdsV, sizeD, sizeS, sizeH, cont, szF, sz1, frontB, backB, ixBS, le_length, hb, hrs, hrt, hsg]
theorem ixV_ok (ao : Option Addr) (c : Nat) (l : List Nat) (sl : Nat) (ix : Nat) (b : List Nat) (es : Nat) (rs : List Nat) (et : Nat) (rt : List Nat) (sg : List Nat) (hl : l.length ≤ 500) (hb : b.length = 32) (hrs : rs.length = 32) (hrt : rt.length = 32) (hsg : sg.length = 32) : okV (dBox [dNums, dBox [dNum, dNum, dRoot, dBox [dNum, dRoot], dBox [dNum, dRoot]], dRoot]) (ixV6 ao c l sl ix b es rs et rt sg) := by
  have hp := bytesN_length l
  have ho := okV_nums l hl
  simp [encV_nums, sizeD_nums, ho, dBox, dNum, dRoot, ixV6, vtV6, cpV6, okV, okK, encV, encK, kdsV, sizeD, sizeS, sizeH, lenF, cont, szF, sz1, frontB, backB, le_length, hb, hrs, hrt, hsg]
  omega
theorem ix_read (l : List Nat) (sl : Nat) (ix : Nat) (b : List Nat) (es : Nat) (rs : List Nat) (et : Nat) (rt : List Nat) (sg : List Nat) (hsl : sl < 18446744073709551616) (hix : ix < 18446744073709551616) (hes : es < 18446744073709551616) (het : et < 18446744073709551616) (hb : b.length = 32) (hrs : rs.length = 32) (hrt : rt.length = 32) (hsg : sg.length = 32) : atG (ixBS l sl ix b es rs et rt sg) = true ∧ (ixBS l sl ix b es rs et rt sg).drop 164 = bytesN l ∧ atV (ixBS l sl ix b es rs et rt sg) = vtC sl ix b es rs et rt ∧ atR (ixBS l sl ix b es rs et rt sg) = sg := by
  obtain ⟨y, hy, hyl⟩ : ∃ y, le 164 4 = y ∧ y.length = 4 := ⟨_, rfl, le_length _ _⟩
  have ey : tk y = 164 := by rw [← hy]; exact tk_le4 164 (by decide)
  obtain ⟨y0, hy0, hyn0⟩ : ∃ y, le sl 8 = y ∧ y.length = 8 := ⟨_, rfl, le_length _ _⟩
  have e0 : tk y0 = sl := by rw [← hy0]; exact tk_le8 sl hsl
  obtain ⟨y1, hy1, hyn1⟩ : ∃ y, le ix 8 = y ∧ y.length = 8 := ⟨_, rfl, le_length _ _⟩
  have e1 : tk y1 = ix := by rw [← hy1]; exact tk_le8 ix hix
  obtain ⟨y3, hy3, hyn3⟩ : ∃ y, le es 8 = y ∧ y.length = 8 := ⟨_, rfl, le_length _ _⟩
  have e3 : tk y3 = es := by rw [← hy3]; exact tk_le8 es hes
  obtain ⟨y5, hy5, hyn5⟩ : ∃ y, le et 8 = y ∧ y.length = 8 := ⟨_, rfl, le_length _ _⟩
  have e5 : tk y5 = et := by rw [← hy5]; exact tk_le8 et het
  obtain ⟨P, hP⟩ : ∃ P, bytesN l = P := ⟨_, rfl⟩
  obtain ⟨BS, hBS⟩ : ∃ B, ixBS l sl ix b es rs et rt sg = B := ⟨_, rfl⟩
  have hBe : BS = y ++ (y0 ++ (y1 ++ (b ++ (y3 ++ (rs ++ (y5 ++ (rt ++ (sg ++ (P))))))))) := by rw [← hBS]; unfold ixBS; rw [hy, hy0, hy1, hy3, hy5, hP]
  rw [hBS, hP]
  have hl : 164 ≤ BS.length := by rw [hBe]; simp [hyl, hyn0, hyn1, hb, hyn3, hrs, hyn5, hrt, hsg]; omega
  have d0 : BS.drop 0 = y ++ (y0 ++ (y1 ++ (b ++ (y3 ++ (rs ++ (y5 ++ (rt ++ (sg ++ (P))))))))) := by rw [List.drop_zero]; exact hBe
  have d1 : BS.drop 4 = y0 ++ (y1 ++ (b ++ (y3 ++ (rs ++ (y5 ++ (rt ++ (sg ++ (P)))))))) := by rw [show (4 : Nat) = 0 + 4 from rfl, ← List.drop_drop, d0]; exact List.drop_left' hyl
  have d2 : BS.drop 12 = y1 ++ (b ++ (y3 ++ (rs ++ (y5 ++ (rt ++ (sg ++ (P))))))) := by rw [show (12 : Nat) = 4 + 8 from rfl, ← List.drop_drop, d1]; exact List.drop_left' hyn0
  have d3 : BS.drop 20 = b ++ (y3 ++ (rs ++ (y5 ++ (rt ++ (sg ++ (P)))))) := by rw [show (20 : Nat) = 12 + 8 from rfl, ← List.drop_drop, d2]; exact List.drop_left' hyn1
  have d4 : BS.drop 52 = y3 ++ (rs ++ (y5 ++ (rt ++ (sg ++ (P))))) := by rw [show (52 : Nat) = 20 + 32 from rfl, ← List.drop_drop, d3]; exact List.drop_left' hb
  have d5 : BS.drop 60 = rs ++ (y5 ++ (rt ++ (sg ++ (P)))) := by rw [show (60 : Nat) = 52 + 8 from rfl, ← List.drop_drop, d4]; exact List.drop_left' hyn3
  have d6 : BS.drop 92 = y5 ++ (rt ++ (sg ++ (P))) := by rw [show (92 : Nat) = 60 + 32 from rfl, ← List.drop_drop, d5]; exact List.drop_left' hrs
  have d7 : BS.drop 100 = rt ++ (sg ++ (P)) := by rw [show (100 : Nat) = 92 + 8 from rfl, ← List.drop_drop, d6]; exact List.drop_left' hyn5
  have d8 : BS.drop 132 = sg ++ (P) := by rw [show (132 : Nat) = 100 + 32 from rfl, ← List.drop_drop, d7]; exact List.drop_left' hrt
  have d9 : BS.drop 164 = P := by rw [show (164 : Nat) = 132 + 32 from rfl, ← List.drop_drop, d8]; exact List.drop_left' hsg
  have t0 : (BS.drop 0).take 4 = y := by rw [d0]; exact List.take_left' hyl
  have t1 : (BS.drop 4).take 8 = y0 := by rw [d1]; exact List.take_left' hyn0
  have t2 : (BS.drop 12).take 8 = y1 := by rw [d2]; exact List.take_left' hyn1
  have t3 : (BS.drop 20).take 32 = b := by rw [d3]; exact List.take_left' hb
  have t4 : (BS.drop 52).take 8 = y3 := by rw [d4]; exact List.take_left' hyn3
  have t5 : (BS.drop 60).take 32 = rs := by rw [d5]; exact List.take_left' hrs
  have t6 : (BS.drop 92).take 8 = y5 := by rw [d6]; exact List.take_left' hyn5
  have t7 : (BS.drop 100).take 32 = rt := by rw [d7]; exact List.take_left' hrt
  have t8 : (BS.drop 132).take 32 = sg := by rw [d8]; exact List.take_left' hsg
  have hlt : decide (BS.length < 164) = false := by simp; omega
  have hW : partW BS 164 0 [] false = false := by
    unfold partW partP folB
    have h4 : fixB BS 164 0 4 false = y := by unfold fixB fixW; simp; exact t0
    rw [h4, ey]
    rfl
  refine ⟨?_, d9, ?_, ?_⟩
  · unfold atG
    rw [hlt, hW]
    rfl
  · unfold atV
    rw [hlt, hW, show fixT 164 0 4 false = 4 from rfl]
    have t : vtTake BS 164 (4, false) = vtC (tk ((BS.drop 4).take 8)) (tk ((BS.drop 12).take 8)) ((BS.drop 20).take 32) (tk ((BS.drop 52).take 8)) ((BS.drop 60).take 32) (tk ((BS.drop 92).take 8)) ((BS.drop 100).take 32) := rfl
    rw [t, t1, t2, t3, t4, t5, t6, t7, e0, e1, e3, e5]
  · unfold atR
    rw [hlt, hW, show fixT 164 0 4 false = 4 from rfl]
    have t : rootAt BS 164 (vtS 164 (4, false)) = (BS.drop 132).take 32 := rfl
    rw [t, t8]
end Go.Proofs.YtpaamhmighgjeaaGreat

/- The put of an Indexed. -/
namespace Go.Proofs.YtpaamhmighgjeaaGreat
open Go.RowKit Go.Shelf
set_option linter.unusedVariables false
set_option linter.unusedSimpArgs false
set_option maxRecDepth 100000

set_option maxHeartbeats 1000000 in
/-- codec.Indexed: its cells are the slice of numbers, a Vote's cells, a root. -/
theorem indexed_any (ao : Option Addr) (bl cap : Nat) (ns : List Nat) (sl ix : Nat) (b : List Nat) (es : Nat) (rs : List Nat) (et : Nat) (rt : List Nat) (sig : List Nat) (w : World) (hT : IsN w (.slice ao bl cap) ns) (hbl : ns.length ≤ 100000000) (h1 : sl < 18446744073709551616) (h2 : ix < 18446744073709551616) (hb : b.length = 32) (hb8 : ∀ z ∈ b, z < 256)
    (hes : es < 18446744073709551616) (hrs : rs.length = 32) (hrs8 : ∀ z ∈ rs, z < 256) (het : et < 18446744073709551616) (hrt : rt.length = 32) (hrt8 : ∀ z ∈ rt, z < 256) (hsg : sig.length = 32) (hsg8 : ∀ z ∈ sig, z < 256) :
    Calls Tryz.prog 8 #[.agg ([Value.slice ao bl cap] ++ (vtC sl ix b es rs et rt ++ (cellsB sig ++ []))).toArray] w fun x w' => ∃ v, x = .returned v ∧ Row w' w.heap.size v (cont ([(bytesN ns, true)] ++ (vtF sl ix b es rs et rt ++ rootF [sig]))) ∧ Below w.heap.size w w' := by
  have HT := hid hT
  have HBB := hid (And.intro hb hb8)
  have HRS := hid (And.intro hrs hrs8)
  have HRT := hid (And.intro hrt hrt8)
  have HSG := hid (And.intro hsg hsg8)
  have HE : Hid (([Value.slice ao bl cap] ++ (vtC sl ix b es rs et rt ++ (cellsB sig ++ [])) : List Value) = ([Value.slice ao bl cap] ++ vtC sl ix b es rs et rt) ++ (cellsB sig ++ [])) := hid (by simp)
  obtain ⟨C, hC⟩ : ∃ C : List Value, [Value.slice ao bl cap] ++ (vtC sl ix b es rs et rt ++ (cellsB sig ++ [])) = C := ⟨_, rfl⟩
  have HC0 : Hid (C[0]? = some (.slice ao bl cap)) := hid (by rw [← hC]; rfl)
  have HC1 : Hid (∀ (j : Nat) v, (vtC sl ix b es rs et rt)[j]? = some v → C[1 + j]? = some v) := hid (fun j v hv => by rw [← hC]; exact get_mid rfl hv)
  have HC2 : Hid (∀ (j : Nat) v, (cellsB sig)[j]? = some v → C[101 + j]? = some v) := hid (fun j v hv => by rw [← hC, HE.out]; exact get_mid (by simp [vtC_length hb hrs hrt]) hv)
  rw [hC]
  clear hC HE hT hb hb8 hrs hrs8 hrt hrt8 hsg hsg8
  go_enter Tryz.func8, Tryz.ntmps8
  go_wp2_with (first
    | (refine wpList_box_c rfl 1 rfl (.tmp 0) rfl C rfl ?_; intro w1 H1 B1 S1))
  have W1 := wr_new w1
  have B2 : Below w1.heap.size w1 (w1.alloc (.cells #[.int .i64 0, .pointer none] 84)) := (Below.refl _ w1).alloc (Nat.le_refl _) _
  have S2 := World.size_alloc w1 (.cells #[.int .i64 0, .pointer none] 84)
  rw [S1] at W1
  have X2 := hid (H1.keep B2)
  generalize w1.alloc (.cells #[.int .i64 0, .pointer none] 84) = w2 at W1 B2 S2 X2 ⊢
  have B12 := hid (B1.trans (B2.mono (by omega)))
  have s2 : w2.heap.size = w.heap.size + 2 := by omega
  have HW := hid W1
  clear B1 B2 S1 S2 H1 W1
  refine wp_region_flow 4 4 (fun i v wq => match i with
    | 0 => v = .agg (lsN 32).toArray
    | 1 => v = .pointer (some ⟨w.heap.size, 0, none⟩)
    | 2 => v = .slice ao bl cap
    | _ => IsB wq v (bytesN ns)) (by kernel_rfl) (by kernel_rfl) (fun _ d _ _ _ h => by cases d <;> exact h) ?_ ?_ ?_ ?_
  · intro i v wq wq' hi hv hb
    match i, hi with
    | 0, _ => exact hv
    | 1, _ => exact hv
    | 2, _ => exact hv
    | 3, _ => exact hv.keep hb
    | (k + 4), hk => exact absurd hk (by omega)
  · intro i o hi ho aq wq hc hk hdep
    match i, hi with
    | 0, _ =>
      cases ho
      refine flow_fun 26 _ _ rfl (fun _ _ => by simp [go_sem]) #[.int .i64 32] (by simp [Act.eval]) ?_
      refine (lsN_any 32 wq).mono ?_
      rintro e w' ⟨rfl, B⟩
      exact ⟨_, rfl, rfl, B⟩
    | 1, _ =>
      cases ho
      have e1 : aq.tmps.getD 1 undef = .pointer (some ⟨w.heap.size, 0, none⟩) := hk 1 (by decide)
      exact flow_value _ (run_fieldAt 31 (.tmp 1) 0 rfl _ _ e1 (by kernel_rfl)) rfl
    | 2, _ =>
      cases ho
      have e0 : aq.tmps.getD 5 undef = .pointer (some ⟨w.heap.size, 0, none⟩) := hdep 1 5 rfl (by kernel_rfl)
      exact flow_value _ (run_cell 22 (.tmp 5) rfl _ e0 _ ((X2.out.keep hc.bel).cell (j := 0) HC0.out) _ Tryz.underlying22 rfl) rfl
    | 3, _ =>
      cases ho
      have e0 : aq.tmps.getD 4 undef = .agg (lsN 32).toArray := hdep 0 4 rfl (by kernel_rfl)
      have e1 : aq.tmps.getD 6 undef = .slice ao bl cap := hdep 2 6 rfl (by kernel_rfl)
      refine flow_fun 27 _ _ rfl (fun _ _ => by simp [go_sem]) #[.agg (lsN 32).toArray, .slice ao bl cap] (by rw [show (#[Operand.tmp 4, Operand.tmp 6] : Array Operand).map aq.eval = #[aq.tmps.getD 4 undef, aq.tmps.getD 6 undef] from by simp [Act.eval], e0, e1]) ?_
      refine (lenc_any 32 _ ns wq ((HT.out.keep B12.out).keep hc.bel) hbl).mono ?_
      rintro e w' ⟨u, rfl, R, B⟩
      exact ⟨_, rfl, R.isB (bytesN_byte ns), B⟩
    | (k + 4), hk => exact absurd hk (by omega)
  · intro o h4 ho
    exact absurd h4 (by decide)
  intro vf w3 hc hv
  have I3 : IsB w3 (vf 3) (bytesN ns) := hv 3 7 (by decide) rfl
  clear hv
  simp only [List.take_succ_cons, List.take_zero, List.drop_succ_cons, List.drop_zero, putAll, Act.put, List.setIfInBounds_toArray, List.set_cons_succ, List.set_cons_zero]
  obtain ⟨v3, hv3⟩ : ∃ v3, vf 3 = v3 := ⟨_, rfl⟩
  rw [hv3] at I3 ⊢
  clear hv3
  obtain ⟨pa, pc, hsl⟩ : ∃ pa pc, v3 = .slice pa (bytesN ns).length pc := by obtain ⟨⟨x, y, e, _⟩, _⟩ := I3; exact ⟨x, y, e⟩
  subst hsl
  have q2 := hc.bel
  have s3 := q2.size
  have B13 := hid (B12.out.trans (q2.mono (by omega)))
  have X3 := hid (X2.out.keep q2)
  have HQ := hid (part_wr (w.heap.size + 1) _ [] _ (bytesN ns) w3 (HW.out.below q2) I3 (by simp) (by rw [bytesN_length]; omega))
  clear hc q2 I3 HW X2 B12
  go_wp2_with fail
  refine HQ.out.mono ?_
  rintro x w4 ⟨⟨u4, rfl⟩, q1, q2⟩
  have s4 := q2.size
  have X4 := hid (X3.out.grown q2 (by omega))
  have W4 := hid q1
  have B4 : Hid (Below w.heap.size w w4) := hid ⟨q2.os.trans B13.out.os, q2.tape.trans B13.out.tape, q2.output.trans B13.out.output, by omega, fun j hj => (q2.block j (by omega) (fun h => by have := Option.some.inj h; omega)).trans (B13.out.block j hj)⟩
  clear q1 q2 HQ X3 B13
  go_wp2_with (first
    | (refine wpList_load_mid rfl 29 (.tmp 9) rfl w.heap.size 1 (by exact rfl) (vtC sl ix b es rs et rt) _ (X4.out.range 1 _ HC1.out) Tryz.underlying29 rfl (by rw [vtC_length HBB.out.1 HRS.out.1 HRT.out.1]; exact Tryz.ty29.size) ?_))
  have HQ := hid (putVt_any (w.heap.size + 1) _ _ sl ix b es rs et rt w4 W4.out (by simp) h1 h2 HBB.out.1 HBB.out.2 hes HRS.out.1 HRS.out.2 het HRT.out.1 HRT.out.2)
  refine HQ.out.mono ?_
  rintro x w5 ⟨⟨u5, rfl⟩, q1, q2⟩
  have s5 := q2.size
  have X5 := hid (X4.out.grown q2 (by omega))
  have W5 := hid q1
  have B5 : Hid (Below w.heap.size w w5) := hid ⟨q2.os.trans B4.out.os, q2.tape.trans B4.out.tape, q2.output.trans B4.out.output, by omega, fun j hj => (q2.block j (by omega) (fun h => by have := Option.some.inj h; omega)).trans (B4.out.block j hj)⟩
  clear q1 q2 HQ X4 W4 B4
  go_wp2_with (first
    | (refine wpList_load_mid rfl 25 (.tmp 12) rfl w.heap.size 101 (by exact rfl) (cellsB sig) _ (X5.out.range 101 _ HC2.out) Tryz.und25 rfl (by rw [cellsB_length, HSG.out.1]; exact Tryz.size25) ?_)
    | (refine wpList_roots rfl 121 25 1 _ rfl Tryz.underlying121 Tryz.rootInfo [sig] [.tmp 13] rfl rfl (by simpa using HSG.out.1) rfl (by omega) (by omega) ?_; intro w6 H6 B6 S6))
  have HQ := hid (roots_wr (w.heap.size + 1) _ _ [sig] w5.heap.size 0 1 w6 (W5.out.below B6) (by omega) (by simp [vtF, numF, rootF, cpF]) (by simpa using HSG.out.1) (by simpa using HSG.out.2) (H6.rsAt (by simpa using HSG.out.1)) (by simp))
  have B56 := hid (B5.out.trans (B6.mono (by omega)))
  have s6 := B6.size
  clear H6 B6 S6 W5 X5
  refine HQ.out.mono ?_
  rintro x w7 ⟨⟨u7, rfl⟩, q1, q2⟩
  have s7 := q2.size
  have B7 : Hid (Below w.heap.size w w7) := hid ⟨q2.os.trans B56.out.os, q2.tape.trans B56.out.tape, q2.output.trans B56.out.output, by omega, fun j hj => (q2.block j (by omega) (fun h => by have := Option.some.inj h; omega)).trans (B56.out.block j hj)⟩
  have HY := hid (bytes_any (w.heap.size + 1) _ _ w7 q1 (by simp [vtF, numF, rootF, cpF]) (by simp [vtF, numF, rootF, cpF, lenF, le_length, bytesN_length, HBB.out.1, HRS.out.1, HRT.out.1, HSG.out.1]; omega))
  clear q1 q2 HQ B56 B5
  go_wp2_with fail
  refine HY.out.mono ?_
  rintro x w8 ⟨v, rfl, q1, q2⟩
  have X := hid (And.intro q1 q2)
  clear q1 q2
  go_wp2
  go_ret
  refine ⟨v, rfl, ?_, B7.out.trans (X.out.2.mono (by omega))⟩
  have := X.out.1.base (b' := w.heap.size) (by omega)
  simp only [List.append_assoc, List.nil_append] at this
  exact this
end Go.Proofs.YtpaamhmighgjeaaGreat

/- CodecIndexed: its contracts, made one. -/
namespace Go.Proofs.YtpaamhmighgjeaaGreat
open Go.RowKit
set_option linter.unusedVariables false
set_option linter.unusedSimpArgs false
set_option maxRecDepth 100000

theorem ixC_six (ao : Option Addr) (c : Nat) (l : List Nat) (sl ix : Nat) (b : List Nat) (es : Nat) (rs : List Nat) (et : Nat) (rt sg : List Nat) : ixC6 ao c l sl ix b es rs et rt sg = atC (.slice ao l.length c) (vtC sl ix b es rs et rt) sg := by
  simp [ixC6, ixP6, vtC6, vtP6, cpC6, cpP6, atC, vtC, cpC]
theorem ixBS_len (l : List Nat) (sl ix : Nat) (b : List Nat) (es : Nat) (rs : List Nat) (et : Nat) (rt sg : List Nat) (hl : l.length ≤ 500) (hb : b.length = 32) (hrs : rs.length = 32) (hrt : rt.length = 32) (hsg : sg.length = 32) : (ixBS l sl ix b es rs et rt sg).length ≤ 100000000000 := by
  have hp := bytesN_length l
  simp [ixBS, le_length, hb, hrs, hrt, hsg]
  omega
theorem ixBS_byte (l : List Nat) (sl ix : Nat) (b : List Nat) (es : Nat) (rs : List Nat) (et : Nat) (rt sg : List Nat) (hb8 : ∀ z ∈ b, z < 256) (hrs8 : ∀ z ∈ rs, z < 256) (hrt8 : ∀ z ∈ rt, z < 256) (hsg8 : ∀ z ∈ sg, z < 256) : ∀ z ∈ ixBS l sl ix b es rs et rt sg, z < 256 := by
  intro z hz
  unfold ixBS at hz
  simp only [List.mem_append] at hz
  rcases hz with hz | hz | hz | hz | hz | hz | hz | hz | hz | hz
  · exact le_byte _ _ z hz
  · exact le_byte _ _ z hz
  · exact le_byte _ _ z hz
  · exact hb8 z hz
  · exact le_byte _ _ z hz
  · exact hrs8 z hz
  · exact le_byte _ _ z hz
  · exact hrt8 z hz
  · exact hsg8 z hz
  · exact bytesN_byte l z hz
theorem ix0_built : Tryz.prog.built 31 [] = some ix0.toArray := by kernel_rfl
theorem ix_walk (ao : Option Addr) (c : Nat) (l : List Nat) (sl ix : Nat) (b : List Nat) (es : Nat) (rs : List Nat) (et : Nat) (rt sg : List Nat) (hsl : sl < 18446744073709551616) (hix : ix < 18446744073709551616) (hb : b.length = 32) (hb8 : ∀ z ∈ b, z < 256) (hes : es < 18446744073709551616) (hrs : rs.length = 32) (hrs8 : ∀ z ∈ rs, z < 256) (het : et < 18446744073709551616) (hrt : rt.length = 32) (hrt8 : ∀ z ∈ rt, z < 256) (hsg : sg.length = 32) (hsg8 : ∀ z ∈ sg, z < 256) (w : World) (hIT : IsN w (.slice ao l.length c) l) :
    Calls Tryz.prog 3 #[.agg (atC (.slice ao l.length c) (vtC sl ix b es rs et rt) sg).toArray] w fun e w' => e = .returned (.bool true) ∧ Below w.heap.size w w' := by
  have hVl : (vtC sl ix b es rs et rt).length = 100 := vtC_length hb hrs hrt
  have hV1 := vtC_one sl ix b es rs et rt
  have hCl : (atC (.slice ao l.length c) (vtC sl ix b es rs et rt) sg).length = ix0.length := (atC_length hVl hsg).trans (show (133 : Nat) = ix0.length by kernel_rfl)
  have hC1 : (atC (.slice ao l.length c) (vtC sl ix b es rs et rt) sg).toArray.all (·.oneCell') = true := atC_one rfl hV1
  by_cases hw : 500 < l.length
  · exact CodecIndexed_wide _ ix0 ao c l w Tryz.ty31 hCl rfl hw
  have hn : l.length ≤ 500 := by omega
  have href : ∀ (ao' : Option Addr) (c' : Nat) wq, IsN wq (.slice ao' l.length c') l → Calls Tryz.prog 7 #[.agg (atC (.slice ao' l.length c') (vtC sl ix b es rs et rt) sg).toArray] wq fun x w' => ∃ v, x = .returned v ∧ IsV w' v (ixV6 ao c l sl ix b es rs et rt sg) ∧ Below wq.heap.size wq w' := fun ao' c' wq hq => by
    have h := ixV6_any ao' c' l sl ix b es rs et rt sg hsl hix ⟨hb, hb8⟩ hes ⟨hrs, hrs8⟩ het ⟨hrt, hrt8⟩ ⟨hsg, hsg8⟩ wq hq hn
    rw [ixC_six] at h
    exact h
  have henc : ∀ wq, IsN wq (.slice ao l.length c) l → Calls Tryz.prog 8 #[.agg (atC (.slice ao l.length c) (vtC sl ix b es rs et rt) sg).toArray] wq fun x w' => ∃ v, x = .returned v ∧ Row w' wq.heap.size v (ixBS l sl ix b es rs et rt sg) ∧ Below wq.heap.size wq w' := fun wq hq => by
    have h := indexed_any ao l.length c l sl ix b es rs et rt sg wq hq (by omega) hsl hix hb hb8 hes hrs hrs8 het hrt hrt8 hsg hsg8
    rw [ixB l sl ix b es rs et rt sg hb hrs hrt hsg] at h
    exact h
  have henv : ∀ p u wq, DAt wq (dBox [dNums, dBox [dNum, dNum, dRoot, dBox [dNum, dRoot], dBox [dNum, dRoot]], dRoot]) p → IsV wq u (ixV6 ao c l sl ix b es rs et rt sg) → Calls Tryz.prog 10 #[.pointer (some ⟨p, 0, none⟩), u] wq fun x w' => ∃ v, x = .returned v ∧ Row w' wq.heap.size v (ixBS l sl ix b es rs et rt sg) ∧ Below wq.heap.size wq w' := fun p u wq hD hV => by
    have h := enc_any _ _ u p wq ixK_ok (ixV_ok ao c l sl ix b es rs et rt sg hn hb hrs hrt hsg) hD hV
    rw [ixV_enc ao c l sl ix b es rs et rt sg hb hrs hrt hsg] at h
    exact h
  have hsm : ∀ Y u v wq, IsV wq u Y → IsV wq v Y → Calls Tryz.prog 12 #[u, v] wq fun x w' => x = .returned (.bool true) ∧ Below wq.heap.size wq w' := fun Y u v wq hu hv => by
    have h := same_any _ _ u v wq hu hv
    rw [sameV_refl] at h
    exact h
  have hBl := ixBS_len l sl ix b es rs et rt sg hn hb hrs hrt hsg
  have hB8 := ixBS_byte l sl ix b es rs et rt sg hb8 hrs8 hrt8 hsg8
  obtain ⟨r1, r2, r3, r4⟩ := ix_read l sl ix b es rs et rt sg hsl hix hes het hb hrs hrt hsg
  by_cases hle : l.length ≤ 32
  · refine codecIndexed_good _ ix0 ao c l (fun u => atC u (vtC sl ix b es rs et rt) sg) (ixV6 ao c l sl ix b es rs et rt sg) (ixBS l sl ix b es rs et rt sg) _ w Tryz.ty31 hCl hC1 rfl hn hIT hB8 (fun wq hq => href ao c wq hq) henc (fun v wq hI => ?_) (fun u wq hu => ?_) (fun u wq hu => ?_) hle (fun wq => dix_any wq) henv hsm
    · have h := toIx_good v _ l wq hI hBl r1 r2 hle hIT.by64
      rw [r3, r4] at h
      exact h
    · exact ⟨(atC_length hVl hsg).trans (show (133 : Nat) = ix0.length by kernel_rfl), atC_one (isN_oneCell hu) hV1⟩
    · obtain ⟨⟨ao', c', rfl, _⟩, _⟩ := id hu
      exact href ao' c' wq hu
  · refine codecIndexed_bad _ ix0 ao c l (ixV6 ao c l sl ix b es rs et rt sg) (ixBS l sl ix b es rs et rt sg) _ w Tryz.ty31 hCl hC1 rfl hn hIT hB8 (fun wq hq => href ao c wq hq) henc (ixV6 none 0 [] 0 0 (zeros 32) 0 (zeros 32) 0 (zeros 32) (zeros 32)) (fun v wq hI => ?_) ix0_one ix0_built (fun wq => ?_) (by omega) (fun wq => dix_any wq) henv hsm
    · have h := toIx_bad v _ l wq hI hBl r1 r2 (by omega)
      exact h
    · have hz : (zeros 32).length = 32 := rfl
      have h := ixV6_any none 0 [] 0 0 (zeros 32) 0 (zeros 32) 0 (zeros 32) (zeros 32) (by decide) (by decide) ⟨hz, zeros_byte 32⟩ (by decide) ⟨hz, zeros_byte 32⟩ (by decide) ⟨hz, zeros_byte 32⟩ ⟨hz, zeros_byte 32⟩ wq (isN_nil wq) (by decide)
      rw [ixC_six] at h
      exact h
end Go.Proofs.YtpaamhmighgjeaaGreat

/- Structs that came in by value. -/
namespace Go.Proofs.YtpaamhmighgjeaaGreat
open Go.RowKit Go.Deep Go.WideShapes
set_option linter.unusedVariables false
set_option linter.unusedSimpArgs false
set_option maxRecDepth 100000

abbrev Rt (r : List Nat) : Prop := r.length = 32 ∧ ∀ z ∈ r, z < 256
theorem cellsRt : Tryz.prog.cellsOf 25 = 32 := by kernel_rfl
theorem cellsU8 : Tryz.prog.cellsOf 5 = 1 := by kernel_rfl
theorem cellsU64 : Tryz.prog.cellsOf 23 = 1 := by kernel_rfl
/-- Parts of a list, one behind the other. -/
def cutAt {α : Type} (cs : List α) : Nat → List Nat → List (List α)
  | _, [] => []
  | o, k :: ks => (cs.drop o).take k :: cutAt cs (o + k) ks
theorem cut_flat {α : Type} (cs : List α) : ∀ (ks : List Nat) (o : Nat), o + ks.sum = cs.length → cs.drop o = (cutAt cs o ks).flatten := by
  intro ks
  induction ks with
  | nil => intro o h; simp at h; rw [h, List.drop_length]; rfl
  | cons k ks ih =>
    intro o h
    rw [cutAt, List.flatten_cons, ← ih (o + k) (by simp at h; omega), ← List.drop_drop, List.take_append_drop]
section
variable {H : Type} {enc : TypeId × Value → H} {W : World} {b0 : Nat} {sp : Nat → Bool} {held : Bool}
theorem root_of_trod {fuel : Nat} {cs : List Value} {x : DataW H × List MemPlace} (h : DataW.trod enc Tryz.prog W b0 sp held fuel 25 cs = some x) : ∃ r : List Nat, cs = cellsB r ∧ r.length = 32 ∧ ∀ z ∈ r, z < 256 := by
  obtain ⟨xs, m, _, _, hl, hxs, hel⟩ := DataW.trod_array Tryz.und25 h
  rw [cellsRt] at hl
  have key : ∀ i (hi : i < cs.length), ∃ n : Nat, cs[i] = .int .u8 (n : Int) ∧ n < 256 := by
    intro i hi
    have h1 := hel i (by omega)
    rw [cellsU8, Nat.mul_one, List.getElem?_eq_getElem (by omega)] at h1
    obtain ⟨n, e1, _, hw⟩ := DataW.trod_int Tryz.underlying5 h1
    have hb := bounds_u8 hw
    have e2 : (cs.drop i).take 1 = [cs[i]] := by
      rw [List.drop_eq_getElem_cons hi, List.take_succ_cons, List.take_zero]
    have e3 : [cs[i]] = [Value.int .u8 n] := e2.symm.trans e1
    refine ⟨n.toNat, ?_, by omega⟩
    have e4 : cs[i] = Value.int .u8 n := by simpa using e3
    rw [e4]
    congr 1
    omega
  refine ⟨cs.map fun v => (intOf v).toNat, ?_, by simp [hl], ?_⟩
  · unfold cellsB
    apply List.ext_getElem
    · simp
    · intro i h1 h2
      obtain ⟨n, e, hn⟩ := key i h1
      simp [e, intOf]
  · intro z hz
    obtain ⟨v, hv, rfl⟩ := List.mem_map.1 hz
    obtain ⟨i, hi, rfl⟩ := List.mem_iff_getElem.1 hv
    obtain ⟨n, e, hn⟩ := key i hi
    simp [e, intOf, hn]
theorem num_of_trod {fuel : Nat} {cs : List Value} {x : DataW H × List MemPlace} (h : DataW.trod enc Tryz.prog W b0 sp held fuel 23 cs = some x) : ∃ n : Nat, cs = [.int .u64 (n : Nat)] ∧ n < 18446744073709551616 := by
  obtain ⟨i, e, _, hw⟩ := DataW.trod_int Tryz.underlying23 h
  have hb := bounds_u64 hw
  refine ⟨i.toNat, ?_, by omega⟩
  rw [e, Int.toNat_of_nonneg hb.1]
theorem cellsBo : Tryz.prog.cellsOf 4 = 1 := by kernel_rfl
theorem cellsBs : Tryz.prog.cellsOf 22 = 1 := by kernel_rfl
theorem nums_of_trod {fuel : Nat} {cs : List Value} {x : DataW H × List MemPlace} (h : DataW.trod enc Tryz.prog W b0 (fun _ => true) held fuel 22 cs = some x) : ∃ (ao : Option Addr) (c : Nat) (l : List Nat), cs = [.slice ao l.length c] ∧ IsN W (.slice ao l.length c) l := by
  rcases Go.ChangeShapes.open_ints Tryz.underlying22 Tryz.underlying23 cellsU64 h with ⟨hcs, _⟩ | ⟨a, len, cap, zs, hcs, _, hl, hm, hzl, _, hcell, hwf⟩
  · exact ⟨none, 0, [], hcs, ⟨none, 0, rfl, Nat.le_refl _, by decide, .inl rfl⟩, fun _ h => absurd h List.not_mem_nil⟩
  · simp only [if_true] at hzl
    have hln : ((zs.take len).map Int.toNat).length = len := by rw [List.length_map, List.length_take, hzl, Nat.min_eq_left hl]
    refine ⟨some a, cap, (zs.take len).map Int.toNat, by rw [hln]; exact hcs, ⟨some a, cap, rfl, by rw [hln]; exact hl, hm, ?_⟩, ?_⟩
    · by_cases h0 : len = 0
      · exact .inl (by rw [hln]; exact h0)
      · obtain ⟨b, off, spot⟩ := a
        obtain rfl : spot = none := by
          have := hcell 0 (by omega)
          simpa [Addr.add] using World.cell?_spot this
        refine .inr ⟨b, off, rfl, fun i hi => ?_⟩
        rw [hln] at hi
        have hiz : i < zs.length := by omega
        have h1 := hcell i hiz
        rw [Addr.add_lit] at h1
        have hb := bounds_u64 (hwf (zs.getD i 0) (by rw [List.getD_eq_getElem?_getD, List.getElem?_eq_getElem hiz]; exact List.getElem_mem hiz))
        rw [h1]
        have e1 : ((zs.take len).map Int.toNat).getD i 0 = (zs.getD i 0).toNat := by
          rw [List.getD_eq_getElem?_getD, List.getElem?_map, List.getElem?_take, if_pos hi, List.getD_eq_getElem?_getD, List.getElem?_eq_getElem hiz]
          rfl
        rw [e1, Int.toNat_of_nonneg hb.1]
    · intro n hn
      obtain ⟨z, hz, rfl⟩ := List.mem_map.1 hn
      have hb := bounds_u64 (hwf z (List.mem_of_mem_take hz))
      omega
theorem cells_cp : Tryz.prog.cellsOf 27 = 33 := by kernel_rfl
theorem cp_of_trod {fuel : Nat} {cs : List Value} {x : DataW H × List MemPlace} (h : DataW.trod enc Tryz.prog W b0 sp held fuel 27 cs = some x) : ∃ (ze : Nat) (zr : List Nat), cs = cpC ze zr ∧ ze < 18446744073709551616 ∧ Rt zr := by
  obtain ⟨xs, n, _, _, hl, hlen, hf⟩ := DataW.trod_struct Tryz.underlying27 h
  rw [cells_cp] at hl
  have hx : xs.length = 2 := hlen
  have f0 : ∃ y, DataW.trod enc Tryz.prog W b0 sp held n 23 ((cs.drop 0).take 1) = some y := by
    have := hf 0 _ rfl
    change DataW.trod enc Tryz.prog W b0 sp held n 23 (List.take (Tryz.prog.cellsOf 23) (List.drop 0 cs)) = xs[0]? at this
    rw [cellsU64, List.getElem?_eq_getElem (by omega)] at this
    exact ⟨_, this⟩
  obtain ⟨y0, f0⟩ := f0
  obtain ⟨ze, e0, hze⟩ := num_of_trod f0
  have f1 : ∃ y, DataW.trod enc Tryz.prog W b0 sp held n 25 ((cs.drop 1).take 32) = some y := by
    have := hf 1 _ rfl
    change DataW.trod enc Tryz.prog W b0 sp held n 25 (List.take (Tryz.prog.cellsOf 25) (List.drop 1 cs)) = xs[1]? at this
    rw [cellsRt, List.getElem?_eq_getElem (by omega)] at this
    exact ⟨_, this⟩
  obtain ⟨y1, f1⟩ := f1
  obtain ⟨zr, e1, hzr⟩ := root_of_trod f1
  have hc := cut_flat cs [1, 32] 0 (by rw [hl]; rfl)
  rw [List.drop_zero] at e0
  simp only [cutAt, List.drop_zero, Nat.zero_add, Nat.reduceAdd, e0, e1] at hc
  refine ⟨ze, zr, by rw [hc]; simp [cpC], hze, hzr⟩
theorem open_cp {base : Nat} {v : Value} {d : DataW H} {p : List MemPlace} (hv : Value.okWide Tryz.prog W .any base 27 v) (h : DataW.Trod enc Tryz.prog W b0 sp held 27 v d p) : ∃ (ze : Nat) (zr : List Nat), v = .agg (cpC ze zr).toArray ∧ ze < 18446744073709551616 ∧ Rt zr := by
  obtain ⟨cs, rfl, _⟩ := okWide_struct Tryz.underlying27 hv
  obtain ⟨fuel, hf⟩ := h
  obtain ⟨ze, zr, e, hze, hzr⟩ := cp_of_trod hf
  exact ⟨ze, zr, by rw [← Array.toList_inj.1 (show cs.toList = (cpC ze zr).toArray.toList from e)], hze, hzr⟩
theorem cells_vt : Tryz.prog.cellsOf 29 = 100 := by kernel_rfl
theorem vt_of_trod {fuel : Nat} {cs : List Value} {x : DataW H × List MemPlace} (h : DataW.trod enc Tryz.prog W b0 sp held fuel 29 cs = some x) : ∃ (zs : Nat) (zi : Nat) (zb : List Nat) (zcze : Nat) (zczr : List Nat) (ztze : Nat) (ztzr : List Nat), cs = vtC zs zi zb zcze zczr ztze ztzr ∧ zs < 18446744073709551616 ∧ zi < 18446744073709551616 ∧ Rt zb ∧ zcze < 18446744073709551616 ∧ Rt zczr ∧ ztze < 18446744073709551616 ∧ Rt ztzr := by
  obtain ⟨xs, n, _, _, hl, hlen, hf⟩ := DataW.trod_struct Tryz.underlying29 h
  rw [cells_vt] at hl
  have hx : xs.length = 5 := hlen
  have f0 : ∃ y, DataW.trod enc Tryz.prog W b0 sp held n 23 ((cs.drop 0).take 1) = some y := by
    have := hf 0 _ rfl
    change DataW.trod enc Tryz.prog W b0 sp held n 23 (List.take (Tryz.prog.cellsOf 23) (List.drop 0 cs)) = xs[0]? at this
    rw [cellsU64, List.getElem?_eq_getElem (by omega)] at this
    exact ⟨_, this⟩
  obtain ⟨y0, f0⟩ := f0
  obtain ⟨zs, e0, hzs⟩ := num_of_trod f0
  have f1 : ∃ y, DataW.trod enc Tryz.prog W b0 sp held n 23 ((cs.drop 1).take 1) = some y := by
    have := hf 1 _ rfl
    change DataW.trod enc Tryz.prog W b0 sp held n 23 (List.take (Tryz.prog.cellsOf 23) (List.drop 1 cs)) = xs[1]? at this
    rw [cellsU64, List.getElem?_eq_getElem (by omega)] at this
    exact ⟨_, this⟩
  obtain ⟨y1, f1⟩ := f1
  obtain ⟨zi, e1, hzi⟩ := num_of_trod f1
  have f2 : ∃ y, DataW.trod enc Tryz.prog W b0 sp held n 25 ((cs.drop 2).take 32) = some y := by
    have := hf 2 _ rfl
    change DataW.trod enc Tryz.prog W b0 sp held n 25 (List.take (Tryz.prog.cellsOf 25) (List.drop 2 cs)) = xs[2]? at this
    rw [cellsRt, List.getElem?_eq_getElem (by omega)] at this
    exact ⟨_, this⟩
  obtain ⟨y2, f2⟩ := f2
  obtain ⟨zb, e2, hzb⟩ := root_of_trod f2
  have f3 : ∃ y, DataW.trod enc Tryz.prog W b0 sp held n 27 ((cs.drop 34).take 33) = some y := by
    have := hf 3 _ rfl
    change DataW.trod enc Tryz.prog W b0 sp held n 27 (List.take (Tryz.prog.cellsOf 27) (List.drop 34 cs)) = xs[3]? at this
    rw [cells_cp, List.getElem?_eq_getElem (by omega)] at this
    exact ⟨_, this⟩
  obtain ⟨y3, f3⟩ := f3
  obtain ⟨zcze, zczr, e3, hzcze, hzczr⟩ := cp_of_trod f3
  have f4 : ∃ y, DataW.trod enc Tryz.prog W b0 sp held n 27 ((cs.drop 67).take 33) = some y := by
    have := hf 4 _ rfl
    change DataW.trod enc Tryz.prog W b0 sp held n 27 (List.take (Tryz.prog.cellsOf 27) (List.drop 67 cs)) = xs[4]? at this
    rw [cells_cp, List.getElem?_eq_getElem (by omega)] at this
    exact ⟨_, this⟩
  obtain ⟨y4, f4⟩ := f4
  obtain ⟨ztze, ztzr, e4, hztze, hztzr⟩ := cp_of_trod f4
  have hc := cut_flat cs [1, 1, 32, 33, 33] 0 (by rw [hl]; rfl)
  rw [List.drop_zero] at e0
  simp only [cutAt, List.drop_zero, Nat.zero_add, Nat.reduceAdd, e0, e1, e2, e3, e4] at hc
  refine ⟨zs, zi, zb, zcze, zczr, ztze, ztzr, by rw [hc]; simp [vtC], hzs, hzi, hzb, hzcze, hzczr, hztze, hztzr⟩
theorem open_vt {base : Nat} {v : Value} {d : DataW H} {p : List MemPlace} (hv : Value.okWide Tryz.prog W .any base 29 v) (h : DataW.Trod enc Tryz.prog W b0 sp held 29 v d p) : ∃ (zs : Nat) (zi : Nat) (zb : List Nat) (zcze : Nat) (zczr : List Nat) (ztze : Nat) (ztzr : List Nat), v = .agg (vtC zs zi zb zcze zczr ztze ztzr).toArray ∧ zs < 18446744073709551616 ∧ zi < 18446744073709551616 ∧ Rt zb ∧ zcze < 18446744073709551616 ∧ Rt zczr ∧ ztze < 18446744073709551616 ∧ Rt ztzr := by
  obtain ⟨cs, rfl, _⟩ := okWide_struct Tryz.underlying29 hv
  obtain ⟨fuel, hf⟩ := h
  obtain ⟨zs, zi, zb, zcze, zczr, ztze, ztzr, e, hzs, hzi, hzb, hzcze, hzczr, hztze, hztzr⟩ := vt_of_trod hf
  exact ⟨zs, zi, zb, zcze, zczr, ztze, ztzr, by rw [← Array.toList_inj.1 (show cs.toList = (vtC zs zi zb zcze zczr ztze ztzr).toArray.toList from e)], hzs, hzi, hzb, hzcze, hzczr, hztze, hztzr⟩
theorem cells_ix : Tryz.prog.cellsOf 31 = 133 := by kernel_rfl
theorem ix_of_trod {fuel : Nat} {cs : List Value} {x : DataW H × List MemPlace} (h : DataW.trod enc Tryz.prog W b0 (fun _ => true) held fuel 31 cs = some x) : ∃ (zbo : Option Addr) (zbc : Nat) (zbl : List Nat) (zdzs : Nat) (zdzi : Nat) (zdzb : List Nat) (zdzcze : Nat) (zdzczr : List Nat) (zdztze : Nat) (zdztzr : List Nat) (zsg : List Nat), cs = atC (.slice zbo zbl.length zbc) (vtC zdzs zdzi zdzb zdzcze zdzczr zdztze zdztzr) zsg ∧ zdzs < 18446744073709551616 ∧ zdzi < 18446744073709551616 ∧ Rt zdzb ∧ zdzcze < 18446744073709551616 ∧ Rt zdzczr ∧ zdztze < 18446744073709551616 ∧ Rt zdztzr ∧ Rt zsg ∧ IsN W (.slice zbo zbl.length zbc) zbl := by
  obtain ⟨xs, n, _, _, hl, hlen, hf⟩ := DataW.trod_struct Tryz.underlying31 h
  rw [cells_ix] at hl
  have hx : xs.length = 3 := hlen
  have f0 : ∃ y, DataW.trod enc Tryz.prog W b0 (fun _ => true) held n 22 ((cs.drop 0).take 1) = some y := by
    have := hf 0 _ rfl
    change DataW.trod enc Tryz.prog W b0 (fun _ => true) held n 22 (List.take (Tryz.prog.cellsOf 22) (List.drop 0 cs)) = xs[0]? at this
    rw [cellsBs, List.getElem?_eq_getElem (by omega)] at this
    exact ⟨_, this⟩
  obtain ⟨y0, f0⟩ := f0
  obtain ⟨zbo, zbc, zbl, e0, hzb⟩ := nums_of_trod f0
  have f1 : ∃ y, DataW.trod enc Tryz.prog W b0 (fun _ => true) held n 29 ((cs.drop 1).take 100) = some y := by
    have := hf 1 _ rfl
    change DataW.trod enc Tryz.prog W b0 (fun _ => true) held n 29 (List.take (Tryz.prog.cellsOf 29) (List.drop 1 cs)) = xs[1]? at this
    rw [cells_vt, List.getElem?_eq_getElem (by omega)] at this
    exact ⟨_, this⟩
  obtain ⟨y1, f1⟩ := f1
  obtain ⟨zdzs, zdzi, zdzb, zdzcze, zdzczr, zdztze, zdztzr, e1, hzdzs, hzdzi, hzdzb, hzdzcze, hzdzczr, hzdztze, hzdztzr⟩ := vt_of_trod f1
  have f2 : ∃ y, DataW.trod enc Tryz.prog W b0 (fun _ => true) held n 25 ((cs.drop 101).take 32) = some y := by
    have := hf 2 _ rfl
    change DataW.trod enc Tryz.prog W b0 (fun _ => true) held n 25 (List.take (Tryz.prog.cellsOf 25) (List.drop 101 cs)) = xs[2]? at this
    rw [cellsRt, List.getElem?_eq_getElem (by omega)] at this
    exact ⟨_, this⟩
  obtain ⟨y2, f2⟩ := f2
  obtain ⟨zsg, e2, hzsg⟩ := root_of_trod f2
  have hc := cut_flat cs [1, 100, 32] 0 (by rw [hl]; rfl)
  rw [List.drop_zero] at e0
  simp only [cutAt, List.drop_zero, Nat.zero_add, Nat.reduceAdd, e0, e1, e2] at hc
  refine ⟨zbo, zbc, zbl, zdzs, zdzi, zdzb, zdzcze, zdzczr, zdztze, zdztzr, zsg, by rw [hc]; simp [atC], hzdzs, hzdzi, hzdzb, hzdzcze, hzdzczr, hzdztze, hzdztzr, hzsg, hzb⟩
theorem open_ix {base : Nat} {v : Value} {d : DataW H} {p : List MemPlace} (hv : Value.okWide Tryz.prog W .any base 31 v) (h : DataW.Trod enc Tryz.prog W b0 (fun _ => true) held 31 v d p) : ∃ (zbo : Option Addr) (zbc : Nat) (zbl : List Nat) (zdzs : Nat) (zdzi : Nat) (zdzb : List Nat) (zdzcze : Nat) (zdzczr : List Nat) (zdztze : Nat) (zdztzr : List Nat) (zsg : List Nat), v = .agg (atC (.slice zbo zbl.length zbc) (vtC zdzs zdzi zdzb zdzcze zdzczr zdztze zdztzr) zsg).toArray ∧ zdzs < 18446744073709551616 ∧ zdzi < 18446744073709551616 ∧ Rt zdzb ∧ zdzcze < 18446744073709551616 ∧ Rt zdzczr ∧ zdztze < 18446744073709551616 ∧ Rt zdztzr ∧ Rt zsg ∧ IsN W (.slice zbo zbl.length zbc) zbl := by
  obtain ⟨cs, rfl, _⟩ := okWide_struct Tryz.underlying31 hv
  obtain ⟨fuel, hf⟩ := h
  obtain ⟨zbo, zbc, zbl, zdzs, zdzi, zdzb, zdzcze, zdzczr, zdztze, zdztzr, zsg, e, hzdzs, hzdzi, hzdzb, hzdzcze, hzdzczr, hzdztze, hzdztzr, hzsg, hzb⟩ := ix_of_trod hf
  exact ⟨zbo, zbc, zbl, zdzs, zdzi, zdzb, zdzcze, zdzczr, zdztze, zdztzr, zsg, by rw [← Array.toList_inj.1 (show cs.toList = (atC (.slice zbo zbl.length zbc) (vtC zdzs zdzi zdzb zdzcze zdzczr zdztze zdztzr) zsg).toArray.toList from e)], hzdzs, hzdzi, hzdzb, hzdzcze, hzdzczr, hzdztze, hzdztzr, hzsg, hzb⟩
end
end Go.Proofs.YtpaamhmighgjeaaGreat

