/- Own texts of the proof, joined: Va6Exit Va6SignedExit KdEx KdSx LenB TkLe Sx5 Open5v. -/
import Derived.Test.YtoajeencniomoaaGreatH2
import Derived.ProofKit
import Derived.OpenShut
import Derived.ShutString
import Derived.ChangeOld
import Derived.Deep.Slices
import Derived.SevenTiedAt
import Derived.Stop.Joined
/- The document's value of a struct (Exit). -/
namespace Go.Proofs.YtoajeencniomoaaGreat
open Go.RowKit Go.Shelf
set_option linter.unusedVariables false
set_option linter.unusedSimpArgs false
set_option maxRecDepth 100000

def exP6 (ze : Nat) (zi : Nat) : List (List Value) := [[.int .u64 (ze : Nat)], [.int .u64 (zi : Nat)]]
def exC6 (ze : Nat) (zi : Nat) : List Value := (exP6 ze zi).flatten
theorem exC6_length (ze : Nat) (zi : Nat)  : (exC6 ze zi).length = 2 := by simp [exC6, exP6, cellsB_length]
def exV6 (ze : Nat) (zi : Nat) : Vt := .mk 0 (zeros 32) [] [.mk ze (zeros 32) [] [], .mk zi (zeros 32) [] []]
theorem exV6_wide (ze : Nat) (zi : Nat) : wide (exV6 ze zi) := by simp [exV6, wide, wideK]
set_option maxHeartbeats 2000000 in
theorem exV6_any (ze : Nat) (zi : Nat) (hze : ze < 18446744073709551616) (hzi : zi < 18446744073709551616) (w : World) : Calls Tryz.prog 83 #[.agg (exC6 ze zi).toArray] w fun x w' => ∃ v, x = .returned v ∧ IsV w' v (exV6 ze zi) ∧ Below w.heap.size w w' := by
  go_enter Tryz.func83, Tryz.ntmps83
  go_wp2_with ((with_reducible refine at_list' ?_); first
    | (refine wpList_box_c rfl 1 rfl (.tmp 0) rfl (exC6 ze zi) rfl ?_; intro w1 H1 B1 S1)
    | (refine wpList_alloc_c Tryz.ty33 rfl 2 rfl rfl ?_; intro w2 H2 B2 S2; rw [S1] at H2 S2; rw [S1]))
  have HX := hid (H1.keep B2)
  have HY := hid H2
  have HB := hid (B1.trans (B2.mono (by omega)))
  have s2 : w2.heap.size = w.heap.size + 2 := by omega
  clear H1 B1 S1 H2 B2 S2
  try simp only [Act.put, List.setIfInBounds_toArray, List.set_cons_succ, List.set_cons_zero]
  refine wp_region_flow 8 8 (fun i v wq => match i with
    | 0 => v = .pointer (some ⟨w.heap.size, 0, none⟩)
    | 1 => v = .int .u64 (ze : Nat)
    | 2 => IsV wq v (.mk ze (zeros 32) [] [])
    | 3 => v = .pointer (some ⟨w.heap.size, 1, none⟩)
    | 4 => v = .int .u64 (zi : Nat)
    | 5 => IsV wq v (.mk zi (zeros 32) [] [])
    | 6 => ∃ b, v = .slice (some ⟨b, 0, none⟩) 2 2 ∧ KsAt wq [.mk ze (zeros 32) [] [], .mk zi (zeros 32) [] []] b 0
    | _ => ∃ b, v = .agg (valL 0 (zeros 32) nilS (.slice (some ⟨b, 0, none⟩) 2 2)).toArray ∧ KsAt wq [.mk ze (zeros 32) [] [], .mk zi (zeros 32) [] []] b 0) (by kernel_rfl) (by kernel_rfl) (fun _ d _ _ _ h => by cases d <;> exact h) ?_ ?_ ?_ ?_
  · intro i v wq wq' hi hv hb
    match i, hi with
    | 0, _ => exact hv
    | 1, _ => exact hv
    | 2, _ => exact hv.keep hb
    | 3, _ => exact hv
    | 4, _ => exact hv
    | 5, _ => exact hv.keep hb
    | 6, _ => obtain ⟨b, h1, h2⟩ := hv; exact ⟨b, h1, KsAt.keep hb _ h2⟩
    | 7, _ => obtain ⟨b, h1, h2⟩ := hv; exact ⟨b, h1, KsAt.keep hb _ h2⟩
    | (k + 8), hk => exact absurd hk (by omega)
  · intro i o hi ho aq wq hc hk hdep
    match i, hi with
    | 0, _ =>
      cases ho
      have e1 : aq.tmps.getD 1 undef = .pointer (some ⟨w.heap.size, 0, none⟩) := hk 1 (by decide)
      exact flow_value _ (run_fieldAt 84 (.tmp 1) 0 rfl _ _ e1 (by kernel_rfl)) rfl
    | 1, _ =>
      cases ho
      have e0 : aq.tmps.getD 3 undef = .pointer (some ⟨w.heap.size, 0, none⟩) := hdep 0 3 rfl (by kernel_rfl)
      exact flow_value _ (run_cell 22 (.tmp 3) rfl _ e0 _ ((HX.out.keep (hcB hc)).cell (seg (ps := exP6 ze zi) (i := 0) (off := 0) rfl (by simp [exP6, cellsB_length]) 0 _ rfl)) _ Tryz.underlying22 rfl) rfl
    | 2, _ =>
      cases ho
      have e0 : aq.tmps.getD 4 undef = .int .u64 (ze : Nat) := hdep 1 4 rfl (by kernel_rfl)
      refine flow_fun 43 _ _ rfl (fun _ _ => by simp [go_sem]) #[.int .u64 (ze : Nat)] (by rw [show (#[Operand.tmp 4] : Array Operand).map aq.eval = #[aq.tmps.getD 4 undef] from by simp [Act.eval], e0]) ?_
      refine (n_any ze wq).mono ?_
      rintro x w' ⟨rfl, q⟩
      exact ⟨_, rfl, IsV.leaf w' hze zeros32 (zeros_byte 32), q⟩
    | 3, _ =>
      cases ho
      have e1 : aq.tmps.getD 1 undef = .pointer (some ⟨w.heap.size, 0, none⟩) := hk 1 (by decide)
      exact flow_value _ (run_fieldAt 84 (.tmp 1) 1 rfl _ _ e1 (by kernel_rfl)) rfl
    | 4, _ =>
      cases ho
      have e0 : aq.tmps.getD 6 undef = .pointer (some ⟨w.heap.size, 1, none⟩) := hdep 3 6 rfl (by kernel_rfl)
      exact flow_value _ (run_cell 22 (.tmp 6) rfl _ e0 _ ((HX.out.keep (hcB hc)).cell (seg (ps := exP6 ze zi) (i := 1) (off := 1) rfl (by simp [exP6, cellsB_length]) 0 _ rfl)) _ Tryz.underlying22 rfl) rfl
    | 5, _ =>
      cases ho
      have e0 : aq.tmps.getD 7 undef = .int .u64 (zi : Nat) := hdep 4 7 rfl (by kernel_rfl)
      refine flow_fun 43 _ _ rfl (fun _ _ => by simp [go_sem]) #[.int .u64 (zi : Nat)] (by rw [show (#[Operand.tmp 7] : Array Operand).map aq.eval = #[aq.tmps.getD 7 undef] from by simp [Act.eval], e0]) ?_
      refine (n_any zi wq).mono ?_
      rintro x w' ⟨rfl, q⟩
      exact ⟨_, rfl, IsV.leaf w' hzi zeros32 (zeros_byte 32), q⟩
    | 6, _ =>
      cases ho
      obtain ⟨sb0, sk0, e0, h0_⟩ := hdep 2 5 rfl (by kernel_rfl)
      obtain ⟨sb1, sk1, e1, h1_⟩ := hdep 5 8 rfl (by kernel_rfl)
      refine flow_rowsB 31 33 2 35 _ rfl Tryz.underlying31 valInfo [valL ze (zeros 32) sb0 sk0, valL zi (zeros 32) sb1 sk1] [.tmp 5, .tmp 8] rfl (by rw [show [Operand.tmp 5, Operand.tmp 8].map aq.eval = [aq.tmps.getD 5 undef, aq.tmps.getD 8 undef] from rfl, e0, e1]; rfl) (by simp [valL_length, zeros32]) rfl (by decide) (by decide) (by decide) (fun w' h hb => ⟨_, rfl, ksAt_of h [(.mk ze (zeros 32) [] [], sb0, sk0), (.mk zi (zeros 32) [] [], sb1, sk1)] 0 (fun j v hj => by rw [Nat.zero_add]; exact hj) (fun x hx => ?_)⟩)
      simp only [List.mem_cons, List.not_mem_nil, or_false] at hx
      rcases hx with rfl | rfl
      · exact VAt.keep hb _ h0_
      · exact VAt.keep hb _ h1_
    | 7, _ =>
      cases ho
      obtain ⟨b, e6, h6⟩ := hdep 6 9 rfl (by kernel_rfl)
      refine flow_fun 42 _ _ rfl (fun _ _ => by simp [go_sem]) #[.slice (some ⟨b, 0, none⟩) 2 2] (by rw [show (#[Operand.tmp 9] : Array Operand).map aq.eval = #[aq.tmps.getD 9 undef] from by simp [Act.eval], e6]) ?_
      refine (all_any (some ⟨b, 0, none⟩) 2 2 wq).mono ?_
      rintro x w' ⟨rfl, q⟩
      exact ⟨_, rfl, ⟨b, rfl, KsAt.keep q _ h6⟩, q⟩
    | (k + 8), hk => exact absurd hk (by omega)
  · intro o h8 ho
    omega
  intro vf w8 hc hv
  have e7 : ∃ b, vf 7 = _ ∧ KsAt w8 _ b 0 := hv 7 10 (by decide) rfl
  obtain ⟨b, e7, h7⟩ := e7
  have B8 := HB.out.trans ((hcB hc).mono (by omega))
  have H8v := HY.out.keep (hcB hc)
  have s8 := (hcB hc).size
  clear hv hc
  simp only [List.take_succ_cons, List.take_zero, List.drop_succ_cons, List.drop_zero, putAll, Act.put, List.setIfInBounds_toArray, List.set_cons_succ, List.set_cons_zero]
  rw [e7]
  have HB8 := hid B8
  have HK := hid h7
  clear B8 h7 e7 HB
  go_wp2_with ((with_reducible refine at_list' ?_); first
    | (refine wpList_store_c Tryz.ty33 rfl (.tmp 2) (.tmp 10) rfl (w.heap.size + 1) (valL 0 (zeros 32) nilS (.slice (some ⟨b, 0, none⟩) 2 2)) rfl rfl rfl (valL_oneC _ _ _ _ trivial trivial) _ H8v rfl ?_; intro w9 H9 O9))
  refine bodyPost_ret (results_c1 Tryz.ty33 rfl _ w9 (w.heap.size + 1) _ rfl H9 rfl) rfl ⟨_, rfl, ⟨nilS, _, rfl, ?_⟩, below_only HB8.out O9 (by omega)⟩
  exact VAt.aside H8v rfl O9 (exV6 ze zi) (exV6_wide ze zi) (isV_all (ks := [.mk ze (zeros 32) [] [], .mk zi (zeros 32) [] []]) rfl (by decide) HK.out)
end Go.Proofs.YtoajeencniomoaaGreat

/- The document's value of a struct (SignedExit). -/
namespace Go.Proofs.YtoajeencniomoaaGreat
open Go.RowKit Go.Shelf
set_option linter.unusedVariables false
set_option linter.unusedSimpArgs false
set_option maxRecDepth 100000

def sxP6 (zxze : Nat) (zxzi : Nat) (zsg : List Nat) : List (List Value) := [exC6 zxze zxzi, cellsB zsg]
def sxC6 (zxze : Nat) (zxzi : Nat) (zsg : List Nat) : List Value := (sxP6 zxze zxzi zsg).flatten
theorem sxC6_length (zxze : Nat) (zxzi : Nat) (zsg : List Nat) (hzsg : zsg.length = 32) : (sxC6 zxze zxzi zsg).length = 34 := by simp [sxC6, sxP6, cellsB_length, hzsg, exC6_length zxze zxzi ]
def sxV6 (zxze : Nat) (zxzi : Nat) (zsg : List Nat) : Vt := .mk 0 (zeros 32) [] [exV6 zxze zxzi, .mk 0 zsg [] []]
theorem sxV6_wide (zxze : Nat) (zxzi : Nat) (zsg : List Nat) : wide (sxV6 zxze zxzi zsg) := by simp [sxV6, wide, wideK, exV6_wide]
set_option maxHeartbeats 2000000 in
theorem sxV6_any (zxze : Nat) (zxzi : Nat) (zsg : List Nat) (hzxze : zxze < 18446744073709551616) (hzxzi : zxzi < 18446744073709551616) (hzsg : Rt6 zsg) (w : World) : Calls Tryz.prog 36 #[.agg (sxC6 zxze zxzi zsg).toArray] w fun x w' => ∃ v, x = .returned v ∧ IsV w' v (sxV6 zxze zxzi zsg) ∧ Below w.heap.size w w' := by
  go_enter Tryz.func36, Tryz.ntmps36
  go_wp2_with ((with_reducible refine at_list' ?_); first
    | (refine wpList_box_c rfl 1 rfl (.tmp 0) rfl (sxC6 zxze zxzi zsg) rfl ?_; intro w1 H1 B1 S1)
    | (refine wpList_alloc_c Tryz.ty33 rfl 2 rfl rfl ?_; intro w2 H2 B2 S2; rw [S1] at H2 S2; rw [S1]))
  have HX := hid (H1.keep B2)
  have HY := hid H2
  have HB := hid (B1.trans (B2.mono (by omega)))
  have s2 : w2.heap.size = w.heap.size + 2 := by omega
  clear H1 B1 S1 H2 B2 S2
  try simp only [Act.put, List.setIfInBounds_toArray, List.set_cons_succ, List.set_cons_zero]
  refine wp_region_flow 8 8 (fun i v wq => match i with
    | 0 => v = .pointer (some ⟨w.heap.size, 0, none⟩)
    | 1 => v = .agg (exC6 zxze zxzi).toArray
    | 2 => IsV wq v (exV6 zxze zxzi)
    | 3 => v = .pointer (some ⟨w.heap.size, 2, none⟩)
    | 4 => v = .agg (nums .u8 zsg)
    | 5 => IsV wq v (.mk 0 zsg [] [])
    | 6 => ∃ b, v = .slice (some ⟨b, 0, none⟩) 2 2 ∧ KsAt wq [exV6 zxze zxzi, .mk 0 zsg [] []] b 0
    | _ => ∃ b, v = .agg (valL 0 (zeros 32) nilS (.slice (some ⟨b, 0, none⟩) 2 2)).toArray ∧ KsAt wq [exV6 zxze zxzi, .mk 0 zsg [] []] b 0) (by kernel_rfl) (by kernel_rfl) (fun _ d _ _ _ h => by cases d <;> exact h) ?_ ?_ ?_ ?_
  · intro i v wq wq' hi hv hb
    match i, hi with
    | 0, _ => exact hv
    | 1, _ => exact hv
    | 2, _ => exact hv.keep hb
    | 3, _ => exact hv
    | 4, _ => exact hv
    | 5, _ => exact hv.keep hb
    | 6, _ => obtain ⟨b, h1, h2⟩ := hv; exact ⟨b, h1, KsAt.keep hb _ h2⟩
    | 7, _ => obtain ⟨b, h1, h2⟩ := hv; exact ⟨b, h1, KsAt.keep hb _ h2⟩
    | (k + 8), hk => exact absurd hk (by omega)
  · intro i o hi ho aq wq hc hk hdep
    match i, hi with
    | 0, _ =>
      cases ho
      have e1 : aq.tmps.getD 1 undef = .pointer (some ⟨w.heap.size, 0, none⟩) := hk 1 (by decide)
      exact flow_value _ (run_fieldAt 86 (.tmp 1) 0 rfl _ _ e1 (by kernel_rfl)) rfl
    | 1, _ =>
      cases ho
      have e0 : aq.tmps.getD 3 undef = .pointer (some ⟨w.heap.size, 0, none⟩) := hdep 0 3 rfl (by kernel_rfl)
      exact flow_value _ (run_mid 84 (.tmp 3) rfl w.heap.size 0 e0 (exC6 zxze zxzi) ((HX.out.keep (hcB hc)).range 0 (exC6 zxze zxzi) (seg (ps := sxP6 zxze zxzi zsg) (i := 0) (off := 0) rfl (by simp [sxP6, cellsB_length, hzsg.len, exC6_length zxze zxzi ]))) _ Tryz.underlying84 rfl (by rw [exC6_length zxze zxzi ]; kernel_rfl)) rfl
    | 2, _ =>
      cases ho
      have e0 : aq.tmps.getD 4 undef = .agg (exC6 zxze zxzi).toArray := hdep 1 4 rfl (by kernel_rfl)
      refine flow_fun 83 _ _ rfl (fun _ _ => by simp [go_sem]) #[.agg (exC6 zxze zxzi).toArray] (by rw [show (#[Operand.tmp 4] : Array Operand).map aq.eval = #[aq.tmps.getD 4 undef] from by simp [Act.eval], e0]) ?_
      refine (exV6_any zxze zxzi hzxze hzxzi wq).mono ?_
      rintro x w' ⟨v, rfl, hv, q⟩
      exact ⟨v, rfl, hv, q⟩
    | 3, _ =>
      cases ho
      have e1 : aq.tmps.getD 1 undef = .pointer (some ⟨w.heap.size, 0, none⟩) := hk 1 (by decide)
      exact flow_value _ (run_fieldAt 86 (.tmp 1) 1 rfl _ _ e1 (by kernel_rfl)) rfl
    | 4, _ =>
      cases ho
      have e0 : aq.tmps.getD 6 undef = .pointer (some ⟨w.heap.size, 2, none⟩) := hdep 3 6 rfl (by kernel_rfl)
      exact flow_value _ (run_mid 24 (.tmp 6) rfl w.heap.size 2 e0 (cellsB zsg) ((HX.out.keep (hcB hc)).range 2 (cellsB zsg) (seg (ps := sxP6 zxze zxzi zsg) (i := 1) (off := 2) rfl (by simp [sxP6, cellsB_length, hzsg.len, exC6_length zxze zxzi ]))) _ Tryz.und24 rfl (by rw [cellsB_length, hzsg.len]; exact Tryz.size24)) rfl
    | 5, _ =>
      cases ho
      have e0 : aq.tmps.getD 7 undef = .agg (nums .u8 zsg) := hdep 4 7 rfl (by kernel_rfl)
      refine flow_fun 44 _ _ rfl (fun _ _ => by simp [go_sem]) #[.agg (nums .u8 zsg)] (by rw [show (#[Operand.tmp 7] : Array Operand).map aq.eval = #[aq.tmps.getD 7 undef] from by simp [Act.eval], e0]) ?_
      refine (r_any zsg hzsg.len wq).mono ?_
      rintro x w' ⟨rfl, q⟩
      exact ⟨_, rfl, IsV.leaf w' (by decide) hzsg.len hzsg.byte, q⟩
    | 6, _ =>
      cases ho
      obtain ⟨sb0, sk0, e0, h0_⟩ := hdep 2 5 rfl (by kernel_rfl)
      obtain ⟨sb1, sk1, e1, h1_⟩ := hdep 5 8 rfl (by kernel_rfl)
      refine flow_rowsB 31 33 2 35 _ rfl Tryz.underlying31 valInfo [valL 0 (zeros 32) sb0 sk0, valL 0 zsg sb1 sk1] [.tmp 5, .tmp 8] rfl (by rw [show [Operand.tmp 5, Operand.tmp 8].map aq.eval = [aq.tmps.getD 5 undef, aq.tmps.getD 8 undef] from rfl, e0, e1]; rfl) (by simp [valL_length, zeros32, hzsg.len]) rfl (by decide) (by decide) (by decide) (fun w' h hb => ⟨_, rfl, ksAt_of h [(exV6 zxze zxzi, sb0, sk0), (.mk 0 zsg [] [], sb1, sk1)] 0 (fun j v hj => by rw [Nat.zero_add]; exact hj) (fun x hx => ?_)⟩)
      simp only [List.mem_cons, List.not_mem_nil, or_false] at hx
      rcases hx with rfl | rfl
      · exact VAt.keep hb _ h0_
      · exact VAt.keep hb _ h1_
    | 7, _ =>
      cases ho
      obtain ⟨b, e6, h6⟩ := hdep 6 9 rfl (by kernel_rfl)
      refine flow_fun 42 _ _ rfl (fun _ _ => by simp [go_sem]) #[.slice (some ⟨b, 0, none⟩) 2 2] (by rw [show (#[Operand.tmp 9] : Array Operand).map aq.eval = #[aq.tmps.getD 9 undef] from by simp [Act.eval], e6]) ?_
      refine (all_any (some ⟨b, 0, none⟩) 2 2 wq).mono ?_
      rintro x w' ⟨rfl, q⟩
      exact ⟨_, rfl, ⟨b, rfl, KsAt.keep q _ h6⟩, q⟩
    | (k + 8), hk => exact absurd hk (by omega)
  · intro o h8 ho
    omega
  intro vf w8 hc hv
  have e7 : ∃ b, vf 7 = _ ∧ KsAt w8 _ b 0 := hv 7 10 (by decide) rfl
  obtain ⟨b, e7, h7⟩ := e7
  have B8 := HB.out.trans ((hcB hc).mono (by omega))
  have H8v := HY.out.keep (hcB hc)
  have s8 := (hcB hc).size
  clear hv hc
  simp only [List.take_succ_cons, List.take_zero, List.drop_succ_cons, List.drop_zero, putAll, Act.put, List.setIfInBounds_toArray, List.set_cons_succ, List.set_cons_zero]
  rw [e7]
  have HB8 := hid B8
  have HK := hid h7
  clear B8 h7 e7 HB
  go_wp2_with ((with_reducible refine at_list' ?_); first
    | (refine wpList_store_c Tryz.ty33 rfl (.tmp 2) (.tmp 10) rfl (w.heap.size + 1) (valL 0 (zeros 32) nilS (.slice (some ⟨b, 0, none⟩) 2 2)) rfl rfl rfl (valL_oneC _ _ _ _ trivial trivial) _ H8v rfl ?_; intro w9 H9 O9))
  refine bodyPost_ret (results_c1 Tryz.ty33 rfl _ w9 (w.heap.size + 1) _ rfl H9 rfl) rfl ⟨_, rfl, ⟨nilS, _, rfl, ?_⟩, below_only HB8.out O9 (by omega)⟩
  exact VAt.aside H8v rfl O9 (sxV6 zxze zxzi zsg) (sxV6_wide zxze zxzi zsg) (isV_all (ks := [exV6 zxze zxzi, .mk 0 zsg [] []]) rfl (by decide) HK.out)
end Go.Proofs.YtoajeencniomoaaGreat

/- The document's kind of a Exit. -/
namespace Go.Proofs.YtoajeencniomoaaGreat
open Go.RowKit
set_option linter.unusedVariables false
set_option maxRecDepth 100000

set_option maxHeartbeats 2000000 in
theorem dex_any (w : World) : Calls Tryz.prog 88 #[] w fun x w' => ∃ p, x = .returned (.pointer (some ⟨p, 0, none⟩)) ∧ DAt w' (dBox [dNum, dNum]) p ∧ Below w.heap.size w w' := by
  have HB0 := hid (Below.refl w.heap.size w)
  go_enter Tryz.func88, Tryz.ntmps88
  go_wp2_with fail
  refine (num_any' w).mono ?_
  rintro e w1 ⟨rfl, q1, q2⟩
  have HD0_0 := hid q1
  have HB1 := hid (HB0.out.trans (q2.mono HB0.out.size))
  clear q1 q2 HB0
  go_wp2_with fail
  refine (num_any' w1).mono ?_
  rintro e w2 ⟨rfl, q1, q2⟩
  have HD0_1 := hid (DAt.keep q2 _ HD0_0.out)
  have HD1_1 := hid q1
  have HB2 := hid (HB1.out.trans (q2.mono HB1.out.size))
  clear q1 q2 HB1 HD0_0
  go_wp2_with fail
  have hB : Below w2.heap.size w2 (w2.alloc (.cells #[.pointer (some ⟨w.heap.size, 0, none⟩), .pointer (some ⟨w1.heap.size, 0, none⟩)] 41)) := (Below.refl _ w2).alloc (Nat.le_refl _) _
  have h := heap_alloc_new w2 (.cells #[.pointer (some ⟨w.heap.size, 0, none⟩), .pointer (some ⟨w1.heap.size, 0, none⟩)] 41)
  generalize w2.alloc (.cells #[.pointer (some ⟨w.heap.size, 0, none⟩), .pointer (some ⟨w1.heap.size, 0, none⟩)] 41) = w3 at hB h ⊢
  have hD : DsAt w3 [dNum, dNum] w2.heap.size 0 := by
    simp only [DsAt]
    exact ⟨⟨_, cell_of_row _ _ 0 _ _ (0, 0) h, DAt.keep hB _ HD0_1.out⟩, ⟨_, cell_of_row _ _ 1 _ _ (0, 0) h, DAt.keep hB _ HD1_1.out⟩, trivial⟩
  have HC := hid (box_any w2.heap.size 2 [dNum, dNum] w3 rfl (by decide) hD)
  have HBm := hid (HB2.out.trans (hB.mono HB2.out.size))
  clear hB h hD
  refine HC.out.mono ?_
  rintro e wz ⟨rfl, q1, q2⟩
  have X := hid (And.intro q1 q2)
  clear q1 q2 HC
  go_wp2
  go_ret
  exact ⟨_, rfl, X.out.1, HBm.out.trans (X.out.2.mono HBm.out.size)⟩
end Go.Proofs.YtoajeencniomoaaGreat

/- The document's kind of a SignedExit. -/
namespace Go.Proofs.YtoajeencniomoaaGreat
open Go.RowKit
set_option linter.unusedVariables false
set_option maxRecDepth 100000

set_option maxHeartbeats 2000000 in
theorem dsx_any (w : World) : Calls Tryz.prog 39 #[] w fun x w' => ∃ p, x = .returned (.pointer (some ⟨p, 0, none⟩)) ∧ DAt w' (dBox [dBox [dNum, dNum], dRoot]) p ∧ Below w.heap.size w w' := by
  have HB0 := hid (Below.refl w.heap.size w)
  go_enter Tryz.func39, Tryz.ntmps39
  go_wp2_with fail
  refine (dex_any w).mono ?_
  rintro e w1 ⟨p0, rfl, q1, q2⟩
  have HD0_0 := hid q1
  have HB1 := hid (HB0.out.trans (q2.mono HB0.out.size))
  clear q1 q2 HB0
  go_wp2_with fail
  refine (root_any' w1).mono ?_
  rintro e w2 ⟨rfl, q1, q2⟩
  have HD0_1 := hid (DAt.keep q2 _ HD0_0.out)
  have HD1_1 := hid q1
  have HB2 := hid (HB1.out.trans (q2.mono HB1.out.size))
  clear q1 q2 HB1 HD0_0
  go_wp2_with fail
  have hB : Below w2.heap.size w2 (w2.alloc (.cells #[.pointer (some ⟨p0, 0, none⟩), .pointer (some ⟨w1.heap.size, 0, none⟩)] 41)) := (Below.refl _ w2).alloc (Nat.le_refl _) _
  have h := heap_alloc_new w2 (.cells #[.pointer (some ⟨p0, 0, none⟩), .pointer (some ⟨w1.heap.size, 0, none⟩)] 41)
  generalize w2.alloc (.cells #[.pointer (some ⟨p0, 0, none⟩), .pointer (some ⟨w1.heap.size, 0, none⟩)] 41) = w3 at hB h ⊢
  have hD : DsAt w3 [dBox [dNum, dNum], dRoot] w2.heap.size 0 := by
    simp only [DsAt]
    exact ⟨⟨_, cell_of_row _ _ 0 _ _ (0, 0) h, DAt.keep hB _ HD0_1.out⟩, ⟨_, cell_of_row _ _ 1 _ _ (0, 0) h, DAt.keep hB _ HD1_1.out⟩, trivial⟩
  have HC := hid (box_any w2.heap.size 2 [dBox [dNum, dNum], dRoot] w3 rfl (by decide) hD)
  have HBm := hid (HB2.out.trans (hB.mono HB2.out.size))
  clear hB h hD
  refine HC.out.mono ?_
  rintro e wz ⟨rfl, q1, q2⟩
  have X := hid (And.intro q1 q2)
  clear q1 q2 HC
  go_wp2
  go_ret
  exact ⟨_, rfl, X.out.1, HBm.out.trans (X.out.2.mono HBm.out.size)⟩
end Go.Proofs.YtoajeencniomoaaGreat

/- Lengths of parts, and numbers as bytes: there and back. -/
namespace Go.Proofs.YtoajeencniomoaaGreat
open Go.RowKit
set_option linter.unusedVariables false
/-- What parts are joined to. -/
def joinB (bss : List (List Nat)) : List Nat := cont (bss.map fun b => (b, true))
def lenB (bss : List (List Nat)) : Nat := (bss.map List.length).sum
theorem lenB_F (bss : List (List Nat)) : lenF (bss.map fun b => (b, true)) = lenB bss := by
  unfold lenF lenB
  rw [List.map_map]; rfl
theorem lenB_take (bss : List (List Nat)) (k : Nat) : lenB (bss.take k) ≤ lenB bss := by
  have := lenF_take (bss.map fun b => (b, true)) k
  rw [← List.map_take, lenB_F, lenB_F] at this
  exact this
theorem lenB_mem {bss : List (List Nat)} {i : Nat} {x : List Nat} (h : bss[i]? = some x) : x.length ≤ lenB bss := by
  have h1 := lenB_take bss (i + 1)
  have hi := (List.getElem?_eq_some_iff.1 h).1
  rw [List.take_succ_eq_append_getElem hi] at h1
  rw [List.getElem?_eq_getElem hi] at h
  cases h
  have e : ∀ (a : List (List Nat)) (b : List Nat), lenB (a ++ [b]) = lenB a + b.length := fun a b => by simp [lenB]
  rw [e] at h1
  omega

theorem le_putL (x k : Nat) : ((le x k).map fun n : Nat => (n : Int)) = putL x k := by
  simp [le, putL, byteAt]
theorem tk_le (x k : Nat) (hk : k ≤ 8) : tk (le x k) = x % 256 ^ k := by
  unfold tk takeV
  rw [le_putL, List.take_of_length_le (by rw [putL_length]; omega), takeL_put]
theorem tk_le4 (x : Nat) (h : x < 4294967296) : tk (le x 4) = x := by
  rw [tk_le x 4 (by decide)]
  exact Nat.mod_eq_of_lt h
theorem lenB_cons (b : List Nat) (r : List (List Nat)) : lenB (b :: r) = b.length + lenB r := by simp [lenB]
theorem lenB_flat (bss : List (List Nat)) : bss.flatten.length = lenB bss := by
  induction bss with
  | nil => rfl
  | cons b r ih => rw [List.flatten_cons, List.length_append, ih, lenB_cons]
theorem back_flat (bss : List (List Nat)) : backB (bss.map fun b => (b, true)) = bss.flatten := by
  induction bss with
  | nil => rfl
  | cons b r ih =>
    rw [List.map_cons, List.flatten_cons, ← ih]
    simp [backB]
theorem front_at (rest : List Nat) : ∀ (bss : List (List Nat)) (p j : Nat), j < bss.length → ((frontB p (bss.map fun b => (b, true)) ++ rest).drop (4 * j)).take 4 = le (p + lenB (bss.take j)) 4
  | [], p, j, h => by simp at h
  | b :: r, p, 0, h => by
    rw [List.map_cons, frontB]
    simp only [if_true, List.append_assoc, Nat.mul_zero, List.drop_zero, List.take_zero]
    rw [List.take_append_of_le_length (by rw [le_length]; exact Nat.le_refl _), List.take_of_length_le (by rw [le_length]; exact Nat.le_refl _)]
    rfl
  | b :: r, p, j + 1, h => by
    rw [List.map_cons, frontB]
    simp only [if_true, List.append_assoc]
    have h4 : (le p 4).length = 4 := le_length _ _
    rw [show 4 * (j + 1) = (le p 4).length + 4 * j by rw [h4]; omega, List.drop_append, List.take_succ_cons, lenB_cons]
    have e : List.drop ((le p 4).length + 4 * j) (le p 4) = [] := List.drop_eq_nil_of_le (by omega)
    rw [e, List.nil_append, show (le p 4).length + 4 * j - (le p 4).length = 4 * j by omega, front_at rest r (p + b.length) j (by simpa using h), Nat.add_assoc]
theorem flat_part : ∀ (bss : List (List Nat)) (i : Nat) (x : List Nat), bss[i]? = some x → (bss.flatten.drop (lenB (bss.take i))).take x.length = x
  | [], i, x, h => by simp at h
  | b :: r, 0, x, h => by
    simp at h
    subst h
    simp [lenB]
  | b :: r, i + 1, x, h => by
    rw [List.take_succ_cons, lenB_cons, List.flatten_cons, List.drop_append, List.drop_eq_nil_of_le (by omega), List.nil_append, show b.length + lenB (r.take i) - b.length = lenB (r.take i) by omega]
    exact flat_part r i x (by simpa using h)
theorem lenB_succ (bss : List (List Nat)) (i : Nat) (x : List Nat) (h : bss[i]? = some x) : lenB (bss.take (i + 1)) = lenB (bss.take i) + x.length := by
  have hi := (List.getElem?_eq_some_iff.1 h).1
  rw [List.getElem?_eq_getElem hi] at h
  cases h
  rw [List.take_succ_eq_append_getElem hi]
  have e : ∀ (a : List (List Nat)) (b : List Nat), lenB (a ++ [b]) = lenB a + b.length := fun a b => by simp [lenB]
  exact e _ _
end Go.Proofs.YtoajeencniomoaaGreat

/- Numbers as eight bytes, there and back. -/
namespace Go.Proofs.YtoajeencniomoaaGreat
open Go.RowKit
set_option maxRecDepth 100000

theorem tk_le8 (n : Nat) (h : n < 18446744073709551616) : tk (le n 8) = n := by
  unfold tk
  rw [le_putL]
  exact takeV_put8 n h
end Go.Proofs.YtoajeencniomoaaGreat

/- CodecExits: its contracts, made one. -/
namespace Go.Proofs.YtoajeencniomoaaGreat
open Go.RowKit
set_option linter.unusedVariables false
set_option linter.unusedSimpArgs false
set_option maxRecDepth 100000

theorem sxB (ep : Nat) (ix : Nat) (sg : List Nat) : cont (sxF ep ix sg) = le ep 8 ++ (le ix 8 ++ (sg)) := by simp [sxF, numF, rootF, cont, frontB, backB]
theorem sxK_ok : okD (dBox [dBox [dNum, dNum], dRoot]) := by simp [okD, okDs, dBox, dNum, dRoot, small, sizeD, sizeS, sizeH]
theorem sxV_enc (ep : Nat) (ix : Nat) (sg : List Nat) : encV (dBox [dBox [dNum, dNum], dRoot]) (sxV6 ep ix sg) = cont (sxF ep ix sg) := by
  rw [sxB]
  simp [dBox, dNum, dRoot, sxV6, exV6, encV, encK, kdsV, sizeD, sizeS, sizeH, cont, frontB, backB]
theorem sxV_ok (ep : Nat) (ix : Nat) (sg : List Nat) (hsg : sg.length = 32) : okV (dBox [dBox [dNum, dNum], dRoot]) (sxV6 ep ix sg) := by
  simp [dBox, dNum, dRoot, sxV6, exV6, okV, okK, encV, encK, kdsV, sizeD, sizeS, sizeH, lenF, le_length, cont, frontB, backB, hsg]
theorem sxC_six (ep : Nat) (ix : Nat) (sg : List Nat) : sxC6 ep ix sg = sxC ep ix sg := by simp [sxC6, sxP6, exC6, exP6, sxC]
theorem sxD_good (ep : Nat) (ix : Nat) (sg : List Nat) (hep : ep < 18446744073709551616) (hix : ix < 18446744073709551616) (hsg : sg.length = 32) : sxD (le ep 8 ++ (le ix 8 ++ (sg))) = .tuple #[.agg (sxC ep ix sg).toArray, .int .i64 0] := by
  obtain ⟨y0, hy0, hyn0⟩ : ∃ y, le ep 8 = y ∧ y.length = 8 := ⟨_, rfl, le_length _ _⟩
  have e0 : tk y0 = ep := by rw [← hy0]; exact tk_le8 ep hep
  obtain ⟨y1, hy1, hyn1⟩ : ∃ y, le ix 8 = y ∧ y.length = 8 := ⟨_, rfl, le_length _ _⟩
  have e1 : tk y1 = ix := by rw [← hy1]; exact tk_le8 ix hix
  rw [hy0, hy1]
  obtain ⟨BS, hBS⟩ : ∃ B, y0 ++ (y1 ++ (sg)) = B := ⟨_, rfl⟩
  have hl : BS.length = 48 := by rw [← hBS]; simp [hyn0, hyn1, hsg]
  have d0 : BS.drop 0 = y0 ++ (y1 ++ (sg)) := by rw [List.drop_zero]; exact hBS.symm
  have d1 : BS.drop 8 = y1 ++ (sg) := by rw [show (8 : Nat) = 0 + 8 from rfl, ← List.drop_drop, d0]; exact List.drop_left' hyn0
  have d2 : BS.drop 16 = sg := by rw [show (16 : Nat) = 8 + 8 from rfl, ← List.drop_drop, d1]; exact List.drop_left' hyn1
  rw [hBS]
  unfold sxD
  rw [if_pos hl]
  have t : sxTake BS 48 (0, false) = sxC (tk ((BS.drop 0).take 8)) (tk ((BS.drop 8).take 8)) ((BS.drop 16).take 32) := rfl
  have t0 : (BS.drop 0).take 8 = y0 := by rw [d0]; exact List.take_left' hyn0
  have t1 : (BS.drop 8).take 8 = y1 := by rw [d1]; exact List.take_left' hyn1
  have t2 : (BS.drop 16).take 32 = sg := by rw [d2]; exact List.take_of_length_le (by omega)
  rw [t, t0, t1, t2, e0, e1]
  rfl
theorem sx_walk (ep : Nat) (ix : Nat) (sg : List Nat) (hep : ep < 18446744073709551616) (hix : ix < 18446744073709551616) (hsg : sg.length = 32) (hsg8 : ∀ z ∈ sg, z < 256) (w : World) :
    Calls Tryz.prog 8 #[.agg (sxC ep ix sg).toArray] w fun e w' => e = .returned (.bool true) ∧ Below w.heap.size w w' := by
  have hB := sxB ep ix sg
  refine codecSignedExit_walk (sxC ep ix sg) (sxC 0 0 (zeros 32)) (sxV6 ep ix sg) (cont (sxF ep ix sg)) (dBox [dBox [dNum, dNum], dRoot]) w Tryz.ty86 (by rw [(show (sxC ep ix sg).length = _ from sxC_length ep ix sg hsg)]; rfl) (sxC_one _ _ _) ?_ (fun wq => ?_) (fun wq => encSx_any ep ix sg wq hep hix hsg hsg8) (fun v wq hI => ?_) (fun wq => dsx_any wq) (fun p u wq hD hV => ?_) (fun u v wq hu hv => ?_)
  · rw [hB]
    intro z hz
    simp only [List.mem_append] at hz
    rcases hz with hz | hz | hz
    · exact le_byte _ _ z hz
    · exact le_byte _ _ z hz
    · exact hsg8 z hz
  · rw [← sxC_six ep ix sg]
    exact sxV6_any ep ix sg hep hix ⟨hsg, hsg8⟩ wq
  · have h := toSx_any v _ wq hI (by rw [hB]; simp [le_length, hsg])
    rw [hB, sxD_good ep ix sg hep hix hsg] at h
    exact h
  · have h := enc_any _ _ u p wq sxK_ok (sxV_ok ep ix sg hsg) hD hV
    rw [sxV_enc] at h
    exact h
  · have h := same_any _ _ u v wq hu hv
    rw [sameV_refl] at h
    exact h
end Go.Proofs.YtoajeencniomoaaGreat

/- Structs that came in by value. -/
namespace Go.Proofs.YtoajeencniomoaaGreat
open Go.RowKit Go.Deep Go.WideShapes
set_option linter.unusedVariables false
set_option linter.unusedSimpArgs false
set_option maxRecDepth 100000

abbrev Rt (r : List Nat) : Prop := r.length = 32 ∧ ∀ z ∈ r, z < 256
theorem cellsRt : Tryz.prog.cellsOf 24 = 32 := by kernel_rfl
theorem cellsU8 : Tryz.prog.cellsOf 5 = 1 := by kernel_rfl
theorem cellsU64 : Tryz.prog.cellsOf 22 = 1 := by kernel_rfl
/-- Parts of a list, one behind the other. -/
def cutAt {α : Type} (cs : List α) : Nat → List Nat → List (List α)
  | _, [] => []
  | o, k :: ks => (cs.drop o).take k :: cutAt cs (o + k) ks
theorem cut_flat {α : Type} (cs : List α) : ∀ (ks : List Nat) (o : Nat), o + ks.sum = cs.length → cs.drop o = (cutAt cs o ks).flatten := by
  intro ks
  induction ks with
  | nil => intro o h; simp at h; rw [h, List.drop_length]; rfl
  | cons k ks ih =>
    intro o h
    rw [cutAt, List.flatten_cons, ← ih (o + k) (by simp at h; omega), ← List.drop_drop, List.take_append_drop]
section
variable {H : Type} {enc : TypeId × Value → H} {W : World} {b0 : Nat} {sp : Nat → Bool} {held : Bool}
theorem root_of_trod {fuel : Nat} {cs : List Value} {x : DataW H × List MemPlace} (h : DataW.trod enc Tryz.prog W b0 sp held fuel 24 cs = some x) : ∃ r : List Nat, cs = cellsB r ∧ r.length = 32 ∧ ∀ z ∈ r, z < 256 := by
  obtain ⟨xs, m, _, _, hl, hxs, hel⟩ := DataW.trod_array Tryz.und24 h
  rw [cellsRt] at hl
  have key : ∀ i (hi : i < cs.length), ∃ n : Nat, cs[i] = .int .u8 (n : Int) ∧ n < 256 := by
    intro i hi
    have h1 := hel i (by omega)
    rw [cellsU8, Nat.mul_one, List.getElem?_eq_getElem (by omega)] at h1
    obtain ⟨n, e1, _, hw⟩ := DataW.trod_int Tryz.underlying5 h1
    have hb := bounds_u8 hw
    have e2 : (cs.drop i).take 1 = [cs[i]] := by
      rw [List.drop_eq_getElem_cons hi, List.take_succ_cons, List.take_zero]
    have e3 : [cs[i]] = [Value.int .u8 n] := e2.symm.trans e1
    refine ⟨n.toNat, ?_, by omega⟩
    have e4 : cs[i] = Value.int .u8 n := by simpa using e3
    rw [e4]
    congr 1
    omega
  refine ⟨cs.map fun v => (intOf v).toNat, ?_, by simp [hl], ?_⟩
  · unfold cellsB
    apply List.ext_getElem
    · simp
    · intro i h1 h2
      obtain ⟨n, e, hn⟩ := key i h1
      simp [e, intOf]
  · intro z hz
    obtain ⟨v, hv, rfl⟩ := List.mem_map.1 hz
    obtain ⟨i, hi, rfl⟩ := List.mem_iff_getElem.1 hv
    obtain ⟨n, e, hn⟩ := key i hi
    simp [e, intOf, hn]
theorem num_of_trod {fuel : Nat} {cs : List Value} {x : DataW H × List MemPlace} (h : DataW.trod enc Tryz.prog W b0 sp held fuel 22 cs = some x) : ∃ n : Nat, cs = [.int .u64 (n : Nat)] ∧ n < 18446744073709551616 := by
  obtain ⟨i, e, _, hw⟩ := DataW.trod_int Tryz.underlying22 h
  have hb := bounds_u64 hw
  refine ⟨i.toNat, ?_, by omega⟩
  rw [e, Int.toNat_of_nonneg hb.1]
theorem cells_cp : Tryz.prog.cellsOf 26 = 33 := by kernel_rfl
theorem cp_of_trod {fuel : Nat} {cs : List Value} {x : DataW H × List MemPlace} (h : DataW.trod enc Tryz.prog W b0 sp held fuel 26 cs = some x) : ∃ (ze : Nat) (zr : List Nat), cs = cpC ze zr ∧ ze < 18446744073709551616 ∧ Rt zr := by
  obtain ⟨xs, n, _, _, hl, hlen, hf⟩ := DataW.trod_struct Tryz.underlying26 h
  rw [cells_cp] at hl
  have hx : xs.length = 2 := hlen
  have f0 : ∃ y, DataW.trod enc Tryz.prog W b0 sp held n 22 ((cs.drop 0).take 1) = some y := by
    have := hf 0 _ rfl
    change DataW.trod enc Tryz.prog W b0 sp held n 22 (List.take (Tryz.prog.cellsOf 22) (List.drop 0 cs)) = xs[0]? at this
    rw [cellsU64, List.getElem?_eq_getElem (by omega)] at this
    exact ⟨_, this⟩
  obtain ⟨y0, f0⟩ := f0
  obtain ⟨ze, e0, hze⟩ := num_of_trod f0
  have f1 : ∃ y, DataW.trod enc Tryz.prog W b0 sp held n 24 ((cs.drop 1).take 32) = some y := by
    have := hf 1 _ rfl
    change DataW.trod enc Tryz.prog W b0 sp held n 24 (List.take (Tryz.prog.cellsOf 24) (List.drop 1 cs)) = xs[1]? at this
    rw [cellsRt, List.getElem?_eq_getElem (by omega)] at this
    exact ⟨_, this⟩
  obtain ⟨y1, f1⟩ := f1
  obtain ⟨zr, e1, hzr⟩ := root_of_trod f1
  have hc := cut_flat cs [1, 32] 0 (by rw [hl]; rfl)
  rw [List.drop_zero] at e0
  simp only [cutAt, List.drop_zero, Nat.zero_add, Nat.reduceAdd, e0, e1] at hc
  refine ⟨ze, zr, by rw [hc]; simp [cpC], hze, hzr⟩
theorem open_cp {base : Nat} {v : Value} {d : DataW H} {p : List MemPlace} (hv : Value.okWide Tryz.prog W .any base 26 v) (h : DataW.Trod enc Tryz.prog W b0 sp held 26 v d p) : ∃ (ze : Nat) (zr : List Nat), v = .agg (cpC ze zr).toArray ∧ ze < 18446744073709551616 ∧ Rt zr := by
  obtain ⟨cs, rfl, _⟩ := okWide_struct Tryz.underlying26 hv
  obtain ⟨fuel, hf⟩ := h
  obtain ⟨ze, zr, e, hze, hzr⟩ := cp_of_trod hf
  exact ⟨ze, zr, by rw [← Array.toList_inj.1 (show cs.toList = (cpC ze zr).toArray.toList from e)], hze, hzr⟩
theorem cells_vt : Tryz.prog.cellsOf 28 = 100 := by kernel_rfl
theorem vt_of_trod {fuel : Nat} {cs : List Value} {x : DataW H × List MemPlace} (h : DataW.trod enc Tryz.prog W b0 sp held fuel 28 cs = some x) : ∃ (zs : Nat) (zi : Nat) (zb : List Nat) (zcze : Nat) (zczr : List Nat) (ztze : Nat) (ztzr : List Nat), cs = vtC zs zi zb zcze zczr ztze ztzr ∧ zs < 18446744073709551616 ∧ zi < 18446744073709551616 ∧ Rt zb ∧ zcze < 18446744073709551616 ∧ Rt zczr ∧ ztze < 18446744073709551616 ∧ Rt ztzr := by
  obtain ⟨xs, n, _, _, hl, hlen, hf⟩ := DataW.trod_struct Tryz.underlying28 h
  rw [cells_vt] at hl
  have hx : xs.length = 5 := hlen
  have f0 : ∃ y, DataW.trod enc Tryz.prog W b0 sp held n 22 ((cs.drop 0).take 1) = some y := by
    have := hf 0 _ rfl
    change DataW.trod enc Tryz.prog W b0 sp held n 22 (List.take (Tryz.prog.cellsOf 22) (List.drop 0 cs)) = xs[0]? at this
    rw [cellsU64, List.getElem?_eq_getElem (by omega)] at this
    exact ⟨_, this⟩
  obtain ⟨y0, f0⟩ := f0
  obtain ⟨zs, e0, hzs⟩ := num_of_trod f0
  have f1 : ∃ y, DataW.trod enc Tryz.prog W b0 sp held n 22 ((cs.drop 1).take 1) = some y := by
    have := hf 1 _ rfl
    change DataW.trod enc Tryz.prog W b0 sp held n 22 (List.take (Tryz.prog.cellsOf 22) (List.drop 1 cs)) = xs[1]? at this
    rw [cellsU64, List.getElem?_eq_getElem (by omega)] at this
    exact ⟨_, this⟩
  obtain ⟨y1, f1⟩ := f1
  obtain ⟨zi, e1, hzi⟩ := num_of_trod f1
  have f2 : ∃ y, DataW.trod enc Tryz.prog W b0 sp held n 24 ((cs.drop 2).take 32) = some y := by
    have := hf 2 _ rfl
    change DataW.trod enc Tryz.prog W b0 sp held n 24 (List.take (Tryz.prog.cellsOf 24) (List.drop 2 cs)) = xs[2]? at this
    rw [cellsRt, List.getElem?_eq_getElem (by omega)] at this
    exact ⟨_, this⟩
  obtain ⟨y2, f2⟩ := f2
  obtain ⟨zb, e2, hzb⟩ := root_of_trod f2
  have f3 : ∃ y, DataW.trod enc Tryz.prog W b0 sp held n 26 ((cs.drop 34).take 33) = some y := by
    have := hf 3 _ rfl
    change DataW.trod enc Tryz.prog W b0 sp held n 26 (List.take (Tryz.prog.cellsOf 26) (List.drop 34 cs)) = xs[3]? at this
    rw [cells_cp, List.getElem?_eq_getElem (by omega)] at this
    exact ⟨_, this⟩
  obtain ⟨y3, f3⟩ := f3
  obtain ⟨zcze, zczr, e3, hzcze, hzczr⟩ := cp_of_trod f3
  have f4 : ∃ y, DataW.trod enc Tryz.prog W b0 sp held n 26 ((cs.drop 67).take 33) = some y := by
    have := hf 4 _ rfl
    change DataW.trod enc Tryz.prog W b0 sp held n 26 (List.take (Tryz.prog.cellsOf 26) (List.drop 67 cs)) = xs[4]? at this
    rw [cells_cp, List.getElem?_eq_getElem (by omega)] at this
    exact ⟨_, this⟩
  obtain ⟨y4, f4⟩ := f4
  obtain ⟨ztze, ztzr, e4, hztze, hztzr⟩ := cp_of_trod f4
  have hc := cut_flat cs [1, 1, 32, 33, 33] 0 (by rw [hl]; rfl)
  rw [List.drop_zero] at e0
  simp only [cutAt, List.drop_zero, Nat.zero_add, Nat.reduceAdd, e0, e1, e2, e3, e4] at hc
  refine ⟨zs, zi, zb, zcze, zczr, ztze, ztzr, by rw [hc]; simp [vtC], hzs, hzi, hzb, hzcze, hzczr, hztze, hztzr⟩
theorem open_vt {base : Nat} {v : Value} {d : DataW H} {p : List MemPlace} (hv : Value.okWide Tryz.prog W .any base 28 v) (h : DataW.Trod enc Tryz.prog W b0 sp held 28 v d p) : ∃ (zs : Nat) (zi : Nat) (zb : List Nat) (zcze : Nat) (zczr : List Nat) (ztze : Nat) (ztzr : List Nat), v = .agg (vtC zs zi zb zcze zczr ztze ztzr).toArray ∧ zs < 18446744073709551616 ∧ zi < 18446744073709551616 ∧ Rt zb ∧ zcze < 18446744073709551616 ∧ Rt zczr ∧ ztze < 18446744073709551616 ∧ Rt ztzr := by
  obtain ⟨cs, rfl, _⟩ := okWide_struct Tryz.underlying28 hv
  obtain ⟨fuel, hf⟩ := h
  obtain ⟨zs, zi, zb, zcze, zczr, ztze, ztzr, e, hzs, hzi, hzb, hzcze, hzczr, hztze, hztzr⟩ := vt_of_trod hf
  exact ⟨zs, zi, zb, zcze, zczr, ztze, ztzr, by rw [← Array.toList_inj.1 (show cs.toList = (vtC zs zi zb zcze zczr ztze ztzr).toArray.toList from e)], hzs, hzi, hzb, hzcze, hzczr, hztze, hztzr⟩
theorem cells_ex : Tryz.prog.cellsOf 84 = 2 := by kernel_rfl
theorem ex_of_trod {fuel : Nat} {cs : List Value} {x : DataW H × List MemPlace} (h : DataW.trod enc Tryz.prog W b0 sp held fuel 84 cs = some x) : ∃ (ze : Nat) (zi : Nat), cs = exC ze zi ∧ ze < 18446744073709551616 ∧ zi < 18446744073709551616 := by
  obtain ⟨xs, n, _, _, hl, hlen, hf⟩ := DataW.trod_struct Tryz.underlying84 h
  rw [cells_ex] at hl
  have hx : xs.length = 2 := hlen
  have f0 : ∃ y, DataW.trod enc Tryz.prog W b0 sp held n 22 ((cs.drop 0).take 1) = some y := by
    have := hf 0 _ rfl
    change DataW.trod enc Tryz.prog W b0 sp held n 22 (List.take (Tryz.prog.cellsOf 22) (List.drop 0 cs)) = xs[0]? at this
    rw [cellsU64, List.getElem?_eq_getElem (by omega)] at this
    exact ⟨_, this⟩
  obtain ⟨y0, f0⟩ := f0
  obtain ⟨ze, e0, hze⟩ := num_of_trod f0
  have f1 : ∃ y, DataW.trod enc Tryz.prog W b0 sp held n 22 ((cs.drop 1).take 1) = some y := by
    have := hf 1 _ rfl
    change DataW.trod enc Tryz.prog W b0 sp held n 22 (List.take (Tryz.prog.cellsOf 22) (List.drop 1 cs)) = xs[1]? at this
    rw [cellsU64, List.getElem?_eq_getElem (by omega)] at this
    exact ⟨_, this⟩
  obtain ⟨y1, f1⟩ := f1
  obtain ⟨zi, e1, hzi⟩ := num_of_trod f1
  have hc := cut_flat cs [1, 1] 0 (by rw [hl]; rfl)
  rw [List.drop_zero] at e0
  simp only [cutAt, List.drop_zero, Nat.zero_add, Nat.reduceAdd, e0, e1] at hc
  refine ⟨ze, zi, by rw [hc]; simp [exC], hze, hzi⟩
theorem open_ex {base : Nat} {v : Value} {d : DataW H} {p : List MemPlace} (hv : Value.okWide Tryz.prog W .any base 84 v) (h : DataW.Trod enc Tryz.prog W b0 sp held 84 v d p) : ∃ (ze : Nat) (zi : Nat), v = .agg (exC ze zi).toArray ∧ ze < 18446744073709551616 ∧ zi < 18446744073709551616 := by
  obtain ⟨cs, rfl, _⟩ := okWide_struct Tryz.underlying84 hv
  obtain ⟨fuel, hf⟩ := h
  obtain ⟨ze, zi, e, hze, hzi⟩ := ex_of_trod hf
  exact ⟨ze, zi, by rw [← Array.toList_inj.1 (show cs.toList = (exC ze zi).toArray.toList from e)], hze, hzi⟩
theorem cells_sx : Tryz.prog.cellsOf 86 = 34 := by kernel_rfl
theorem sx_of_trod {fuel : Nat} {cs : List Value} {x : DataW H × List MemPlace} (h : DataW.trod enc Tryz.prog W b0 sp held fuel 86 cs = some x) : ∃ (zxze : Nat) (zxzi : Nat) (zsg : List Nat), cs = sxC zxze zxzi zsg ∧ zxze < 18446744073709551616 ∧ zxzi < 18446744073709551616 ∧ Rt zsg := by
  obtain ⟨xs, n, _, _, hl, hlen, hf⟩ := DataW.trod_struct Tryz.underlying86 h
  rw [cells_sx] at hl
  have hx : xs.length = 2 := hlen
  have f0 : ∃ y, DataW.trod enc Tryz.prog W b0 sp held n 84 ((cs.drop 0).take 2) = some y := by
    have := hf 0 _ rfl
    change DataW.trod enc Tryz.prog W b0 sp held n 84 (List.take (Tryz.prog.cellsOf 84) (List.drop 0 cs)) = xs[0]? at this
    rw [cells_ex, List.getElem?_eq_getElem (by omega)] at this
    exact ⟨_, this⟩
  obtain ⟨y0, f0⟩ := f0
  obtain ⟨zxze, zxzi, e0, hzxze, hzxzi⟩ := ex_of_trod f0
  have f1 : ∃ y, DataW.trod enc Tryz.prog W b0 sp held n 24 ((cs.drop 2).take 32) = some y := by
    have := hf 1 _ rfl
    change DataW.trod enc Tryz.prog W b0 sp held n 24 (List.take (Tryz.prog.cellsOf 24) (List.drop 2 cs)) = xs[1]? at this
    rw [cellsRt, List.getElem?_eq_getElem (by omega)] at this
    exact ⟨_, this⟩
  obtain ⟨y1, f1⟩ := f1
  obtain ⟨zsg, e1, hzsg⟩ := root_of_trod f1
  have hc := cut_flat cs [2, 32] 0 (by rw [hl]; rfl)
  rw [List.drop_zero] at e0
  simp only [cutAt, List.drop_zero, Nat.zero_add, Nat.reduceAdd, e0, e1] at hc
  refine ⟨zxze, zxzi, zsg, by rw [hc]; simp [sxC, exC], hzxze, hzxzi, hzsg⟩
theorem open_sx {base : Nat} {v : Value} {d : DataW H} {p : List MemPlace} (hv : Value.okWide Tryz.prog W .any base 86 v) (h : DataW.Trod enc Tryz.prog W b0 sp held 86 v d p) : ∃ (zxze : Nat) (zxzi : Nat) (zsg : List Nat), v = .agg (sxC zxze zxzi zsg).toArray ∧ zxze < 18446744073709551616 ∧ zxzi < 18446744073709551616 ∧ Rt zsg := by
  obtain ⟨cs, rfl, _⟩ := okWide_struct Tryz.underlying86 hv
  obtain ⟨fuel, hf⟩ := h
  obtain ⟨zxze, zxzi, zsg, e, hzxze, hzxzi, hzsg⟩ := sx_of_trod hf
  exact ⟨zxze, zxzi, zsg, by rw [← Array.toList_inj.1 (show cs.toList = (sxC zxze zxzi zsg).toArray.toList from e)], hzxze, hzxzi, hzsg⟩
end
end Go.Proofs.YtoajeencniomoaaGreat

