/- Own texts of the proof, joined: VaValidator LwValidator LwPair. -/
import Derived.Test.YtakdokccdkhcoaaDoorH5
/- The document's value of a struct (Validator). -/
namespace Go.Proofs.YtakdokccdkhcoaaDoor
open Go.RowKit Go.Shelf
set_option linter.unusedVariables false
set_option linter.unusedSimpArgs false
set_option maxRecDepth 100000

def vaV (zk : List Nat) (zcr : List Nat) (zef : Nat) (zsl : Bool) (zel : Nat) (zac : Nat) (zxi : Nat) (zwi : Nat) : Vt := .mk 0 (zeros 32) [] [.mk 0 zk [] [], .mk 0 zcr [] [], .mk zef (zeros 32) [] [], .mk (bitN01 zsl) (zeros 32) [] [], .mk zel (zeros 32) [] [], .mk zac (zeros 32) [] [], .mk zxi (zeros 32) [] [], .mk zwi (zeros 32) [] []]
theorem vaV_wide (zk : List Nat) (zcr : List Nat) (zef : Nat) (zsl : Bool) (zel : Nat) (zac : Nat) (zxi : Nat) (zwi : Nat) : wide (vaV zk zcr zef zsl zel zac zxi zwi) := by simp [vaV, wide, wideK]
set_option maxHeartbeats 2000000 in
theorem vaV_any (zk : List Nat) (zcr : List Nat) (zef : Nat) (zsl : Bool) (zel : Nat) (zac : Nat) (zxi : Nat) (zwi : Nat) (hzk : Rt zk) (hzcr : Rt zcr) (hzef : zef < 18446744073709551616) (hzel : zel < 18446744073709551616) (hzac : zac < 18446744073709551616) (hzxi : zxi < 18446744073709551616) (hzwi : zwi < 18446744073709551616) (w : World) : Calls Tryd.prog 26 #[.agg (vaC zk zcr zef zsl zel zac zxi zwi).toArray] w fun x w' => ∃ v, x = .returned v ∧ IsV w' v (vaV zk zcr zef zsl zel zac zxi zwi) ∧ Below w.heap.size w w' := by
  cases zsl
  · go_enter Tryd.func26, Tryd.ntmps26
    go_wp2_with ((with_reducible refine at_list' ?_); first
      | (refine wpList_box_c rfl 1 rfl (.tmp 0) rfl (vaC zk zcr zef false zel zac zxi zwi) rfl ?_; intro w1 H1 B1 S1)
      | (refine wpList_alloc_c Tryd.ty37 rfl 2 rfl rfl ?_; intro w2 H2 B2 S2; rw [S1] at H2 S2; rw [S1]; have hsl := (H1.keep B2).cell (j := 65) (v := .bool false) (seg (ps := vaP zk zcr zef false zel zac zxi zwi) (i := 3) (off := 65) rfl (by simp [vaP, cellsB_length, hzk.len, hzcr.len]) 0 _ rfl)))
    have HX := hid (H1.keep B2)
    have HY := hid H2
    have HB := hid (B1.trans (B2.mono (by omega)))
    have s2 : w2.heap.size = w.heap.size + 2 := by omega
    clear H1 B1 S1 H2 B2 S2
    try simp only [Act.put, List.setIfInBounds_toArray, List.set_cons_succ, List.set_cons_zero]
    refine wp_region_flow 25 25 (fun i v wq => match i with
      | 0 => v = .pointer (some ⟨w.heap.size, 0, none⟩)
      | 1 => v = .agg (nums .u8 zk)
      | 2 => IsV wq v (.mk 0 zk [] [])
      | 3 => v = .pointer (some ⟨w.heap.size, 32, none⟩)
      | 4 => v = .agg (nums .u8 zcr)
      | 5 => IsV wq v (.mk 0 zcr [] [])
      | 6 => v = .pointer (some ⟨w.heap.size, 64, none⟩)
      | 7 => v = .int .u64 (zef : Nat)
      | 8 => IsV wq v (.mk zef (zeros 32) [] [])
      | 9 => v = .int .u64 (bitN01 false : Nat)
      | 10 => IsV wq v (.mk (bitN01 false) (zeros 32) [] [])
      | 11 => v = .pointer (some ⟨w.heap.size, 66, none⟩)
      | 12 => v = .int .u64 (zel : Nat)
      | 13 => IsV wq v (.mk zel (zeros 32) [] [])
      | 14 => v = .pointer (some ⟨w.heap.size, 67, none⟩)
      | 15 => v = .int .u64 (zac : Nat)
      | 16 => IsV wq v (.mk zac (zeros 32) [] [])
      | 17 => v = .pointer (some ⟨w.heap.size, 68, none⟩)
      | 18 => v = .int .u64 (zxi : Nat)
      | 19 => IsV wq v (.mk zxi (zeros 32) [] [])
      | 20 => v = .pointer (some ⟨w.heap.size, 69, none⟩)
      | 21 => v = .int .u64 (zwi : Nat)
      | 22 => IsV wq v (.mk zwi (zeros 32) [] [])
      | 23 => ∃ b, v = .slice (some ⟨b, 0, none⟩) 8 8 ∧ KsAt wq [.mk 0 zk [] [], .mk 0 zcr [] [], .mk zef (zeros 32) [] [], .mk (bitN01 false) (zeros 32) [] [], .mk zel (zeros 32) [] [], .mk zac (zeros 32) [] [], .mk zxi (zeros 32) [] [], .mk zwi (zeros 32) [] []] b 0
      | _ => ∃ b, v = .agg (valL 0 (zeros 32) nilS (.slice (some ⟨b, 0, none⟩) 8 8)).toArray ∧ KsAt wq [.mk 0 zk [] [], .mk 0 zcr [] [], .mk zef (zeros 32) [] [], .mk (bitN01 false) (zeros 32) [] [], .mk zel (zeros 32) [] [], .mk zac (zeros 32) [] [], .mk zxi (zeros 32) [] [], .mk zwi (zeros 32) [] []] b 0) (by kernel_rfl) (by kernel_rfl) (fun _ d _ _ _ h => by cases d <;> exact h) ?_ ?_ ?_ ?_
    · intro i v wq wq' hi hv hb
      match i, hi with
      | 0, _ => exact hv
      | 1, _ => exact hv
      | 2, _ => exact hv.keep hb
      | 3, _ => exact hv
      | 4, _ => exact hv
      | 5, _ => exact hv.keep hb
      | 6, _ => exact hv
      | 7, _ => exact hv
      | 8, _ => exact hv.keep hb
      | 9, _ => exact hv
      | 10, _ => exact hv.keep hb
      | 11, _ => exact hv
      | 12, _ => exact hv
      | 13, _ => exact hv.keep hb
      | 14, _ => exact hv
      | 15, _ => exact hv
      | 16, _ => exact hv.keep hb
      | 17, _ => exact hv
      | 18, _ => exact hv
      | 19, _ => exact hv.keep hb
      | 20, _ => exact hv
      | 21, _ => exact hv
      | 22, _ => exact hv.keep hb
      | 23, _ => obtain ⟨b, h1, h2⟩ := hv; exact ⟨b, h1, KsAt.keep hb _ h2⟩
      | 24, _ => obtain ⟨b, h1, h2⟩ := hv; exact ⟨b, h1, KsAt.keep hb _ h2⟩
      | (k + 25), hk => exact absurd hk (by omega)
    · intro i o hi ho aq wq hc hk hdep
      match i, hi with
      | 0, _ =>
        cases ho
        have e1 : aq.tmps.getD 1 undef = .pointer (some ⟨w.heap.size, 0, none⟩) := hk 1 (by decide)
        exact flow_value _ (run_fieldAt 57 (.tmp 1) 0 rfl _ _ e1 (by kernel_rfl)) rfl
      | 1, _ =>
        cases ho
        have e0 : aq.tmps.getD 6 undef = .pointer (some ⟨w.heap.size, 0, none⟩) := hdep 0 6 rfl (by kernel_rfl)
        exact flow_value _ (run_mid 24 (.tmp 6) rfl w.heap.size 0 e0 (cellsB zk) ((HX.out.keep (hcB hc)).range 0 (cellsB zk) (seg (ps := vaP zk zcr zef false zel zac zxi zwi) (i := 0) (off := 0) rfl (by simp [vaP, cellsB_length, hzk.len, hzcr.len]))) _ Tryd.und24 rfl (by rw [cellsB_length, hzk.len]; exact Tryd.size24)) rfl
      | 2, _ =>
        cases ho
        have e0 : aq.tmps.getD 7 undef = .agg (nums .u8 zk) := hdep 1 7 rfl (by kernel_rfl)
        refine flow_fun 46 _ _ rfl (fun _ _ => by simp [go_sem]) #[.agg (nums .u8 zk)] (by rw [show (#[Operand.tmp 7] : Array Operand).map aq.eval = #[aq.tmps.getD 7 undef] from by simp [Act.eval], e0]) ?_
        refine (r_any zk hzk.len wq).mono ?_
        rintro x w' ⟨rfl, q⟩
        exact ⟨_, rfl, IsV.leaf w' (by decide) hzk.len hzk.byte, q⟩
      | 3, _ =>
        cases ho
        have e1 : aq.tmps.getD 1 undef = .pointer (some ⟨w.heap.size, 0, none⟩) := hk 1 (by decide)
        exact flow_value _ (run_fieldAt 57 (.tmp 1) 1 rfl _ _ e1 (by kernel_rfl)) rfl
      | 4, _ =>
        cases ho
        have e0 : aq.tmps.getD 9 undef = .pointer (some ⟨w.heap.size, 32, none⟩) := hdep 3 9 rfl (by kernel_rfl)
        exact flow_value _ (run_mid 24 (.tmp 9) rfl w.heap.size 32 e0 (cellsB zcr) ((HX.out.keep (hcB hc)).range 32 (cellsB zcr) (seg (ps := vaP zk zcr zef false zel zac zxi zwi) (i := 1) (off := 32) rfl (by simp [vaP, cellsB_length, hzk.len, hzcr.len]))) _ Tryd.und24 rfl (by rw [cellsB_length, hzcr.len]; exact Tryd.size24)) rfl
      | 5, _ =>
        cases ho
        have e0 : aq.tmps.getD 10 undef = .agg (nums .u8 zcr) := hdep 4 10 rfl (by kernel_rfl)
        refine flow_fun 46 _ _ rfl (fun _ _ => by simp [go_sem]) #[.agg (nums .u8 zcr)] (by rw [show (#[Operand.tmp 10] : Array Operand).map aq.eval = #[aq.tmps.getD 10 undef] from by simp [Act.eval], e0]) ?_
        refine (r_any zcr hzcr.len wq).mono ?_
        rintro x w' ⟨rfl, q⟩
        exact ⟨_, rfl, IsV.leaf w' (by decide) hzcr.len hzcr.byte, q⟩
      | 6, _ =>
        cases ho
        have e1 : aq.tmps.getD 1 undef = .pointer (some ⟨w.heap.size, 0, none⟩) := hk 1 (by decide)
        exact flow_value _ (run_fieldAt 57 (.tmp 1) 2 rfl _ _ e1 (by kernel_rfl)) rfl
      | 7, _ =>
        cases ho
        have e0 : aq.tmps.getD 12 undef = .pointer (some ⟨w.heap.size, 64, none⟩) := hdep 6 12 rfl (by kernel_rfl)
        exact flow_value _ (run_cell 22 (.tmp 12) rfl _ e0 _ ((HX.out.keep (hcB hc)).cell (seg (ps := vaP zk zcr zef false zel zac zxi zwi) (i := 2) (off := 64) rfl (by simp [vaP, cellsB_length, hzk.len, hzcr.len]) 0 _ rfl)) _ Tryd.underlying22 rfl) rfl
      | 8, _ =>
        cases ho
        have e0 : aq.tmps.getD 13 undef = .int .u64 (zef : Nat) := hdep 7 13 rfl (by kernel_rfl)
        refine flow_fun 45 _ _ rfl (fun _ _ => by simp [go_sem]) #[.int .u64 (zef : Nat)] (by rw [show (#[Operand.tmp 13] : Array Operand).map aq.eval = #[aq.tmps.getD 13 undef] from by simp [Act.eval], e0]) ?_
        refine (n_any zef wq).mono ?_
        rintro x w' ⟨rfl, q⟩
        exact ⟨_, rfl, IsV.leaf w' hzef zeros32 (zeros_byte 32), q⟩
      | 9, _ =>
        cases ho
        exact flow_move (.tmp 3) rfl (hk 3 (by decide))
      | 10, _ =>
        cases ho
        have e0 : aq.tmps.getD 15 undef = .int .u64 (bitN01 false : Nat) := hdep 9 15 rfl (by kernel_rfl)
        refine flow_fun 45 _ _ rfl (fun _ _ => by simp [go_sem]) #[.int .u64 (bitN01 false : Nat)] (by rw [show (#[Operand.tmp 15] : Array Operand).map aq.eval = #[aq.tmps.getD 15 undef] from by simp [Act.eval], e0]) ?_
        refine (n_any (bitN01 false) wq).mono ?_
        rintro x w' ⟨rfl, q⟩
        exact ⟨_, rfl, IsV.leaf w' (bitN01_lt false) zeros32 (zeros_byte 32), q⟩
      | 11, _ =>
        cases ho
        have e1 : aq.tmps.getD 1 undef = .pointer (some ⟨w.heap.size, 0, none⟩) := hk 1 (by decide)
        exact flow_value _ (run_fieldAt 57 (.tmp 1) 4 rfl _ _ e1 (by kernel_rfl)) rfl
      | 12, _ =>
        cases ho
        have e0 : aq.tmps.getD 17 undef = .pointer (some ⟨w.heap.size, 66, none⟩) := hdep 11 17 rfl (by kernel_rfl)
        exact flow_value _ (run_cell 22 (.tmp 17) rfl _ e0 _ ((HX.out.keep (hcB hc)).cell (seg (ps := vaP zk zcr zef false zel zac zxi zwi) (i := 4) (off := 66) rfl (by simp [vaP, cellsB_length, hzk.len, hzcr.len]) 0 _ rfl)) _ Tryd.underlying22 rfl) rfl
      | 13, _ =>
        cases ho
        have e0 : aq.tmps.getD 18 undef = .int .u64 (zel : Nat) := hdep 12 18 rfl (by kernel_rfl)
        refine flow_fun 45 _ _ rfl (fun _ _ => by simp [go_sem]) #[.int .u64 (zel : Nat)] (by rw [show (#[Operand.tmp 18] : Array Operand).map aq.eval = #[aq.tmps.getD 18 undef] from by simp [Act.eval], e0]) ?_
        refine (n_any zel wq).mono ?_
        rintro x w' ⟨rfl, q⟩
        exact ⟨_, rfl, IsV.leaf w' hzel zeros32 (zeros_byte 32), q⟩
      | 14, _ =>
        cases ho
        have e1 : aq.tmps.getD 1 undef = .pointer (some ⟨w.heap.size, 0, none⟩) := hk 1 (by decide)
        exact flow_value _ (run_fieldAt 57 (.tmp 1) 5 rfl _ _ e1 (by kernel_rfl)) rfl
      | 15, _ =>
        cases ho
        have e0 : aq.tmps.getD 20 undef = .pointer (some ⟨w.heap.size, 67, none⟩) := hdep 14 20 rfl (by kernel_rfl)
        exact flow_value _ (run_cell 22 (.tmp 20) rfl _ e0 _ ((HX.out.keep (hcB hc)).cell (seg (ps := vaP zk zcr zef false zel zac zxi zwi) (i := 5) (off := 67) rfl (by simp [vaP, cellsB_length, hzk.len, hzcr.len]) 0 _ rfl)) _ Tryd.underlying22 rfl) rfl
      | 16, _ =>
        cases ho
        have e0 : aq.tmps.getD 21 undef = .int .u64 (zac : Nat) := hdep 15 21 rfl (by kernel_rfl)
        refine flow_fun 45 _ _ rfl (fun _ _ => by simp [go_sem]) #[.int .u64 (zac : Nat)] (by rw [show (#[Operand.tmp 21] : Array Operand).map aq.eval = #[aq.tmps.getD 21 undef] from by simp [Act.eval], e0]) ?_
        refine (n_any zac wq).mono ?_
        rintro x w' ⟨rfl, q⟩
        exact ⟨_, rfl, IsV.leaf w' hzac zeros32 (zeros_byte 32), q⟩
      | 17, _ =>
        cases ho
        have e1 : aq.tmps.getD 1 undef = .pointer (some ⟨w.heap.size, 0, none⟩) := hk 1 (by decide)
        exact flow_value _ (run_fieldAt 57 (.tmp 1) 6 rfl _ _ e1 (by kernel_rfl)) rfl
      | 18, _ =>
        cases ho
        have e0 : aq.tmps.getD 23 undef = .pointer (some ⟨w.heap.size, 68, none⟩) := hdep 17 23 rfl (by kernel_rfl)
        exact flow_value _ (run_cell 22 (.tmp 23) rfl _ e0 _ ((HX.out.keep (hcB hc)).cell (seg (ps := vaP zk zcr zef false zel zac zxi zwi) (i := 6) (off := 68) rfl (by simp [vaP, cellsB_length, hzk.len, hzcr.len]) 0 _ rfl)) _ Tryd.underlying22 rfl) rfl
      | 19, _ =>
        cases ho
        have e0 : aq.tmps.getD 24 undef = .int .u64 (zxi : Nat) := hdep 18 24 rfl (by kernel_rfl)
        refine flow_fun 45 _ _ rfl (fun _ _ => by simp [go_sem]) #[.int .u64 (zxi : Nat)] (by rw [show (#[Operand.tmp 24] : Array Operand).map aq.eval = #[aq.tmps.getD 24 undef] from by simp [Act.eval], e0]) ?_
        refine (n_any zxi wq).mono ?_
        rintro x w' ⟨rfl, q⟩
        exact ⟨_, rfl, IsV.leaf w' hzxi zeros32 (zeros_byte 32), q⟩
      | 20, _ =>
        cases ho
        have e1 : aq.tmps.getD 1 undef = .pointer (some ⟨w.heap.size, 0, none⟩) := hk 1 (by decide)
        exact flow_value _ (run_fieldAt 57 (.tmp 1) 7 rfl _ _ e1 (by kernel_rfl)) rfl
      | 21, _ =>
        cases ho
        have e0 : aq.tmps.getD 26 undef = .pointer (some ⟨w.heap.size, 69, none⟩) := hdep 20 26 rfl (by kernel_rfl)
        exact flow_value _ (run_cell 22 (.tmp 26) rfl _ e0 _ ((HX.out.keep (hcB hc)).cell (seg (ps := vaP zk zcr zef false zel zac zxi zwi) (i := 7) (off := 69) rfl (by simp [vaP, cellsB_length, hzk.len, hzcr.len]) 0 _ rfl)) _ Tryd.underlying22 rfl) rfl
      | 22, _ =>
        cases ho
        have e0 : aq.tmps.getD 27 undef = .int .u64 (zwi : Nat) := hdep 21 27 rfl (by kernel_rfl)
        refine flow_fun 45 _ _ rfl (fun _ _ => by simp [go_sem]) #[.int .u64 (zwi : Nat)] (by rw [show (#[Operand.tmp 27] : Array Operand).map aq.eval = #[aq.tmps.getD 27 undef] from by simp [Act.eval], e0]) ?_
        refine (n_any zwi wq).mono ?_
        rintro x w' ⟨rfl, q⟩
        exact ⟨_, rfl, IsV.leaf w' hzwi zeros32 (zeros_byte 32), q⟩
      | 23, _ =>
        cases ho
        obtain ⟨sb0, sk0, e0, h0_⟩ := hdep 2 8 rfl (by kernel_rfl)
        obtain ⟨sb1, sk1, e1, h1_⟩ := hdep 5 11 rfl (by kernel_rfl)
        obtain ⟨sb2, sk2, e2, h2_⟩ := hdep 8 14 rfl (by kernel_rfl)
        obtain ⟨sb3, sk3, e3, h3_⟩ := hdep 10 16 rfl (by kernel_rfl)
        obtain ⟨sb4, sk4, e4, h4_⟩ := hdep 13 19 rfl (by kernel_rfl)
        obtain ⟨sb5, sk5, e5, h5_⟩ := hdep 16 22 rfl (by kernel_rfl)
        obtain ⟨sb6, sk6, e6, h6_⟩ := hdep 19 25 rfl (by kernel_rfl)
        obtain ⟨sb7, sk7, e7, h7_⟩ := hdep 22 28 rfl (by kernel_rfl)
        refine flow_rowsB 35 37 8 35 _ rfl Tryd.underlying35 valInfo [valL 0 zk sb0 sk0, valL 0 zcr sb1 sk1, valL zef (zeros 32) sb2 sk2, valL (bitN01 false) (zeros 32) sb3 sk3, valL zel (zeros 32) sb4 sk4, valL zac (zeros 32) sb5 sk5, valL zxi (zeros 32) sb6 sk6, valL zwi (zeros 32) sb7 sk7] [.tmp 8, .tmp 11, .tmp 14, .tmp 16, .tmp 19, .tmp 22, .tmp 25, .tmp 28] rfl (by rw [show [Operand.tmp 8, Operand.tmp 11, Operand.tmp 14, Operand.tmp 16, Operand.tmp 19, Operand.tmp 22, Operand.tmp 25, Operand.tmp 28].map aq.eval = [aq.tmps.getD 8 undef, aq.tmps.getD 11 undef, aq.tmps.getD 14 undef, aq.tmps.getD 16 undef, aq.tmps.getD 19 undef, aq.tmps.getD 22 undef, aq.tmps.getD 25 undef, aq.tmps.getD 28 undef] from rfl, e0, e1, e2, e3, e4, e5, e6, e7]; rfl) (by simp [valL_length, zeros32, hzk.len, hzcr.len]) rfl (by decide) (by decide) (by decide) (fun w' h hb => ⟨_, rfl, ksAt_of h [(.mk 0 zk [] [], sb0, sk0), (.mk 0 zcr [] [], sb1, sk1), (.mk zef (zeros 32) [] [], sb2, sk2), (.mk (bitN01 false) (zeros 32) [] [], sb3, sk3), (.mk zel (zeros 32) [] [], sb4, sk4), (.mk zac (zeros 32) [] [], sb5, sk5), (.mk zxi (zeros 32) [] [], sb6, sk6), (.mk zwi (zeros 32) [] [], sb7, sk7)] 0 (fun j v hj => by rw [Nat.zero_add]; exact hj) (fun x hx => ?_)⟩)
        simp only [List.mem_cons, List.not_mem_nil, or_false] at hx
        rcases hx with rfl | rfl | rfl | rfl | rfl | rfl | rfl | rfl
        · exact VAt.keep hb _ h0_
        · exact VAt.keep hb _ h1_
        · exact VAt.keep hb _ h2_
        · exact VAt.keep hb _ h3_
        · exact VAt.keep hb _ h4_
        · exact VAt.keep hb _ h5_
        · exact VAt.keep hb _ h6_
        · exact VAt.keep hb _ h7_
      | 24, _ =>
        cases ho
        obtain ⟨b, e6, h6⟩ := hdep 23 29 rfl (by kernel_rfl)
        refine flow_fun 44 _ _ rfl (fun _ _ => by simp [go_sem]) #[.slice (some ⟨b, 0, none⟩) 8 8] (by rw [show (#[Operand.tmp 29] : Array Operand).map aq.eval = #[aq.tmps.getD 29 undef] from by simp [Act.eval], e6]) ?_
        refine (all_any (some ⟨b, 0, none⟩) 8 8 wq).mono ?_
        rintro x w' ⟨rfl, q⟩
        exact ⟨_, rfl, ⟨b, rfl, KsAt.keep q _ h6⟩, q⟩
      | (k + 25), hk => exact absurd hk (by omega)
    · intro o h25 ho
      omega
    intro vf w8 hc hv
    have e7 : ∃ b, vf 24 = _ ∧ KsAt w8 _ b 0 := hv 24 30 (by decide) rfl
    obtain ⟨b, e7, h7⟩ := e7
    have B8 := HB.out.trans ((hcB hc).mono (by omega))
    have H8v := HY.out.keep (hcB hc)
    have s8 := (hcB hc).size
    clear hv hc
    simp only [List.take_succ_cons, List.take_zero, List.drop_succ_cons, List.drop_zero, putAll, Act.put, List.setIfInBounds_toArray, List.set_cons_succ, List.set_cons_zero]
    rw [e7]
    have HB8 := hid B8
    have HK := hid h7
    clear B8 h7 e7 HB
    go_wp2_with ((with_reducible refine at_list' ?_); first
      | (refine wpList_store_c Tryd.ty37 rfl (.tmp 2) (.tmp 30) rfl (w.heap.size + 1) (valL 0 (zeros 32) nilS (.slice (some ⟨b, 0, none⟩) 8 8)) rfl rfl rfl (valL_oneC _ _ _ _ trivial trivial) _ H8v rfl ?_; intro w9 H9 O9))
    refine bodyPost_ret (results_c1 Tryd.ty37 rfl _ w9 (w.heap.size + 1) _ rfl H9 rfl) rfl ⟨_, rfl, ⟨nilS, _, rfl, ?_⟩, below_only HB8.out O9 (by omega)⟩
    exact VAt.aside H8v rfl O9 (vaV zk zcr zef false zel zac zxi zwi) (vaV_wide zk zcr zef false zel zac zxi zwi) (isV_all (ks := [.mk 0 zk [] [], .mk 0 zcr [] [], .mk zef (zeros 32) [] [], .mk (bitN01 false) (zeros 32) [] [], .mk zel (zeros 32) [] [], .mk zac (zeros 32) [] [], .mk zxi (zeros 32) [] [], .mk zwi (zeros 32) [] []]) rfl (by decide) HK.out)
  · go_enter Tryd.func26, Tryd.ntmps26
    go_wp2_with ((with_reducible refine at_list' ?_); first
      | (refine wpList_box_c rfl 1 rfl (.tmp 0) rfl (vaC zk zcr zef true zel zac zxi zwi) rfl ?_; intro w1 H1 B1 S1)
      | (refine wpList_alloc_c Tryd.ty37 rfl 2 rfl rfl ?_; intro w2 H2 B2 S2; rw [S1] at H2 S2; rw [S1]; have hsl := (H1.keep B2).cell (j := 65) (v := .bool true) (seg (ps := vaP zk zcr zef true zel zac zxi zwi) (i := 3) (off := 65) rfl (by simp [vaP, cellsB_length, hzk.len, hzcr.len]) 0 _ rfl)))
    have HX := hid (H1.keep B2)
    have HY := hid H2
    have HB := hid (B1.trans (B2.mono (by omega)))
    have s2 : w2.heap.size = w.heap.size + 2 := by omega
    clear H1 B1 S1 H2 B2 S2
    try simp only [Act.put, List.setIfInBounds_toArray, List.set_cons_succ, List.set_cons_zero]
    refine wp_region_flow 25 25 (fun i v wq => match i with
      | 0 => v = .pointer (some ⟨w.heap.size, 0, none⟩)
      | 1 => v = .agg (nums .u8 zk)
      | 2 => IsV wq v (.mk 0 zk [] [])
      | 3 => v = .pointer (some ⟨w.heap.size, 32, none⟩)
      | 4 => v = .agg (nums .u8 zcr)
      | 5 => IsV wq v (.mk 0 zcr [] [])
      | 6 => v = .pointer (some ⟨w.heap.size, 64, none⟩)
      | 7 => v = .int .u64 (zef : Nat)
      | 8 => IsV wq v (.mk zef (zeros 32) [] [])
      | 9 => v = .int .u64 (bitN01 true : Nat)
      | 10 => IsV wq v (.mk (bitN01 true) (zeros 32) [] [])
      | 11 => v = .pointer (some ⟨w.heap.size, 66, none⟩)
      | 12 => v = .int .u64 (zel : Nat)
      | 13 => IsV wq v (.mk zel (zeros 32) [] [])
      | 14 => v = .pointer (some ⟨w.heap.size, 67, none⟩)
      | 15 => v = .int .u64 (zac : Nat)
      | 16 => IsV wq v (.mk zac (zeros 32) [] [])
      | 17 => v = .pointer (some ⟨w.heap.size, 68, none⟩)
      | 18 => v = .int .u64 (zxi : Nat)
      | 19 => IsV wq v (.mk zxi (zeros 32) [] [])
      | 20 => v = .pointer (some ⟨w.heap.size, 69, none⟩)
      | 21 => v = .int .u64 (zwi : Nat)
      | 22 => IsV wq v (.mk zwi (zeros 32) [] [])
      | 23 => ∃ b, v = .slice (some ⟨b, 0, none⟩) 8 8 ∧ KsAt wq [.mk 0 zk [] [], .mk 0 zcr [] [], .mk zef (zeros 32) [] [], .mk (bitN01 true) (zeros 32) [] [], .mk zel (zeros 32) [] [], .mk zac (zeros 32) [] [], .mk zxi (zeros 32) [] [], .mk zwi (zeros 32) [] []] b 0
      | _ => ∃ b, v = .agg (valL 0 (zeros 32) nilS (.slice (some ⟨b, 0, none⟩) 8 8)).toArray ∧ KsAt wq [.mk 0 zk [] [], .mk 0 zcr [] [], .mk zef (zeros 32) [] [], .mk (bitN01 true) (zeros 32) [] [], .mk zel (zeros 32) [] [], .mk zac (zeros 32) [] [], .mk zxi (zeros 32) [] [], .mk zwi (zeros 32) [] []] b 0) (by kernel_rfl) (by kernel_rfl) (fun _ d _ _ _ h => by cases d <;> exact h) ?_ ?_ ?_ ?_
    · intro i v wq wq' hi hv hb
      match i, hi with
      | 0, _ => exact hv
      | 1, _ => exact hv
      | 2, _ => exact hv.keep hb
      | 3, _ => exact hv
      | 4, _ => exact hv
      | 5, _ => exact hv.keep hb
      | 6, _ => exact hv
      | 7, _ => exact hv
      | 8, _ => exact hv.keep hb
      | 9, _ => exact hv
      | 10, _ => exact hv.keep hb
      | 11, _ => exact hv
      | 12, _ => exact hv
      | 13, _ => exact hv.keep hb
      | 14, _ => exact hv
      | 15, _ => exact hv
      | 16, _ => exact hv.keep hb
      | 17, _ => exact hv
      | 18, _ => exact hv
      | 19, _ => exact hv.keep hb
      | 20, _ => exact hv
      | 21, _ => exact hv
      | 22, _ => exact hv.keep hb
      | 23, _ => obtain ⟨b, h1, h2⟩ := hv; exact ⟨b, h1, KsAt.keep hb _ h2⟩
      | 24, _ => obtain ⟨b, h1, h2⟩ := hv; exact ⟨b, h1, KsAt.keep hb _ h2⟩
      | (k + 25), hk => exact absurd hk (by omega)
    · intro i o hi ho aq wq hc hk hdep
      match i, hi with
      | 0, _ =>
        cases ho
        have e1 : aq.tmps.getD 1 undef = .pointer (some ⟨w.heap.size, 0, none⟩) := hk 1 (by decide)
        exact flow_value _ (run_fieldAt 57 (.tmp 1) 0 rfl _ _ e1 (by kernel_rfl)) rfl
      | 1, _ =>
        cases ho
        have e0 : aq.tmps.getD 6 undef = .pointer (some ⟨w.heap.size, 0, none⟩) := hdep 0 6 rfl (by kernel_rfl)
        exact flow_value _ (run_mid 24 (.tmp 6) rfl w.heap.size 0 e0 (cellsB zk) ((HX.out.keep (hcB hc)).range 0 (cellsB zk) (seg (ps := vaP zk zcr zef true zel zac zxi zwi) (i := 0) (off := 0) rfl (by simp [vaP, cellsB_length, hzk.len, hzcr.len]))) _ Tryd.und24 rfl (by rw [cellsB_length, hzk.len]; exact Tryd.size24)) rfl
      | 2, _ =>
        cases ho
        have e0 : aq.tmps.getD 7 undef = .agg (nums .u8 zk) := hdep 1 7 rfl (by kernel_rfl)
        refine flow_fun 46 _ _ rfl (fun _ _ => by simp [go_sem]) #[.agg (nums .u8 zk)] (by rw [show (#[Operand.tmp 7] : Array Operand).map aq.eval = #[aq.tmps.getD 7 undef] from by simp [Act.eval], e0]) ?_
        refine (r_any zk hzk.len wq).mono ?_
        rintro x w' ⟨rfl, q⟩
        exact ⟨_, rfl, IsV.leaf w' (by decide) hzk.len hzk.byte, q⟩
      | 3, _ =>
        cases ho
        have e1 : aq.tmps.getD 1 undef = .pointer (some ⟨w.heap.size, 0, none⟩) := hk 1 (by decide)
        exact flow_value _ (run_fieldAt 57 (.tmp 1) 1 rfl _ _ e1 (by kernel_rfl)) rfl
      | 4, _ =>
        cases ho
        have e0 : aq.tmps.getD 9 undef = .pointer (some ⟨w.heap.size, 32, none⟩) := hdep 3 9 rfl (by kernel_rfl)
        exact flow_value _ (run_mid 24 (.tmp 9) rfl w.heap.size 32 e0 (cellsB zcr) ((HX.out.keep (hcB hc)).range 32 (cellsB zcr) (seg (ps := vaP zk zcr zef true zel zac zxi zwi) (i := 1) (off := 32) rfl (by simp [vaP, cellsB_length, hzk.len, hzcr.len]))) _ Tryd.und24 rfl (by rw [cellsB_length, hzcr.len]; exact Tryd.size24)) rfl
      | 5, _ =>
        cases ho
        have e0 : aq.tmps.getD 10 undef = .agg (nums .u8 zcr) := hdep 4 10 rfl (by kernel_rfl)
        refine flow_fun 46 _ _ rfl (fun _ _ => by simp [go_sem]) #[.agg (nums .u8 zcr)] (by rw [show (#[Operand.tmp 10] : Array Operand).map aq.eval = #[aq.tmps.getD 10 undef] from by simp [Act.eval], e0]) ?_
        refine (r_any zcr hzcr.len wq).mono ?_
        rintro x w' ⟨rfl, q⟩
        exact ⟨_, rfl, IsV.leaf w' (by decide) hzcr.len hzcr.byte, q⟩
      | 6, _ =>
        cases ho
        have e1 : aq.tmps.getD 1 undef = .pointer (some ⟨w.heap.size, 0, none⟩) := hk 1 (by decide)
        exact flow_value _ (run_fieldAt 57 (.tmp 1) 2 rfl _ _ e1 (by kernel_rfl)) rfl
      | 7, _ =>
        cases ho
        have e0 : aq.tmps.getD 12 undef = .pointer (some ⟨w.heap.size, 64, none⟩) := hdep 6 12 rfl (by kernel_rfl)
        exact flow_value _ (run_cell 22 (.tmp 12) rfl _ e0 _ ((HX.out.keep (hcB hc)).cell (seg (ps := vaP zk zcr zef true zel zac zxi zwi) (i := 2) (off := 64) rfl (by simp [vaP, cellsB_length, hzk.len, hzcr.len]) 0 _ rfl)) _ Tryd.underlying22 rfl) rfl
      | 8, _ =>
        cases ho
        have e0 : aq.tmps.getD 13 undef = .int .u64 (zef : Nat) := hdep 7 13 rfl (by kernel_rfl)
        refine flow_fun 45 _ _ rfl (fun _ _ => by simp [go_sem]) #[.int .u64 (zef : Nat)] (by rw [show (#[Operand.tmp 13] : Array Operand).map aq.eval = #[aq.tmps.getD 13 undef] from by simp [Act.eval], e0]) ?_
        refine (n_any zef wq).mono ?_
        rintro x w' ⟨rfl, q⟩
        exact ⟨_, rfl, IsV.leaf w' hzef zeros32 (zeros_byte 32), q⟩
      | 9, _ =>
        cases ho
        exact flow_move (.tmp 3) rfl (hk 3 (by decide))
      | 10, _ =>
        cases ho
        have e0 : aq.tmps.getD 15 undef = .int .u64 (bitN01 true : Nat) := hdep 9 15 rfl (by kernel_rfl)
        refine flow_fun 45 _ _ rfl (fun _ _ => by simp [go_sem]) #[.int .u64 (bitN01 true : Nat)] (by rw [show (#[Operand.tmp 15] : Array Operand).map aq.eval = #[aq.tmps.getD 15 undef] from by simp [Act.eval], e0]) ?_
        refine (n_any (bitN01 true) wq).mono ?_
        rintro x w' ⟨rfl, q⟩
        exact ⟨_, rfl, IsV.leaf w' (bitN01_lt true) zeros32 (zeros_byte 32), q⟩
      | 11, _ =>
        cases ho
        have e1 : aq.tmps.getD 1 undef = .pointer (some ⟨w.heap.size, 0, none⟩) := hk 1 (by decide)
        exact flow_value _ (run_fieldAt 57 (.tmp 1) 4 rfl _ _ e1 (by kernel_rfl)) rfl
      | 12, _ =>
        cases ho
        have e0 : aq.tmps.getD 17 undef = .pointer (some ⟨w.heap.size, 66, none⟩) := hdep 11 17 rfl (by kernel_rfl)
        exact flow_value _ (run_cell 22 (.tmp 17) rfl _ e0 _ ((HX.out.keep (hcB hc)).cell (seg (ps := vaP zk zcr zef true zel zac zxi zwi) (i := 4) (off := 66) rfl (by simp [vaP, cellsB_length, hzk.len, hzcr.len]) 0 _ rfl)) _ Tryd.underlying22 rfl) rfl
      | 13, _ =>
        cases ho
        have e0 : aq.tmps.getD 18 undef = .int .u64 (zel : Nat) := hdep 12 18 rfl (by kernel_rfl)
        refine flow_fun 45 _ _ rfl (fun _ _ => by simp [go_sem]) #[.int .u64 (zel : Nat)] (by rw [show (#[Operand.tmp 18] : Array Operand).map aq.eval = #[aq.tmps.getD 18 undef] from by simp [Act.eval], e0]) ?_
        refine (n_any zel wq).mono ?_
        rintro x w' ⟨rfl, q⟩
        exact ⟨_, rfl, IsV.leaf w' hzel zeros32 (zeros_byte 32), q⟩
      | 14, _ =>
        cases ho
        have e1 : aq.tmps.getD 1 undef = .pointer (some ⟨w.heap.size, 0, none⟩) := hk 1 (by decide)
        exact flow_value _ (run_fieldAt 57 (.tmp 1) 5 rfl _ _ e1 (by kernel_rfl)) rfl
      | 15, _ =>
        cases ho
        have e0 : aq.tmps.getD 20 undef = .pointer (some ⟨w.heap.size, 67, none⟩) := hdep 14 20 rfl (by kernel_rfl)
        exact flow_value _ (run_cell 22 (.tmp 20) rfl _ e0 _ ((HX.out.keep (hcB hc)).cell (seg (ps := vaP zk zcr zef true zel zac zxi zwi) (i := 5) (off := 67) rfl (by simp [vaP, cellsB_length, hzk.len, hzcr.len]) 0 _ rfl)) _ Tryd.underlying22 rfl) rfl
      | 16, _ =>
        cases ho
        have e0 : aq.tmps.getD 21 undef = .int .u64 (zac : Nat) := hdep 15 21 rfl (by kernel_rfl)
        refine flow_fun 45 _ _ rfl (fun _ _ => by simp [go_sem]) #[.int .u64 (zac : Nat)] (by rw [show (#[Operand.tmp 21] : Array Operand).map aq.eval = #[aq.tmps.getD 21 undef] from by simp [Act.eval], e0]) ?_
        refine (n_any zac wq).mono ?_
        rintro x w' ⟨rfl, q⟩
        exact ⟨_, rfl, IsV.leaf w' hzac zeros32 (zeros_byte 32), q⟩
      | 17, _ =>
        cases ho
        have e1 : aq.tmps.getD 1 undef = .pointer (some ⟨w.heap.size, 0, none⟩) := hk 1 (by decide)
        exact flow_value _ (run_fieldAt 57 (.tmp 1) 6 rfl _ _ e1 (by kernel_rfl)) rfl
      | 18, _ =>
        cases ho
        have e0 : aq.tmps.getD 23 undef = .pointer (some ⟨w.heap.size, 68, none⟩) := hdep 17 23 rfl (by kernel_rfl)
        exact flow_value _ (run_cell 22 (.tmp 23) rfl _ e0 _ ((HX.out.keep (hcB hc)).cell (seg (ps := vaP zk zcr zef true zel zac zxi zwi) (i := 6) (off := 68) rfl (by simp [vaP, cellsB_length, hzk.len, hzcr.len]) 0 _ rfl)) _ Tryd.underlying22 rfl) rfl
      | 19, _ =>
        cases ho
        have e0 : aq.tmps.getD 24 undef = .int .u64 (zxi : Nat) := hdep 18 24 rfl (by kernel_rfl)
        refine flow_fun 45 _ _ rfl (fun _ _ => by simp [go_sem]) #[.int .u64 (zxi : Nat)] (by rw [show (#[Operand.tmp 24] : Array Operand).map aq.eval = #[aq.tmps.getD 24 undef] from by simp [Act.eval], e0]) ?_
        refine (n_any zxi wq).mono ?_
        rintro x w' ⟨rfl, q⟩
        exact ⟨_, rfl, IsV.leaf w' hzxi zeros32 (zeros_byte 32), q⟩
      | 20, _ =>
        cases ho
        have e1 : aq.tmps.getD 1 undef = .pointer (some ⟨w.heap.size, 0, none⟩) := hk 1 (by decide)
        exact flow_value _ (run_fieldAt 57 (.tmp 1) 7 rfl _ _ e1 (by kernel_rfl)) rfl
      | 21, _ =>
        cases ho
        have e0 : aq.tmps.getD 26 undef = .pointer (some ⟨w.heap.size, 69, none⟩) := hdep 20 26 rfl (by kernel_rfl)
        exact flow_value _ (run_cell 22 (.tmp 26) rfl _ e0 _ ((HX.out.keep (hcB hc)).cell (seg (ps := vaP zk zcr zef true zel zac zxi zwi) (i := 7) (off := 69) rfl (by simp [vaP, cellsB_length, hzk.len, hzcr.len]) 0 _ rfl)) _ Tryd.underlying22 rfl) rfl
      | 22, _ =>
        cases ho
        have e0 : aq.tmps.getD 27 undef = .int .u64 (zwi : Nat) := hdep 21 27 rfl (by kernel_rfl)
        refine flow_fun 45 _ _ rfl (fun _ _ => by simp [go_sem]) #[.int .u64 (zwi : Nat)] (by rw [show (#[Operand.tmp 27] : Array Operand).map aq.eval = #[aq.tmps.getD 27 undef] from by simp [Act.eval], e0]) ?_
        refine (n_any zwi wq).mono ?_
        rintro x w' ⟨rfl, q⟩
        exact ⟨_, rfl, IsV.leaf w' hzwi zeros32 (zeros_byte 32), q⟩
      | 23, _ =>
        cases ho
        obtain ⟨sb0, sk0, e0, h0_⟩ := hdep 2 8 rfl (by kernel_rfl)
        obtain ⟨sb1, sk1, e1, h1_⟩ := hdep 5 11 rfl (by kernel_rfl)
        obtain ⟨sb2, sk2, e2, h2_⟩ := hdep 8 14 rfl (by kernel_rfl)
        obtain ⟨sb3, sk3, e3, h3_⟩ := hdep 10 16 rfl (by kernel_rfl)
        obtain ⟨sb4, sk4, e4, h4_⟩ := hdep 13 19 rfl (by kernel_rfl)
        obtain ⟨sb5, sk5, e5, h5_⟩ := hdep 16 22 rfl (by kernel_rfl)
        obtain ⟨sb6, sk6, e6, h6_⟩ := hdep 19 25 rfl (by kernel_rfl)
        obtain ⟨sb7, sk7, e7, h7_⟩ := hdep 22 28 rfl (by kernel_rfl)
        refine flow_rowsB 35 37 8 35 _ rfl Tryd.underlying35 valInfo [valL 0 zk sb0 sk0, valL 0 zcr sb1 sk1, valL zef (zeros 32) sb2 sk2, valL (bitN01 true) (zeros 32) sb3 sk3, valL zel (zeros 32) sb4 sk4, valL zac (zeros 32) sb5 sk5, valL zxi (zeros 32) sb6 sk6, valL zwi (zeros 32) sb7 sk7] [.tmp 8, .tmp 11, .tmp 14, .tmp 16, .tmp 19, .tmp 22, .tmp 25, .tmp 28] rfl (by rw [show [Operand.tmp 8, Operand.tmp 11, Operand.tmp 14, Operand.tmp 16, Operand.tmp 19, Operand.tmp 22, Operand.tmp 25, Operand.tmp 28].map aq.eval = [aq.tmps.getD 8 undef, aq.tmps.getD 11 undef, aq.tmps.getD 14 undef, aq.tmps.getD 16 undef, aq.tmps.getD 19 undef, aq.tmps.getD 22 undef, aq.tmps.getD 25 undef, aq.tmps.getD 28 undef] from rfl, e0, e1, e2, e3, e4, e5, e6, e7]; rfl) (by simp [valL_length, zeros32, hzk.len, hzcr.len]) rfl (by decide) (by decide) (by decide) (fun w' h hb => ⟨_, rfl, ksAt_of h [(.mk 0 zk [] [], sb0, sk0), (.mk 0 zcr [] [], sb1, sk1), (.mk zef (zeros 32) [] [], sb2, sk2), (.mk (bitN01 true) (zeros 32) [] [], sb3, sk3), (.mk zel (zeros 32) [] [], sb4, sk4), (.mk zac (zeros 32) [] [], sb5, sk5), (.mk zxi (zeros 32) [] [], sb6, sk6), (.mk zwi (zeros 32) [] [], sb7, sk7)] 0 (fun j v hj => by rw [Nat.zero_add]; exact hj) (fun x hx => ?_)⟩)
        simp only [List.mem_cons, List.not_mem_nil, or_false] at hx
        rcases hx with rfl | rfl | rfl | rfl | rfl | rfl | rfl | rfl
        · exact VAt.keep hb _ h0_
        · exact VAt.keep hb _ h1_
        · exact VAt.keep hb _ h2_
        · exact VAt.keep hb _ h3_
        · exact VAt.keep hb _ h4_
        · exact VAt.keep hb _ h5_
        · exact VAt.keep hb _ h6_
        · exact VAt.keep hb _ h7_
      | 24, _ =>
        cases ho
        obtain ⟨b, e6, h6⟩ := hdep 23 29 rfl (by kernel_rfl)
        refine flow_fun 44 _ _ rfl (fun _ _ => by simp [go_sem]) #[.slice (some ⟨b, 0, none⟩) 8 8] (by rw [show (#[Operand.tmp 29] : Array Operand).map aq.eval = #[aq.tmps.getD 29 undef] from by simp [Act.eval], e6]) ?_
        refine (all_any (some ⟨b, 0, none⟩) 8 8 wq).mono ?_
        rintro x w' ⟨rfl, q⟩
        exact ⟨_, rfl, ⟨b, rfl, KsAt.keep q _ h6⟩, q⟩
      | (k + 25), hk => exact absurd hk (by omega)
    · intro o h25 ho
      omega
    intro vf w8 hc hv
    have e7 : ∃ b, vf 24 = _ ∧ KsAt w8 _ b 0 := hv 24 30 (by decide) rfl
    obtain ⟨b, e7, h7⟩ := e7
    have B8 := HB.out.trans ((hcB hc).mono (by omega))
    have H8v := HY.out.keep (hcB hc)
    have s8 := (hcB hc).size
    clear hv hc
    simp only [List.take_succ_cons, List.take_zero, List.drop_succ_cons, List.drop_zero, putAll, Act.put, List.setIfInBounds_toArray, List.set_cons_succ, List.set_cons_zero]
    rw [e7]
    have HB8 := hid B8
    have HK := hid h7
    clear B8 h7 e7 HB
    go_wp2_with ((with_reducible refine at_list' ?_); first
      | (refine wpList_store_c Tryd.ty37 rfl (.tmp 2) (.tmp 30) rfl (w.heap.size + 1) (valL 0 (zeros 32) nilS (.slice (some ⟨b, 0, none⟩) 8 8)) rfl rfl rfl (valL_oneC _ _ _ _ trivial trivial) _ H8v rfl ?_; intro w9 H9 O9))
    refine bodyPost_ret (results_c1 Tryd.ty37 rfl _ w9 (w.heap.size + 1) _ rfl H9 rfl) rfl ⟨_, rfl, ⟨nilS, _, rfl, ?_⟩, below_only HB8.out O9 (by omega)⟩
    exact VAt.aside H8v rfl O9 (vaV zk zcr zef true zel zac zxi zwi) (vaV_wide zk zcr zef true zel zac zxi zwi) (isV_all (ks := [.mk 0 zk [] [], .mk 0 zcr [] [], .mk zef (zeros 32) [] [], .mk (bitN01 true) (zeros 32) [] [], .mk zel (zeros 32) [] [], .mk zac (zeros 32) [] [], .mk zxi (zeros 32) [] [], .mk zwi (zeros 32) [] []]) rfl (by decide) HK.out)
end Go.Proofs.YtakdokccdkhcoaaDoor

/- RootValidators answers true for every value. -/
namespace Go.Proofs.YtakdokccdkhcoaaDoor
open Go.RowKit Go.Shelf
set_option linter.unusedVariables false
set_option linter.unusedSimpArgs false
set_option maxRecDepth 100000

theorem vaD_root (zk : List Nat) (zcr : List Nat) (zef : Nat) (zsl : Bool) (zel : Nat) (zac : Nat) (zxi : Nat) (zwi : Nat) : rootV vaD (vaV zk zcr zef zsl zel zac zxi zwi) = vaR zk zcr zef zsl zel zac zxi zwi := by
  simp only [vaD, vaV, dBox, dNum, dRoot, dTruth, vaR, rootV, rootsV, boolR_word]
  simp
theorem vaD_ok (zk : List Nat) (zcr : List Nat) (zef : Nat) (zsl : Bool) (zel : Nat) (zac : Nat) (zxi : Nat) (zwi : Nat) : okR vaD (vaV zk zcr zef zsl zel zac zxi zwi) := by
  simp [vaD, vaV, dBox, dNum, dRoot, dTruth, okR, okRs]
set_option maxHeartbeats 2000000 in
theorem va_walk (zk : List Nat) (zcr : List Nat) (zef : Nat) (zsl : Bool) (zel : Nat) (zac : Nat) (zxi : Nat) (zwi : Nat) (hzk : Rt zk) (hzcr : Rt zcr) (hzef : zef < 18446744073709551616) (hzel : zel < 18446744073709551616) (hzac : zac < 18446744073709551616) (hzxi : zxi < 18446744073709551616) (hzwi : zwi < 18446744073709551616) (w : World) (hT : Tabs w) : Calls Tryd.prog 8 #[.agg (vaC zk zcr zef zsl zel zac zxi zwi).toArray] w fun e w' => e = .returned (.bool true) ∧ Below w.heap.size w w' := by
  have hR1 := vaR_rt zk zcr zef zsl zel zac zxi zwi hzk hzcr
  have HE := hid (vaD_root zk zcr zef zsl zel zac zxi zwi)
  have HO := hid (vaD_ok zk zcr zef zsl zel zac zxi zwi)
  obtain ⟨R1, HR⟩ : ∃ R, Hid (vaR zk zcr zef zsl zel zac zxi zwi = R) := ⟨_, hid rfl⟩
  rw [HR.out] at hR1 HE
  go_enter Tryd.func8, Tryd.ntmps8
  go_wp2_with ((with_reducible refine at_list' ?_); first
    | (refine wpList_box_c rfl 1 rfl (.tmp 0) rfl (vaC zk zcr zef zsl zel zac zxi zwi) rfl ?_; intro w1 H1 B1 S1))
  refine (awake_any w1 (hT.keep B1)).mono ?_
  rintro e w2 ⟨rfl, B2⟩
  have HX := hid (H1.keep B2)
  have HB := hid (B1.trans (B2.mono B1.size))
  have HT := hid (hT.keep HB.out)
  clear H1 B1 S1 B2
  go_wp2_with fail
  try simp only [Act.put, List.setIfInBounds_toArray, List.set_cons_succ, List.set_cons_zero]
  refine wp_region_flow 7 7 (fun i v wq => match i with
    | 0 => v = .agg (vaC zk zcr zef zsl zel zac zxi zwi).toArray
    | 1 => v = .agg (nums .u8 R1)
    | 2 => ∃ p, v = .pointer (some ⟨p, 0, none⟩) ∧ DAt wq vaD p
    | 3 => v = .agg (vaC zk zcr zef zsl zel zac zxi zwi).toArray
    | 4 => IsV wq v (vaV zk zcr zef zsl zel zac zxi zwi)
    | 5 => v = .agg (nums .u8 R1)
    | _ => v = .bool true) (by kernel_rfl) (by kernel_rfl) (fun _ d _ _ _ h => by cases d <;> exact h) ?_ ?_ ?_ ?_
  · intro i v wq wq' hi hv hb
    match i, hi with
    | 0, _ => exact hv
    | 1, _ => exact hv
    | 2, _ => obtain ⟨p, h1, h2⟩ := hv; exact ⟨p, h1, DAt.keep hb _ h2⟩
    | 3, _ => exact hv
    | 4, _ => exact hv.keep hb
    | 5, _ => exact hv
    | 6, _ => exact hv
    | (k + 7), hk => exact absurd hk (by omega)
  · intro i o hi ho aq wq hc hk hdep
    match i, hi with
    | 0, _ =>
      cases ho
      have e1 : aq.tmps.getD 1 undef = .pointer (some ⟨w.heap.size, 0, none⟩) := hk 1 (by decide)
      exact flow_value _ (run_mid 57 (.tmp 1) rfl w.heap.size 0 e1 (vaC zk zcr zef zsl zel zac zxi zwi) ((HX.out.keep (hcB hc)).range 0 (vaC zk zcr zef zsl zel zac zxi zwi) (fun j v hv => by rw [Nat.zero_add]; exact hv)) _ Tryd.underlying57 rfl (by rw [vaC_length zk zcr zef zsl zel zac zxi zwi hzk.len hzcr.len]; kernel_rfl)) rfl
    | 1, _ =>
      cases ho
      have e0 : aq.tmps.getD 5 undef = .agg (vaC zk zcr zef zsl zel zac zxi zwi).toArray := hdep 0 5 rfl (by kernel_rfl)
      refine flow_fun 24 _ _ rfl (fun _ _ => by simp [go_sem]) #[.agg (vaC zk zcr zef zsl zel zac zxi zwi).toArray] (by rw [show (#[Operand.tmp 5] : Array Operand).map aq.eval = #[aq.tmps.getD 5 undef] from by simp [Act.eval], e0]) ?_
      refine (vaR_any zk zcr zef zsl zel zac zxi zwi hzk hzcr hzef hzel hzac hzxi hzwi wq (HT.out.keep (hcB hc))).mono ?_
      rintro x w' ⟨rfl, q⟩
      exact ⟨_, rfl, (by rw [← HR.out]; rfl), q⟩
    | 2, _ =>
      cases ho
      refine flow_fun 25 _ _ rfl (fun _ _ => by simp [go_sem]) #[] (by simp) ?_
      refine (vaD_any wq).mono ?_
      rintro x w' ⟨p, rfl, h1, q⟩
      exact ⟨_, rfl, ⟨p, rfl, h1⟩, q⟩
    | 3, _ =>
      cases ho
      have e1 : aq.tmps.getD 1 undef = .pointer (some ⟨w.heap.size, 0, none⟩) := hk 1 (by decide)
      exact flow_value _ (run_mid 57 (.tmp 1) rfl w.heap.size 0 e1 (vaC zk zcr zef zsl zel zac zxi zwi) ((HX.out.keep (hcB hc)).range 0 (vaC zk zcr zef zsl zel zac zxi zwi) (fun j v hv => by rw [Nat.zero_add]; exact hv)) _ Tryd.underlying57 rfl (by rw [vaC_length zk zcr zef zsl zel zac zxi zwi hzk.len hzcr.len]; kernel_rfl)) rfl
    | 4, _ =>
      cases ho
      have e0 : aq.tmps.getD 8 undef = .agg (vaC zk zcr zef zsl zel zac zxi zwi).toArray := hdep 3 8 rfl (by kernel_rfl)
      refine flow_fun 26 _ _ rfl (fun _ _ => by simp [go_sem]) #[.agg (vaC zk zcr zef zsl zel zac zxi zwi).toArray] (by rw [show (#[Operand.tmp 8] : Array Operand).map aq.eval = #[aq.tmps.getD 8 undef] from by simp [Act.eval], e0]) ?_
      refine (vaV_any zk zcr zef zsl zel zac zxi zwi hzk hzcr hzef hzel hzac hzxi hzwi wq).mono ?_
      rintro x w' ⟨v, rfl, h1, q⟩
      exact ⟨v, rfl, h1, q⟩
    | 5, _ =>
      cases ho
      obtain ⟨p, e0, h0⟩ := hdep 2 7 rfl (by kernel_rfl)
      have h1 : IsV wq (aq.tmps.getD 9 undef) (vaV zk zcr zef zsl zel zac zxi zwi) := hdep 4 9 rfl (by kernel_rfl)
      refine flow_fun 12 _ _ rfl (fun _ _ => by simp [go_sem]) #[.pointer (some ⟨p, 0, none⟩), aq.tmps.getD 9 undef] (by rw [show (#[Operand.tmp 7, Operand.tmp 9] : Array Operand).map aq.eval = #[aq.tmps.getD 7 undef, aq.tmps.getD 9 undef] from by simp [Act.eval], e0]) ?_
      refine (rroot_any vaD (vaV zk zcr zef zsl zel zac zxi zwi) p _ wq HO.out h0 h1).mono ?_
      rintro x w' ⟨rfl, q⟩
      exact ⟨_, rfl, (by rw [HE.out]; rfl), q⟩
    | 6, _ =>
      cases ho
      have e0 : aq.tmps.getD 6 undef = .agg (nums .u8 R1) := hdep 1 6 rfl (by kernel_rfl)
      have e1 : aq.tmps.getD 10 undef = .agg (nums .u8 R1) := hdep 5 10 rfl (by kernel_rfl)
      exact flow_value _ (run_same_root (.tmp 6) (.tmp 10) rfl R1 hR1 e0 e1) rfl
    | (k + 7), hk => exact absurd hk (by omega)
  · intro o h7 ho
    omega
  intro vf w8 hc hv
  have e7 : vf 6 = _ := hv 6 11 (by decide) rfl
  have B8 := HB.out.trans ((hcB hc).mono HB.out.size)
  clear hv hc
  simp only [List.take_succ_cons, List.take_zero, List.drop_succ_cons, List.drop_zero, putAll, Act.put, List.setIfInBounds_toArray, List.set_cons_succ, List.set_cons_zero]
  rw [e7]
  have HB8 := hid B8
  clear B8 e7 HB HX HT
  go_wp2
  go_ret
  exact ⟨rfl, HB8.out⟩
end Go.Proofs.YtakdokccdkhcoaaDoor

/- RootCheckpointPair answers true for every Checkpoint. -/
namespace Go.Proofs.YtakdokccdkhcoaaDoor
open Go.RowKit Go.Shelf
set_option linter.unusedVariables false
set_option linter.unusedSimpArgs false
set_option maxRecDepth 100000

theorem run_shrU {P : Program} {w : World} {o : Oper} {a : Act} (t u : TypeId) (x y : Operand) (ho : o.op = .binOp .shr t x y u) (n d q : Nat) (hx : a.eval x = .int .u64 (n : Int)) (hy : a.eval y = .int .i64 (d : Int)) (hd : d ≤ 64) (hq : Hid (n / 2 ^ d = q)) :
    (execOp a.eval o).run P w = .ok (.value (.int .u64 (q : Int))) w := by
  have e : (n : Int) / 2 ^ min (d : Int).toNat 64 = ((q : Nat) : Int) := by rw [Int.toNat_natCast, Nat.min_eq_left hd, ← hq.out]; simp
  have hs := shift_shr_any .u64 .i64 (n : Int) (d : Int) (by omega)
  rw [show IntKind.u64.bits = 64 from rfl, e] at hs
  have hb2 : binOp .shr t (.int .u64 (n : Int)) (.int .i64 (d : Int)) = pure (.int .u64 (q : Int)) := by rw [binOp_shr, hs]
  unfold execOp
  simp only [ho, hx, hy]
  simp [hb2, eqGuard_shr]
theorem byte_shr (n t : Nat) : n / 2 ^ (8 * t) % 256 = byteN n t := by
  unfold byteN
  rw [Nat.pow_mul]
set_option maxHeartbeats 400000 in
theorem pair_walk (ze : Nat) (zr : List Nat) (hze : ze < 18446744073709551616) (hzr : Rt zr) (w : World) (hT : Tabs w) : Calls Tryd.prog 3 #[.agg (cpC ze zr).toArray] w fun e w' => e = .returned (.bool true) ∧ Below w.heap.size w w' := by
  have hR1 := pr_rt (wUp ze 8) zr
  have hWr := wUp_rt ze 8
  have HC := hid (fun w hT => cpR_any ze zr hze hzr w hT)
  rw [cpR_pair] at HC
  have HP := hid (fun w (hT : Tabs w) => pair_any (wUp ze 8) zr hWr.len hzr.len hWr.byte hzr.byte w hT)
  change Hid (∀ w, Tabs w → Calls Tryd.prog 11 #[.agg (nums .u8 (wUp ze 8)), .agg (nums .u8 zr)] w fun e w' => e = .returned (.agg (nums .u8 (pr (wUp ze 8) zr))) ∧ Below w.heap.size w w') at HP
  obtain ⟨R1, HR⟩ : ∃ R, Hid (pr (wUp ze 8) zr = R) := ⟨_, hid rfl⟩
  rw [HR.out] at hR1 HC HP
  obtain ⟨W, HW⟩ : ∃ R, Hid (wUp ze 8 = R) := ⟨_, hid rfl⟩
  rw [HW.out] at hWr HP
  go_enter Tryd.func3, Tryd.ntmps3
  go_wp2_with ((with_reducible refine at_list' ?_); first
    | (refine wpList_box_c rfl 1 rfl (.tmp 0) rfl (cpC ze zr) rfl ?_; intro w1 H1 B1 S1))
  refine (awake_any w1 (hT.keep B1)).mono ?_
  rintro e w2 ⟨rfl, B2⟩
  have HX2 := hid (H1.keep B2)
  have HB2 := hid (B1.trans (B2.mono B1.size))
  have s2 := (H1.keep B2).lt
  clear H1 B1 S1 B2
  go_wp2_with ((with_reducible refine at_list' ?_); first
    | (refine wpList_alloc_has rfl 3 rfl 24 rfl .u8 32 Tryd.zero24 ?_; intro w3 H3 B3 S3))
  have HI := hid (And.intro H3 (And.intro (HX2.out.keep B3) (HB2.out.trans (B3.mono HB2.out.size))))
  clear H3 B3 S3 HX2 HB2
  go_loopw [4, 7] (fun _ i wr => ∃ t : Nat, t ≤ 8 ∧ i = .int .i64 t ∧ Has wr w2.heap.size 24 .u8 (wUp ze t) ∧ HasC wr w.heap.size 26 (cpC ze zr) ∧ Below w.heap.size w wr) (fun _ i _ => 8 - (intOf i).toNat)
  case atStart => exact ⟨0, by omega, rfl, HI.out.1, HI.out.2.1, HI.out.2.2⟩
  case round =>
    clear HI
    obtain ⟨t, ht, rfl, HB, HX, HL⟩ := hrel
    have hwl := (wUp_rt ze t).len
    by_cases hlt : t < 8
    · have c0 : wr.cell? ⟨w.heap.size, 0, none⟩ = some (.int .u64 (ze : Nat)) := HX.cell (seg (ps := cpP ze zr) (i := 0) (off := 0) rfl rfl 0 _ rfl)
      have c1' := HB.cell t (by omega)
      have f1 := HB.frozen t
      have HS : Same (wUp ze (t + 1)) ((wUp ze t).set t (byteN ze t)) := ⟨by rw [wUp]⟩
      obtain ⟨cv, hcv⟩ : ∃ cv, Hid (Value.int .u8 (((wUp ze t).getD t 0 : Nat) : Int) = cv) := ⟨_, hid rfl⟩
      rw [hcv.out] at c1'
      have HS' := hid HS
      have HV : Hid (((ze : Int) / 2 ^ (8 * t) % 256) = ((byteN ze t : Nat) : Int)) := hid (by rw [← byte_shr]; simp)
      have HH := hid (And.intro HB (And.intro HX HL))
      clear HS HC HP HR HW hR1 hWr hcv hwl HB HX HL
      go_wp2_with fail
      rw [HV.out]
      have HO := Only.setCell wr w2.heap.size t (.int .u8 ((byteN ze t : Nat) : Int))
      refine ⟨⟨t + 1, by omega, by go_num, ?_, HH.out.2.1.only HO (by omega), below_only HH.out.2.2 HO (by omega)⟩, by simp [intOf]; omega⟩
      rw [HS'.out.out]
      exact HH.out.1.set t _
    · have ht2 : t = 8 := by omega
      subst ht2
      rw [HW.out] at HB
      have HF := hid (And.intro HX (And.intro HB (hT.keep HL)))
      have HL' := hid HL
      clear HX HB HL hwl
      go_wp2_with fail
      try simp only [Act.put, List.setIfInBounds_toArray, List.set_cons_succ, List.set_cons_zero]
      refine wp_region_flow 7 7 (fun i v wq => match i with
        | 0 => v = .agg (cpC ze zr).toArray
        | 1 => v = .agg (nums .u8 R1)
        | 2 => v = .agg (nums .u8 W)
        | 3 => v = .pointer (some ⟨w.heap.size, 1, none⟩)
        | 4 => v = .agg (nums .u8 zr)
        | 5 => v = .agg (nums .u8 R1)
        | _ => v = .bool true) (by kernel_rfl) (by kernel_rfl) (fun _ d _ _ _ h => by cases d <;> exact h) ?_ ?_ ?_ ?_
      · intro i v wq wq' hi hv hb
        match i, hi with
        | 0, _ => exact hv
        | 1, _ => exact hv
        | 2, _ => exact hv
        | 3, _ => exact hv
        | 4, _ => exact hv
        | 5, _ => exact hv
        | 6, _ => exact hv
        | (k + 7), hk => exact absurd hk (by omega)
      · intro i o hi ho aq wq hc hk hdep
        match i, hi with
        | 0, _ =>
          cases ho
          have e1 : aq.tmps.getD 1 undef = .pointer (some ⟨w.heap.size, 0, none⟩) := hk 1 (by decide)
          exact flow_value _ (run_mid 26 (.tmp 1) rfl w.heap.size 0 e1 (cpC ze zr) ((HF.out.1.keep (hcB hc)).range 0 (cpC ze zr) (fun j v hv => by rw [Nat.zero_add]; exact hv)) _ Tryd.underlying26 rfl (by rw [cpC_length ze zr hzr.len]; kernel_rfl)) rfl
        | 1, _ =>
          cases ho
          have e0 : aq.tmps.getD 19 undef = .agg (cpC ze zr).toArray := hdep 0 19 rfl (by kernel_rfl)
          refine flow_fun 10 _ _ rfl (fun _ _ => by simp [go_sem]) #[.agg (cpC ze zr).toArray] (by rw [show (#[Operand.tmp 19] : Array Operand).map aq.eval = #[aq.tmps.getD 19 undef] from by simp [Act.eval], e0]) ?_
          refine (HC.out wq (HF.out.2.2.keep (hcB hc))).mono ?_
          rintro x w' ⟨rfl, q⟩
          exact ⟨_, rfl, rfl, q⟩
        | 2, _ =>
          cases ho
          have e1 : aq.tmps.getD 3 undef = .pointer (some ⟨w2.heap.size, 0, none⟩) := hk 3 (by decide)
          exact flow_value _ (run_load_has 24 (.tmp 3) rfl w2.heap.size .u8 W e1 24 (HF.out.2.1.keep (hcB hc)) _ _ Tryd.und24 (hWr.size _ Tryd.size24)) rfl
        | 3, _ =>
          cases ho
          have e1 : aq.tmps.getD 1 undef = .pointer (some ⟨w.heap.size, 0, none⟩) := hk 1 (by decide)
          exact flow_value _ (run_fieldAt 26 (.tmp 1) 1 rfl _ _ e1 (by kernel_rfl)) rfl
        | 4, _ =>
          cases ho
          have e0 : aq.tmps.getD 22 undef = .pointer (some ⟨w.heap.size, 1, none⟩) := hdep 3 22 rfl (by kernel_rfl)
          exact flow_value _ (run_mid 24 (.tmp 22) rfl w.heap.size 1 e0 (cellsB zr) ((HF.out.1.keep (hcB hc)).range 1 (cellsB zr) (seg (ps := cpP ze zr) (i := 1) (off := 1) rfl (by simp [cpP]))) _ Tryd.und24 rfl (by rw [cellsB_length, hzr.len]; exact Tryd.size24)) rfl
        | 5, _ =>
          cases ho
          have e0 : aq.tmps.getD 21 undef = .agg (nums .u8 W) := hdep 2 21 rfl (by kernel_rfl)
          have e1 : aq.tmps.getD 23 undef = .agg (nums .u8 zr) := hdep 4 23 rfl (by kernel_rfl)
          refine flow_fun 11 _ _ rfl (fun _ _ => by simp [go_sem]) #[.agg (nums .u8 W), .agg (nums .u8 zr)] (by rw [show (#[Operand.tmp 21, Operand.tmp 23] : Array Operand).map aq.eval = #[aq.tmps.getD 21 undef, aq.tmps.getD 23 undef] from by simp [Act.eval], e0, e1]) ?_
          refine (HP.out wq (HF.out.2.2.keep (hcB hc))).mono ?_
          rintro x w' ⟨rfl, q⟩
          exact ⟨_, rfl, rfl, q⟩
        | 6, _ =>
          cases ho
          have e0 : aq.tmps.getD 20 undef = .agg (nums .u8 R1) := hdep 1 20 rfl (by kernel_rfl)
          have e1 : aq.tmps.getD 24 undef = .agg (nums .u8 R1) := hdep 5 24 rfl (by kernel_rfl)
          exact flow_value _ (run_same_root (.tmp 20) (.tmp 24) rfl R1 hR1 e0 e1) rfl
        | (k + 7), hk => exact absurd hk (by omega)
      · intro o h7 ho
        omega
      intro vf w8 hc hv
      have e7 : vf 6 = _ := hv 6 25 (by decide) rfl
      have B8 := HL'.out.trans ((hcB hc).mono HL'.out.size)
      clear hv hc
      simp only [List.take_succ_cons, List.take_zero, List.drop_succ_cons, List.drop_zero, putAll, Act.put, List.setIfInBounds_toArray, List.set_cons_succ, List.set_cons_zero]
      rw [e7]
      have HB8 := hid B8
      clear B8 e7 HF HL'
      go_wp2
      go_ret
      exact ⟨rfl, HB8.out⟩
end Go.Proofs.YtakdokccdkhcoaaDoor

