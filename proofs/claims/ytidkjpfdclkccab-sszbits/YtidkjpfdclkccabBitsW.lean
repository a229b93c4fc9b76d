/- The walk of SszBits. -/
import Derived.Test.YtidkjpfdclkccabDecL
import Derived.Test.YtidkjpfdclkccabFewW
import Derived.Test.YtidkjpfdclkccabCopyF
namespace Go.Proofs.Ytidkjpfdclkccab
open Go.RowKit Go.Shelf
set_option linter.unusedVariables false
set_option maxRecDepth 100000

set_option maxHeartbeats 4000000 in
theorem bits_walk (v0 v1 : Value) (l : List Bool) (bs : List Nat) (i2 : Int) (w : World) (hT : IsT w v0 l) (hB : IsB w v1 bs) (hi2 : -9223372036854775808 ≤ i2 ∧ i2 ≤ 9223372036854775807) :
    Calls Try.prog 3 #[v0, v1, .int .i64 i2] w fun e w' => e = .returned (.bool true) ∧ Below w.heap.size w w' := by
  have HT := hid hT
  have HB := hid hB
  obtain ⟨ao, cap, rfl, hca, hcm, _⟩ := hT
  obtain ⟨⟨ao1, cap1, rfl, hcap1, hcm1, hnil1, hR1⟩, h8⟩ := hB
  unfold maxLen at hcm hcm1
  clear hR1
  have HTP := hid (take_put l)
  have HSL := hid (sameV_refl (bitsV l))
  go_enter Try.func3, Try.ntmps3
  go_wp2_with fail
  refine (awake_any w).mono ?_
  rintro e w1 ⟨rfl, B1⟩
  have HB1 := hid B1
  clear B1
  by_cases h1 : 1000 < l.length
  · go_wp2
    go_ret
    exact ⟨rfl, HB1.out⟩
  have h1' : ¬ (1000 : Int) < ((l.length : Nat) : Int) := by omega
  by_cases h2 : 1000 < bs.length
  · go_wp2
    go_ret
    exact ⟨rfl, HB1.out⟩
  have h2' : ¬ (1000 : Int) < ((bs.length : Nat) : Int) := by omega
  obtain ⟨lim, hlim1, hlim2⟩ : ∃ lim : Int, (i2 ≤ 1048576 → lim = i2) ∧ (¬ i2 ≤ 1048576 → lim = 1048576) := ⟨if i2 ≤ 1048576 then i2 else 1048576, fun h => if_pos h, fun h => if_neg h⟩
  have hlimb : -9223372036854775808 ≤ lim ∧ lim ≤ 9223372036854775807 := by
    by_cases h : i2 ≤ 1048576
    · rw [hlim1 h]; exact hi2
    · rw [hlim2 h]; decide
  have HWA := hid (HB1.out.alloc (B := w.heap.size) HB1.out.size (.cells #[.bool false, .bool true] 4))
  have hlm : (i2 ≤ 1048576 ∧ lim = i2) ∨ (1048576 < i2 ∧ lim = 1048576) := by
    by_cases h : i2 ≤ 1048576
    · exact .inl ⟨h, hlim1 h⟩
    · exact .inr ⟨by omega, hlim2 h⟩
  clear hlim1 hlim2
  rcases hlm with ⟨hmn, rfl⟩ | ⟨hmn, rfl⟩
  · go_wp2_with fail
    go_loopw [8, 30] (fun _ i wr => ∃ k : Nat, k ≤ 2 ∧ i = .int .i64 k ∧ Below (w1.alloc (.cells #[.bool false, .bool true] 4)).heap.size (w1.alloc (.cells #[.bool false, .bool true] 4)) wr) (fun _ i _ => 2 - (intOf i).toNat)
    case atStart => exact ⟨0, by decide, rfl, Below.refl _ _⟩
    case round =>
      obtain ⟨k, hk, rfl, hBw⟩ := hrel
      have HBw := hid hBw
      clear hBw
      match k, hk with
      | 0, _ =>
        have hcr := (HBw.out.cell (p := ⟨w1.heap.size, 0, none⟩) (by simp)).trans (show (w1.alloc (.cells #[.bool false, .bool true] 4)).cell? ⟨w1.heap.size, 0, none⟩ = some (.bool false) by simp)
        have HTc : Hid (∀ wq, Cls wr wq → IsT wq (.slice ao l.length cap) l) := fun wq hc => (HT.out.keep (below_more HWA.out HBw.out (Nat.le_refl _))).keep hc.bel
        go_wp2_with fail
        refine wp_region_flow 10 10 (fun i v wq => match i with
          | 0 => ∃ g, v = .slice (some ⟨g, 0, none⟩) 0 0
          | 1 => v = .slice ao l.length cap
          | 2 => IsT wq v l
          | 3 => v = .bool false
          | 4 => IsB wq v (putB l false)
          | 5 => v = .string (strOf (putB l false))
          | 6 => v = .slice ao l.length cap
          | 7 => v = .bool false
          | 8 => IsB wq v (putB l false)
          | _ => v = .string (strOf (putB l false))) (by kernel_rfl) (by kernel_rfl) (fun _ d _ _ _ h => by cases d <;> exact h) ?_ ?_ ?_ ?_
        · intro i v wq wq' hi hv hb
          match i, hi with
          | 0, _ => exact hv
          | 1, _ => exact hv
          | 2, _ => exact hv.keep hb
          | 3, _ => exact hv
          | 4, _ => exact hv.keep hb
          | 5, _ => exact hv
          | 6, _ => exact hv
          | 7, _ => exact hv
          | 8, _ => exact hv.keep hb
          | 9, _ => exact hv
          | (k + 10), hk => exact absurd hk (by omega)
        · intro i o hi ho aq wq hc hk hdep
          match i, hi with
          | 0, _ =>
            cases ho
            exact flow_emptyT rfl (fun g _ => ⟨g, rfl⟩)
          | 1, _ =>
            cases ho
            exact flow_move (.tmp 0) rfl (hk 0 (by decide))
          | 2, _ =>
            cases ho
            have e1 : aq.tmps.getD 35 undef = .slice ao l.length cap := hdep 1 35 rfl (by kernel_rfl)
            have e0 : ∃ g, aq.tmps.getD 34 undef = .slice (some ⟨g, 0, none⟩) 0 0 := hdep 0 34 rfl (by kernel_rfl)
            obtain ⟨g, e0⟩ := e0
            exact flow_copyT (.tmp 34) (.tmp 35) rfl g _ l e0 e1 (HTc.out wq hc) (by omega) (fun _ _ h => h)
          | 3, _ =>
            cases ho
            exact flow_move (.tmp 8) rfl (hk 8 (by decide))
          | 4, _ =>
            cases ho
            have e0 : IsT wq (aq.tmps.getD 36 undef) l := hdep 2 36 rfl (by kernel_rfl)
            have e1 : aq.tmps.getD 37 undef = .bool false := hdep 3 37 rfl (by kernel_rfl)
            refine flow_fun 7 _ _ rfl (fun _ _ => by simp [go_sem]) #[aq.tmps.getD 36 undef, .bool false] (by rw [show (#[Operand.tmp 36, Operand.tmp 37] : Array Operand).map aq.eval = #[aq.tmps.getD 36 undef, aq.tmps.getD 37 undef] from by simp [Act.eval], e1]) ?_
            refine (putBits_any _ l false wq e0 (by omega)).mono ?_
            rintro e w' ⟨v', rfl, h1, h2⟩
            exact ⟨_, rfl, h1.isB (putB_byte _ _), h2⟩
          | 5, _ =>
            cases ho
            have e0 : IsB wq (aq.tmps.getD 38 undef) (putB l false) := hdep 4 38 rfl (by kernel_rfl)
            exact flow_value _ (rconv (.tmp 38) rfl e0) rfl
          | 6, _ =>
            cases ho
            exact flow_move (.tmp 0) rfl (hk 0 (by decide))
          | 7, _ =>
            cases ho
            exact flow_move (.tmp 8) rfl (hk 8 (by decide))
          | 8, _ =>
            cases ho
            have e0 : aq.tmps.getD 40 undef = .slice ao l.length cap := hdep 6 40 rfl (by kernel_rfl)
            have e1 : aq.tmps.getD 41 undef = .bool false := hdep 7 41 rfl (by kernel_rfl)
            refine flow_fun 8 _ _ rfl (fun _ _ => by simp [go_sem]) #[aq.tmps.getD 40 undef, .bool false] (by rw [show (#[Operand.tmp 40, Operand.tmp 41] : Array Operand).map aq.eval = #[aq.tmps.getD 40 undef, aq.tmps.getD 41 undef] from by simp [Act.eval], e1]) ?_
            refine (rputBits_any _ l false wq (by rw [e0]; exact HTc.out wq hc) (by omega)).mono ?_
            rintro e w' ⟨v', rfl, h1, h2⟩
            exact ⟨_, rfl, h1.isB (putB_byte _ _), h2⟩
          | 9, _ =>
            cases ho
            have e0 : IsB wq (aq.tmps.getD 42 undef) (putB l false) := hdep 8 42 rfl (by kernel_rfl)
            exact flow_value _ (rconv (.tmp 42) rfl e0) rfl
          | (k + 10), hk => exact absurd hk (by omega)
        · intro o h10 ho
          omega
        intro vf w8 hc hv
        have e5 : vf 5 = _ := hv 5 39 (by decide) rfl
        have e9 : vf 9 = _ := hv 9 43 (by decide) rfl
        clear hv
        simp only [List.take_succ_cons, List.take_zero, List.drop_succ_cons, List.drop_zero, putAll, Act.put, List.setIfInBounds_toArray, List.set_cons_succ, List.set_cons_zero]
        rw [e5, e9]
        have HB8 := hid (below_more HBw.out hc.bel (Nat.le_refl _))
        clear e5 e9 hc
        generalize strOf (putB l false) = sk
        go_wp2
        go_roundw
        case rel => exact ⟨1, by decide, rfl, HB8.out⟩
        case measure => decide
      | 1, _ =>
        have hcr := (HBw.out.cell (p := ⟨w1.heap.size, 1, none⟩) (by simp)).trans (show (w1.alloc (.cells #[.bool false, .bool true] 4)).cell? ⟨w1.heap.size, 1, none⟩ = some (.bool true) by simp)
        have HTc : Hid (∀ wq, Cls wr wq → IsT wq (.slice ao l.length cap) l) := fun wq hc => (HT.out.keep (below_more HWA.out HBw.out (Nat.le_refl _))).keep hc.bel
        go_wp2_with fail
        refine wp_region_flow 10 10 (fun i v wq => match i with
          | 0 => ∃ g, v = .slice (some ⟨g, 0, none⟩) 0 0
          | 1 => v = .slice ao l.length cap
          | 2 => IsT wq v l
          | 3 => v = .bool true
          | 4 => IsB wq v (putB l true)
          | 5 => v = .string (strOf (putB l true))
          | 6 => v = .slice ao l.length cap
          | 7 => v = .bool true
          | 8 => IsB wq v (putB l true)
          | _ => v = .string (strOf (putB l true))) (by kernel_rfl) (by kernel_rfl) (fun _ d _ _ _ h => by cases d <;> exact h) ?_ ?_ ?_ ?_
        · intro i v wq wq' hi hv hb
          match i, hi with
          | 0, _ => exact hv
          | 1, _ => exact hv
          | 2, _ => exact hv.keep hb
          | 3, _ => exact hv
          | 4, _ => exact hv.keep hb
          | 5, _ => exact hv
          | 6, _ => exact hv
          | 7, _ => exact hv
          | 8, _ => exact hv.keep hb
          | 9, _ => exact hv
          | (k + 10), hk => exact absurd hk (by omega)
        · intro i o hi ho aq wq hc hk hdep
          match i, hi with
          | 0, _ =>
            cases ho
            exact flow_emptyT rfl (fun g _ => ⟨g, rfl⟩)
          | 1, _ =>
            cases ho
            exact flow_move (.tmp 0) rfl (hk 0 (by decide))
          | 2, _ =>
            cases ho
            have e1 : aq.tmps.getD 35 undef = .slice ao l.length cap := hdep 1 35 rfl (by kernel_rfl)
            have e0 : ∃ g, aq.tmps.getD 34 undef = .slice (some ⟨g, 0, none⟩) 0 0 := hdep 0 34 rfl (by kernel_rfl)
            obtain ⟨g, e0⟩ := e0
            exact flow_copyT (.tmp 34) (.tmp 35) rfl g _ l e0 e1 (HTc.out wq hc) (by omega) (fun _ _ h => h)
          | 3, _ =>
            cases ho
            exact flow_move (.tmp 8) rfl (hk 8 (by decide))
          | 4, _ =>
            cases ho
            have e0 : IsT wq (aq.tmps.getD 36 undef) l := hdep 2 36 rfl (by kernel_rfl)
            have e1 : aq.tmps.getD 37 undef = .bool true := hdep 3 37 rfl (by kernel_rfl)
            refine flow_fun 7 _ _ rfl (fun _ _ => by simp [go_sem]) #[aq.tmps.getD 36 undef, .bool true] (by rw [show (#[Operand.tmp 36, Operand.tmp 37] : Array Operand).map aq.eval = #[aq.tmps.getD 36 undef, aq.tmps.getD 37 undef] from by simp [Act.eval], e1]) ?_
            refine (putBits_any _ l true wq e0 (by omega)).mono ?_
            rintro e w' ⟨v', rfl, h1, h2⟩
            exact ⟨_, rfl, h1.isB (putB_byte _ _), h2⟩
          | 5, _ =>
            cases ho
            have e0 : IsB wq (aq.tmps.getD 38 undef) (putB l true) := hdep 4 38 rfl (by kernel_rfl)
            exact flow_value _ (rconv (.tmp 38) rfl e0) rfl
          | 6, _ =>
            cases ho
            exact flow_move (.tmp 0) rfl (hk 0 (by decide))
          | 7, _ =>
            cases ho
            exact flow_move (.tmp 8) rfl (hk 8 (by decide))
          | 8, _ =>
            cases ho
            have e0 : aq.tmps.getD 40 undef = .slice ao l.length cap := hdep 6 40 rfl (by kernel_rfl)
            have e1 : aq.tmps.getD 41 undef = .bool true := hdep 7 41 rfl (by kernel_rfl)
            refine flow_fun 8 _ _ rfl (fun _ _ => by simp [go_sem]) #[aq.tmps.getD 40 undef, .bool true] (by rw [show (#[Operand.tmp 40, Operand.tmp 41] : Array Operand).map aq.eval = #[aq.tmps.getD 40 undef, aq.tmps.getD 41 undef] from by simp [Act.eval], e1]) ?_
            refine (rputBits_any _ l true wq (by rw [e0]; exact HTc.out wq hc) (by omega)).mono ?_
            rintro e w' ⟨v', rfl, h1, h2⟩
            exact ⟨_, rfl, h1.isB (putB_byte _ _), h2⟩
          | 9, _ =>
            cases ho
            have e0 : IsB wq (aq.tmps.getD 42 undef) (putB l true) := hdep 8 42 rfl (by kernel_rfl)
            exact flow_value _ (rconv (.tmp 42) rfl e0) rfl
          | (k + 10), hk => exact absurd hk (by omega)
        · intro o h10 ho
          omega
        intro vf w8 hc hv
        have e5 : vf 5 = _ := hv 5 39 (by decide) rfl
        have e9 : vf 9 = _ := hv 9 43 (by decide) rfl
        clear hv
        simp only [List.take_succ_cons, List.take_zero, List.drop_succ_cons, List.drop_zero, putAll, Act.put, List.setIfInBounds_toArray, List.set_cons_succ, List.set_cons_zero]
        rw [e5, e9]
        have HB8 := hid (below_more HBw.out hc.bel (Nat.le_refl _))
        clear e5 e9 hc
        generalize strOf (putB l true) = sk
        go_wp2
        go_roundw
        case rel => exact ⟨2, by decide, rfl, HB8.out⟩
        case measure => decide
      | 2, _ =>
        have XW := hid (below_more HWA.out HBw.out (Nat.le_refl _))
        clear HBw HWA
        obtain ⟨WD, hWD⟩ : ∃ WD, wr.alloc (.cells #[.int .i64 7, .int .i64 lim, .slice none 0 0] 29) = WD := ⟨_, rfl⟩
        have eWD : WD.heap.size = wr.heap.size + 1 := by rw [← hWD]; simp
        have BD : Below wr.heap.size wr WD := by rw [← hWD]; exact (Below.refl _ wr).alloc (Nat.le_refl _) _
        have cd0 : WD.cell? ⟨wr.heap.size, 0, none⟩ = some (.int .i64 7) := by rw [← hWD]; simp
        have cd1 : WD.cell? ⟨wr.heap.size, 1, none⟩ = some (.int .i64 lim) := by rw [← hWD]; simp
        have XD := below_more XW.out BD (Nat.le_refl _)
        have BA : Below WD.heap.size WD (WD.alloc (.cells #[] 5)) := (Below.refl _ WD).alloc (Nat.le_refl _) _
        have HSR := hid ((HB.out.keep XD).keep BA).src
        have HO0 := own_bytes WD
        have HBA := hid BA
        rw [eWD] at HO0
        have HO := hid HO0
        have HWD := hid hWD
        have HeWD := hid eWD
        have HXD := hid XD
        have HC := hid (And.intro cd0 cd1)
        clear BD cd0 cd1 XD BA HO0 hWD eWD
        go_wp2_with (at_builtin; rw [HWD.out]; refine wpList_append_b rfl (.tmp 50) (.tmp 51) 23 rfl (wr.heap.size + 1) _ [] rfl (by exact HO.out) _ bs rfl (by exact HSR.out) (by simp; omega) (by have := HBA.out.size; rw [HeWD.out] at this; exact this) ?_; intro v2 w2 r1 r2 r3)
        rw [List.nil_append] at r1
        have I2 := r1.isB h8
        have BW2 : Below WD.heap.size WD w2 := below_grownR HBA.out HO.out (by rw [HeWD.out]; exact Nat.le_refl _) r2
        have HX2 := hid (below_more HXD.out BW2 (Nat.le_refl _))
        have HC2 := hid (And.intro ((BW2.cell (p := ⟨wr.heap.size, 0, none⟩) (block_lt_of_cell HC.out.1)).trans HC.out.1) ((BW2.cell (p := ⟨wr.heap.size, 1, none⟩) (block_lt_of_cell HC.out.2)).trans HC.out.2))
        refine (takeBits_any v2 bs lim w2 I2 (by omega) hlimb).mono ?_
        rintro e w3 ⟨hres, B3⟩
        have HX3 := hid (below_more HX2.out B3 (Nat.le_refl _))
        have HC3 := hid (And.intro ((B3.cell (p := ⟨wr.heap.size, 0, none⟩) (block_lt_of_cell HC2.out.1)).trans HC2.out.1) ((B3.cell (p := ⟨wr.heap.size, 1, none⟩) (block_lt_of_cell HC2.out.2)).trans HC2.out.2))
        clear r1 r2 r3 I2 BW2 HX2 HC2 B3 HC HO HSR HBA HXD HWD HeWD
        rcases hres with ⟨lt, u, hfl, rfl, hTu⟩ | ⟨hfn, rfl⟩
        · obtain ⟨bo, bl, bc, rfl⟩ := hTu.sl.ex
          have HTu := hid hTu
          have HFL := hid hfl
          clear hTu hfl
          go_wp2_with fail
          refine (decode_list01 _ bs lim wr.heap.size w3 (HB.out.keep HX3.out) HC3.out.1 HC3.out.2 (by omega) hlimb).mono ?_
          rintro e w4 ⟨u4, t4, ok, rfl, hV4, B4, hcase⟩
          rcases hcase with ⟨rfl, l2, hl2, rfl⟩ | ⟨_, h⟩
          rotate_left
          · rw [HFL.out] at h; cases h
          rw [HFL.out] at hl2
          cases hl2
          have X4 := hid (And.intro hV4 (And.intro (HTu.out.keep B4) (below_more HX3.out B4 (Nat.le_refl _))))
          obtain ⟨n4, r4, sb4, sk4, rfl, hr4, hs4, hk4, _, _, hVA⟩ := hV4.form
          have HSS := hid (sameV_refl (bitsV lt))
          clear hVA hV4 B4 HX3 HC3 HTu HFL
          go_wp2_with ((with_reducible refine at_list ?_); first
            | (refine wpList_alloc_val rfl 12 rfl rfl ?_; intro w5 H5 B5 S5)
            | (refine wpList_store_val rfl (.tmp 12) (.tmp 61) rfl w4.heap.size n4 r4 sb4 sk4 rfl rfl hr4 hs4 hk4 _ _ _ _ H5 zeros32 ?_; intro w6 H6 O6; have B46 := below_only B5 O6 (Nat.le_refl _); have X6 := hid (And.intro (X4.out.1.keep B46) (And.intro (X4.out.2.1.keep B46) (And.intro (below_more X4.out.2.2 B46 (Nat.le_refl _)) H6))); clear H5 B5 S5 B46 O6)
            | (go_big_want; refine wp_run (run_buildOp _ #[(2, .tmp 76)] rfl #[(2, .slice bo bl bc)] rfl _ (build_bits bo bl bc _)) ?_)
            | (go_big_want; refine wp_run (run_mid 37 (.tmp 12) rfl w4.heap.size 0 rfl _ (X6.out.2.2.2.boxed hr4).all _ Try.underlying37 rfl (by rw [valL_length _ _ _ _ hr4]; exact sizeVal)) ?_))
          refine (same_any (bitsV lt) (bitsV lt) _ _ _ (by exact isV_bits X6.out.2.1) (by exact X6.out.1)).mono ?_
          rintro e w7 ⟨rfl, B7⟩
          rw [HSS.out]
          have XL := hid (below_more X6.out.2.2.1 B7 (Nat.le_refl _))
          clear B7 X6 X4 H6 HSS
          go_wp2_with fail
          refine (putBits_any _ l true _ (HT.out.keep XL.out) (by omega)).mono ?_
          rintro e wa ⟨va, rfl, Ra, Ba⟩
          have Ia := Ra.isB (putB_byte _ _)
          obtain ⟨aoa, capa, rfl, _⟩ := Ia.ex
          have XA := hid (And.intro Ia (below_more XL.out Ba (Nat.le_refl _)))
          clear Ra Ba Ia
          go_wp2_with fail
          refine (takeBits_any _ (putB l true) _ _ XA.out.1 (by rw [putB_length]; simp; omega) (by omega)).mono ?_
          rintro e wb ⟨hrb, Bb⟩
          rw [HTP.out] at hrb
          rcases hrb with ⟨lb, ub, h, rfl, hTb⟩ | ⟨h, _⟩
          rotate_left
          · cases h
          cases h
          obtain ⟨bo2, bl2, bc2, rfl⟩ := hTb.sl.ex
          have XB := hid (And.intro hTb (And.intro (HT.out.keep (below_more XA.out.2 Bb (Nat.le_refl _))) (below_more XA.out.2 Bb (Nat.le_refl _))))
          clear hTb Bb XA
          go_wp2_with (go_big_want; first
            | (refine wp_run (run_buildOp _ #[(2, .tmp 96)] rfl #[(2, .slice bo2 bl2 bc2)] rfl _ (build_bits bo2 bl2 bc2 _)) ?_)
            | (refine wp_run (run_buildOp _ #[(2, .tmp 98)] rfl #[(2, .slice ao l.length cap)] rfl _ (build_bits ao l.length cap _)) ?_))
          refine (same_any (bitsV l) (bitsV l) _ _ _ (by exact isV_bits XB.out.1) (by exact isV_bits XB.out.2.1)).mono ?_
          rintro e wc ⟨rfl, Bc⟩
          rw [HSL.out]
          have XC := hid (below_more XB.out.2.2 Bc (Nat.le_refl _))
          clear Bc XB
          go_wp2
          go_ret
          exact ⟨rfl, XC.out⟩
        · have HFN := hid hfn
          obtain ⟨bo, bl, bc, hbo⟩ : ∃ bo bl bc, (Value.slice none 0 0) = .slice bo bl bc := ⟨_, _, _, rfl⟩
          cases hbo
          clear hfn
          go_wp2_with fail
          refine (decode_list01 _ bs lim wr.heap.size w3 (HB.out.keep HX3.out) HC3.out.1 HC3.out.2 (by omega) hlimb).mono ?_
          rintro e w4 ⟨u4, t4, ok, rfl, hV4, B4, hcase⟩
          rcases hcase with ⟨_, l2, h, _⟩ | ⟨rfl, _⟩
          · rw [HFN.out] at h; cases h
          have X4 := hid (And.intro hV4 (And.intro (isT_nil w4) (below_more HX3.out B4 (Nat.le_refl _))))
          obtain ⟨n4, r4, sb4, sk4, rfl, hr4, hs4, hk4, _, _, hVA⟩ := hV4.form
          clear hVA hV4 B4 HX3 HC3 HFN
          go_wp2_with ((with_reducible refine at_list ?_); first
            | (refine wpList_alloc_val rfl 12 rfl rfl ?_; intro w5 H5 B5 S5)
            | (refine wpList_store_val rfl (.tmp 12) (.tmp 61) rfl w4.heap.size n4 r4 sb4 sk4 rfl rfl hr4 hs4 hk4 _ _ _ _ H5 zeros32 ?_; intro w6 H6 O6; have B46 := below_only B5 O6 (Nat.le_refl _); have X6 := hid (And.intro (X4.out.1.keep B46) (And.intro (X4.out.2.1.keep B46) (And.intro (below_more X4.out.2.2 B46 (Nat.le_refl _)) H6))); clear H5 B5 S5 B46 O6)
            | (go_big_want; refine wp_run (run_buildOp _ #[(2, .tmp 76)] rfl #[(2, .slice none 0 0)] rfl _ (build_bits none 0 0 _)) ?_)
            | (go_big_want; refine wp_run (run_mid 37 (.tmp 12) rfl w4.heap.size 0 rfl _ (X6.out.2.2.2.boxed hr4).all _ Try.underlying37 rfl (by rw [valL_length _ _ _ _ hr4]; exact sizeVal)) ?_))
          refine (same_any (bitsV []) t4 _ _ _ (by exact isV_bits X6.out.2.1) (by exact X6.out.1)).mono ?_
          rintro e w7 ⟨rfl, B7⟩
          have XL := hid (below_more X6.out.2.2.1 B7 (Nat.le_refl _))
          obtain ⟨sv, hsv⟩ : ∃ sv, sameV (bitsV []) t4 = sv := ⟨_, rfl⟩
          rw [hsv]
          clear hsv B7 X6 X4 H6
          cases sv
          · go_wp2_with fail
            refine (putBits_any _ l true _ (HT.out.keep XL.out) (by omega)).mono ?_
            rintro e wa ⟨va, rfl, Ra, Ba⟩
            have Ia := Ra.isB (putB_byte _ _)
            obtain ⟨aoa, capa, rfl, _⟩ := Ia.ex
            have XA := hid (And.intro Ia (below_more XL.out Ba (Nat.le_refl _)))
            clear Ra Ba Ia
            go_wp2_with fail
            refine (takeBits_any _ (putB l true) _ _ XA.out.1 (by rw [putB_length]; simp; omega) (by omega)).mono ?_
            rintro e wb ⟨hrb, Bb⟩
            rw [HTP.out] at hrb
            rcases hrb with ⟨lb, ub, h, rfl, hTb⟩ | ⟨h, _⟩
            rotate_left
            · cases h
            cases h
            obtain ⟨bo2, bl2, bc2, rfl⟩ := hTb.sl.ex
            have XB := hid (And.intro hTb (And.intro (HT.out.keep (below_more XA.out.2 Bb (Nat.le_refl _))) (below_more XA.out.2 Bb (Nat.le_refl _))))
            clear hTb Bb XA
            go_wp2_with (go_big_want; first
              | (refine wp_run (run_buildOp _ #[(2, .tmp 96)] rfl #[(2, .slice bo2 bl2 bc2)] rfl _ (build_bits bo2 bl2 bc2 _)) ?_)
              | (refine wp_run (run_buildOp _ #[(2, .tmp 98)] rfl #[(2, .slice ao l.length cap)] rfl _ (build_bits ao l.length cap _)) ?_))
            refine (same_any (bitsV l) (bitsV l) _ _ _ (by exact isV_bits XB.out.1) (by exact isV_bits XB.out.2.1)).mono ?_
            rintro e wc ⟨rfl, Bc⟩
            rw [HSL.out]
            have XC := hid (below_more XB.out.2.2 Bc (Nat.le_refl _))
            clear Bc XB
            go_wp2
            go_ret
            exact ⟨rfl, XC.out⟩
          · go_wp2_with fail
            refine (putBits_any _ l true _ (HT.out.keep XL.out) (by omega)).mono ?_
            rintro e wa ⟨va, rfl, Ra, Ba⟩
            have Ia := Ra.isB (putB_byte _ _)
            obtain ⟨aoa, capa, rfl, _⟩ := Ia.ex
            have XA := hid (And.intro Ia (below_more XL.out Ba (Nat.le_refl _)))
            clear Ra Ba Ia
            go_wp2_with fail
            refine (takeBits_any _ (putB l true) _ _ XA.out.1 (by rw [putB_length]; simp; omega) (by omega)).mono ?_
            rintro e wb ⟨hrb, Bb⟩
            rw [HTP.out] at hrb
            rcases hrb with ⟨lb, ub, h, rfl, hTb⟩ | ⟨h, _⟩
            rotate_left
            · cases h
            cases h
            obtain ⟨bo2, bl2, bc2, rfl⟩ := hTb.sl.ex
            have XB := hid (And.intro hTb (And.intro (HT.out.keep (below_more XA.out.2 Bb (Nat.le_refl _))) (below_more XA.out.2 Bb (Nat.le_refl _))))
            clear hTb Bb XA
            go_wp2_with (go_big_want; first
              | (refine wp_run (run_buildOp _ #[(2, .tmp 96)] rfl #[(2, .slice bo2 bl2 bc2)] rfl _ (build_bits bo2 bl2 bc2 _)) ?_)
              | (refine wp_run (run_buildOp _ #[(2, .tmp 98)] rfl #[(2, .slice ao l.length cap)] rfl _ (build_bits ao l.length cap _)) ?_))
            refine (same_any (bitsV l) (bitsV l) _ _ _ (by exact isV_bits XB.out.1) (by exact isV_bits XB.out.2.1)).mono ?_
            rintro e wc ⟨rfl, Bc⟩
            rw [HSL.out]
            have XC := hid (below_more XB.out.2.2 Bc (Nat.le_refl _))
            clear Bc XB
            go_wp2
            go_ret
            exact ⟨rfl, XC.out⟩
      | (k + 3), hk => exact absurd hk (by omega)
  · go_wp2_with fail
    go_loopw [8, 30] (fun _ i wr => ∃ k : Nat, k ≤ 2 ∧ i = .int .i64 k ∧ Below (w1.alloc (.cells #[.bool false, .bool true] 4)).heap.size (w1.alloc (.cells #[.bool false, .bool true] 4)) wr) (fun _ i _ => 2 - (intOf i).toNat)
    case atStart => exact ⟨0, by decide, rfl, Below.refl _ _⟩
    case round =>
      obtain ⟨k, hk, rfl, hBw⟩ := hrel
      have HBw := hid hBw
      clear hBw
      match k, hk with
      | 0, _ =>
        have hcr := (HBw.out.cell (p := ⟨w1.heap.size, 0, none⟩) (by simp)).trans (show (w1.alloc (.cells #[.bool false, .bool true] 4)).cell? ⟨w1.heap.size, 0, none⟩ = some (.bool false) by simp)
        have HTc : Hid (∀ wq, Cls wr wq → IsT wq (.slice ao l.length cap) l) := fun wq hc => (HT.out.keep (below_more HWA.out HBw.out (Nat.le_refl _))).keep hc.bel
        go_wp2_with fail
        refine wp_region_flow 10 10 (fun i v wq => match i with
          | 0 => ∃ g, v = .slice (some ⟨g, 0, none⟩) 0 0
          | 1 => v = .slice ao l.length cap
          | 2 => IsT wq v l
          | 3 => v = .bool false
          | 4 => IsB wq v (putB l false)
          | 5 => v = .string (strOf (putB l false))
          | 6 => v = .slice ao l.length cap
          | 7 => v = .bool false
          | 8 => IsB wq v (putB l false)
          | _ => v = .string (strOf (putB l false))) (by kernel_rfl) (by kernel_rfl) (fun _ d _ _ _ h => by cases d <;> exact h) ?_ ?_ ?_ ?_
        · intro i v wq wq' hi hv hb
          match i, hi with
          | 0, _ => exact hv
          | 1, _ => exact hv
          | 2, _ => exact hv.keep hb
          | 3, _ => exact hv
          | 4, _ => exact hv.keep hb
          | 5, _ => exact hv
          | 6, _ => exact hv
          | 7, _ => exact hv
          | 8, _ => exact hv.keep hb
          | 9, _ => exact hv
          | (k + 10), hk => exact absurd hk (by omega)
        · intro i o hi ho aq wq hc hk hdep
          match i, hi with
          | 0, _ =>
            cases ho
            exact flow_emptyT rfl (fun g _ => ⟨g, rfl⟩)
          | 1, _ =>
            cases ho
            exact flow_move (.tmp 0) rfl (hk 0 (by decide))
          | 2, _ =>
            cases ho
            have e1 : aq.tmps.getD 35 undef = .slice ao l.length cap := hdep 1 35 rfl (by kernel_rfl)
            have e0 : ∃ g, aq.tmps.getD 34 undef = .slice (some ⟨g, 0, none⟩) 0 0 := hdep 0 34 rfl (by kernel_rfl)
            obtain ⟨g, e0⟩ := e0
            exact flow_copyT (.tmp 34) (.tmp 35) rfl g _ l e0 e1 (HTc.out wq hc) (by omega) (fun _ _ h => h)
          | 3, _ =>
            cases ho
            exact flow_move (.tmp 8) rfl (hk 8 (by decide))
          | 4, _ =>
            cases ho
            have e0 : IsT wq (aq.tmps.getD 36 undef) l := hdep 2 36 rfl (by kernel_rfl)
            have e1 : aq.tmps.getD 37 undef = .bool false := hdep 3 37 rfl (by kernel_rfl)
            refine flow_fun 7 _ _ rfl (fun _ _ => by simp [go_sem]) #[aq.tmps.getD 36 undef, .bool false] (by rw [show (#[Operand.tmp 36, Operand.tmp 37] : Array Operand).map aq.eval = #[aq.tmps.getD 36 undef, aq.tmps.getD 37 undef] from by simp [Act.eval], e1]) ?_
            refine (putBits_any _ l false wq e0 (by omega)).mono ?_
            rintro e w' ⟨v', rfl, h1, h2⟩
            exact ⟨_, rfl, h1.isB (putB_byte _ _), h2⟩
          | 5, _ =>
            cases ho
            have e0 : IsB wq (aq.tmps.getD 38 undef) (putB l false) := hdep 4 38 rfl (by kernel_rfl)
            exact flow_value _ (rconv (.tmp 38) rfl e0) rfl
          | 6, _ =>
            cases ho
            exact flow_move (.tmp 0) rfl (hk 0 (by decide))
          | 7, _ =>
            cases ho
            exact flow_move (.tmp 8) rfl (hk 8 (by decide))
          | 8, _ =>
            cases ho
            have e0 : aq.tmps.getD 40 undef = .slice ao l.length cap := hdep 6 40 rfl (by kernel_rfl)
            have e1 : aq.tmps.getD 41 undef = .bool false := hdep 7 41 rfl (by kernel_rfl)
            refine flow_fun 8 _ _ rfl (fun _ _ => by simp [go_sem]) #[aq.tmps.getD 40 undef, .bool false] (by rw [show (#[Operand.tmp 40, Operand.tmp 41] : Array Operand).map aq.eval = #[aq.tmps.getD 40 undef, aq.tmps.getD 41 undef] from by simp [Act.eval], e1]) ?_
            refine (rputBits_any _ l false wq (by rw [e0]; exact HTc.out wq hc) (by omega)).mono ?_
            rintro e w' ⟨v', rfl, h1, h2⟩
            exact ⟨_, rfl, h1.isB (putB_byte _ _), h2⟩
          | 9, _ =>
            cases ho
            have e0 : IsB wq (aq.tmps.getD 42 undef) (putB l false) := hdep 8 42 rfl (by kernel_rfl)
            exact flow_value _ (rconv (.tmp 42) rfl e0) rfl
          | (k + 10), hk => exact absurd hk (by omega)
        · intro o h10 ho
          omega
        intro vf w8 hc hv
        have e5 : vf 5 = _ := hv 5 39 (by decide) rfl
        have e9 : vf 9 = _ := hv 9 43 (by decide) rfl
        clear hv
        simp only [List.take_succ_cons, List.take_zero, List.drop_succ_cons, List.drop_zero, putAll, Act.put, List.setIfInBounds_toArray, List.set_cons_succ, List.set_cons_zero]
        rw [e5, e9]
        have HB8 := hid (below_more HBw.out hc.bel (Nat.le_refl _))
        clear e5 e9 hc
        generalize strOf (putB l false) = sk
        go_wp2
        go_roundw
        case rel => exact ⟨1, by decide, rfl, HB8.out⟩
        case measure => decide
      | 1, _ =>
        have hcr := (HBw.out.cell (p := ⟨w1.heap.size, 1, none⟩) (by simp)).trans (show (w1.alloc (.cells #[.bool false, .bool true] 4)).cell? ⟨w1.heap.size, 1, none⟩ = some (.bool true) by simp)
        have HTc : Hid (∀ wq, Cls wr wq → IsT wq (.slice ao l.length cap) l) := fun wq hc => (HT.out.keep (below_more HWA.out HBw.out (Nat.le_refl _))).keep hc.bel
        go_wp2_with fail
        refine wp_region_flow 10 10 (fun i v wq => match i with
          | 0 => ∃ g, v = .slice (some ⟨g, 0, none⟩) 0 0
          | 1 => v = .slice ao l.length cap
          | 2 => IsT wq v l
          | 3 => v = .bool true
          | 4 => IsB wq v (putB l true)
          | 5 => v = .string (strOf (putB l true))
          | 6 => v = .slice ao l.length cap
          | 7 => v = .bool true
          | 8 => IsB wq v (putB l true)
          | _ => v = .string (strOf (putB l true))) (by kernel_rfl) (by kernel_rfl) (fun _ d _ _ _ h => by cases d <;> exact h) ?_ ?_ ?_ ?_
        · intro i v wq wq' hi hv hb
          match i, hi with
          | 0, _ => exact hv
          | 1, _ => exact hv
          | 2, _ => exact hv.keep hb
          | 3, _ => exact hv
          | 4, _ => exact hv.keep hb
          | 5, _ => exact hv
          | 6, _ => exact hv
          | 7, _ => exact hv
          | 8, _ => exact hv.keep hb
          | 9, _ => exact hv
          | (k + 10), hk => exact absurd hk (by omega)
        · intro i o hi ho aq wq hc hk hdep
          match i, hi with
          | 0, _ =>
            cases ho
            exact flow_emptyT rfl (fun g _ => ⟨g, rfl⟩)
          | 1, _ =>
            cases ho
            exact flow_move (.tmp 0) rfl (hk 0 (by decide))
          | 2, _ =>
            cases ho
            have e1 : aq.tmps.getD 35 undef = .slice ao l.length cap := hdep 1 35 rfl (by kernel_rfl)
            have e0 : ∃ g, aq.tmps.getD 34 undef = .slice (some ⟨g, 0, none⟩) 0 0 := hdep 0 34 rfl (by kernel_rfl)
            obtain ⟨g, e0⟩ := e0
            exact flow_copyT (.tmp 34) (.tmp 35) rfl g _ l e0 e1 (HTc.out wq hc) (by omega) (fun _ _ h => h)
          | 3, _ =>
            cases ho
            exact flow_move (.tmp 8) rfl (hk 8 (by decide))
          | 4, _ =>
            cases ho
            have e0 : IsT wq (aq.tmps.getD 36 undef) l := hdep 2 36 rfl (by kernel_rfl)
            have e1 : aq.tmps.getD 37 undef = .bool true := hdep 3 37 rfl (by kernel_rfl)
            refine flow_fun 7 _ _ rfl (fun _ _ => by simp [go_sem]) #[aq.tmps.getD 36 undef, .bool true] (by rw [show (#[Operand.tmp 36, Operand.tmp 37] : Array Operand).map aq.eval = #[aq.tmps.getD 36 undef, aq.tmps.getD 37 undef] from by simp [Act.eval], e1]) ?_
            refine (putBits_any _ l true wq e0 (by omega)).mono ?_
            rintro e w' ⟨v', rfl, h1, h2⟩
            exact ⟨_, rfl, h1.isB (putB_byte _ _), h2⟩
          | 5, _ =>
            cases ho
            have e0 : IsB wq (aq.tmps.getD 38 undef) (putB l true) := hdep 4 38 rfl (by kernel_rfl)
            exact flow_value _ (rconv (.tmp 38) rfl e0) rfl
          | 6, _ =>
            cases ho
            exact flow_move (.tmp 0) rfl (hk 0 (by decide))
          | 7, _ =>
            cases ho
            exact flow_move (.tmp 8) rfl (hk 8 (by decide))
          | 8, _ =>
            cases ho
            have e0 : aq.tmps.getD 40 undef = .slice ao l.length cap := hdep 6 40 rfl (by kernel_rfl)
            have e1 : aq.tmps.getD 41 undef = .bool true := hdep 7 41 rfl (by kernel_rfl)
            refine flow_fun 8 _ _ rfl (fun _ _ => by simp [go_sem]) #[aq.tmps.getD 40 undef, .bool true] (by rw [show (#[Operand.tmp 40, Operand.tmp 41] : Array Operand).map aq.eval = #[aq.tmps.getD 40 undef, aq.tmps.getD 41 undef] from by simp [Act.eval], e1]) ?_
            refine (rputBits_any _ l true wq (by rw [e0]; exact HTc.out wq hc) (by omega)).mono ?_
            rintro e w' ⟨v', rfl, h1, h2⟩
            exact ⟨_, rfl, h1.isB (putB_byte _ _), h2⟩
          | 9, _ =>
            cases ho
            have e0 : IsB wq (aq.tmps.getD 42 undef) (putB l true) := hdep 8 42 rfl (by kernel_rfl)
            exact flow_value _ (rconv (.tmp 42) rfl e0) rfl
          | (k + 10), hk => exact absurd hk (by omega)
        · intro o h10 ho
          omega
        intro vf w8 hc hv
        have e5 : vf 5 = _ := hv 5 39 (by decide) rfl
        have e9 : vf 9 = _ := hv 9 43 (by decide) rfl
        clear hv
        simp only [List.take_succ_cons, List.take_zero, List.drop_succ_cons, List.drop_zero, putAll, Act.put, List.setIfInBounds_toArray, List.set_cons_succ, List.set_cons_zero]
        rw [e5, e9]
        have HB8 := hid (below_more HBw.out hc.bel (Nat.le_refl _))
        clear e5 e9 hc
        generalize strOf (putB l true) = sk
        go_wp2
        go_roundw
        case rel => exact ⟨2, by decide, rfl, HB8.out⟩
        case measure => decide
      | 2, _ =>
        have XW := hid (below_more HWA.out HBw.out (Nat.le_refl _))
        clear HBw HWA
        obtain ⟨WD, hWD⟩ : ∃ WD, wr.alloc (.cells #[.int .i64 7, .int .i64 1048576, .slice none 0 0] 29) = WD := ⟨_, rfl⟩
        have eWD : WD.heap.size = wr.heap.size + 1 := by rw [← hWD]; simp
        have BD : Below wr.heap.size wr WD := by rw [← hWD]; exact (Below.refl _ wr).alloc (Nat.le_refl _) _
        have cd0 : WD.cell? ⟨wr.heap.size, 0, none⟩ = some (.int .i64 7) := by rw [← hWD]; simp
        have cd1 : WD.cell? ⟨wr.heap.size, 1, none⟩ = some (.int .i64 1048576) := by rw [← hWD]; simp
        have XD := below_more XW.out BD (Nat.le_refl _)
        have BA : Below WD.heap.size WD (WD.alloc (.cells #[] 5)) := (Below.refl _ WD).alloc (Nat.le_refl _) _
        have HSR := hid ((HB.out.keep XD).keep BA).src
        have HO0 := own_bytes WD
        have HBA := hid BA
        rw [eWD] at HO0
        have HO := hid HO0
        have HWD := hid hWD
        have HeWD := hid eWD
        have HXD := hid XD
        have HC := hid (And.intro cd0 cd1)
        clear BD cd0 cd1 XD BA HO0 hWD eWD
        go_wp2_with (at_builtin; rw [HWD.out]; refine wpList_append_b rfl (.tmp 50) (.tmp 51) 23 rfl (wr.heap.size + 1) _ [] rfl (by exact HO.out) _ bs rfl (by exact HSR.out) (by simp; omega) (by have := HBA.out.size; rw [HeWD.out] at this; exact this) ?_; intro v2 w2 r1 r2 r3)
        rw [List.nil_append] at r1
        have I2 := r1.isB h8
        have BW2 : Below WD.heap.size WD w2 := below_grownR HBA.out HO.out (by rw [HeWD.out]; exact Nat.le_refl _) r2
        have HX2 := hid (below_more HXD.out BW2 (Nat.le_refl _))
        have HC2 := hid (And.intro ((BW2.cell (p := ⟨wr.heap.size, 0, none⟩) (block_lt_of_cell HC.out.1)).trans HC.out.1) ((BW2.cell (p := ⟨wr.heap.size, 1, none⟩) (block_lt_of_cell HC.out.2)).trans HC.out.2))
        refine (takeBits_any v2 bs 1048576 w2 I2 (by omega) hlimb).mono ?_
        rintro e w3 ⟨hres, B3⟩
        have HX3 := hid (below_more HX2.out B3 (Nat.le_refl _))
        have HC3 := hid (And.intro ((B3.cell (p := ⟨wr.heap.size, 0, none⟩) (block_lt_of_cell HC2.out.1)).trans HC2.out.1) ((B3.cell (p := ⟨wr.heap.size, 1, none⟩) (block_lt_of_cell HC2.out.2)).trans HC2.out.2))
        clear r1 r2 r3 I2 BW2 HX2 HC2 B3 HC HO HSR HBA HXD HWD HeWD
        rcases hres with ⟨lt, u, hfl, rfl, hTu⟩ | ⟨hfn, rfl⟩
        · obtain ⟨bo, bl, bc, rfl⟩ := hTu.sl.ex
          have HTu := hid hTu
          have HFL := hid hfl
          clear hTu hfl
          go_wp2_with fail
          refine (decode_list01 _ bs 1048576 wr.heap.size w3 (HB.out.keep HX3.out) HC3.out.1 HC3.out.2 (by omega) hlimb).mono ?_
          rintro e w4 ⟨u4, t4, ok, rfl, hV4, B4, hcase⟩
          rcases hcase with ⟨rfl, l2, hl2, rfl⟩ | ⟨_, h⟩
          rotate_left
          · rw [HFL.out] at h; cases h
          rw [HFL.out] at hl2
          cases hl2
          have X4 := hid (And.intro hV4 (And.intro (HTu.out.keep B4) (below_more HX3.out B4 (Nat.le_refl _))))
          obtain ⟨n4, r4, sb4, sk4, rfl, hr4, hs4, hk4, _, _, hVA⟩ := hV4.form
          have HSS := hid (sameV_refl (bitsV lt))
          clear hVA hV4 B4 HX3 HC3 HTu HFL
          go_wp2_with ((with_reducible refine at_list ?_); first
            | (refine wpList_alloc_val rfl 12 rfl rfl ?_; intro w5 H5 B5 S5)
            | (refine wpList_store_val rfl (.tmp 12) (.tmp 61) rfl w4.heap.size n4 r4 sb4 sk4 rfl rfl hr4 hs4 hk4 _ _ _ _ H5 zeros32 ?_; intro w6 H6 O6; have B46 := below_only B5 O6 (Nat.le_refl _); have X6 := hid (And.intro (X4.out.1.keep B46) (And.intro (X4.out.2.1.keep B46) (And.intro (below_more X4.out.2.2 B46 (Nat.le_refl _)) H6))); clear H5 B5 S5 B46 O6)
            | (go_big_want; refine wp_run (run_buildOp _ #[(2, .tmp 76)] rfl #[(2, .slice bo bl bc)] rfl _ (build_bits bo bl bc _)) ?_)
            | (go_big_want; refine wp_run (run_mid 37 (.tmp 12) rfl w4.heap.size 0 rfl _ (X6.out.2.2.2.boxed hr4).all _ Try.underlying37 rfl (by rw [valL_length _ _ _ _ hr4]; exact sizeVal)) ?_))
          refine (same_any (bitsV lt) (bitsV lt) _ _ _ (by exact isV_bits X6.out.2.1) (by exact X6.out.1)).mono ?_
          rintro e w7 ⟨rfl, B7⟩
          rw [HSS.out]
          have XL := hid (below_more X6.out.2.2.1 B7 (Nat.le_refl _))
          clear B7 X6 X4 H6 HSS
          go_wp2_with fail
          refine (putBits_any _ l true _ (HT.out.keep XL.out) (by omega)).mono ?_
          rintro e wa ⟨va, rfl, Ra, Ba⟩
          have Ia := Ra.isB (putB_byte _ _)
          obtain ⟨aoa, capa, rfl, _⟩ := Ia.ex
          have XA := hid (And.intro Ia (below_more XL.out Ba (Nat.le_refl _)))
          clear Ra Ba Ia
          go_wp2_with fail
          refine (takeBits_any _ (putB l true) _ _ XA.out.1 (by rw [putB_length]; simp; omega) (by omega)).mono ?_
          rintro e wb ⟨hrb, Bb⟩
          rw [HTP.out] at hrb
          rcases hrb with ⟨lb, ub, h, rfl, hTb⟩ | ⟨h, _⟩
          rotate_left
          · cases h
          cases h
          obtain ⟨bo2, bl2, bc2, rfl⟩ := hTb.sl.ex
          have XB := hid (And.intro hTb (And.intro (HT.out.keep (below_more XA.out.2 Bb (Nat.le_refl _))) (below_more XA.out.2 Bb (Nat.le_refl _))))
          clear hTb Bb XA
          go_wp2_with (go_big_want; first
            | (refine wp_run (run_buildOp _ #[(2, .tmp 96)] rfl #[(2, .slice bo2 bl2 bc2)] rfl _ (build_bits bo2 bl2 bc2 _)) ?_)
            | (refine wp_run (run_buildOp _ #[(2, .tmp 98)] rfl #[(2, .slice ao l.length cap)] rfl _ (build_bits ao l.length cap _)) ?_))
          refine (same_any (bitsV l) (bitsV l) _ _ _ (by exact isV_bits XB.out.1) (by exact isV_bits XB.out.2.1)).mono ?_
          rintro e wc ⟨rfl, Bc⟩
          rw [HSL.out]
          have XC := hid (below_more XB.out.2.2 Bc (Nat.le_refl _))
          clear Bc XB
          go_wp2
          go_ret
          exact ⟨rfl, XC.out⟩
        · have HFN := hid hfn
          obtain ⟨bo, bl, bc, hbo⟩ : ∃ bo bl bc, (Value.slice none 0 0) = .slice bo bl bc := ⟨_, _, _, rfl⟩
          cases hbo
          clear hfn
          go_wp2_with fail
          refine (decode_list01 _ bs 1048576 wr.heap.size w3 (HB.out.keep HX3.out) HC3.out.1 HC3.out.2 (by omega) hlimb).mono ?_
          rintro e w4 ⟨u4, t4, ok, rfl, hV4, B4, hcase⟩
          rcases hcase with ⟨_, l2, h, _⟩ | ⟨rfl, _⟩
          · rw [HFN.out] at h; cases h
          have X4 := hid (And.intro hV4 (And.intro (isT_nil w4) (below_more HX3.out B4 (Nat.le_refl _))))
          obtain ⟨n4, r4, sb4, sk4, rfl, hr4, hs4, hk4, _, _, hVA⟩ := hV4.form
          clear hVA hV4 B4 HX3 HC3 HFN
          go_wp2_with ((with_reducible refine at_list ?_); first
            | (refine wpList_alloc_val rfl 12 rfl rfl ?_; intro w5 H5 B5 S5)
            | (refine wpList_store_val rfl (.tmp 12) (.tmp 61) rfl w4.heap.size n4 r4 sb4 sk4 rfl rfl hr4 hs4 hk4 _ _ _ _ H5 zeros32 ?_; intro w6 H6 O6; have B46 := below_only B5 O6 (Nat.le_refl _); have X6 := hid (And.intro (X4.out.1.keep B46) (And.intro (X4.out.2.1.keep B46) (And.intro (below_more X4.out.2.2 B46 (Nat.le_refl _)) H6))); clear H5 B5 S5 B46 O6)
            | (go_big_want; refine wp_run (run_buildOp _ #[(2, .tmp 76)] rfl #[(2, .slice none 0 0)] rfl _ (build_bits none 0 0 _)) ?_)
            | (go_big_want; refine wp_run (run_mid 37 (.tmp 12) rfl w4.heap.size 0 rfl _ (X6.out.2.2.2.boxed hr4).all _ Try.underlying37 rfl (by rw [valL_length _ _ _ _ hr4]; exact sizeVal)) ?_))
          refine (same_any (bitsV []) t4 _ _ _ (by exact isV_bits X6.out.2.1) (by exact X6.out.1)).mono ?_
          rintro e w7 ⟨rfl, B7⟩
          have XL := hid (below_more X6.out.2.2.1 B7 (Nat.le_refl _))
          obtain ⟨sv, hsv⟩ : ∃ sv, sameV (bitsV []) t4 = sv := ⟨_, rfl⟩
          rw [hsv]
          clear hsv B7 X6 X4 H6
          cases sv
          · go_wp2_with fail
            refine (putBits_any _ l true _ (HT.out.keep XL.out) (by omega)).mono ?_
            rintro e wa ⟨va, rfl, Ra, Ba⟩
            have Ia := Ra.isB (putB_byte _ _)
            obtain ⟨aoa, capa, rfl, _⟩ := Ia.ex
            have XA := hid (And.intro Ia (below_more XL.out Ba (Nat.le_refl _)))
            clear Ra Ba Ia
            go_wp2_with fail
            refine (takeBits_any _ (putB l true) _ _ XA.out.1 (by rw [putB_length]; simp; omega) (by omega)).mono ?_
            rintro e wb ⟨hrb, Bb⟩
            rw [HTP.out] at hrb
            rcases hrb with ⟨lb, ub, h, rfl, hTb⟩ | ⟨h, _⟩
            rotate_left
            · cases h
            cases h
            obtain ⟨bo2, bl2, bc2, rfl⟩ := hTb.sl.ex
            have XB := hid (And.intro hTb (And.intro (HT.out.keep (below_more XA.out.2 Bb (Nat.le_refl _))) (below_more XA.out.2 Bb (Nat.le_refl _))))
            clear hTb Bb XA
            go_wp2_with (go_big_want; first
              | (refine wp_run (run_buildOp _ #[(2, .tmp 96)] rfl #[(2, .slice bo2 bl2 bc2)] rfl _ (build_bits bo2 bl2 bc2 _)) ?_)
              | (refine wp_run (run_buildOp _ #[(2, .tmp 98)] rfl #[(2, .slice ao l.length cap)] rfl _ (build_bits ao l.length cap _)) ?_))
            refine (same_any (bitsV l) (bitsV l) _ _ _ (by exact isV_bits XB.out.1) (by exact isV_bits XB.out.2.1)).mono ?_
            rintro e wc ⟨rfl, Bc⟩
            rw [HSL.out]
            have XC := hid (below_more XB.out.2.2 Bc (Nat.le_refl _))
            clear Bc XB
            go_wp2
            go_ret
            exact ⟨rfl, XC.out⟩
          · go_wp2_with fail
            refine (putBits_any _ l true _ (HT.out.keep XL.out) (by omega)).mono ?_
            rintro e wa ⟨va, rfl, Ra, Ba⟩
            have Ia := Ra.isB (putB_byte _ _)
            obtain ⟨aoa, capa, rfl, _⟩ := Ia.ex
            have XA := hid (And.intro Ia (below_more XL.out Ba (Nat.le_refl _)))
            clear Ra Ba Ia
            go_wp2_with fail
            refine (takeBits_any _ (putB l true) _ _ XA.out.1 (by rw [putB_length]; simp; omega) (by omega)).mono ?_
            rintro e wb ⟨hrb, Bb⟩
            rw [HTP.out] at hrb
            rcases hrb with ⟨lb, ub, h, rfl, hTb⟩ | ⟨h, _⟩
            rotate_left
            · cases h
            cases h
            obtain ⟨bo2, bl2, bc2, rfl⟩ := hTb.sl.ex
            have XB := hid (And.intro hTb (And.intro (HT.out.keep (below_more XA.out.2 Bb (Nat.le_refl _))) (below_more XA.out.2 Bb (Nat.le_refl _))))
            clear hTb Bb XA
            go_wp2_with (go_big_want; first
              | (refine wp_run (run_buildOp _ #[(2, .tmp 96)] rfl #[(2, .slice bo2 bl2 bc2)] rfl _ (build_bits bo2 bl2 bc2 _)) ?_)
              | (refine wp_run (run_buildOp _ #[(2, .tmp 98)] rfl #[(2, .slice ao l.length cap)] rfl _ (build_bits ao l.length cap _)) ?_))
            refine (same_any (bitsV l) (bitsV l) _ _ _ (by exact isV_bits XB.out.1) (by exact isV_bits XB.out.2.1)).mono ?_
            rintro e wc ⟨rfl, Bc⟩
            rw [HSL.out]
            have XC := hid (below_more XB.out.2.2 Bc (Nat.le_refl _))
            clear Bc XB
            go_wp2
            go_ret
            exact ⟨rfl, XC.out⟩
      | (k + 3), hk => exact absurd hk (by omega)
end Go.Proofs.Ytidkjpfdclkccab
