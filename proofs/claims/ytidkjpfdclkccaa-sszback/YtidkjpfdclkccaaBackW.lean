/- The walk of SszBack. -/
import Derived.Test.YtidkjpfdclkccaaWritesW
import Derived.Test.YtidkjpfdclkccaaBackP
import Derived.Test.YtidkjpfdclkccaaBackR
import Derived.Test.YtidkjpfdclkccaaJoinsW
import Derived.Test.YtidkjpfdclkccaaEqlB
namespace Go.Proofs.Ytidkjpfdclkccaa
open Go.RowKit Go.Shelf
set_option linter.unusedVariables false
set_option maxRecDepth 100000

theorem partsW_snoc (fs : List FV) (k : Nat) (f : FV) (h : fs[k]? = some f) : (partsL ((fs.take (k + 1)).map wf)).length = (partsL ((fs.take k).map wf)).length + if (wf f).2 then 1 else 0 := by
  rw [wf_snoc fs k f h, partsL_snoc, List.length_append]
  split <;> simp

theorem eql_rootself (l : List Nat) (hl : l.length = 32) (bl : ∀ z ∈ l, z < 256) (w : World) :
    (Op.equalIn 10000 40 (.agg (nums .u8 l)) (.agg (nums .u8 l))).run Try.prog w = .ok true w := by
  rw [nums_cells l bl, run_equalIn_bytes w 9998 40 5 32 rootUnd Try.underlying5 sizeOf_u8 _ _ (by simpa using hl) (by simpa using hl), ofNat_inj l l bl bl]
  simp

set_option maxHeartbeats 8000000 in
theorem back_walk (v0 v1 : Value) (fs : List FV) (more : List Nat) (w : World) (hF : IsFs w v0 fs) (hl : fs.length ≤ 3600000000000) (hM : IsB w v1 more) :
    Calls Try.prog 4 #[v0, v1] w fun e w' => e = .returned (.bool true) ∧ Below w.heap.size w w' := by
  have HF := hid hF
  have HM := hid hM
  obtain ⟨ao, cap, rfl, h1, h2, h4⟩ := hF
  obtain ⟨⟨aoM, capM, rfl, hcM, hmM, _, _⟩, hM8⟩ := hM
  have hmM2 := hmM
  unfold maxLen at hmM2
  go_enter Try.func4, Try.ntmps4
  go_wp2_with fail
  refine (awake_any w).mono ?_
  rintro e w1 ⟨rfl, B1⟩
  have HB1 := hid B1
  clear B1
  go_wp2_with fail
  refine (long_any _ fs _ (HF.out.keep HB1.out) hl).mono ?_
  rintro e w2 ⟨rfl, B2⟩
  have HB2 := hid (below_more HB1.out B2 (Nat.le_refl _))
  clear B2
  cases hlong : longB fs
  rotate_left
  · go_wp2
    go_ret
    exact ⟨rfl, HB2.out⟩
  by_cases hml : 1000 < more.length
  · have hml' : (1000 : Int) < ((more.length : Nat) : Int) := by omega
    go_wp2
    go_ret
    exact ⟨rfl, HB2.out⟩
  have hml' : ¬ (1000 : Int) < ((more.length : Nat) : Int) := by omega
  have hL := hlong
  unfold longB at hL
  rw [Bool.or_eq_false_iff, decide_eq_false_iff_not, decide_eq_false_iff_not] at hL
  obtain ⟨hL1, hL2⟩ := hL
  have hdl : ∀ (i : Nat) (f : FV), fs[i]? = some f → f.data.length ≤ 4000 := by
    intro i f hf
    have a := minF_snoc fs i f hf
    have b := minF_take fs (i + 1)
    omega
  have HDL := hid hdl
  clear hlong hdl
  have HW0 : WS w (w2.alloc (.cells #[.int .i64 0, .pointer none] 29)) w2.heap.size (.slice none 0 0) (.slice none 0 0) [] [] [] :=
    ⟨⟨_, Wr.empty w2, (fun k hk => by cases hk), (fun k hk => by cases hk)⟩, Row.nil _ _, Row.nil _ _, (fun k hk => by cases hk), HB2.out.alloc (HB2.out.size) _, HB2.out.size⟩
  have hLW : ∀ k, szF ((fs.take k).map wf) ≤ 400000 := by
    intro k
    have h1 := szF_le ((fs.take k).map wf)
    have h2 := lenW (fs.take k) (fun f hf => by
      obtain ⟨i, hi, rfl⟩ := List.mem_iff_getElem.1 (List.mem_of_mem_take hf)
      exact HDL.out i _ (List.getElem?_eq_getElem hi))
    rw [List.length_map] at h1
    have h3 : (fs.take k).length ≤ fs.length := by simp; omega
    omega
  have hPW : ∀ k, (partsL ((fs.take k).map wf)).length ≤ 60 := by
    intro k
    have h1 : (partsL ((fs.take k).map wf)).length ≤ ((fs.take k).map wf).length := by
      unfold partsL
      rw [List.length_map]
      exact List.length_filter_le _ _
    rw [List.length_map] at h1
    have h3 : (fs.take k).length ≤ fs.length := by simp; omega
    omega
  have HLW := hid hLW
  have HPW := hid hPW
  have HHW := hid HW0
  clear HW0 hLW hPW
  go_wp2
  go_loopw [6, 7, 9, 33] (fun s p _ i wr => ∃ k : Nat, k ≤ fs.length ∧ i = .int .i64 k ∧ s = .int .i64 ((szF ((fs.take k).map wf) : Nat) : Int) ∧ p = .int .i64 (((partsL ((fs.take k).map wf)).length : Nat) : Int) ∧ WS w wr w2.heap.size (.slice none 0 0) (.slice none 0 0) [] [] ((fs.take k).map wf)) (fun _ _ _ i _ => fs.length - (intOf i).toNat)
  case atStart => exact ⟨0, Nat.zero_le _, rfl, rfl, rfl, HHW.out⟩
  case round =>
    obtain ⟨k, hk, rfl, rfl, rfl, hWS⟩ := hrel
    by_cases hlt : k < fs.length
    · obtain ⟨b, off, rfl, hcc⟩ : ∃ b off, ao = some ⟨b, off, none⟩ ∧ ∀ i f, fs[i]? = some f → ∃ u, FAt w b (off + i * 3) f u := by
        rcases h4 with h4 | h4
        · omega
        · exact h4
      have hf := List.getElem?_eq_getElem hlt
      obtain ⟨u, hF⟩ := hcc k _ hf
      have hF' := hF.keep hWS.bel
      obtain ⟨k0, k1, k2, _, _, hnb⟩ := hF'
      have HI := hid hF.isB
      have h8 := hF.isB.by8
      obtain ⟨⟨ao2, cap2, rfl, hcap2⟩, _⟩ := hF.isB
      have hdd := HDL.out k _ hf
      have hzz := HLW.out k
      have hpp := HPW.out k
      obtain ⟨m, hm, hmk⟩ := wrap_nat fs[k].kind
      have hkm : km fs[k] = m % 4 := by unfold km; rw [← hmk]
      have hsn := wf_snoc fs k _ hf
      have HXS : Same _ _ := ⟨hsn⟩
      have HST : Hid (szF ((fs.take (k + 1)).map wf) = szF ((fs.take k).map wf) + sz1 (wf fs[k])) := by
        show szF _ = _
        rw [hsn, szF_snoc]
      have HPT := hid (partsW_snoc fs k _ hf)
      have hwf : wf fs[k] = if m % 4 = 0 then (fs[k].data, false) else if m % 4 = 1 then (le fs[k].n 8, false) else if m % 4 = 2 then (rootOf fs[k].data, false) else (fs[k].data, true) := by unfold wf; rw [hkm]
      have HWF : Same _ _ := ⟨hwf⟩
      have hxl : ((fs.take k).map wf).length ≤ 60 := by simp; omega
      clear hwf hsn hF hf hcc h4 hmk hkm
      generalize szF ((fs.take k).map wf) = s at *
      generalize (partsL ((fs.take k).map wf)).length = pn at *
      generalize (fs.take k).map wf = xs at *
      generalize wf fs[k] = wfk at *
      generalize fs[k].kind = kd at *
      generalize fs[k].n = fn at *
      generalize fs[k].data = d at *
      have hgw := hWS.gt
      have HWS := hid hWS
      have BA : Below wr.heap.size wr (wr.alloc (.cells #[.int .i64 kd, .int .u64 (fn : Nat), .slice ao2 d.length cap2] 33)) := (Below.refl _ wr).alloc (Nat.le_refl _) _
      have FB := heap_alloc_new wr (.cells #[.int .i64 kd, .int .u64 (fn : Nat), .slice ao2 d.length cap2] 33)
      have HBA := hid BA
      have HFB := hid FB
      clear hWS BA FB
      have h4c : m % 4 = 0 ∨ m % 4 = 1 ∨ m % 4 = 2 ∨ m % 4 = 3 := by omega
      rcases h4c with hc | hc | hc | hc
      · have hc' : (m : Int) % 4 = 0 := by omega
        have hw1 : wfk = (d, false) := by rw [HWF.out]; simp [hc]
        subst hw1
        clear HWF
        have ix : ∀ w : World, (Instr.index 34 (.agg #[.int .i64 ((d.length : Nat) : Int), .int .i64 8, .int .i64 32, .int .i64 4]) (.int .u64 0)).run Try.prog w = .ok (.int .i64 ((d.length : Nat) : Int)) w := fun _ => by kernel_rfl
        have HW3 := hid (HWS.out.below HBA.out)
        have HF3 := HFB
        obtain ⟨S, hW, hx1, hx2⟩ := HW3.out.hw
        have HX := hid (And.intro hx1 hx2)
        have HC := hid (fixed_wr w2.heap.size S xs (.slice ao2 d.length cap2) d (wr.alloc (.cells #[.int .i64 kd, .int .u64 (fn : Nat), .slice ao2 d.length cap2] 33)) hW ((HI.out.keep HWS.out.bel).keep HBA.out) (by omega) (by omega))
        clear hW hx1 hx2
        go_wp2_with fail
        refine HC.out.mono ?_
        rintro e w4 ⟨⟨u4, rfl⟩, q1, q2⟩
        have W4 := HW3.out.put S HX.out.1 HX.out.2 q1 q2
        have s4 := q2.size
        have F4 : w4.heap[wr.heap.size]? = some (.cells #[.int .i64 kd, .int .u64 (fn : Nat), .slice ao2 d.length cap2] 33 (0, 0)) := (q2.block wr.heap.size (by simp) (fun e => by have := Option.some.inj e; omega)).trans HF3.out
        have c2 : w4.cell? ⟨wr.heap.size, 2, none⟩ = some (.slice ao2 d.length cap2) := cell_of_row w4 _ 2 _ _ (0, 0) F4
        have c0 : w4.cell? ⟨wr.heap.size, 0, none⟩ = some (.int .i64 kd) := cell_of_row w4 _ 0 _ _ (0, 0) F4
        have HW4 := hid W4
        clear q1 q2 W4 F4 HC HW3 HF3 HX
        go_wp2
        go_roundw
        case rel => exact ⟨k + 1, by omega, by go_num, by rw [HST.out]; simp [sz1], by rw [HPT.out]; simp, by rw [HXS.out]; exact HW4.out⟩
        case measure => simp [intOf]; omega
      · have hc' : (m : Int) % 4 = 1 := by omega
        have hw1 : wfk = (le fn 8, false) := by rw [HWF.out]; simp [hc]
        subst hw1
        clear HWF
        have ix : ∀ w : World, (Instr.index 34 (.agg #[.int .i64 ((d.length : Nat) : Int), .int .i64 8, .int .i64 32, .int .i64 4]) (.int .u64 1)).run Try.prog w = .ok (.int .i64 8) w := fun _ => by kernel_rfl
        have HB3 : Hid (Below wr.heap.size wr ((wr.alloc (.cells #[.int .i64 kd, .int .u64 (fn : Nat), .slice ao2 d.length cap2] 33)).alloc (.cells #[.int .u64 (fn : Nat)] 31))) := HBA.out.alloc (by simp) _
        have HF3 : Hid (((wr.alloc (.cells #[.int .i64 kd, .int .u64 (fn : Nat), .slice ao2 d.length cap2] 33)).alloc (.cells #[.int .u64 (fn : Nat)] 31)).heap[wr.heap.size]? = some (.cells #[.int .i64 kd, .int .u64 (fn : Nat), .slice ao2 d.length cap2] 33 (0, 0))) := (((Below.refl _ (wr.alloc (.cells #[.int .i64 kd, .int .u64 (fn : Nat), .slice ao2 d.length cap2] 33))).alloc (Nat.le_refl _) _).block wr.heap.size (by simp)).trans HFB.out
        have hs3 : ((wr.alloc (.cells #[.int .i64 kd, .int .u64 (fn : Nat), .slice ao2 d.length cap2] 33)).alloc (.cells #[.int .u64 (fn : Nat)] 31)).heap.size = wr.heap.size + 2 := by simp
        have hn3 : ((wr.alloc (.cells #[.int .i64 kd, .int .u64 (fn : Nat), .slice ao2 d.length cap2] 33)).alloc (.cells #[.int .u64 (fn : Nat)] 31)).heap[wr.heap.size + 1]? = some (.cells #[.int .u64 (fn : Nat)] 31 (0, 0)) := by
          have := heap_alloc_new (wr.alloc (.cells #[.int .i64 kd, .int .u64 (fn : Nat), .slice ao2 d.length cap2] 33)) (.cells #[.int .u64 (fn : Nat)] 31)
          rw [World.size_alloc] at this
          exact this
        have HW3 := hid (HWS.out.below HB3.out)
        obtain ⟨S, hW, hx1, hx2⟩ := HW3.out.hw
        have HX := hid (And.intro hx1 hx2)
        have HC := hid (num_wr w2.heap.size S xs [fn] (wr.heap.size + 1) 0 1 ((wr.alloc (.cells #[.int .i64 kd, .int .u64 (fn : Nat), .slice ao2 d.length cap2] 33)).alloc (.cells #[.int .u64 (fn : Nat)] 31)) hW (by omega) (by simp; omega) (by simpa using hnb) (fun i hi => by
          obtain rfl : i = 0 := by simp at hi; exact hi
          exact cell_of_row _ _ 0 _ _ (0, 0) hn3) (by simp))
        clear hn3 hW hx1 hx2
        go_wp2_with fail
        refine HC.out.mono ?_
        rintro e w4 ⟨⟨u4, rfl⟩, q1, q2⟩
        have W4 := HW3.out.put S HX.out.1 HX.out.2 q1 q2
        have s4 := q2.size
        have F4 : w4.heap[wr.heap.size]? = some (.cells #[.int .i64 kd, .int .u64 (fn : Nat), .slice ao2 d.length cap2] 33 (0, 0)) := (q2.block wr.heap.size (by omega) (fun e => by have := Option.some.inj e; omega)).trans HF3.out
        have c2 : w4.cell? ⟨wr.heap.size, 2, none⟩ = some (.slice ao2 d.length cap2) := cell_of_row w4 _ 2 _ _ (0, 0) F4
        have c0 : w4.cell? ⟨wr.heap.size, 0, none⟩ = some (.int .i64 kd) := cell_of_row w4 _ 0 _ _ (0, 0) F4
        have HW4 := hid W4
        clear q1 q2 W4 F4 HC HW3 HF3 HX
        go_wp2
        go_roundw
        case rel => exact ⟨k + 1, by omega, by go_num, by rw [HST.out]; simp [sz1, le_length], by rw [HPT.out]; simp, by rw [HXS.out]; exact HW4.out⟩
        case measure => simp [intOf]; omega
      · have hc' : (m : Int) % 4 = 2 := by omega
        have hw1 : wfk = (rootOf d, false) := by rw [HWF.out]; simp [hc]
        subst hw1
        clear HWF
        have ix : ∀ w : World, (Instr.index 34 (.agg #[.int .i64 ((d.length : Nat) : Int), .int .i64 8, .int .i64 32, .int .i64 4]) (.int .u64 2)).run Try.prog w = .ok (.int .i64 32) w := fun _ => by kernel_rfl
        have hsA : (wr.alloc (.cells #[.int .i64 kd, .int .u64 (fn : Nat), .slice ao2 d.length cap2] 33)).heap.size = wr.heap.size + 1 := by simp
        have HIA := hid ((HI.out.keep HWS.out.bel).keep HBA.out)
        go_wp2_with fail
        refine (lroot_any kd fn (.slice ao2 d.length cap2) d _ HIA.out).mono ?_
        rintro e w3 ⟨rfl, B3⟩
        have s3 := B3.size
        rw [hsA] at s3
        have HB3 := hid (below_more HBA.out B3 (Nat.le_refl _))
        have HF3' := hid ((B3.block wr.heap.size (by omega)).trans HFB.out)
        clear B3
        go_wp2_with ((with_reducible refine at_list' ?_); first
          | (refine wpList_one_root rfl 85 40 (.tmp 60) rfl Try.underlying85 Try.rootInfo (rootOf d) rfl (rootOf_length d) ?_; intro w6 H6 B6 S6))
        have HW3 := hid (HWS.out.below (below_more HB3.out B6 (Nat.le_refl _)))
        have HF3 := hid ((B6.block wr.heap.size (by omega)).trans HF3'.out)
        obtain ⟨S, hW, hx1, hx2⟩ := HW3.out.hw
        have HX := hid (And.intro hx1 hx2)
        have HC := hid (root_wr w2.heap.size S xs (rootOf d) w3.heap.size w6 hW (by omega) (by omega) (rootOf_length d) (rootOf_byte h8) H6)
        clear H6 hW hx1 hx2
        refine HC.out.mono ?_
        rintro e w4 ⟨⟨u4, rfl⟩, q1, q2⟩
        have W4 := HW3.out.put S HX.out.1 HX.out.2 q1 q2
        have s4 := q2.size
        have F4 : w4.heap[wr.heap.size]? = some (.cells #[.int .i64 kd, .int .u64 (fn : Nat), .slice ao2 d.length cap2] 33 (0, 0)) := (q2.block wr.heap.size (by omega) (fun e => by have := Option.some.inj e; omega)).trans HF3.out
        have c2 : w4.cell? ⟨wr.heap.size, 2, none⟩ = some (.slice ao2 d.length cap2) := cell_of_row w4 _ 2 _ _ (0, 0) F4
        have c0 : w4.cell? ⟨wr.heap.size, 0, none⟩ = some (.int .i64 kd) := cell_of_row w4 _ 0 _ _ (0, 0) F4
        have HW4 := hid W4
        clear q1 q2 W4 F4 HC HW3 HF3 HX
        go_wp2
        go_roundw
        case rel => exact ⟨k + 1, by omega, by go_num, by rw [HST.out]; simp [sz1, rootOf_length], by rw [HPT.out]; simp, by rw [HXS.out]; exact HW4.out⟩
        case measure => simp [intOf]; omega
      · have hc' : (m : Int) % 4 = 3 := by omega
        have hw1 : wfk = (d, true) := by rw [HWF.out]; simp [hc]
        subst hw1
        clear HWF
        have ix : ∀ w : World, (Instr.index 34 (.agg #[.int .i64 ((d.length : Nat) : Int), .int .i64 8, .int .i64 32, .int .i64 4]) (.int .u64 3)).run Try.prog w = .ok (.int .i64 4) w := fun _ => by kernel_rfl
        have HW3 := hid (HWS.out.below HBA.out)
        have HF3 := HFB
        obtain ⟨S, hW, hx1, hx2⟩ := HW3.out.hw
        have HX := hid (And.intro hx1 hx2)
        have HC := hid (part_wr w2.heap.size S xs (.slice ao2 d.length cap2) d (wr.alloc (.cells #[.int .i64 kd, .int .u64 (fn : Nat), .slice ao2 d.length cap2] 33)) hW ((HI.out.keep HWS.out.bel).keep HBA.out) (by omega) (by omega))
        clear hW hx1 hx2
        go_wp2_with fail
        refine HC.out.mono ?_
        rintro e w4 ⟨⟨u4, rfl⟩, q1, q2⟩
        have W4 := HW3.out.put S HX.out.1 HX.out.2 q1 q2
        have s4 := q2.size
        have F4 : w4.heap[wr.heap.size]? = some (.cells #[.int .i64 kd, .int .u64 (fn : Nat), .slice ao2 d.length cap2] 33 (0, 0)) := (q2.block wr.heap.size (by simp) (fun e => by have := Option.some.inj e; omega)).trans HF3.out
        have c2 : w4.cell? ⟨wr.heap.size, 2, none⟩ = some (.slice ao2 d.length cap2) := cell_of_row w4 _ 2 _ _ (0, 0) F4
        have c0 : w4.cell? ⟨wr.heap.size, 0, none⟩ = some (.int .i64 kd) := cell_of_row w4 _ 0 _ _ (0, 0) F4
        have HW4 := hid W4
        clear q1 q2 W4 F4 HC HW3 HF3 HX
        go_wp2
        go_roundw
        case rel => exact ⟨k + 1, by omega, by go_num, by rw [HST.out]; simp [sz1], by rw [HPT.out]; simp, by rw [HXS.out]; exact HW4.out⟩
        case measure => simp [intOf]; omega
    · obtain rfl : k = fs.length := by omega
      rw [List.take_length] at hWS ⊢
      have hzz := HLW.out fs.length
      rw [List.take_length] at hzz
      have hpp := HPW.out fs.length
      rw [List.take_length] at hpp
      obtain ⟨S, hW, _, _⟩ := hWS.hw
      have h8 : ∀ f ∈ fs.map wf, ∀ z ∈ f.1, z < 256 := by
        obtain ⟨⟨rs, q, _, _, hH⟩, _, _⟩ := hW
        intro f hf
        exact hH.byte f (List.mem_reverse.2 hf)
      have hlW := lenW fs (fun f hf => by
        obtain ⟨i, hi, rfl⟩ := List.mem_iff_getElem.1 hf
        exact HDL.out i _ (List.getElem?_eq_getElem hi))
      have hbl := backB_le (fs.map wf)
      rw [← lenB_parts] at hbl
      have hCe : cont (fs.map wf) = frontB (szF (fs.map wf)) (fs.map wf) ++ (partsL (fs.map wf)).flatten := by unfold cont; rw [backB_parts]
      have hCB : cont (fs.map wf) ++ more = (frontB (szF (fs.map wf)) (fs.map wf) ++ ((partsL (fs.map wf)).flatten ++ more)) := by rw [hCe, List.append_assoc]
      have hB8 : ∀ z ∈ (frontB (szF (fs.map wf)) (fs.map wf) ++ ((partsL (fs.map wf)).flatten ++ more)), z < 256 := by
        intro z hz
        rcases List.mem_append.1 hz with hz | hz
        · exact frontB_byte h8 _ z hz
        · rcases List.mem_append.1 hz with hz | hz
          · obtain ⟨b, hb, hz⟩ := List.mem_flatten.1 hz
            exact partsL_byte h8 b hb z hz
          · exact hM8 z hz
      have hBL : (frontB (szF (fs.map wf)) (fs.map wf) ++ ((partsL (fs.map wf)).flatten ++ more)).length = szF (fs.map wf) + (lenB (partsL (fs.map wf)) + more.length) := by rw [List.length_append, List.length_append, frontB_length, lenB_flat]
      have hCL : (cont (fs.map wf)).length = szF (fs.map wf) + lenB (partsL (fs.map wf)) := by rw [hCe, List.length_append, frontB_length, lenB_flat]
      have HCB := hid (And.intro hCB (And.intro hB8 (And.intro hBL hCL)))
      have HBy := hid (bytes_any w2.heap.size S (fs.map wf) wr hW (by simp; omega) (by omega))
      have HWb := hid hWS.bel
      have hfx : ∀ k b, (fs.map wf)[k]? = some (b, false) → _ := fun k b h => fix_at (fs.map wf) ((partsL (fs.map wf)).flatten ++ more) k b h
      have hpx : ∀ k b, (fs.map wf)[k]? = some (b, true) → _ := fun k b h => part_at (fs.map wf) more k b h (by omega)
      have HFX := hid hfx
      have HPX := hid hpx
      clear hWS hW hCe hCB hB8 hBL hCL hfx hpx h8
      go_wp2_with fail
      refine HBy.out.mono ?_
      rintro e w3 ⟨v3, rfl, R3, B3⟩
      have HB3 := hid (below_more HWb.out B3 (Nat.le_refl _))
      have s3 := B3.size
      have HR3 := hid R3
      clear R3 B3 HBy
      go_wp2_with (at_builtin; refine wpList_append_b rfl (.tmp 75) (.tmp 76) 30 rfl wr.heap.size v3 (cont (fs.map wf)) rfl (by exact HR3.out) (.slice aoM more.length capM) more rfl (by exact (HM.out.keep HB3.out).src) (by rw [HCB.out.2.2.2]; omega) (by exact s3) ?_; intro v4 w4 r1 r2 r3)
      rw [HCB.out.1] at r1
      have I4 := hid (r1.isB HCB.out.2.1)
      have B4 : Below w.heap.size w w4 := HB3.out.grown r2 HB3.out.size (fun j hj => by have := (HR3.out.lt j hj).1; have := HWb.out.size; omega)
      have HB4 := hid B4
      clear r1 r2 r3 B4 HR3 HB3
      go_wp2_with fail
      refine (read_any v4 (frontB (szF (fs.map wf)) (fs.map wf) ++ ((partsL (fs.map wf)).flatten ++ more)) (szF (fs.map wf)) w4 I4.out (by omega) (by rw [HCB.out.2.2.1]; omega)).mono ?_
      rintro e w5 ⟨g, Sg, hg, rfl, hRd, _, B5⟩
      have hwr : decide ((frontB (szF (fs.map wf)) (fs.map wf) ++ ((partsL (fs.map wf)).flatten ++ more)).length < szF (fs.map wf)) = false := by rw [HCB.out.2.2.1]; simp
      rw [hwr] at hRd
      have HRd := hid hRd
      have HB5 := hid (below_more HB4.out B5 (Nat.le_refl _))
      have hgw : w.heap.size ≤ g := by have := HB4.out.size; omega
      clear hwr hRd B5 I4 HB4
      have HX : Hid (∀ k f, fs[k]? = some f → (fs.map wf)[k]? = some (wf f)) := fun k f h => by rw [List.getElem?_map, h]; rfl
      have HXL : Hid ((fs.map wf).length = fs.length) := hid (List.length_map _)
      have hcl : ∀ k, (partsL ((fs.map wf).take k)).length ≤ 60 := fun k => by rw [← List.map_take]; exact HPW.out k
      have HCL := hid hcl
      have hsl : ∀ k, szF ((fs.map wf).take k) ≤ 400000 := fun k => by rw [← List.map_take]; exact HLW.out k
      have HSL := hid hsl
      clear hcl hsl HPW HLW HHW
      go_wp2_with fail
      generalize hbs : (frontB (szF (fs.map wf)) (fs.map wf) ++ ((partsL (fs.map wf)).flatten ++ more)) = bs at *
      have HEqb := hid hbs
      clear hbs
      obtain ⟨sz, hszz⟩ : ∃ sz, szF (fs.map wf) = sz := ⟨_, rfl⟩
      have HSZ := hid hszz
      generalize (fs.map wf) = xs at *
      rw [hszz] at HRd HCB hzz HFX HPX HEqb ⊢
      clear hszz
      go_loopw [13, 83] (fun _ i wr => ∃ k : Nat, k ≤ fs.length ∧ i = .int .i64 k ∧ (∃ S, Rd wr g S bs sz (szF (xs.take k)) (plB sz (partsL (xs.take k))) false) ∧ Below w.heap.size w wr) (fun _ i _ => fs.length - (intOf i).toNat)
      case atStart => exact ⟨0, Nat.zero_le _, rfl, ⟨_, HRd.out⟩, HB5.out⟩
      case round =>
        clear HRd HB5
        obtain ⟨k, hk, rfl, ⟨S, hRd⟩, hBw⟩ := hrel
        by_cases hlt : k < fs.length
        · obtain ⟨b, off, rfl, hcc⟩ : ∃ b off, ao = some ⟨b, off, none⟩ ∧ ∀ i f, fs[i]? = some f → ∃ u, FAt w b (off + i * 3) f u := by
            rcases h4 with h4 | h4
            · omega
            · exact h4
          have hf := List.getElem?_eq_getElem hlt
          obtain ⟨u, hF⟩ := hcc k _ hf
          have hF' := hF.keep hBw
          obtain ⟨k0, k1, k2, _, _, hnb⟩ := hF'
          have HI := hid hF.isB
          have h8 := hF.isB.by8
          obtain ⟨⟨ao2, cap2, rfl, hcap2⟩, _⟩ := hF.isB
          have hdd := HDL.out k _ hf
          obtain ⟨m, hm, hmk⟩ := wrap_nat fs[k].kind
          have hkm : km fs[k] = m % 4 := by unfold km; rw [← hmk]
          have hxk := HX.out k _ hf
          have hwf : wf fs[k] = if m % 4 = 0 then (fs[k].data, false) else if m % 4 = 1 then (le fs[k].n 8, false) else if m % 4 = 2 then (rootOf fs[k].data, false) else (fs[k].data, true) := by unfold wf; rw [hkm]
          rw [hwf] at hxk
          have HXK := hid hxk
          have hsk := HSL.out k
          have hck := HCL.out k
          clear hxk hwf hF hf hcc h4 hmk hkm
          generalize fs[k].kind = kd at *
          generalize fs[k].n = fn at *
          generalize fs[k].data = d at *
          have hgt := hRd.gt
          have HRd := hid hRd
          have HBw := hid hBw
          have BA : Below wr.heap.size wr (wr.alloc (.cells #[.int .i64 kd, .int .u64 (fn : Nat), .slice ao2 d.length cap2] 33)) := (Below.refl _ wr).alloc (Nat.le_refl _) _
          have FB := heap_alloc_new wr (.cells #[.int .i64 kd, .int .u64 (fn : Nat), .slice ao2 d.length cap2] 33)
          have HW0 := hid (And.intro (HRd.out.below BA) (And.intro (below_more HBw.out BA (Nat.le_refl _)) FB))
          clear hRd hBw BA FB
          have h4c : m % 4 = 0 ∨ m % 4 = 1 ∨ m % 4 = 2 ∨ m % 4 = 3 := by omega
          rcases h4c with hc | hc | hc | hc
          · have hc' : (m : Int) % 4 = 0 := by omega
            have HK : Hid (xs[k]? = some (d, false)) := by refine hid ?_; have := HXK.out; simp only [hc] at this; simpa using this
            have HP := hid (HFX.out k _ HK.out)
            go_wp2_with fail
            generalize hW0 : wr.alloc (.cells #[.int .i64 kd, .int .u64 (fn : Nat), .slice ao2 d.length cap2] 33) = W0 at *
            have hfs : W0.heap.size = wr.heap.size + 1 := by rw [← hW0]; simp
            have hfg : wr.heap.size ≠ g := by omega
            have HgL : Hid (g < W0.heap.size) := hid (by omega)
            have HA : Hid (∀ (u u' : World), Below u.heap.size u u' → (fun u => Rd u g S bs sz (szF (xs.take k)) (plB sz (partsL (xs.take k))) false) u → (fun u => Rd u g S bs sz (szF (xs.take k)) (plB sz (partsL (xs.take k))) false) u') := fun u u' h k => k.below h
            have HB : Hid (∀ (u u' : World), Below u.heap.size u u' → (fun u => Rd u g S bs sz (szF (xs.take (k + 1))) (plB sz (partsL (xs.take k))) false) u → (fun u => Rd u g S bs sz (szF (xs.take (k + 1))) (plB sz (partsL (xs.take k))) false) u') := fun u u' h k => k.below h
            have HJ0 : Hid (JRd 4 (fun u => Rd u g S bs sz (szF (xs.take k)) (plB sz (partsL (xs.take k))) false) (fun u => Rd u g S bs sz (szF (xs.take (k + 1))) (plB sz (partsL (xs.take k))) false) (Array.replicate 10 false) { W0 with drawn := W0.drawn + 1 }) := ⟨fun _ => HW0.out.1.below ((Below.refl _ W0).drew), fun e => by simp at e⟩
            have HFld : Hid (∀ wq, W0.grownBy wq (some g) → wq.heap[wr.heap.size]? = some (.cells #[.int .i64 kd, .int .u64 (fn : Nat), .slice ao2 d.length cap2] 33 (0, 0))) := fun wq hc => (hc.block wr.heap.size (by omega) (fun e => hfg (Option.some.inj e))).trans HW0.out.2.2
            have HBwq : Hid (∀ wq, W0.grownBy wq (some g) → Below w.heap.size w wq) := fun wq hc => HW0.out.2.1.grown hc HW0.out.2.1.size (fun j e => by cases e; exact hgw)
            have HDat : Hid (∀ wq, W0.grownBy wq (some g) → IsB wq (.slice ao2 d.length cap2) d) := fun wq hc => HI.out.keep (HBwq.out wq hc)
            have hbl2 : bs.length ≤ 140737488355328 := by rw [HCB.out.2.2.1]; omega
            clear hW0
            have HCB2 := HCB
            refine wp_region_flowJ (fun a b => a.grownBy b (some (g))) (JRd 4 (fun u => Rd u g S bs sz (szF (xs.take k)) (plB sz (partsL (xs.take k))) false) (fun u => Rd u g S bs sz (szF (xs.take (k + 1))) (plB sz (partsL (xs.take k))) false)) 9 (fun i v wq => match i with
              | 0 => v = .pointer (some ⟨g, 0, none⟩)
              | 1 => v = .pointer (some ⟨wr.heap.size, 2, none⟩)
              | 2 => v = .slice ao2 d.length cap2
              | 3 => v = .int .i64 ((d.length : Nat) : Int)
              | 4 => IsB wq v d ∧ inS (fun k => W0.heap.size ≤ k) v
              | 5 => v = .string (strOf d)
              | 6 => v = .pointer (some ⟨wr.heap.size, 2, none⟩)
              | 7 => v = .slice ao2 d.length cap2
              | _ => v = .string (strOf d)) (by kernel_rfl) (by kernel_rfl) (grownRefl _) (fun _ _ _ h k => grown_trans h k) (grownDrew _) HJ0.out (fun _ d _ _ _ h => by cases d <;> exact h) ?_ ?_ ?_ ?_
            · intro i o g b hi ho hg v wq hv
              match i, hi with
              | 0, _ => cases ho; cases hg
              | 1, _ => cases ho; cases hg
              | 2, _ => cases ho; cases hg
              | 3, _ => cases ho; cases hg
              | 4, _ => cases ho; cases hg
              | 5, _ => cases ho; cases hg
              | 6, _ => cases ho; cases hg
              | 7, _ => cases ho; cases hg
              | 8, _ => cases ho; cases hg
              | (k + 9), hk => exact absurd hk (by omega)
            · intro i v wq wq' hi hv hb
              match i, hi with
              | 0, _ => exact hv
              | 1, _ => exact hv
              | 2, _ => exact hv
              | 3, _ => exact hv
              | 4, _ => exact ⟨grown_isB hb hv.1 (hv.2.mono fun k hk => by have := HgL.out; omega), hv.2⟩
              | 5, _ => exact hv
              | 6, _ => exact hv
              | 7, _ => exact hv
              | 8, _ => exact hv
              | (k + 9), hk => exact absurd hk (by omega)
            · intro i o hi ho aq wq done hc hsz hun hJ hk hdep
              match i, hi with
              | 0, _ =>
                cases ho
                refine flowJ_of (by decide) (HA.out wq) (HB.out wq) hJ ?_
                exact flow_move (.tmp 11) rfl (hk 11 (by decide))
              | 1, _ =>
                cases ho
                refine flowJ_of (by decide) (HA.out wq) (HB.out wq) hJ ?_
                have e13 : aq.tmps.getD 13 undef = .pointer (some ⟨wr.heap.size, 0, none⟩) := hk 13 (by decide)
                exact flow_value _ (run_fieldAt 33 (.tmp 13) 2 rfl _ _ e13 (by kernel_rfl)) rfl
              | 2, _ =>
                cases ho
                refine flowJ_of (by decide) (HA.out wq) (HB.out wq) hJ ?_
                have e0 : aq.tmps.getD 96 undef = .pointer (some ⟨wr.heap.size, 2, none⟩) := hdep 1 96 rfl (by kernel_rfl)
                exact flow_value _ (run_cell 30 (.tmp 96) rfl _ e0 _ (cell_of_row wq _ 2 _ _ (0, 0) (HFld.out wq hc)) _ Try.underlying30 rfl) rfl
              | 3, _ =>
                cases ho
                refine flowJ_of (by decide) (HA.out wq) (HB.out wq) hJ ?_
                have e0 : aq.tmps.getD 97 undef = .slice ao2 d.length cap2 := hdep 2 97 rfl (by kernel_rfl)
                exact flow_value _ (run_len (.tmp 97) 30 rfl _ _ _ e0 _ Try.underlying30) rfl
              | 4, _ =>
                cases ho
                have e0 : aq.tmps.getD 95 undef = .pointer (some ⟨g, 0, none⟩) := hdep 0 95 rfl (by kernel_rfl)
                have e1 : aq.tmps.getD 98 undef = .int .i64 ((d.length : Nat) : Int) := hdep 3 98 rfl (by kernel_rfl)
                refine flowJ_fun (by rw [hsz]; decide) 19 _ _ rfl (fun _ _ => by simp [go_sem]) #[.pointer (some ⟨g, 0, none⟩), .int .i64 ((d.length : Nat) : Int)] (by rw [show (#[Operand.tmp 95, Operand.tmp 98] : Array Operand).map aq.eval = #[aq.tmps.getD 95 undef, aq.tmps.getD 98 undef] from by simp [Act.eval], e0, e1]) ?_
                refine (fixed_any d.length wq (hJ.1 hun) (by omega) (by omega) hbl2).mono ?_
                rintro e w' ⟨v', rfl, q1, q2, q3⟩
                rw [HP.out.1, HP.out.2.2.1] at q2
                rw [HP.out.2.1] at q1
                exact ⟨_, rfl, ⟨q1.isB h8, q1.inS.mono fun k hk => Nat.le_trans hc.size hk.1⟩, q3, q2⟩
              | 5, _ =>
                cases ho
                refine flowJ_of (by decide) (HA.out wq) (HB.out wq) hJ ?_
                have e0 : IsB wq (aq.tmps.getD 99 undef) d ∧ inS (fun k => W0.heap.size ≤ k) (aq.tmps.getD 99 undef) := hdep 4 99 rfl (by kernel_rfl)
                exact flow_value _ (rconv (.tmp 99) rfl e0.1) rfl
              | 6, _ =>
                cases ho
                refine flowJ_of (by decide) (HA.out wq) (HB.out wq) hJ ?_
                have e13 : aq.tmps.getD 13 undef = .pointer (some ⟨wr.heap.size, 0, none⟩) := hk 13 (by decide)
                exact flow_value _ (run_fieldAt 33 (.tmp 13) 2 rfl _ _ e13 (by kernel_rfl)) rfl
              | 7, _ =>
                cases ho
                refine flowJ_of (by decide) (HA.out wq) (HB.out wq) hJ ?_
                have e0 : aq.tmps.getD 101 undef = .pointer (some ⟨wr.heap.size, 2, none⟩) := hdep 6 101 rfl (by kernel_rfl)
                exact flow_value _ (run_cell 30 (.tmp 101) rfl _ e0 _ (cell_of_row wq _ 2 _ _ (0, 0) (HFld.out wq hc)) _ Try.underlying30 rfl) rfl
              | 8, _ =>
                cases ho
                refine flowJ_of (by decide) (HA.out wq) (HB.out wq) hJ ?_
                have e0 : aq.tmps.getD 102 undef = .slice ao2 d.length cap2 := hdep 7 102 rfl (by kernel_rfl)
                exact flow_value _ (rconv (.tmp 102) rfl (by show IsB wq (aq.tmps.getD 102 undef) d; rw [e0]; exact HDat.out wq hc)) rfl
              | (k + 9), hk => exact absurd hk (by omega)
            intro vf w8 hc hv hs8 hj
            have e5 : vf 5 = _ := hv 5 100 (by decide) rfl
            have e8 : vf 8 = _ := hv 8 103 (by decide) rfl
            have hB8 := hj.2 rfl
            have HB8 : Hid (Rd w8 g S bs sz (szF (xs.take (k + 1))) (plB sz (partsL (xs.take (k + 1)))) false) := by rw [HP.out.2.2.2]; exact hid hB8
            have HL8 := hid (HBwq.out w8 hc)
            clear hv hs8 hj hB8
            simp only [List.take_succ_cons, List.take_zero, List.drop_succ_cons, List.drop_zero, putAll, Act.put, List.setIfInBounds_toArray, List.set_cons_succ, List.set_cons_zero]
            rw [e5, e8]
            clear hc e5 e8 HFld HBwq HDat HA HB HJ0
            generalize strOf d = sk
            go_wp2
            go_roundw
            case rel => exact ⟨k + 1, by omega, by go_num, ⟨_, HB8.out⟩, HL8.out⟩
            case measure => simp [intOf]; omega
          · have hc' : (m : Int) % 4 = 1 := by omega
            have HK : Hid (xs[k]? = some (le fn 8, false)) := by refine hid ?_; have := HXK.out; simp only [hc] at this; simpa using this
            have HP := hid (HFX.out k _ HK.out)
            go_wp2_with fail
            generalize hW0 : wr.alloc (.cells #[.int .i64 kd, .int .u64 (fn : Nat), .slice ao2 d.length cap2] 33) = W0 at *
            have hfs : W0.heap.size = wr.heap.size + 1 := by rw [← hW0]; simp
            have hfg : wr.heap.size ≠ g := by omega
            have HgL : Hid (g < W0.heap.size) := hid (by omega)
            have HA : Hid (∀ (u u' : World), Below u.heap.size u u' → (fun u => Rd u g S bs sz (szF (xs.take k)) (plB sz (partsL (xs.take k))) false) u → (fun u => Rd u g S bs sz (szF (xs.take k)) (plB sz (partsL (xs.take k))) false) u') := fun u u' h k => k.below h
            have HB : Hid (∀ (u u' : World), Below u.heap.size u u' → (fun u => Rd u g S bs sz (szF (xs.take (k + 1))) (plB sz (partsL (xs.take k))) false) u → (fun u => Rd u g S bs sz (szF (xs.take (k + 1))) (plB sz (partsL (xs.take k))) false) u') := fun u u' h k => k.below h
            have HJ0 : Hid (JRd 1 (fun u => Rd u g S bs sz (szF (xs.take k)) (plB sz (partsL (xs.take k))) false) (fun u => Rd u g S bs sz (szF (xs.take (k + 1))) (plB sz (partsL (xs.take k))) false) (Array.replicate 5 false) { W0 with drawn := W0.drawn + 1 }) := ⟨fun _ => HW0.out.1.below ((Below.refl _ W0).drew), fun e => by simp at e⟩
            have HFld : Hid (∀ wq, W0.grownBy wq (some g) → wq.heap[wr.heap.size]? = some (.cells #[.int .i64 kd, .int .u64 (fn : Nat), .slice ao2 d.length cap2] 33 (0, 0))) := fun wq hc => (hc.block wr.heap.size (by omega) (fun e => hfg (Option.some.inj e))).trans HW0.out.2.2
            have HBwq : Hid (∀ wq, W0.grownBy wq (some g) → Below w.heap.size w wq) := fun wq hc => HW0.out.2.1.grown hc HW0.out.2.1.size (fun j e => by cases e; exact hgw)
            have HDat : Hid (∀ wq, W0.grownBy wq (some g) → IsB wq (.slice ao2 d.length cap2) d) := fun wq hc => HI.out.keep (HBwq.out wq hc)
            have hbl2 : bs.length ≤ 140737488355328 := by rw [HCB.out.2.2.1]; omega
            clear hW0
            have HCB2 := HCB
            refine wp_region_flowJ (fun a b => a.grownBy b (some (g))) (JRd 1 (fun u => Rd u g S bs sz (szF (xs.take k)) (plB sz (partsL (xs.take k))) false) (fun u => Rd u g S bs sz (szF (xs.take (k + 1))) (plB sz (partsL (xs.take k))) false)) 4 (fun i v wq => match i with
              | 0 => v = .pointer (some ⟨g, 0, none⟩)
              | 1 => v = .int .u64 (fn : Nat)
              | 2 => v = .pointer (some ⟨wr.heap.size, 1, none⟩)
              | _ => v = .int .u64 (fn : Nat)) (by kernel_rfl) (by kernel_rfl) (grownRefl _) (fun _ _ _ h k => grown_trans h k) (grownDrew _) HJ0.out (fun _ d _ _ _ h => by cases d <;> exact h) ?_ ?_ ?_ ?_
            · intro i o g b hi ho hg v wq hv
              match i, hi with
              | 0, _ => cases ho; cases hg
              | 1, _ => cases ho; cases hg
              | 2, _ => cases ho; cases hg
              | 3, _ => cases ho; cases hg
              | (k + 4), hk => exact absurd hk (by omega)
            · intro i v wq wq' hi hv hb
              match i, hi with
              | 0, _ => exact hv
              | 1, _ => exact hv
              | 2, _ => exact hv
              | 3, _ => exact hv
              | (k + 4), hk => exact absurd hk (by omega)
            · intro i o hi ho aq wq done hc hsz hun hJ hk hdep
              match i, hi with
              | 0, _ =>
                cases ho
                refine flowJ_of (by decide) (HA.out wq) (HB.out wq) hJ ?_
                exact flow_move (.tmp 11) rfl (hk 11 (by decide))
              | 1, _ =>
                cases ho
                have e0 : aq.tmps.getD 107 undef = .pointer (some ⟨g, 0, none⟩) := hdep 0 107 rfl (by kernel_rfl)
                refine flowJ_fun (by rw [hsz]; decide) 20 _ _ rfl (fun _ _ => by simp [go_sem]) #[.pointer (some ⟨g, 0, none⟩)] (by rw [show (#[Operand.tmp 107] : Array Operand).map aq.eval = #[aq.tmps.getD 107 undef] from by simp [Act.eval], e0]) ?_
                refine (rnum_any wq (hJ.1 hun) (by omega) hbl2).mono ?_
                rintro e w' ⟨rfl, q2, q3⟩
                have hp := HP.out
                rw [le_length] at hp
                rw [hp.1, hp.2.2.1] at q2
                rw [hp.2.1, tk_le fn 8 (by decide), Nat.mod_eq_of_lt (by simpa using hnb)]
                exact ⟨_, rfl, rfl, q3, q2⟩
              | 2, _ =>
                cases ho
                refine flowJ_of (by decide) (HA.out wq) (HB.out wq) hJ ?_
                have e13 : aq.tmps.getD 13 undef = .pointer (some ⟨wr.heap.size, 0, none⟩) := hk 13 (by decide)
                exact flow_value _ (run_fieldAt 33 (.tmp 13) 1 rfl _ _ e13 (by kernel_rfl)) rfl
              | 3, _ =>
                cases ho
                refine flowJ_of (by decide) (HA.out wq) (HB.out wq) hJ ?_
                have e0 : aq.tmps.getD 109 undef = .pointer (some ⟨wr.heap.size, 1, none⟩) := hdep 2 109 rfl (by kernel_rfl)
                exact flow_value _ (run_cell 31 (.tmp 109) rfl _ e0 _ (cell_of_row wq _ 1 _ _ (0, 0) (HFld.out wq hc)) _ Try.underlying31 rfl) rfl
              | (k + 4), hk => exact absurd hk (by omega)
            intro vf w8 hc hv hs8 hj
            have e1 : vf 1 = _ := hv 1 108 (by decide) rfl
            have e3 : vf 3 = _ := hv 3 110 (by decide) rfl
            have hB8 := hj.2 rfl
            have HB8 : Hid (Rd w8 g S bs sz (szF (xs.take (k + 1))) (plB sz (partsL (xs.take (k + 1)))) false) := by rw [HP.out.2.2.2]; exact hid hB8
            have HL8 := hid (HBwq.out w8 hc)
            clear hv hs8 hj hB8
            simp only [List.take_succ_cons, List.take_zero, List.drop_succ_cons, List.drop_zero, putAll, Act.put, List.setIfInBounds_toArray, List.set_cons_succ, List.set_cons_zero]
            rw [e1, e3]
            clear hc e1 e3 HFld HBwq HDat HA HB HJ0
            go_wp2
            go_roundw
            case rel => exact ⟨k + 1, by omega, by go_num, ⟨_, HB8.out⟩, HL8.out⟩
            case measure => simp [intOf]; omega
          · have hc' : (m : Int) % 4 = 2 := by omega
            have HK : Hid (xs[k]? = some (rootOf d, false)) := by refine hid ?_; have := HXK.out; simp only [hc] at this; simpa using this
            have HP := hid (HFX.out k _ HK.out)
            go_wp2_with fail
            generalize hW0 : wr.alloc (.cells #[.int .i64 kd, .int .u64 (fn : Nat), .slice ao2 d.length cap2] 33) = W0 at *
            have hfs : W0.heap.size = wr.heap.size + 1 := by rw [← hW0]; simp
            have hfg : wr.heap.size ≠ g := by omega
            have HgL : Hid (g < W0.heap.size) := hid (by omega)
            have HA : Hid (∀ (u u' : World), Below u.heap.size u u' → (fun u => Rd u g S bs sz (szF (xs.take k)) (plB sz (partsL (xs.take k))) false) u → (fun u => Rd u g S bs sz (szF (xs.take k)) (plB sz (partsL (xs.take k))) false) u') := fun u u' h k => k.below h
            have HB : Hid (∀ (u u' : World), Below u.heap.size u u' → (fun u => Rd u g S bs sz (szF (xs.take (k + 1))) (plB sz (partsL (xs.take k))) false) u → (fun u => Rd u g S bs sz (szF (xs.take (k + 1))) (plB sz (partsL (xs.take k))) false) u') := fun u u' h k => k.below h
            have HJ0 : Hid (JRd 1 (fun u => Rd u g S bs sz (szF (xs.take k)) (plB sz (partsL (xs.take k))) false) (fun u => Rd u g S bs sz (szF (xs.take (k + 1))) (plB sz (partsL (xs.take k))) false) (Array.replicate 5 false) { W0 with drawn := W0.drawn + 1 }) := ⟨fun _ => HW0.out.1.below ((Below.refl _ W0).drew), fun e => by simp at e⟩
            have HFld : Hid (∀ wq, W0.grownBy wq (some g) → wq.heap[wr.heap.size]? = some (.cells #[.int .i64 kd, .int .u64 (fn : Nat), .slice ao2 d.length cap2] 33 (0, 0))) := fun wq hc => (hc.block wr.heap.size (by omega) (fun e => hfg (Option.some.inj e))).trans HW0.out.2.2
            have HBwq : Hid (∀ wq, W0.grownBy wq (some g) → Below w.heap.size w wq) := fun wq hc => HW0.out.2.1.grown hc HW0.out.2.1.size (fun j e => by cases e; exact hgw)
            have HDat : Hid (∀ wq, W0.grownBy wq (some g) → IsB wq (.slice ao2 d.length cap2) d) := fun wq hc => HI.out.keep (HBwq.out wq hc)
            have hbl2 : bs.length ≤ 140737488355328 := by rw [HCB.out.2.2.1]; omega
            clear hW0
            have HCB2 := HCB
            refine wp_region_flowJ (fun a b => a.grownBy b (some (g))) (JRd 1 (fun u => Rd u g S bs sz (szF (xs.take k)) (plB sz (partsL (xs.take k))) false) (fun u => Rd u g S bs sz (szF (xs.take (k + 1))) (plB sz (partsL (xs.take k))) false)) 4 (fun i v wq => match i with
              | 0 => v = .pointer (some ⟨g, 0, none⟩)
              | 1 => v = .agg (nums .u8 (rootOf d))
              | 2 => v = .agg #[.int .i64 kd, .int .u64 (fn : Nat), .slice ao2 d.length cap2]
              | _ => v = .agg (nums .u8 (rootOf d))) (by kernel_rfl) (by kernel_rfl) (grownRefl _) (fun _ _ _ h k => grown_trans h k) (grownDrew _) HJ0.out (fun _ d _ _ _ h => by cases d <;> exact h) ?_ ?_ ?_ ?_
            · intro i o g b hi ho hg v wq hv
              match i, hi with
              | 0, _ => cases ho; cases hg
              | 1, _ => cases ho; cases hg
              | 2, _ => cases ho; cases hg
              | 3, _ => cases ho; cases hg
              | (k + 4), hk => exact absurd hk (by omega)
            · intro i v wq wq' hi hv hb
              match i, hi with
              | 0, _ => exact hv
              | 1, _ => exact hv
              | 2, _ => exact hv
              | 3, _ => exact hv
              | (k + 4), hk => exact absurd hk (by omega)
            · intro i o hi ho aq wq done hc hsz hun hJ hk hdep
              match i, hi with
              | 0, _ =>
                cases ho
                refine flowJ_of (by decide) (HA.out wq) (HB.out wq) hJ ?_
                exact flow_move (.tmp 11) rfl (hk 11 (by decide))
              | 1, _ =>
                cases ho
                have e0 : aq.tmps.getD 114 undef = .pointer (some ⟨g, 0, none⟩) := hdep 0 114 rfl (by kernel_rfl)
                refine flowJ_fun (by rw [hsz]; decide) 21 _ _ rfl (fun _ _ => by simp [go_sem]) #[.pointer (some ⟨g, 0, none⟩)] (by rw [show (#[Operand.tmp 114] : Array Operand).map aq.eval = #[aq.tmps.getD 114 undef] from by simp [Act.eval], e0]) ?_
                refine (rroot_any wq (hJ.1 hun) (by omega) hbl2).mono ?_
                rintro e w' ⟨rfl, q2, q3⟩
                have hp := HP.out
                rw [rootOf_length] at hp
                rw [hp.1, hp.2.2.1] at q2
                rw [hp.2.1]
                exact ⟨_, rfl, rfl, q3, q2⟩
              | 2, _ =>
                cases ho
                refine flowJ_of (by decide) (HA.out wq) (HB.out wq) hJ ?_
                have e13 : aq.tmps.getD 13 undef = .pointer (some ⟨wr.heap.size, 0, none⟩) := hk 13 (by decide)
                exact flow_value _ (run_mid 33 (.tmp 13) rfl wr.heap.size 0 e13 [.int .i64 kd, .int .u64 (fn : Nat), .slice ao2 d.length cap2] (fun j v hv => by rw [Nat.zero_add, cell_of_row wq _ j _ _ (0, 0) (HFld.out wq hc)]; simpa using hv) _ Try.underlying33 rfl (by kernel_rfl)) rfl
              | 3, _ =>
                cases ho
                refine flowJ_of (by decide) (HA.out wq) (HB.out wq) hJ ?_
                have e0 : aq.tmps.getD 116 undef = .agg #[.int .i64 kd, .int .u64 (fn : Nat), .slice ao2 d.length cap2] := hdep 2 116 rfl (by kernel_rfl)
                refine flow_fun 14 _ _ rfl (fun _ _ => by simp [go_sem]) #[.agg #[.int .i64 kd, .int .u64 (fn : Nat), .slice ao2 d.length cap2]] (by rw [show (#[Operand.tmp 116] : Array Operand).map aq.eval = #[aq.tmps.getD 116 undef] from by simp [Act.eval], e0]) ?_
                refine (lroot_any kd fn (.slice ao2 d.length cap2) d wq (HDat.out wq hc)).mono ?_
                rintro e w' ⟨rfl, h2⟩
                exact ⟨_, rfl, rfl, h2⟩
              | (k + 4), hk => exact absurd hk (by omega)
            intro vf w8 hc hv hs8 hj
            have e1 : vf 1 = _ := hv 1 115 (by decide) rfl
            have e3 : vf 3 = _ := hv 3 117 (by decide) rfl
            have hB8 := hj.2 rfl
            have HB8 : Hid (Rd w8 g S bs sz (szF (xs.take (k + 1))) (plB sz (partsL (xs.take (k + 1)))) false) := by rw [HP.out.2.2.2]; exact hid hB8
            have HL8 := hid (HBwq.out w8 hc)
            clear hv hs8 hj hB8
            simp only [List.take_succ_cons, List.take_zero, List.drop_succ_cons, List.drop_zero, putAll, Act.put, List.setIfInBounds_toArray, List.set_cons_succ, List.set_cons_zero]
            rw [e1, e3]
            clear hc e1 e3 HFld HBwq HDat HA HB HJ0
            have heq := eql_rootself (rootOf d) (rootOf_length d) (rootOf_byte h8)
            generalize nums .u8 (rootOf d) = sk at heq ⊢
            go_wp2
            go_roundw
            case rel => exact ⟨k + 1, by omega, by go_num, ⟨_, HB8.out⟩, HL8.out⟩
            case measure => simp [intOf]; omega
          · have hc' : (m : Int) % 4 = 3 := by omega
            have HK : Hid (xs[k]? = some (d, true)) := by refine hid ?_; have := HXK.out; simp only [hc] at this; simpa using this
            have HP := hid (HPX.out k _ HK.out)
            have HC := hid (rpart_any (wr.alloc (.cells #[.int .i64 kd, .int .u64 (fn : Nat), .slice ao2 d.length cap2] 33)) HW0.out.1 (by omega) (by rw [HCB.out.2.2.1]; omega) (by rw [plB_length]; omega))
            go_wp2_with fail
            refine HC.out.mono ?_
            rintro e w4 ⟨⟨u4, rfl⟩, q1, q2⟩
            rw [HP.out.1, HP.out.2.1, HP.out.2.2] at q1
            have Y := hid (And.intro q1 (HW0.out.2.1.grown q2 HW0.out.2.1.size (fun j e => by cases e; exact hgw)))
            clear q1 q2 HC
            go_wp2
            go_roundw
            case rel => exact ⟨k + 1, by omega, by go_num, ⟨_, Y.out.1⟩, Y.out.2⟩
            case measure => simp [intOf]; omega
        · obtain rfl : k = fs.length := by omega
          have hT : xs.take fs.length = xs := by rw [← HXL.out, List.take_length]
          rw [hT, HSZ.out] at hRd
          have hgt := hRd.gt
          have HRd := hid hRd
          have HBw := hid hBw
          have hbl2 : bs.length ≤ 140737488355328 := by rw [HCB.out.2.2.1]; omega
          have hbs := HCB.out.2.2.1
          have hcu : Cuts bs (plB sz (partsL xs)) := plB_cuts bs sz (partsL xs) (by omega)
          have HCU := hid hcu
          have HBL := hid hbs
          have hpl := plB_length sz (partsL xs)
          have HPL := hid hpl
          clear hRd hBw hT hbs hcu hpl
          by_cases hn0 : (partsL xs).length = 0
          · have hps : plB sz (partsL xs) = [] := List.eq_nil_of_length_eq_zero (by rw [HPL.out]; exact hn0)
            have hxs0 : partsL xs = [] := List.eq_nil_of_length_eq_zero hn0
            have hn0' : ((((partsL xs).length : Nat) : Int) == 0) = true := by rw [hn0]; rfl
            rw [hps] at HRd HCU
            by_cases hm0 : more.length = 0
            · have hm0' : (((more.length : Nat) : Int) == 0) = true := by rw [hm0]; rfl
              have HPt := hid (parts_ok wr HRd.out (fun _ => by rw [HBL.out, hxs0, hm0]; simp [lenB]) HCU.out (by omega) hbl2 (by simp))
              go_wp2_with fail
              refine HPt.out.mono ?_
              rintro e w6 ⟨u6, rfl, hI6, B6⟩
              obtain ⟨ao6, cap6, rfl⟩ := hI6.form
              have HX6 := hid (And.intro (HRd.out.below B6) (below_more HBw.out B6 (Nat.le_refl _)))
              have hl6 : (cutL bs ([] : List Nat)).length = 0 := rfl
              rw [hl6]
              clear hI6 B6 HPt hl6
              go_wp2_with fail
              refine (fail_eq w6 HX6.out.1).mono ?_
              rintro e w7 ⟨⟨u7, rfl⟩, q1, q2, q3⟩
              have HX7 := hid (And.intro q1 (HX6.out.2.grown q2 HX6.out.2.size (fun j e => by cases e; exact hgw)))
              clear q1 q2 q3
              go_wp2_with fail
              refine (parts_bad w7 HX7.out.1 (.inl rfl) (by omega) hbl2 (by simp)).mono ?_
              rintro e w8 ⟨rfl, n8, rfl⟩
              go_wp2
              go_ret
              exact ⟨rfl, below_drewN HX7.out.2 n8⟩
            · have hm0' : (((more.length : Nat) : Int) == 0) = false := by rw [beq_eq_false_iff_ne]; omega
              have HPt := hid (parts_bad wr HRd.out (.inr (.inr ⟨rfl, by rw [HBL.out]; omega⟩)) (by omega) hbl2 (by simp))
              go_wp2_with fail
              refine HPt.out.mono ?_
              rintro e w6 ⟨rfl, n6, rfl⟩
              have HX6 := hid (And.intro (HRd.out.below (w' := wr.drewN n6) ⟨rfl, rfl, rfl, Nat.le_refl _, fun _ _ => rfl⟩) (below_drewN HBw.out n6))
              clear HPt
              go_wp2_with fail
              refine (fail_eq (wr.drewN n6) HX6.out.1).mono ?_
              rintro e w7 ⟨⟨u7, rfl⟩, q1, q2, q3⟩
              have HX7 := hid (And.intro q1 (HX6.out.2.grown q2 HX6.out.2.size (fun j e => by cases e; exact hgw)))
              clear q1 q2 q3
              go_wp2_with fail
              refine (parts_bad w7 HX7.out.1 (.inl rfl) (by omega) hbl2 (by simp)).mono ?_
              rintro e w8 ⟨rfl, n8, rfl⟩
              go_wp2
              go_ret
              exact ⟨rfl, below_drewN HX7.out.2 n8⟩
          · have hn0' : ((((partsL xs).length : Nat) : Int) == 0) = false := by rw [beq_eq_false_iff_ne]; omega
            have HPt := hid (parts_ok wr HRd.out (fun e => absurd (congrArg List.length e) (by rw [HPL.out]; exact hn0)) HCU.out (by omega) hbl2 (by rw [HPL.out]; omega))
            have HCM : Hid (∀ i x, (partsL xs)[i]? = some x → (cutL bs (plB sz (partsL xs)))[i]? = some (if i + 1 = (partsL xs).length then x ++ more else x)) := fun i x h => by
              have := cut_more (frontB sz xs) more (partsL xs) h
              rw [frontB_length, HSZ.out, List.append_assoc, HEqb.out] at this
              exact this
            have HCt : Hid ((cutL bs (plB sz (partsL xs))).length = (partsL xs).length) := hid (by rw [cutL_length, HPL.out])
            generalize cutL bs (plB sz (partsL xs)) = cs at *
            go_wp2_with fail
            refine HPt.out.mono ?_
            rintro e w6 ⟨u6, rfl, hI6, B6⟩
            obtain ⟨ao6, cap6, rfl⟩ := hI6.form
            have HX6 := hid (And.intro (HRd.out.below B6) (And.intro (below_more HBw.out B6 (Nat.le_refl _)) hI6))
            clear hI6 B6 HPt
            go_wp2_with fail
            refine (fail_eq w6 HX6.out.1).mono ?_
            rintro e w7 ⟨⟨u7, rfl⟩, q1, q2, q3⟩
            have HX7 := hid (And.intro q1 (And.intro (HX6.out.2.1.grown q2 HX6.out.2.1.size (fun j e => by cases e; exact hgw)) (HX6.out.2.2.moved q3)))
            clear q1 q2 q3 HX6
            go_wp2_with fail
            refine (parts_bad w7 HX7.out.1 (.inl rfl) (by omega) hbl2 (by rw [HPL.out]; omega)).mono ?_
            rintro e w8 ⟨rfl, n8, rfl⟩
            have HX8 := hid (And.intro (below_drewN HX7.out.2.1 n8) (HX7.out.2.2.keep (w' := w7.drewN n8) ⟨rfl, rfl, rfl, Nat.le_refl _, fun _ _ => rfl⟩))
            have hlne : (((cs.length : Nat) : Int) != (((partsL xs).length : Nat) : Int)) = false := by rw [HCt.out]; simp
            clear HX7
            generalize w7.drewN n8 = w9 at *
            go_wp2_with fail
            go_loopw [18, 20, 21, 155] (fun q _ _ i wr => ∃ k : Nat, k ≤ fs.length ∧ i = .int .i64 k ∧ q = .int .i64 (((partsL (xs.take k)).length : Nat) : Int) ∧ Below w9.heap.size w9 wr) (fun _ _ _ i _ => fs.length - (intOf i).toNat)
            case atStart => exact ⟨0, Nat.zero_le _, rfl, rfl, Below.refl _ _⟩
            case round =>
              obtain ⟨k, hk, rfl, rfl, hBw⟩ := hrel
              by_cases hlt : k < fs.length
              · obtain ⟨b, off, rfl, hcc⟩ : ∃ b off, ao = some ⟨b, off, none⟩ ∧ ∀ i f, fs[i]? = some f → ∃ u, FAt w b (off + i * 3) f u := by
                  rcases h4 with h4 | h4
                  · omega
                  · exact h4
                have hf := List.getElem?_eq_getElem hlt
                obtain ⟨u, hF⟩ := hcc k _ hf
                have hLw := below_more HX8.out.1 hBw (Nat.le_refl _)
                have hF' := hF.keep hLw
                obtain ⟨k0, k1, k2, _, _, hnb⟩ := hF'
                have HI := hid hF.isB
                have h8 := hF.isB.by8
                obtain ⟨⟨ao2, cap2, rfl, hcap2⟩, _⟩ := hF.isB
                have hdd := HDL.out k _ hf
                obtain ⟨m, hm, hmk⟩ := wrap_nat fs[k].kind
                have hkm : km fs[k] = m % 4 := by unfold km; rw [← hmk]
                have hxk := HX.out k _ hf
                have hwf : wf fs[k] = if m % 4 = 0 then (fs[k].data, false) else if m % 4 = 1 then (le fs[k].n 8, false) else if m % 4 = 2 then (rootOf fs[k].data, false) else (fs[k].data, true) := by unfold wf; rw [hkm]
                rw [hwf] at hxk
                have HXK := hid hxk
                have hck := HCL.out k
                clear hxk hwf hF hf hcc h4 hmk hkm
                generalize fs[k].kind = kd at *
                generalize fs[k].n = fn at *
                generalize fs[k].data = d at *
                have HBw := hid hBw
                have HLw := hid hLw
                have BA : Below wr.heap.size wr (wr.alloc (.cells #[.int .i64 kd, .int .u64 (fn : Nat), .slice ao2 d.length cap2] 33)) := (Below.refl _ wr).alloc (Nat.le_refl _) _
                have HBA := hid BA
                clear hBw hLw BA
                by_cases h3 : m % 4 = 3
                · have hc' : (m : Int) % 4 = 3 := by omega
                  have HK : Hid (xs[k]? = some (d, true)) := by refine hid ?_; have := HXK.out; simp only [h3] at this; simpa using this
                  have hps := partsL_succ xs k _ HK.out
                  simp only [if_true] at hps
                  have hpd : partsL xs = partsL (xs.take (k + 1)) ++ partsL (xs.drop (k + 1)) := by
                    unfold partsL
                    rw [← List.map_append, ← List.filter_append, List.take_append_drop]
                  have hjn : (partsL (xs.take k)).length < (partsL xs).length := by
                    rw [hpd, hps]
                    simp only [List.length_append, List.length_cons, List.length_nil]
                    omega
                  have hat : (partsL xs)[(partsL (xs.take k)).length]? = some d := by
                    rw [hpd, hps, List.append_assoc, List.getElem?_append_right (Nat.le_refl _), Nat.sub_self]
                    rfl
                  have hps1 : (partsL (xs.take (k + 1))).length = (partsL (xs.take k)).length + 1 := by rw [hps]; simp
                  have HPS := hid hps1
                  have hcs := HCM.out _ _ hat
                  obtain ⟨b6, off6, cp6, he6, hcp6, hcc6⟩ := HX8.out.2.at (by rw [HCt.out]; omega)
                  simp only [Value.slice.injEq] at he6
                  obtain ⟨rfl, _, rfl⟩ := he6
                  obtain ⟨u9, hu9, hI9⟩ := hcc6 _ _ hcs
                  have hcl := hid HCt.out
                  have hu9w := ((HBA.out.cell (p := ⟨b6, off6 + (partsL (xs.take k)).length, none⟩) (block_lt_of_cell ((HBw.out.cell (p := ⟨b6, off6 + (partsL (xs.take k)).length, none⟩) (block_lt_of_cell hu9)).trans hu9))).trans ((HBw.out.cell (p := ⟨b6, off6 + (partsL (xs.take k)).length, none⟩) (block_lt_of_cell hu9)).trans hu9))
                  have hvd := conv_b ((HI.out.keep HLw.out).keep HBA.out)
                  have hvm := conv_b ((HM.out.keep HLw.out).keep HBA.out)
                  have hv9 := conv_b ((hI9.keep HBw.out).keep HBA.out)
                  have hlcs : (partsL (xs.take k)).length < cs.length := by rw [HCt.out]; exact hjn
                  clear hps hpd hat hps1 hcs hcc6 hu9 hI9
                  by_cases hend : (partsL (xs.take k)).length + 1 = (partsL xs).length
                  · have hq : ((((partsL (xs.take k)).length : Nat) : Int) == ((((partsL xs).length : Nat) : Int) - 1)) = true := by rw [beq_iff_eq]; omega
                    rw [if_pos hend, strOf_append] at hv9
                    have hsb : (strOf d).size + (strOf more).size ≤ 9223372036854775807 := by rw [strOf_size, strOf_size]; omega
                    generalize (partsL (xs.take k)).length = j at *
                    generalize strOf d = sd at *
                    generalize strOf more = sm at *
                    go_wp2
                    go_roundw
                    case rel => exact ⟨k + 1, by omega, by go_num, by rw [HPS.out]; go_num, below_more HBw.out HBA.out (Nat.le_refl _)⟩
                    case measure => simp [intOf]; omega
                  · have hq : ((((partsL (xs.take k)).length : Nat) : Int) == ((((partsL xs).length : Nat) : Int) - 1)) = false := by rw [beq_eq_false_iff_ne]; omega
                    rw [if_neg hend] at hv9
                    clear hvm
                    generalize (partsL (xs.take k)).length = j at *
                    generalize strOf d = sd at *
                    go_wp2
                    go_roundw
                    case rel => exact ⟨k + 1, by omega, by go_num, by rw [HPS.out]; go_num, below_more HBw.out HBA.out (Nat.le_refl _)⟩
                    case measure => simp [intOf]; omega
                · have hc' : ((m : Int) % 4 != 3) = true := by rw [bne_iff_ne]; omega
                  have HPS : Hid ((partsL (xs.take (k + 1))).length = (partsL (xs.take k)).length) := by
                    refine hid ?_
                    have hx := HXK.out
                    have h4c : m % 4 = 0 ∨ m % 4 = 1 ∨ m % 4 = 2 := by omega
                    rcases h4c with hc | hc | hc
                    all_goals
                      simp only [hc] at hx
                      rw [partsL_succ xs k _ hx]
                      simp
                  go_wp2
                  go_roundw
                  case rel => exact ⟨k + 1, by omega, by go_num, by rw [HPS.out], below_more HBw.out HBA.out (Nat.le_refl _)⟩
                  case measure => simp [intOf]; omega
              · obtain rfl : k = fs.length := by omega
                have HBw := hid (below_more HX8.out.1 hBw (Nat.le_refl _))
                clear hBw
                go_wp2
                go_ret
                exact ⟨rfl, HBw.out⟩
end Go.Proofs.Ytidkjpfdclkccaa
