/- Own texts of the proof, joined: RefCL RootN RootB RootG Kinds6 Many6 KindIx. -/
import Derived.Test.YtbmcmabimfoknaaGreatDoorH5
/- The document's Chunks of long bytes. -/
namespace Go.Proofs.YtbmcmabimfoknaaGreatDoor
open Go.RowKit
set_option linter.unusedVariables false
set_option maxRecDepth 100000


set_option maxRecDepth 100000 in
set_option maxHeartbeats 2000000 in
theorem rchunks_long (ao : Option Addr) (cap : Nat) (bs : List Nat) (w : World) (hcap : bs.length ≤ cap) (hm : cap ≤ maxLen) (hlen : bs.length ≤ 1000000) (hb : ∀ z ∈ bs, z < 256) (hR : Reads w ao bs) :
    Calls Tryz.prog 32 #[.slice ao bs.length cap] w fun e w' => ∃ v, e = .returned v ∧ w'.ownsRow w.heap.size 22 32 v ((bs.length + 31) / 32) (cellsOf (chunks bs)) ∧ Below w.heap.size w w' := by
  unfold maxLen at hm
  have hzr := zero_rt
  go_enter Tryz.func32, Tryz.ntmps32
  go_wp2_with fail
  go_loopw [3, 4] (fun v i wr => ∃ t : Nat, t ≤ bs.length ∧ i = .int .i64 t ∧ wr.ownsRow w.heap.size 22 32 v ((t + 31) / 32) (cellsOf (chunks (bs.take t))) ∧ Below w.heap.size w wr) (fun _ i _ => bs.length - (intOf i).toNat)
  case atStart => exact ⟨0, by omega, rfl, (by rw [show chunks (bs.take 0) = [] from by simp [chunks]]; exact World.ownsRow_nil _ _ _ _), Below.refl _ _⟩
  case round =>
    obtain ⟨t, ht, rfl, hown, HW⟩ := hrel
    by_cases hlt : t < bs.length
    · rcases hR with hR | ⟨b, off, rfl, hR⟩
      · omega
      have hbl : b < w.heap.size := block_lt_of_cell (hR t hlt)
      obtain ⟨bt, hbt⟩ : ∃ bt, Hid (bs.getD t 0 = bt) := ⟨_, hid rfl⟩
      have hct := (HW.cell (p := ⟨b, off + t, none⟩) hbl).trans (hR t hlt)
      rw [hbt.out] at hct
      have hfl := chunks_flat (bs.take t) (take_bytes bs hb t)
      rw [List.length_take, Nat.min_eq_left (by omega)] at hfl
      have hsz := HW.size
      have hti : (t : Int) / 32 = ((t / 32 : Nat) : Int) := by omega
      by_cases hz : t % 32 = 0
      · have hzi : (t : Int) % 32 = 0 := by omega
        go_wp2_with (first
          | (refine wpList_build_has rfl 22 _ rfl .u8 (zeros 32) (by kernel_rfl) ?_)
          | (refine wpList_one_root rfl 97 22 (.tmp 15) rfl Tryz.underlying97 Tryz.root26 (zeros 32) rfl hzr.len ?_; intro w3 H3 B3 S3; have own3 := own_keep hown B3; have Bw3 := below_more HW B3 (Nat.le_refl _))
          | (refine wpList_append_roots rfl (.tmp 14) (.tmp 16) 97 rfl w.heap.size 22 Tryz.underlying97 Tryz.root26 _ ((t + 31) / 32) (chunks (bs.take t)) [zeros 32] rfl own3 hzr.one ⟨wr.heap.size, 0, none⟩ 1 rfl (by intro j hj; rw [Addr.add_lit, Nat.zero_add, H3.cell j (by rw [hzr.len]; simpa using hj)]; simp) (by simp; omega) Bw3.size ?_; intro v' w4 own4 grow4; have Bw4 := below_grownR Bw3 own3 (Nat.le_refl _) grow4))
        have hme : (t + 31) / 32 + [zeros 32].length = (t + 1 + 31) / 32 := by simp; omega
        rw [hme] at own4
        have hmr : Rts (chunks (bs.take t) ++ [zeros 32]) := (chunks_rts _ (take_bytes bs hb t)).append hzr.one
        have hset := chunks_put bs hb t ((t + 1 + 31) / 32) (chunks (bs.take t) ++ [zeros 32]) hlt rfl (by rw [List.flatten_append, hfl, List.append_assoc, show [zeros 32].flatten = zeros 32 from by simp]; unfold zeros; rw [List.replicate_append_replicate]; congr 2; omega)
        rw [hbt.out] at hset
        obtain ⟨m, hnm⟩ : ∃ m, Hid ((t + 1 + 31) / 32 = m) := ⟨_, hid rfl⟩
        have hm1 : t < 32 * m := by rw [← hnm.out]; omega
        rw [hnm.out] at own4
        have hml : (chunks (bs.take t) ++ [zeros 32]).length = m := by have := own4.1; rw [cellsOf_length _ hmr] at this; omega
        obtain ⟨g, capm, hgm, rfl, hgl⟩ := row_some32 own4 (by omega)
        have ownm := own4
        have Bm := Bw4
        have HBy := hid (fun wq (hq' : Cls w4 wq) => ((hq'.bel.cell (p := ⟨b, off + t, none⟩) (show b < w4.heap.size from by have := Bw4.size; omega)).trans ((Bw4.cell (p := ⟨b, off + t, none⟩) hbl).trans (hR t hlt))))
        rw [hbt.out] at HBy
        replace hset := hid hset
        clear own4 own3 grow4 Bw4 Bw3 B3 H3 S3 hown hct hfl hme
        refine wp_region_cls_tail 11 (by kernel_rfl) (by kernel_rfl) ?_
        simp only [List.take_succ_cons, List.take_zero, List.drop_succ_cons, List.drop_zero]
        go_big_quiet_step (fail)
        go_big_quiet_step (fail)
        go_big_quiet_want
        refine quiet_run (.int .i64 ((t / 32 : Nat) : Int)) (fun wq hwq => by unfold execOp; simp [go_sem]; rw [IntKind.wrap_i64]; omega) ?_
        simp only [Act.put, List.setIfInBounds_toArray, List.set_cons_succ, List.set_cons_zero]
        go_big_quiet_on
        go_big_quiet_step (fail)
        go_big_quiet_want
        refine quiet_run (.int .i64 ((t % 32 : Nat) : Int)) (fun wq hwq => by unfold execOp; simp [go_sem]; exact Int.tmod_eq_emod_of_nonneg (by omega)) ?_
        simp only [Act.put, List.setIfInBounds_toArray, List.set_cons_succ, List.set_cons_zero]
        go_big_quiet_on
        go_big_quiet_step (fail)
        go_big_quiet_step (fail)
        go_big_quiet_want
        refine quiet_run (.pointer (some ⟨b, off + t, none⟩)) (fun wq hwq => by unfold execOp; simp [go_sem, hlt]) ?_
        simp only [Act.put, List.setIfInBounds_toArray, List.set_cons_succ, List.set_cons_zero]
        go_big_quiet_on
        go_big_quiet_want
        refine quiet_run (.int .u8 (bt : Int)) (fun wq hwq => by have hc := HBy.out wq hwq; unfold execOp; simp [go_sem, hc]) ?_
        simp only [Act.put, List.setIfInBounds_toArray, List.set_cons_succ, List.set_cons_zero]
        go_big_quiet_on
        go_big_quiet_want
        refine quiet_run _ (fun wq hwq => run_at26 (.tmp 18) (.tmp 20) rfl g 0 m capm (t / 32) rfl rfl (by omega)) ?_
        simp only [Act.put, List.setIfInBounds_toArray, List.set_cons_succ, List.set_cons_zero]
        go_big_quiet_on
        go_big_quiet_want
        refine quiet_run (.pointer (some ⟨g, t, none⟩)) (fun wq hwq => run_inner (.tmp 27) (.tmp 22) rfl g (0 + 32 * (t / 32)) (t % 32) t rfl rfl (by omega) (by omega)) ?_
        simp only [Act.put, List.setIfInBounds_toArray, List.set_cons_succ, List.set_cons_zero]
        go_big_quiet_on
        refine wpQuiet_nil ?_
        intro w5 hq5
        have own5 := own_keep ownm hq5.bel
        have c5 := own5.cellAt t (by omega)
        have f5 := own5.frozenAt t
        have st5 := (own5.stored t (.int .u8 (bt : Int))).1
        rw [hset.out] at st5
        have Bw5 := below_more Bm hq5.bel (Nat.le_refl _)
        have hc5 : ∃ u, w5.cell? ⟨g, t, none⟩ = some u := by rw [c5]; exact ⟨_, List.getElem?_eq_getElem (by rw [cellsOf_length _ hmr, hml]; omega)⟩
        obtain ⟨u5, hu5⟩ := hc5
        have HO := Only.setCell w5 g t (.int .u8 (bt : Int))
        clear c5
        go_wp2_with fail
        go_roundw
        case rel => exact ⟨t + 1, by omega, by go_num, by rw [hnm.out]; exact st5, below_only Bw5 HO hgm⟩
        case measure => simp [intOf]; omega
      · have hzi : ¬ (t : Int) % 32 = 0 := by omega
        have hme : (t + 31) / 32 = (t + 1 + 31) / 32 := by omega
        have hmr : Rts (chunks (bs.take t)) := chunks_rts _ (take_bytes bs hb t)
        have hset := chunks_put bs hb t ((t + 1 + 31) / 32) (chunks (bs.take t)) hlt rfl (by rw [hfl, hme])
        rw [hbt.out] at hset
        rw [hme] at hown
        obtain ⟨m, hnm⟩ : ∃ m, Hid ((t + 1 + 31) / 32 = m) := ⟨_, hid rfl⟩
        have hm1 : t < 32 * m := by rw [← hnm.out]; omega
        rw [hnm.out] at hown
        have hml : (chunks (bs.take t)).length = m := by have := hown.1; rw [cellsOf_length _ hmr] at this; omega
        obtain ⟨g, capm, hgm, rfl, hgl⟩ := row_some32 hown (by omega)
        have ownm := hown
        have Bm := HW
        have HBy := hid (fun wq (hq' : Cls wr wq) => ((hq'.bel.cell (p := ⟨b, off + t, none⟩) (show b < wr.heap.size from by omega)).trans hct))
        replace hset := hid hset
        clear hown hct hfl hme
        go_wp2_with fail
        refine wp_region_cls_tail 11 (by kernel_rfl) (by kernel_rfl) ?_
        simp only [List.take_succ_cons, List.take_zero, List.drop_succ_cons, List.drop_zero]
        go_big_quiet_step (fail)
        go_big_quiet_step (fail)
        go_big_quiet_want
        refine quiet_run (.int .i64 ((t / 32 : Nat) : Int)) (fun wq hwq => by unfold execOp; simp [go_sem]; rw [IntKind.wrap_i64]; omega) ?_
        simp only [Act.put, List.setIfInBounds_toArray, List.set_cons_succ, List.set_cons_zero]
        go_big_quiet_on
        go_big_quiet_step (fail)
        go_big_quiet_want
        refine quiet_run (.int .i64 ((t % 32 : Nat) : Int)) (fun wq hwq => by unfold execOp; simp [go_sem]; exact Int.tmod_eq_emod_of_nonneg (by omega)) ?_
        simp only [Act.put, List.setIfInBounds_toArray, List.set_cons_succ, List.set_cons_zero]
        go_big_quiet_on
        go_big_quiet_step (fail)
        go_big_quiet_step (fail)
        go_big_quiet_want
        refine quiet_run (.pointer (some ⟨b, off + t, none⟩)) (fun wq hwq => by unfold execOp; simp [go_sem, hlt]) ?_
        simp only [Act.put, List.setIfInBounds_toArray, List.set_cons_succ, List.set_cons_zero]
        go_big_quiet_on
        go_big_quiet_want
        refine quiet_run (.int .u8 (bt : Int)) (fun wq hwq => by have hc := HBy.out wq hwq; unfold execOp; simp [go_sem, hc]) ?_
        simp only [Act.put, List.setIfInBounds_toArray, List.set_cons_succ, List.set_cons_zero]
        go_big_quiet_on
        go_big_quiet_want
        refine quiet_run _ (fun wq hwq => run_at26 (.tmp 18) (.tmp 20) rfl g 0 m capm (t / 32) rfl rfl (by omega)) ?_
        simp only [Act.put, List.setIfInBounds_toArray, List.set_cons_succ, List.set_cons_zero]
        go_big_quiet_on
        go_big_quiet_want
        refine quiet_run (.pointer (some ⟨g, t, none⟩)) (fun wq hwq => run_inner (.tmp 27) (.tmp 22) rfl g (0 + 32 * (t / 32)) (t % 32) t rfl rfl (by omega) (by omega)) ?_
        simp only [Act.put, List.setIfInBounds_toArray, List.set_cons_succ, List.set_cons_zero]
        go_big_quiet_on
        refine wpQuiet_nil ?_
        intro w5 hq5
        have own5 := own_keep ownm hq5.bel
        have c5 := own5.cellAt t (by omega)
        have f5 := own5.frozenAt t
        have st5 := (own5.stored t (.int .u8 (bt : Int))).1
        rw [hset.out] at st5
        have Bw5 := below_more Bm hq5.bel (Nat.le_refl _)
        have hc5 : ∃ u, w5.cell? ⟨g, t, none⟩ = some u := by rw [c5]; exact ⟨_, List.getElem?_eq_getElem (by rw [cellsOf_length _ hmr, hml]; omega)⟩
        obtain ⟨u5, hu5⟩ := hc5
        have HO := Only.setCell w5 g t (.int .u8 (bt : Int))
        clear c5
        go_wp2_with fail
        go_roundw
        case rel => exact ⟨t + 1, by omega, by go_num, by rw [hnm.out]; exact st5, below_only Bw5 HO hgm⟩
        case measure => simp [intOf]; omega
    · have ht2 : t = bs.length := by omega
      subst ht2
      rw [List.take_of_length_le (Nat.le_refl _)] at hown
      go_wp2_with fail
      go_ret
      exact ⟨_, rfl, hown, HW⟩
end Go.Proofs.YtbmcmabimfoknaaGreatDoor

/- The document's Root at lists of numbers. -/
namespace Go.Proofs.YtbmcmabimfoknaaGreatDoor
open Go.RowKit Go.Shelf
set_option linter.unusedVariables false
set_option maxRecDepth 100000

set_option maxHeartbeats 1000000 in
theorem root_nums (n num m0 : Nat) (ds0 : List Dt) (ks : List Vt) (bs : List Bool) (r : List Nat) (sb sk : Value) (p : Nat) (w : World) (hD0 : DAt w (.mk 5 n [.mk 1 m0 ds0]) p) (hn : n ≤ 1048576) (hV : VAt w (.mk num r bs ks) sb sk) (hkl : ks.length ≤ 2000) :
    Calls Tryz.prog 8 #[.pointer (some ⟨p, 0, none⟩), .agg (valL num r sb sk).toArray] w fun e w' => e = .returned (.agg (nums .u8 (listR n (ks.map Vt.num)))) ∧ Below w.heap.size w w' := by
  rw [DAt] at hD0
  obtain ⟨hd0, hd1, dao, dcap, hd2, hdc, hdm, hds⟩ := hD0
  obtain ⟨db, doff, rfl, hDs⟩ := hds.resolve_left (by simp)
  rw [DsAt] at hDs
  obtain ⟨⟨q, hq, hDq⟩, _⟩ := hDs
  rw [DAt] at hDq
  obtain ⟨hq0, _⟩ := hDq
  rw [VAt] at hV
  obtain ⟨⟨hn0, hrl, hr8⟩, _, kao, kcap, rfl, hkc, hkm, hks⟩ := hV
  have hnl : (ks.map Vt.num).length = ks.length := List.length_map ..
  have hTr := treeZ_rt ((8 * n + 31) / 32) (chunks (numB (ks.map Vt.num))) (chunks_rts _ (numB_byte _))
  obtain ⟨m, HM⟩ : ∃ m, Hid ((8 * n + 31) / 32 = m) := ⟨_, hid rfl⟩
  have hmb : m ≤ 1048576 := by rw [← HM.out]; omega
  obtain ⟨ns, HNS⟩ : ∃ ns, Same (ks.map Vt.num) ns := ⟨_, ⟨rfl⟩⟩
  rw [HNS.out] at hTr hnl
  unfold listR
  rw [HNS.out, hnl]
  have hBl := numB_length ns
  rw [hnl] at hBl
  have hCr := chunks_rts _ (numB_byte ns)
  have hCl := chunks_length (numB ns)
  obtain ⟨C, HC⟩ : ∃ C, Same (chunks (numB ns)) C := ⟨_, ⟨rfl⟩⟩
  rw [HC.out] at hTr hCr hCl ⊢
  rw [HM.out] at hTr ⊢
  have HT := hid (fun ao cap wq (h1 : C.length ≤ cap) (h2 : cap ≤ maxLen) (h3 : RootsAt wq ao C) => (show Calls Tryz.prog 36 #[.slice ao C.length cap, .int .i64 ((m : Nat) : Int)] wq fun e w' => e = .returned (.tuple #[.agg (nums .u8 (treeZ m C)), .bool (decide (C.length ≤ m))]) ∧ Below wq.heap.size wq w' by
    by_cases hle : C.length ≤ m
    · rw [treeZ, if_pos hle, decide_eq_true hle]
      exact rtree_any ao cap C (m : Nat) wq h1 h2 h3 (by omega) (by omega)
    · rw [treeZ, if_neg hle, decide_eq_false hle]
      exact rtree_bad ao cap C (m : Nat) wq h1 h2 (by omega) (by omega) (.inr (by omega))))
  obtain ⟨T, HTT⟩ : ∃ T, Same (treeZ m C) T := ⟨_, ⟨rfl⟩⟩
  obtain ⟨ok, HOK⟩ : ∃ b, Hid (decide (C.length ≤ m) = b) := ⟨_, hid rfl⟩
  rw [HTT.out] at hTr ⊢
  rw [HTT.out, HOK.out] at HT
  have hpr := pr_rt T (wUp ks.length 8)
  have HMX := hid (fun w => rmix_any T ks.length hTr (by omega) w)
  obtain ⟨Z, HZ⟩ : ∃ Z, Same (pr T (wUp ks.length 8)) Z := ⟨_, ⟨rfl⟩⟩
  rw [HZ.out] at hpr HMX ⊢
  have HKS := hid hks
  have HB := hid (And.intro hBl (And.intro hnl (And.intro hCr hCl)))
  have hmI : ((8 * n + 31) / 32 : Nat) = m := HM.out
  have hm8 : ((8 : Int) * (n : Int) + 31) / 32 = (m : Int) := by omega
  have hHR := hid hrl
  clear hBl hnl hCr hCl hks hr8 hrl hdc hkc HM hmI
  go_enter Tryz.func8, Tryz.ntmps8
  go_wp2_with ((with_reducible refine at_list' ?_); first
    | (refine wpList_box_c rfl 3 rfl (.tmp 1) rfl (valL num r sb (.slice kao ks.length kcap)) rfl ?_; intro w1 H1 B1 S1)
    | (refine wpList_alloc_has rfl 4 rfl 22 rfl .u8 32 Tryz.zero22 ?_; intro w2 H2 B2 S2; rw [S1] at H2 S2; rw [S1]; have hd02 := cell_keep B2 (cell_keep B1 hd0); have hd12 := cell_keep B2 (cell_keep B1 hd1); have hd22 := cell_keep B2 (cell_keep B1 hd2); have hq2 := cell_keep B2 (cell_keep B1 hq); have hq02 := cell_keep B2 (cell_keep B1 hq0); have HX := hid (H1.keep B2)))
  have L2 := below_more B1 B2 (Nat.le_refl _)
  clear H1 B1 B2 hd02 hd12 hd22 hq2 hq02
  go_loopw [10, 11] (fun l i wr => ∃ t : Nat, t ≤ ks.length ∧ i = .int .i64 t ∧ Row wr (w.heap.size + 2) l (numB (ns.take t)) ∧ HasC wr w.heap.size 43 (valL num r sb (.slice kao ks.length kcap)) ∧ Has wr (w.heap.size + 1) 22 .u8 (zeros 32) ∧ Below w.heap.size w wr) (fun _ i _ => ks.length - (intOf i).toNat)
  case atStart => exact ⟨0, Nat.zero_le _, rfl, Row.nil _ _, HX.out, H2, L2⟩
  case round =>
    clear HX H2 L2 S1 S2
    obtain ⟨t, ht, rfl, hown, hX, hA, hW⟩ := hrel
    have hk34 := hX.cell (valL_34 num r sb (.slice kao ks.length kcap) hHR.out)
    have hwl := hW.size
    have hal := hA.lt
    by_cases hlt : t < ks.length
    · obtain ⟨kb, koff, rfl, hKs⟩ := HKS.out.resolve_left (by omega)
      have hx := List.getElem?_eq_getElem hlt
      have hnx0 : ns.getD t 0 = (ks[t]).num := by rw [← HNS.out, List.getD_eq_getElem?_getD, List.getElem?_map, hx]; rfl
      generalize ks[t] = x at hx hnx0
      obtain ⟨sb1, sk1, hr1, hV1⟩ := KsAt.get hKs hx
      have hx64 : x.num < 18446744073709551616 := by
        have h2 := hV1
        cases x
        rw [VAt] at h2
        exact h2.1.1
      have hcx : wr.cell? ⟨kb, koff + t * 35, none⟩ = some (.int .u64 (x.num : Nat)) := by
        have := cell_keep hW (hr1 0 _ (valL_0 _ _ _ _))
        rw [Nat.add_zero, Nat.mul_comm 35 t] at this
        exact this
      have hsu := numB_succ ns t (by have := HB.out.2.1; omega)
      rw [hnx0] at hsu
      have hlB := numB_length (ns.take t)
      rw [List.length_take, Nat.min_eq_left (by have := HB.out.2.1; omega)] at hlB
      obtain ⟨y, HY⟩ : ∃ y, Hid (x.num = y) := ⟨_, hid rfl⟩
      rw [HY.out] at hcx hx64 hsu
      have HP := hid (refPut_any y 8 hx64 (by decide) wr)
      have HO := hid (And.intro hown (And.intro hX (And.intro hA (And.intro hW (And.intro hsu hlB)))))
      clear hr1 hV1 hKs hx hnx0 hown hX hA hW hsu hlB
      go_wp2_with fail
      refine HP.out.mono ?_
      rintro e w4 ⟨v4, rfl, own4, B4⟩
      have hI := hid (put8_isB' own4)
      have R4 := hid (Row.below HO.out.1 B4)
      have X4 := hid (And.intro (HO.out.2.1.keep B4) (And.intro (HO.out.2.2.1.keep B4) (HO.out.2.2.2.1.trans (B4.mono HO.out.2.2.2.1.size))))
      have s4 := B4.size
      clear own4 B4 HP hcx
      go_wp2_with ((with_reducible refine at_list' ?_); first
        | (refine wpList_append_b rfl (.tmp 105) (.tmp 112) 99 rfl (w.heap.size + 2) _ (numB (ns.take t)) rfl R4.out _ (byte8 y) rfl (by rw [byte8_length]; exact hI.out.src) (by rw [HO.out.2.2.2.2.2, byte8_length]; omega) (by omega) ?_; intro v5 w5 r1 r2 r3))
      have L5 := below_grownR X4.out.2.2 R4.out (by omega) r2
      have hX5 : HasC w5 w.heap.size 43 _ := (r2.block _ X4.out.1.lt (fun e => by have := (R4.out.lt _ e.symm).1; omega)).trans X4.out.1
      have hA5 : Has w5 (w.heap.size + 1) 22 .u8 (zeros 32) := (r2.block _ X4.out.2.1.lt (fun e => by have := (R4.out.lt _ e.symm).1; omega)).trans X4.out.2.1
      rw [HO.out.2.2.2.2.1] at r1
      have Y5 := hid (And.intro r1 (And.intro hX5 (And.intro hA5 L5)))
      clear r1 r2 r3 hX5 hA5 L5
      go_roundw
      case rel => exact ⟨t + 1, by omega, by go_num, Y5.out.1, Y5.out.2.1, Y5.out.2.2.1, Y5.out.2.2.2⟩
      case measure => simp [intOf]; omega
    · have ht2 : t = ks.length := by omega
      subst ht2
      rw [List.take_of_length_le (by have := HB.out.2.1; omega)] at hown
      have hd0r := cell_keep hW hd0
      have hd1r := cell_keep hW hd1
      obtain ⟨⟨bo, bc, rfl, hb1, hb2, hb3, hb4⟩, hb5⟩ := hown.isB (numB_byte ns)
      have HCH := hid (rchunks_long bo bc (numB ns) wr hb1 hb2 (by have := HB.out.1; omega) hb5 hb4)
      have HXA := hid (And.intro hX (And.intro hA hW))
      clear hX hA hW hown hb1 hb2 hb3 hb4 hb5
      go_wp2_with fail
      refine HCH.out.mono ?_
      rintro e w3 ⟨v3, rfl, h3, B3⟩
      rw [HC.out] at h3
      obtain ⟨_, ao3, cap3, rfl, k1, k2, k3⟩ := RootsAt.own HB.out.2.2.1 h3
      have hd03 := cell_keep B3 hd0r
      have hd13 := cell_keep B3 hd1r
      have HX3 := hid (And.intro (HXA.out.1.keep B3) (And.intro (HXA.out.2.1.keep B3) (HXA.out.2.2.trans (B3.mono HXA.out.2.2.size))))
      have HT3 := hid (HT.out ao3 cap3 w3 k1 k2 k3)
      clear HCH h3 k1 k2 k3 HXA hd0r hd1r B3 hk34
      have hk34 := HX3.out.1.cell (valL_34 num r sb (.slice kao ks.length kcap) hHR.out)
      go_wp2_with fail
      refine HT3.out.mono ?_
      rintro e w4 ⟨rfl, B4⟩
      have hd04 := cell_keep B4 hd03
      have HX4 := hid (And.intro (HX3.out.1.keep B4) (And.intro (HX3.out.2.1.keep B4) (HX3.out.2.2.trans (B4.mono HX3.out.2.2.size))))
      have s4 := HX4.out.2.2.size
      have hp4 : p ≠ w4.heap.size := fun e => by have h := block_lt_of_cell hd04; rw [e] at h; exact Nat.lt_irrefl _ h
      have hx4 : w.heap.size ≠ w4.heap.size := by have := HX4.out.1.lt; omega
      have ha4 : w.heap.size + 1 ≠ w4.heap.size := by have := HX4.out.2.1.lt; omega
      have HPP := hid (And.intro hp4 (And.intro hx4 ha4))
      clear hp4 hx4 ha4
      clear HT3 HX3 hd03 hd13 B4 hk34
      go_wp2_with ((with_reducible refine at_list' ?_); first
        | (refine wpList_alloc_has rfl 14 rfl 22 rfl .u8 32 Tryz.zero22 ?_; intro w5 H5 B5 S5)
        | (refine wpList_store_has rfl 22 (.tmp 14) (.tmp 156) rfl w4.heap.size .u8 T (zeros 32) rfl rfl 22 H5 (hTr.size _ Tryz.size22) (by rw [hTr.len, zeros_length]) ?_; intro w6 H6 O6; have hd06 := (World.cell?_of_block (a := ⟨p, 0, none⟩) (O6.block p HPP.out.1)).trans (cell_keep B5 hd04); have hX6 := (HX4.out.1.keep B5).only O6 HPP.out.2.1; have hk36 := hX6.cell (valL_34 num r sb (.slice kao ks.length kcap) hHR.out))
        | (refine wpList_load_has rfl 22 (.tmp 14) rfl w4.heap.size .u8 T rfl 22 H6 _ _ Tryz.underlying22 (hTr.size _ Tryz.size22) ?_))
      refine (HMX.out w6).mono ?_
      rintro e w7 ⟨rfl, B7⟩
      have hA7 := ((HX4.out.2.1.keep B5).only O6 HPP.out.2.2).keep B7
      have L6 := below_only (below_more HX4.out.2.2 B5 (Nat.le_refl _)) O6 (by omega)
      have L7 := hid (L6.trans (B7.mono L6.size))
      clear HX4 H5 B5 S5 H6 O6 hd06 hX6 hk36 L6 B7 hd04
      go_wp2_with ((with_reducible refine at_list' ?_); first
        | (refine wpList_store_has rfl 22 (.tmp 4) (.tmp 168) rfl (w.heap.size + 1) .u8 Z (zeros 32) rfl rfl 22 hA7 (hpr.size _ Tryz.size22) (by rw [hpr.len, zeros_length]) ?_; intro w8 H8 O8))
      refine bodyPost_ret (results_has rfl _ _ (w.heap.size + 1) 22 .u8 Z _ _ rfl H8 Tryz.underlying22 (hpr.size _ Tryz.size22)) rfl ?_
      exact ⟨rfl, below_only L7.out O8 (by omega)⟩
end Go.Proofs.YtbmcmabimfoknaaGreatDoor

/- The document's Root at containers, then at every kind that RootD speaks of. -/
namespace Go.Proofs.YtbmcmabimfoknaaGreatDoor
open Go.RowKit Go.Shelf
set_option linter.unusedVariables false
set_option maxRecDepth 100000

theorem run_move {P : Program} {o : Oper} {a : Act} {w : World} (x : Operand) (ho : o.op = .move x) (v : Value) (hx : a.eval x = v) : (execOp a.eval o).run P w = .ok (.value v) w := by unfold execOp; simp only [ho, hx]; rfl
set_option maxHeartbeats 1000000 in
theorem root_box (N : Nat) (IH : ∀ (d : Dt) (x : Vt) (p : Nat) (v : Value) (w : World), d.deep ≤ N → okR d x → DAt w d p → IsV w v x →
      Calls Tryz.prog 8 #[.pointer (some ⟨p, 0, none⟩), v] w fun e w' => e = .returned (.agg (nums .u8 (rootV d x))) ∧ Below w.heap.size w w')
    (n num : Nat) (ds : List Dt) (ks : List Vt) (r : List Nat) (bs : List Bool) (sb sk : Value) (p : Nat) (w : World) (hdp : deepD ds ≤ N) (hl : ds.length = ks.length) (hm : ds.length ≤ 1048576) (hok : okRs ds ks)
    (hD : DAt w (.mk 8 n ds) p) (hV : VAt w (.mk num r bs ks) sb sk) :
    Calls Tryz.prog 8 #[.pointer (some ⟨p, 0, none⟩), .agg (valL num r sb sk).toArray] w fun e w' => e = .returned (.agg (nums .u8 (fullR (depth (ds.length : Nat)) (rootsV ds ks)))) ∧ Below w.heap.size w w' := by
  rw [DAt] at hD
  obtain ⟨hd0, hd1, dao, dcap, hd2, hdc, hdm, hds⟩ := hD
  rw [VAt] at hV
  obtain ⟨⟨hn0, hrl, hr8⟩, _, kao, kcap, rfl, hkc, hkm, hks⟩ := hV
  have hzr := zero_rt
  have hrts : Rts (rootsV ds ks) := by
    rcases hks with hk | ⟨b, off, _, hk⟩
    · rw [List.length_eq_zero_iff.1 (hl.trans hk), rootsV]; exact Rts.nil
    · exact rootsV_rts ds ks hok hk
  have hrln := rootsV_length hl
  have hfr : Rt (fullR (depth (ds.length : Nat)) (rootsV ds ks)) := full_rt _ _ hrts
  have HR := hid (And.intro hrts hrln)
  have HS := hid (And.intro hds hks)
  have HL := hid hl
  have HO := hid (And.intro hok (And.intro hdp hrl))
  have hlk : ks.length ≤ 1048576 := hl ▸ hm
  clear hrts hrln hds hks hok hdp hrl hr8 hdc hkc hl
  obtain ⟨Z, HZ⟩ : ∃ Z, Hid (fullR (depth (ds.length : Nat)) (rootsV ds ks) = Z) := ⟨_, hid rfl⟩
  rw [HZ.out] at hfr ⊢
  go_enter Tryz.func8, Tryz.ntmps8
  go_wp2_with ((with_reducible refine at_list' ?_); first
    | (refine wpList_box_c rfl 3 rfl (.tmp 1) rfl (valL num r sb (.slice kao ks.length kcap)) rfl ?_; intro w1 H1 B1 S1)
    | (refine wpList_alloc_has rfl 4 rfl 22 rfl .u8 32 Tryz.zero22 ?_; intro w2 H2 B2 S2; rw [S1] at H2 S2; rw [S1]; have hd02 := cell_keep B2 (cell_keep B1 hd0); have hd12 := cell_keep B2 (cell_keep B1 hd1); have hd22 := cell_keep B2 (cell_keep B1 hd2); have HX := hid (H1.keep B2)))
  have L2 := below_more B1 B2 (Nat.le_refl _)
  clear H1 B1 B2 hd02 hd12 hd22
  go_loopw [8, 12, 13] (fun l i _ wr => ∃ t : Nat, t ≤ ks.length ∧ i = .int .i64 t ∧ wr.ownsRow (w.heap.size + 2) 22 32 l t (cellsOf ((rootsV ds ks).take t)) ∧ HasC wr w.heap.size 43 (valL num r sb (.slice kao ks.length kcap)) ∧ Has wr (w.heap.size + 1) 22 .u8 (zeros 32) ∧ Below w.heap.size w wr) (fun _ i _ _ => ks.length - (intOf i).toNat)
  case atStart => exact ⟨0, Nat.zero_le _, rfl, World.ownsRow_nil _ _ _ _, HX.out, H2, L2⟩
  case round =>
    clear HX H2 L2 S1 S2
    obtain ⟨t, ht, rfl, hown, hX, hA, hW⟩ := hrel
    have hd0r := cell_keep hW hd0
    have hk34 := hX.cell (valL_34 num r sb (.slice kao ks.length kcap) HO.out.2.2)
    have hwl := hW.size
    have hal := hA.lt
    by_cases hlt : t < ks.length
    · obtain ⟨db, doff, rfl, hDs⟩ := HS.out.1.resolve_left (by have := HL.out; omega)
      obtain ⟨kb, koff, rfl, hKs⟩ := HS.out.2.resolve_left (by omega)
      have hx := List.getElem?_eq_getElem hlt
      have hdl : t < ds.length := by have := HL.out; omega
      have hdx := List.getElem?_eq_getElem hdl
      generalize ks[t] = x at hx
      generalize ds[t] = d at hdx
      obtain ⟨q, hq, hDq⟩ := DsAt.get hDs hdx
      obtain ⟨sb1, sk1, hr1, hV1⟩ := KsAt.get hKs hx
      have hxl : x.root.length = 32 := by
        have h2 := hV1
        cases x
        rw [VAt] at h2
        exact h2.1.2.1
      have hokx := okRs_get HO.out.1 hdx hx
      have hqr := rootV_rt d x hokx hV1
      have hget := rootsV_get hdx hx
      have hnx : (rootsV ds ks).take t ++ [rootV d x] = (rootsV ds ks).take (t + 1) := by rw [List.take_add_one, hget]; rfl
      have hsh : Rts ((rootsV ds ks).take t) := HR.out.1.take t
      have HI := hid (fun wq (hb : Below wr.heap.size wr wq) => IH d x q (.agg (valL x.num x.root sb1 sk1).toArray) wq (Nat.le_trans (deepD_get hdx) HO.out.2.1) hokx (DAt.keep (hW.trans (hb.mono hW.size)) d hDq) ⟨sb1, sk1, rfl, VAt.keep (hW.trans (hb.mono hW.size)) x hV1⟩)
      obtain ⟨Q, HQ⟩ : ∃ Q, Hid (rootV d x = Q) := ⟨_, hid rfl⟩
      rw [HQ.out] at hqr hnx HI
      have HF := hid (And.intro (cell_keep hW hd2) (And.intro hdl (And.intro (show wr.cell? ⟨db, doff + t * 1, none⟩ = some (.pointer (some ⟨q, 0, none⟩)) by rw [Nat.mul_one]; exact cell_keep hW hq) (And.intro hk34 (And.intro hlt (And.intro (show wr.rangeAt kb (koff + t * 35) (valL x.num x.root sb1 sk1) by rw [Nat.mul_comm t 35]; exact rangeAt_keep hr1 hW) hxl))))))
      have HN := hid (And.intro hnx hsh)
      have HXA := hid (And.intro hX (And.intro hA hW))
      have HOW := hid hown
      clear hq hDq hr1 hV1 hxl hokx hget hnx hsh hDs hKs hdx hx hX hA hW hown
      go_wp2_with fail
      try simp only [Act.put, List.setIfInBounds_toArray, List.set_cons_succ, List.set_cons_zero]
      refine wp_region_flow9 14 0 (fun i v wq => match i with
        | 0 => v = u8
        | 1 => v = .pointer (some ⟨p, 0, none⟩)
        | 2 => v = .pointer (some ⟨p, 0, none⟩)
        | 3 => v = .pointer (some ⟨p, 2, none⟩)
        | 4 => v = .slice (some ⟨db, doff, none⟩) ds.length dcap
        | 5 => v = .int .i64 (t : Nat)
        | 6 => v = .pointer (some ⟨db, doff + t * 1, none⟩)
        | 7 => v = .pointer (some ⟨q, 0, none⟩)
        | 8 => v = .pointer (some ⟨w.heap.size, 34, none⟩)
        | 9 => v = .slice (some ⟨kb, koff, none⟩) ks.length kcap
        | 10 => v = .int .i64 (t : Nat)
        | 11 => v = .pointer (some ⟨kb, koff + t * 35, none⟩)
        | 12 => v = .agg (valL x.num x.root sb1 sk1).toArray
        | _ => v = .agg (nums .u8 Q)) (by kernel_rfl) (by kernel_rfl) (fun _ d _ _ _ h => by cases d <;> exact h) ?_ ?_ ?_ ?_
      · intro i v wq wq' hi hv hb
        match i, hi with
        | 0, _ => exact hv
        | 1, _ => exact hv
        | 2, _ => exact hv
        | 3, _ => exact hv
        | 4, _ => exact hv
        | 5, _ => exact hv
        | 6, _ => exact hv
        | 7, _ => exact hv
        | 8, _ => exact hv
        | 9, _ => exact hv
        | 10, _ => exact hv
        | 11, _ => exact hv
        | 12, _ => exact hv
        | 13, _ => exact hv
        | (k + 14), hk => exact absurd hk (by omega)
      · intro i o hi ho aq wq hc hk hdep
        match i, hi with
        | 0, _ =>
          cases ho
          exact flow_move (.tmp 8) rfl (hk 8 (by decide))
        | 1, _ =>
          cases ho
          exact flow_move (.tmp 0) rfl (hk 0 (by decide))
        | 2, _ =>
          cases ho
          have e0 : aq.tmps.getD 137 undef = .pointer (some ⟨p, 0, none⟩) := hdep 1 137 rfl (by kernel_rfl)
          exact flow_value _ (run_nilOk (.tmp 137) rfl _ e0) rfl
        | 3, _ =>
          cases ho
          have e0 : aq.tmps.getD 138 undef = .pointer (some ⟨p, 0, none⟩) := hdep 2 138 rfl (by kernel_rfl)
          exact flow_value _ (run_fieldAt 95 (.tmp 138) 2 rfl _ _ e0 (by kernel_rfl)) rfl
        | 4, _ =>
          cases ho
          have e0 : aq.tmps.getD 139 undef = .pointer (some ⟨p, 2, none⟩) := hdep 3 139 rfl (by kernel_rfl)
          exact flow_value _ (run_cell 93 (.tmp 139) rfl _ e0 _ (cell_keep (hcB hc) HF.out.1) _ Tryz.underlying93 rfl) rfl
        | 5, _ =>
          cases ho
          exact flow_move (.tmp 13) rfl (hk 13 (by decide))
        | 6, _ =>
          cases ho
          have e0 : aq.tmps.getD 140 undef = .slice (some ⟨db, doff, none⟩) ds.length dcap := hdep 4 140 rfl (by kernel_rfl)
          have e1 : aq.tmps.getD 141 undef = .int .i64 (t : Nat) := hdep 5 141 rfl (by kernel_rfl)
          exact flow_value _ (run_atG 93 38 1 (.tmp 140) (.tmp 141) rfl Tryz.underlying93 sizeD1 db doff ds.length dcap t e0 e1 HF.out.2.1) rfl
        | 7, _ =>
          cases ho
          have e0 : aq.tmps.getD 142 undef = .pointer (some ⟨db, doff + t * 1, none⟩) := hdep 6 142 rfl (by kernel_rfl)
          exact flow_value _ (run_cell 38 (.tmp 142) rfl _ e0 _ (cell_keep (hcB hc) HF.out.2.2.1) _ Tryz.underlying38 rfl) rfl
        | 8, _ =>
          cases ho
          have e1 : aq.tmps.getD 3 undef = .pointer (some ⟨w.heap.size, 0, none⟩) := hk 3 (by decide)
          exact flow_value _ (run_fieldAt 43 (.tmp 3) 3 rfl _ _ e1 (by kernel_rfl)) rfl
        | 9, _ =>
          cases ho
          have e0 : aq.tmps.getD 144 undef = .pointer (some ⟨w.heap.size, 34, none⟩) := hdep 8 144 rfl (by kernel_rfl)
          exact flow_value _ (run_cell 41 (.tmp 144) rfl _ e0 _ (cell_keep (hcB hc) HF.out.2.2.2.1) _ Tryz.underlying41 rfl) rfl
        | 10, _ =>
          cases ho
          exact flow_move (.tmp 12) rfl (hk 12 (by decide))
        | 11, _ =>
          cases ho
          have e0 : aq.tmps.getD 145 undef = .slice (some ⟨kb, koff, none⟩) ks.length kcap := hdep 9 145 rfl (by kernel_rfl)
          have e1 : aq.tmps.getD 146 undef = .int .i64 (t : Nat) := hdep 10 146 rfl (by kernel_rfl)
          exact flow_value _ (run_atG 41 43 35 (.tmp 145) (.tmp 146) rfl Tryz.underlying41 sizeV35 kb koff ks.length kcap t e0 e1 HF.out.2.2.2.2.1) rfl
        | 12, _ =>
          cases ho
          have e0 : aq.tmps.getD 147 undef = .pointer (some ⟨kb, koff + t * 35, none⟩) := hdep 11 147 rfl (by kernel_rfl)
          exact flow_value _ (run_mid 43 (.tmp 147) rfl kb (koff + t * 35) e0 (valL x.num x.root sb1 sk1) (rangeAt_keep HF.out.2.2.2.2.2.1 (hcB hc)) _ Tryz.underlying43 rfl (by rw [valL_length _ _ _ _ HF.out.2.2.2.2.2.2]; exact sizeV35)) rfl
        | 13, _ =>
          cases ho
          have e0 : aq.tmps.getD 143 undef = .pointer (some ⟨q, 0, none⟩) := hdep 7 143 rfl (by kernel_rfl)
          have e1 : aq.tmps.getD 148 undef = .agg (valL x.num x.root sb1 sk1).toArray := hdep 12 148 rfl (by kernel_rfl)
          refine flow_fun 8 _ _ rfl (fun _ _ => by simp [go_sem]) #[.pointer (some ⟨q, 0, none⟩), .agg (valL x.num x.root sb1 sk1).toArray] (by rw [show (#[Operand.tmp 143, Operand.tmp 148] : Array Operand).map aq.eval = #[aq.tmps.getD 143 undef, aq.tmps.getD 148 undef] from by simp [Act.eval], e0, e1]) ?_
          refine (HI.out wq (hcB hc)).mono ?_
          rintro e w' ⟨rfl, q⟩
          exact ⟨_, rfl, rfl, q⟩
        | (k + 14), hk => exact absurd hk (by omega)
      · intro o _ ho a' w' hc hk hdep
        cases ho
        have e8 : a'.tmps.getD 8 undef = u8 := hk 8 (by decide)
        exact ⟨u8, fun w => run_move (.tmp 8) rfl _ e8, rfl⟩
      intro vf w8 hc hv
      have e0 : vf 0 = _ := hv 0 136 (by decide) rfl
      have e13 : vf 13 = _ := hv 13 149 (by decide) rfl
      have B8 := hcB hc
      clear hv hc
      simp only [List.take_succ_cons, List.take_zero, List.drop_succ_cons, List.drop_zero, putAll, Act.put, List.setIfInBounds_toArray, List.set_cons_succ, List.set_cons_zero]
      rw [e0, e13]
      have own8 := own_keep HOW.out B8
      have hX8 := HXA.out.1.keep B8
      have hA8 := HXA.out.2.1.keep B8
      have L8 := HXA.out.2.2.trans (B8.mono HXA.out.2.2.size)
      have hwl8 := L8.size
      have hal8 := hA8.lt
      clear e0 e13 HI HF HXA HOW B8
      go_wp2_with ((with_reducible refine at_list' ?_); first
        | (refine wpList_one_root rfl 97 22 (.tmp 149) rfl Tryz.underlying97 Tryz.root26 Q rfl hqr.len ?_; intro w3 H3 B3 S3; have own3 := own_keep own8 B3; have L3 := below_more L8 B3 (Nat.le_refl _))
        | (refine wpList_append_roots rfl (.tmp 136) (.tmp 150) 97 rfl (w.heap.size + 2) 22 Tryz.underlying97 Tryz.root26 _ t ((rootsV ds ks).take t) [Q] rfl own3 hqr.one ⟨w8.heap.size, 0, none⟩ 1 rfl (by intro j hj; rw [Addr.add_lit, Nat.zero_add, H3.cell j (by rw [hqr.len]; simpa using hj)]; simp) (by simp; omega) (by omega) ?_; intro v' w4 own4 grow4))
      have L4 := below_grownR L3 own3 (by omega) grow4
      have hX4 : HasC w4 w.heap.size 43 _ := (grow4.block _ (hX8.keep B3).lt (fun e => by have := (own3.lt _ e.symm).1; omega)).trans (hX8.keep B3)
      have hA4 : Has w4 (w.heap.size + 1) 22 .u8 (zeros 32) := (grow4.block _ (hA8.keep B3).lt (fun e => by have := (own3.lt _ e.symm).1; omega)).trans (hA8.keep B3)
      go_roundw
      case rel =>
        rw [HN.out.1] at own4
        exact ⟨t + 1, by omega, by go_num, own4, hX4, hA4, L4⟩
      case measure => simp [intOf]; omega
    · have ht2 : t = ks.length := by omega
      subst ht2
      rw [List.take_of_length_le (by rw [HR.out.2, HL.out]; exact Nat.le_refl _)] at hown
      obtain ⟨hn1, ao1, cap1, rfl, hc1, hm1, hRA⟩ := RootsAt.own HR.out.1 hown
      have HC := hid (rtree_any ao1 cap1 (rootsV ds ks) (ds.length : Nat) wr hc1 hm1 hRA (by rw [HR.out.2]; exact Int.le_refl _) (by omega))
      rw [HZ.out] at HC
      have HXA := hid (And.intro hX (And.intro hA hW))
      clear hX hA hW hown hRA hc1 hm1 hn1
      go_wp2_with fail
      refine HC.out.mono ?_
      rintro e w3 ⟨rfl, B3⟩
      have hd03 := cell_keep B3 hd0r
      have hA3 := HXA.out.2.1.keep B3
      have L3 := HXA.out.2.2.trans (B3.mono HXA.out.2.2.size)
      have hs3 := B3.size
      clear HC HXA B3 hk34
      go_wp2_with ((with_reducible refine at_list' ?_); first
        | (refine wpList_alloc_has rfl 14 rfl 22 rfl .u8 32 Tryz.zero22 ?_; intro w4 H4 B4 S4)
        | (refine wpList_store_has rfl 22 (.tmp 14) (.tmp 156) rfl w3.heap.size .u8 Z (zeros 32) rfl rfl 22 H4 (hfr.size _ Tryz.size22) (by rw [hfr.len, zeros_length]) ?_; intro w5 H5 O5; have hd05 := (World.cell?_of_block (a := ⟨p, 0, none⟩) (O5.block p (by have := block_lt_of_cell hd03; show ¬ p = w3.heap.size; simp at this; omega))).trans (cell_keep B4 hd03))
        | (refine wpList_load_has rfl 22 (.tmp 14) rfl w3.heap.size .u8 Z rfl 22 H5 _ _ Tryz.underlying22 (hfr.size _ Tryz.size22) ?_)
        | (refine wpList_store_has rfl 22 (.tmp 4) (.tmp 169) rfl (w.heap.size + 1) .u8 Z (zeros 32) rfl rfl 22 ((hA3.keep B4).only O5 (by have := hA3.lt; omega)) (hfr.size _ Tryz.size22) (by rw [hfr.len, zeros_length]) ?_; intro w6 H6 O6))
      refine bodyPost_ret (results_has rfl _ _ (w.heap.size + 1) 22 .u8 Z _ _ rfl H6 Tryz.underlying22 (hfr.size _ Tryz.size22)) rfl ?_
      exact ⟨rfl, below_only (below_only (below_more L3 B4 (Nat.le_refl _)) O5 (by omega)) O6 (by omega)⟩

theorem root_deep : ∀ (N : Nat) (d : Dt) (x : Vt) (p : Nat) (v : Value) (w : World), d.deep ≤ N → okR d x → DAt w d p → IsV w v x →
      Calls Tryz.prog 8 #[.pointer (some ⟨p, 0, none⟩), v] w fun e w' => e = .returned (.agg (nums .u8 (rootV d x))) ∧ Below w.heap.size w w'
  | 0, .mk f n ds, x, p, v, w, hN, ho, hD, hV => by rw [Dt.deep] at hN; omega
  | N + 1, .mk f n ds, .mk num r bs ks, p, v, w, hN, ho, hD, hV => by
    rw [Dt.deep] at hN
    obtain ⟨sb, sk, rfl, hV⟩ := hV
    have hV' := hV
    rw [VAt] at hV'
    rw [okR] at ho
    rw [rootV]
    rcases ho with ho | ho | ho | ⟨rfl, hn7, hb7⟩ | ⟨rfl, hn5, ⟨m0, ds0, rfl⟩, hb5⟩ | ⟨rfl, hl, hm, ho⟩
    · rw [if_pos (.inl ho)]
      exact root_num f n num ds r sb sk p w (.inl ho) hD hV'.1.1
    · rw [if_pos (.inr ho)]
      exact root_num f n num ds r sb sk p w (.inr ho) hD hV'.1.1
    · subst ho
      rw [if_neg (by decide), if_pos rfl]
      exact root_root n num ds r sb sk p w hD ⟨hV'.1.2.1, hV'.1.2.2⟩
    · rw [if_neg (by decide), if_neg (by decide), if_pos rfl]
      exact root_bits n num ds bs r sb sk p w hD hn7 hV'.1.2.1 hV'.2.1 hb7
    · rw [if_neg (by decide), if_neg (by decide), if_neg (by decide), if_pos rfl]
      exact root_nums n num m0 ds0 ks bs r sb sk p w hD hn5 hV hb5
    · rw [if_neg (by decide), if_neg (by decide), if_neg (by decide), if_neg (by decide)]
      exact root_box N (root_deep N) n num ds ks r bs sb sk p w (by omega) hl hm ho hD hV
/-- The document's Root. -/
theorem rroot_any (d : Dt) (x : Vt) (p : Nat) (v : Value) (w : World) (ho : okR d x) (hD : DAt w d p) (hV : IsV w v x) :
    Calls Tryz.prog 8 #[.pointer (some ⟨p, 0, none⟩), v] w fun e w' => e = .returned (.agg (nums .u8 (rootV d x))) ∧ Below w.heap.size w w' := root_deep d.deep d x p v w (Nat.le_refl _) ho hD hV
end Go.Proofs.YtbmcmabimfoknaaGreatDoor

/- What the document's Root answers, as a word that goes on. -/
namespace Go.Proofs.YtbmcmabimfoknaaGreatDoor
open Go.RowKit Go.Shelf
set_option linter.unusedVariables false
set_option maxRecDepth 100000

/-- Root answers R for this kind and this value, wherever they lie. -/
def Rooted (d : Dt) (x : Vt) (R : List Nat) : Prop := ∀ (p : Nat) (v : Value) (w : World), DAt w d p → IsV w v x →
  Calls Tryz.prog 8 #[.pointer (some ⟨p, 0, none⟩), v] w fun e w' => e = .returned (.agg (nums .u8 R)) ∧ Below w.heap.size w w'
theorem rooted_any (d : Dt) (x : Vt) (ho : okR d x) : Rooted d x (rootV d x) := fun p v w hD hV => rroot_any d x p v w ho hD hV
set_option maxHeartbeats 1000000 in
theorem Rooted.box (n num : Nat) (ds : List Dt) (ks : List Vt) (r : List Nat) (bs : List Bool) (rs : List (List Nat)) (hl : ds.length = ks.length) (hrln : rs.length = ks.length) (hm : ds.length ≤ 1048576) (hrts : Rts rs) (hall : ∀ i d x, ds[i]? = some d → ks[i]? = some x → Rooted d x (rs.getD i [])) :
    Rooted (.mk 8 n ds) (.mk num r bs ks) (fullR (depth (ds.length : Nat)) rs) := by
  intro p v w hD hV
  obtain ⟨sb, sk, rfl, hV⟩ := hV
  rw [DAt] at hD
  obtain ⟨hd0, hd1, dao, dcap, hd2, hdc, hdm, hds⟩ := hD
  rw [VAt] at hV
  obtain ⟨⟨hn0, hrl, hr8⟩, _, kao, kcap, rfl, hkc, hkm, hks⟩ := hV
  have hzr := zero_rt
  have hfr : Rt (fullR (depth (ds.length : Nat)) rs) := full_rt _ _ hrts
  have HR := hid (And.intro hrts hrln)
  have HS := hid (And.intro hds hks)
  have HL := hid hl
  have HO := hid (And.intro hall (And.intro hdm hrl))
  have hlk : ks.length ≤ 1048576 := hl ▸ hm
  clear hrts hrln hds hks hall hrl hr8 hdc hkc hl
  obtain ⟨Z, HZ⟩ : ∃ Z, Same (fullR (depth (ds.length : Nat)) rs) Z := ⟨_, ⟨rfl⟩⟩
  rw [HZ.out] at hfr ⊢
  go_enter Tryz.func8, Tryz.ntmps8
  go_wp2_with ((with_reducible refine at_list' ?_); first
    | (refine wpList_box_c rfl 3 rfl (.tmp 1) rfl (valL num r sb (.slice kao ks.length kcap)) rfl ?_; intro w1 H1 B1 S1)
    | (refine wpList_alloc_has rfl 4 rfl 22 rfl .u8 32 Tryz.zero22 ?_; intro w2 H2 B2 S2; rw [S1] at H2 S2; rw [S1]; have hd02 := cell_keep B2 (cell_keep B1 hd0); have hd12 := cell_keep B2 (cell_keep B1 hd1); have hd22 := cell_keep B2 (cell_keep B1 hd2); have HX := hid (H1.keep B2)))
  have L2 := below_more B1 B2 (Nat.le_refl _)
  clear H1 B1 B2 hd02 hd12 hd22
  go_loopw [8, 12, 13] (fun l i _ wr => ∃ t : Nat, t ≤ ks.length ∧ i = .int .i64 t ∧ wr.ownsRow (w.heap.size + 2) 22 32 l t (cellsOf (rs.take t)) ∧ HasC wr w.heap.size 43 (valL num r sb (.slice kao ks.length kcap)) ∧ Has wr (w.heap.size + 1) 22 .u8 (zeros 32) ∧ Below w.heap.size w wr) (fun _ i _ _ => ks.length - (intOf i).toNat)
  case atStart => exact ⟨0, Nat.zero_le _, rfl, World.ownsRow_nil _ _ _ _, HX.out, H2, L2⟩
  case round =>
    clear HX H2 L2 S1 S2
    obtain ⟨t, ht, rfl, hown, hX, hA, hW⟩ := hrel
    have hd0r := cell_keep hW hd0
    have hk34 := hX.cell (valL_34 num r sb (.slice kao ks.length kcap) HO.out.2.2)
    have hwl := hW.size
    have hal := hA.lt
    by_cases hlt : t < ks.length
    · obtain ⟨db, doff, rfl, hDs⟩ := HS.out.1.resolve_left (by have := HL.out; omega)
      obtain ⟨kb, koff, rfl, hKs⟩ := HS.out.2.resolve_left (by omega)
      have hx := List.getElem?_eq_getElem hlt
      have hdl : t < ds.length := by have := HL.out; omega
      have hdx := List.getElem?_eq_getElem hdl
      generalize ks[t] = x at hx
      generalize ds[t] = d at hdx
      obtain ⟨q, hq, hDq⟩ := DsAt.get hDs hdx
      obtain ⟨sb1, sk1, hr1, hV1⟩ := KsAt.get hKs hx
      have hxl : x.root.length = 32 := by
        have h2 := hV1
        cases x
        rw [VAt] at h2
        exact h2.1.2.1
      have hrt : t < rs.length := by have := HR.out.2; omega
      have hqr := HR.out.1.rt t hrt
      have hnx : rs.take t ++ [rs.getD t []] = rs.take (t + 1) := by rw [List.take_add_one, List.getElem?_eq_getElem hrt, List.getD_eq_getElem?_getD, List.getElem?_eq_getElem hrt]; rfl
      have hsh : Rts (rs.take t) := HR.out.1.take t
      have HI := hid (fun wq (hb : Below wr.heap.size wr wq) => HO.out.1 t d x hdx hx q (.agg (valL x.num x.root sb1 sk1).toArray) wq (DAt.keep (hW.trans (hb.mono hW.size)) d hDq) ⟨sb1, sk1, rfl, VAt.keep (hW.trans (hb.mono hW.size)) x hV1⟩)
      obtain ⟨Q, HQ⟩ : ∃ Q, Same (rs.getD t []) Q := ⟨_, ⟨rfl⟩⟩
      rw [HQ.out] at hqr hnx HI
      have HF := hid (And.intro (cell_keep hW hd2) (And.intro hdl (And.intro (show wr.cell? ⟨db, doff + t * 1, none⟩ = some (.pointer (some ⟨q, 0, none⟩)) by rw [Nat.mul_one]; exact cell_keep hW hq) (And.intro hk34 (And.intro hlt (And.intro (show wr.rangeAt kb (koff + t * 35) (valL x.num x.root sb1 sk1) by rw [Nat.mul_comm t 35]; exact rangeAt_keep hr1 hW) hxl))))))
      have HN := hid (And.intro hnx hsh)
      have HXA := hid (And.intro hX (And.intro hA hW))
      have HOW := hid hown
      clear hq hDq hr1 hV1 hxl hrt hnx hsh hDs hKs hdx hx hX hA hW hown
      go_wp2_with fail
      try simp only [Act.put, List.setIfInBounds_toArray, List.set_cons_succ, List.set_cons_zero]
      refine wp_region_flow9 14 0 (fun i v wq => match i with
        | 0 => v = u8
        | 1 => v = .pointer (some ⟨p, 0, none⟩)
        | 2 => v = .pointer (some ⟨p, 0, none⟩)
        | 3 => v = .pointer (some ⟨p, 2, none⟩)
        | 4 => v = .slice (some ⟨db, doff, none⟩) ds.length dcap
        | 5 => v = .int .i64 (t : Nat)
        | 6 => v = .pointer (some ⟨db, doff + t * 1, none⟩)
        | 7 => v = .pointer (some ⟨q, 0, none⟩)
        | 8 => v = .pointer (some ⟨w.heap.size, 34, none⟩)
        | 9 => v = .slice (some ⟨kb, koff, none⟩) ks.length kcap
        | 10 => v = .int .i64 (t : Nat)
        | 11 => v = .pointer (some ⟨kb, koff + t * 35, none⟩)
        | 12 => v = .agg (valL x.num x.root sb1 sk1).toArray
        | _ => v = .agg (nums .u8 Q)) (by kernel_rfl) (by kernel_rfl) (fun _ d _ _ _ h => by cases d <;> exact h) ?_ ?_ ?_ ?_
      · intro i v wq wq' hi hv hb
        match i, hi with
        | 0, _ => exact hv
        | 1, _ => exact hv
        | 2, _ => exact hv
        | 3, _ => exact hv
        | 4, _ => exact hv
        | 5, _ => exact hv
        | 6, _ => exact hv
        | 7, _ => exact hv
        | 8, _ => exact hv
        | 9, _ => exact hv
        | 10, _ => exact hv
        | 11, _ => exact hv
        | 12, _ => exact hv
        | 13, _ => exact hv
        | (k + 14), hk => exact absurd hk (by omega)
      · intro i o hi ho aq wq hc hk hdep
        match i, hi with
        | 0, _ =>
          cases ho
          exact flow_move (.tmp 8) rfl (hk 8 (by decide))
        | 1, _ =>
          cases ho
          exact flow_move (.tmp 0) rfl (hk 0 (by decide))
        | 2, _ =>
          cases ho
          have e0 : aq.tmps.getD 137 undef = .pointer (some ⟨p, 0, none⟩) := hdep 1 137 rfl (by kernel_rfl)
          exact flow_value _ (run_nilOk (.tmp 137) rfl _ e0) rfl
        | 3, _ =>
          cases ho
          have e0 : aq.tmps.getD 138 undef = .pointer (some ⟨p, 0, none⟩) := hdep 2 138 rfl (by kernel_rfl)
          exact flow_value _ (run_fieldAt 95 (.tmp 138) 2 rfl _ _ e0 (by kernel_rfl)) rfl
        | 4, _ =>
          cases ho
          have e0 : aq.tmps.getD 139 undef = .pointer (some ⟨p, 2, none⟩) := hdep 3 139 rfl (by kernel_rfl)
          exact flow_value _ (run_cell 93 (.tmp 139) rfl _ e0 _ (cell_keep (hcB hc) HF.out.1) _ Tryz.underlying93 rfl) rfl
        | 5, _ =>
          cases ho
          exact flow_move (.tmp 13) rfl (hk 13 (by decide))
        | 6, _ =>
          cases ho
          have e0 : aq.tmps.getD 140 undef = .slice (some ⟨db, doff, none⟩) ds.length dcap := hdep 4 140 rfl (by kernel_rfl)
          have e1 : aq.tmps.getD 141 undef = .int .i64 (t : Nat) := hdep 5 141 rfl (by kernel_rfl)
          exact flow_value _ (run_atG 93 38 1 (.tmp 140) (.tmp 141) rfl Tryz.underlying93 sizeD1 db doff ds.length dcap t e0 e1 HF.out.2.1) rfl
        | 7, _ =>
          cases ho
          have e0 : aq.tmps.getD 142 undef = .pointer (some ⟨db, doff + t * 1, none⟩) := hdep 6 142 rfl (by kernel_rfl)
          exact flow_value _ (run_cell 38 (.tmp 142) rfl _ e0 _ (cell_keep (hcB hc) HF.out.2.2.1) _ Tryz.underlying38 rfl) rfl
        | 8, _ =>
          cases ho
          have e1 : aq.tmps.getD 3 undef = .pointer (some ⟨w.heap.size, 0, none⟩) := hk 3 (by decide)
          exact flow_value _ (run_fieldAt 43 (.tmp 3) 3 rfl _ _ e1 (by kernel_rfl)) rfl
        | 9, _ =>
          cases ho
          have e0 : aq.tmps.getD 144 undef = .pointer (some ⟨w.heap.size, 34, none⟩) := hdep 8 144 rfl (by kernel_rfl)
          exact flow_value _ (run_cell 41 (.tmp 144) rfl _ e0 _ (cell_keep (hcB hc) HF.out.2.2.2.1) _ Tryz.underlying41 rfl) rfl
        | 10, _ =>
          cases ho
          exact flow_move (.tmp 12) rfl (hk 12 (by decide))
        | 11, _ =>
          cases ho
          have e0 : aq.tmps.getD 145 undef = .slice (some ⟨kb, koff, none⟩) ks.length kcap := hdep 9 145 rfl (by kernel_rfl)
          have e1 : aq.tmps.getD 146 undef = .int .i64 (t : Nat) := hdep 10 146 rfl (by kernel_rfl)
          exact flow_value _ (run_atG 41 43 35 (.tmp 145) (.tmp 146) rfl Tryz.underlying41 sizeV35 kb koff ks.length kcap t e0 e1 HF.out.2.2.2.2.1) rfl
        | 12, _ =>
          cases ho
          have e0 : aq.tmps.getD 147 undef = .pointer (some ⟨kb, koff + t * 35, none⟩) := hdep 11 147 rfl (by kernel_rfl)
          exact flow_value _ (run_mid 43 (.tmp 147) rfl kb (koff + t * 35) e0 (valL x.num x.root sb1 sk1) (rangeAt_keep HF.out.2.2.2.2.2.1 (hcB hc)) _ Tryz.underlying43 rfl (by rw [valL_length _ _ _ _ HF.out.2.2.2.2.2.2]; exact sizeV35)) rfl
        | 13, _ =>
          cases ho
          have e0 : aq.tmps.getD 143 undef = .pointer (some ⟨q, 0, none⟩) := hdep 7 143 rfl (by kernel_rfl)
          have e1 : aq.tmps.getD 148 undef = .agg (valL x.num x.root sb1 sk1).toArray := hdep 12 148 rfl (by kernel_rfl)
          refine flow_fun 8 _ _ rfl (fun _ _ => by simp [go_sem]) #[.pointer (some ⟨q, 0, none⟩), .agg (valL x.num x.root sb1 sk1).toArray] (by rw [show (#[Operand.tmp 143, Operand.tmp 148] : Array Operand).map aq.eval = #[aq.tmps.getD 143 undef, aq.tmps.getD 148 undef] from by simp [Act.eval], e0, e1]) ?_
          refine (HI.out wq (hcB hc)).mono ?_
          rintro e w' ⟨rfl, q⟩
          exact ⟨_, rfl, rfl, q⟩
        | (k + 14), hk => exact absurd hk (by omega)
      · intro o _ ho a' w' hc hk hdep
        cases ho
        have e8 : a'.tmps.getD 8 undef = u8 := hk 8 (by decide)
        exact ⟨u8, fun w => run_move (.tmp 8) rfl _ e8, rfl⟩
      intro vf w8 hc hv
      have e0 : vf 0 = _ := hv 0 136 (by decide) rfl
      have e13 : vf 13 = _ := hv 13 149 (by decide) rfl
      have B8 := hcB hc
      clear hv hc
      simp only [List.take_succ_cons, List.take_zero, List.drop_succ_cons, List.drop_zero, putAll, Act.put, List.setIfInBounds_toArray, List.set_cons_succ, List.set_cons_zero]
      rw [e0, e13]
      have own8 := own_keep HOW.out B8
      have hX8 := HXA.out.1.keep B8
      have hA8 := HXA.out.2.1.keep B8
      have L8 := HXA.out.2.2.trans (B8.mono HXA.out.2.2.size)
      have hwl8 := L8.size
      have hal8 := hA8.lt
      clear e0 e13 HI HF HXA HOW B8
      go_wp2_with ((with_reducible refine at_list' ?_); first
        | (refine wpList_one_root rfl 97 22 (.tmp 149) rfl Tryz.underlying97 Tryz.root26 Q rfl hqr.len ?_; intro w3 H3 B3 S3; have own3 := own_keep own8 B3; have L3 := below_more L8 B3 (Nat.le_refl _))
        | (refine wpList_append_roots rfl (.tmp 136) (.tmp 150) 97 rfl (w.heap.size + 2) 22 Tryz.underlying97 Tryz.root26 _ t (rs.take t) [Q] rfl own3 hqr.one ⟨w8.heap.size, 0, none⟩ 1 rfl (by intro j hj; rw [Addr.add_lit, Nat.zero_add, H3.cell j (by rw [hqr.len]; simpa using hj)]; simp) (by simp; omega) (by omega) ?_; intro v' w4 own4 grow4))
      have L4 := below_grownR L3 own3 (by omega) grow4
      have hX4 : HasC w4 w.heap.size 43 _ := (grow4.block _ (hX8.keep B3).lt (fun e => by have := (own3.lt _ e.symm).1; omega)).trans (hX8.keep B3)
      have hA4 : Has w4 (w.heap.size + 1) 22 .u8 (zeros 32) := (grow4.block _ (hA8.keep B3).lt (fun e => by have := (own3.lt _ e.symm).1; omega)).trans (hA8.keep B3)
      go_roundw
      case rel =>
        rw [HN.out.1] at own4
        exact ⟨t + 1, by omega, by go_num, own4, hX4, hA4, L4⟩
      case measure => simp [intOf]; omega
    · have ht2 : t = ks.length := by omega
      subst ht2
      rw [List.take_of_length_le (by rw [HR.out.2]; exact Nat.le_refl _)] at hown
      obtain ⟨hn1, ao1, cap1, rfl, hc1, hm1, hRA⟩ := RootsAt.own HR.out.1 hown
      have HC := hid (rtree_any ao1 cap1 rs (ds.length : Nat) wr hc1 hm1 hRA (by rw [HR.out.2, HL.out]; exact Int.le_refl _) (by omega))
      rw [HZ.out] at HC
      have HXA := hid (And.intro hX (And.intro hA hW))
      clear hX hA hW hown hRA hc1 hm1 hn1
      go_wp2_with fail
      refine HC.out.mono ?_
      rintro e w3 ⟨rfl, B3⟩
      have hd03 := cell_keep B3 hd0r
      have hA3 := HXA.out.2.1.keep B3
      have L3 := HXA.out.2.2.trans (B3.mono HXA.out.2.2.size)
      have hs3 := B3.size
      clear HC HXA B3 hk34
      go_wp2_with ((with_reducible refine at_list' ?_); first
        | (refine wpList_alloc_has rfl 14 rfl 22 rfl .u8 32 Tryz.zero22 ?_; intro w4 H4 B4 S4)
        | (refine wpList_store_has rfl 22 (.tmp 14) (.tmp 156) rfl w3.heap.size .u8 Z (zeros 32) rfl rfl 22 H4 (hfr.size _ Tryz.size22) (by rw [hfr.len, zeros_length]) ?_; intro w5 H5 O5; have hd05 := (World.cell?_of_block (a := ⟨p, 0, none⟩) (O5.block p (by have := block_lt_of_cell hd03; show ¬ p = w3.heap.size; simp at this; omega))).trans (cell_keep B4 hd03))
        | (refine wpList_load_has rfl 22 (.tmp 14) rfl w3.heap.size .u8 Z rfl 22 H5 _ _ Tryz.underlying22 (hfr.size _ Tryz.size22) ?_)
        | (refine wpList_store_has rfl 22 (.tmp 4) (.tmp 169) rfl (w.heap.size + 1) .u8 Z (zeros 32) rfl rfl 22 ((hA3.keep B4).only O5 (by have := hA3.lt; omega)) (hfr.size _ Tryz.size22) (by rw [hfr.len, zeros_length]) ?_; intro w6 H6 O6))
      refine bodyPost_ret (results_has rfl _ _ (w.heap.size + 1) 22 .u8 Z _ _ rfl H6 Tryz.underlying22 (hfr.size _ Tryz.size22)) rfl ?_
      exact ⟨rfl, below_only (below_only (below_more L3 B4 (Nat.le_refl _)) O5 (by omega)) O6 (by omega)⟩

set_option maxHeartbeats 1000000 in
theorem Rooted.many4 (n num f0 m0 : Nat) (ds0 : List Dt) (ks : List Vt) (r : List Nat) (bs : List Bool) (rs : List (List Nat)) (hn : n ≤ 1048576) (hf0 : f0 = 3 ∨ f0 = 8) (hrln : rs.length = ks.length) (hlk : ks.length ≤ 2000) (hrts : Rts rs) (hall : ∀ i x, ks[i]? = some x → Rooted (.mk f0 m0 ds0) x (rs.getD i [])) :
    Rooted (.mk 4 n [.mk f0 m0 ds0]) (.mk num r bs ks) (treeZ n rs) := by
  intro p v w hD hV
  obtain ⟨sb, sk, rfl, hV⟩ := hV
  rw [DAt] at hD
  obtain ⟨hd0, hd1, dao, dcap, hd2, hdc, hdm, hds⟩ := hD
  obtain ⟨db, doff, rfl, hDs⟩ := hds.resolve_left (by simp)
  rw [DsAt] at hDs
  obtain ⟨⟨q, hq, hDq⟩, _⟩ := hDs
  have hDq' := hDq
  rw [DAt] at hDq'
  have hq0 := hDq'.1
  clear hDq'
  rw [VAt] at hV
  obtain ⟨⟨hn0, hrl, hr8⟩, _, kao, kcap, rfl, hkc, hkm, hks⟩ := hV
  have hTr := treeZ_rt n rs hrts
  have HT := hid (fun ao cap wq (h1 : rs.length ≤ cap) (h2 : cap ≤ maxLen) (h3 : RootsAt wq ao rs) => (show Calls Tryz.prog 36 #[.slice ao rs.length cap, .int .i64 ((n : Nat) : Int)] wq fun e w' => e = .returned (.tuple #[.agg (nums .u8 (treeZ n rs)), .bool (decide (rs.length ≤ n))]) ∧ Below wq.heap.size wq w' by
    by_cases hle : rs.length ≤ n
    · rw [treeZ, if_pos hle, decide_eq_true hle]
      exact rtree_any ao cap rs (n : Nat) wq h1 h2 h3 (by omega) (by omega)
    · rw [treeZ, if_neg hle, decide_eq_false hle]
      exact rtree_bad ao cap rs (n : Nat) wq h1 h2 (by omega) (by omega) (.inr (by omega))))
  obtain ⟨T, HTT⟩ : ∃ T, Same (treeZ n rs) T := ⟨_, ⟨rfl⟩⟩
  obtain ⟨okb, HOK⟩ : ∃ b, Hid (decide (rs.length ≤ n) = b) := ⟨_, hid rfl⟩
  rw [HTT.out] at hTr ⊢
  rw [HTT.out, HOK.out] at HT
  have hzr := zero_rt
  have HR := hid (And.intro hrts hrln)
  have HS := hid hks
  have HO := hid (And.intro hall (And.intro hDq hrl))
  have hHR := hid hrl
  have hlk : ks.length ≤ 2000 := hlk
  clear hrts hrln hks hall hrl hr8 hdc hkc hDq
  rcases hf0 with rfl | rfl
  all_goals
    go_enter Tryz.func8, Tryz.ntmps8
    go_wp2_with ((with_reducible refine at_list' ?_); first
      | (refine wpList_box_c rfl 3 rfl (.tmp 1) rfl (valL num r sb (.slice kao ks.length kcap)) rfl ?_; intro w1 H1 B1 S1)
      | (refine wpList_alloc_has rfl 4 rfl 22 rfl .u8 32 Tryz.zero22 ?_; intro w2 H2 B2 S2; rw [S1] at H2 S2; rw [S1]; have hd02 := cell_keep B2 (cell_keep B1 hd0); have hd12 := cell_keep B2 (cell_keep B1 hd1); have hd22 := cell_keep B2 (cell_keep B1 hd2); have hq2 := cell_keep B2 (cell_keep B1 hq); have hq02 := cell_keep B2 (cell_keep B1 hq0); have HX := hid (H1.keep B2)))
    have L2 := below_more B1 B2 (Nat.le_refl _)
    clear H1 B1 B2 hd02 hd12 hd22 hq2 hq02
    go_loopw [8, 12, 13] (fun l i _ wr => ∃ t : Nat, t ≤ ks.length ∧ i = .int .i64 t ∧ wr.ownsRow (w.heap.size + 2) 22 32 l t (cellsOf (rs.take t)) ∧ HasC wr w.heap.size 43 (valL num r sb (.slice kao ks.length kcap)) ∧ Has wr (w.heap.size + 1) 22 .u8 (zeros 32) ∧ Below w.heap.size w wr) (fun _ i _ _ => ks.length - (intOf i).toNat)
    case atStart => exact ⟨0, Nat.zero_le _, rfl, World.ownsRow_nil _ _ _ _, HX.out, H2, L2⟩
    case round =>
      clear HX H2 L2 S1 S2
      obtain ⟨t, ht, rfl, hown, hX, hA, hW⟩ := hrel
      have hd0r := cell_keep hW hd0
      have hk34 := hX.cell (valL_34 num r sb (.slice kao ks.length kcap) hHR.out)
      have hwl := hW.size
      have hal := hA.lt
      by_cases hlt : t < ks.length
      · obtain ⟨kb, koff, rfl, hKs⟩ := HS.out.resolve_left (by omega)
        have hx := List.getElem?_eq_getElem hlt
        generalize ks[t] = x at hx
        obtain ⟨sb1, sk1, hr1, hV1⟩ := KsAt.get hKs hx
        have hxl : x.root.length = 32 := by
          have h2 := hV1
          cases x
          rw [VAt] at h2
          exact h2.1.2.1
        have hrt : t < rs.length := by have := HR.out.2; omega
        have hqr := HR.out.1.rt t hrt
        have hnx : rs.take t ++ [rs.getD t []] = rs.take (t + 1) := by rw [List.take_add_one, List.getElem?_eq_getElem hrt, List.getD_eq_getElem?_getD, List.getElem?_eq_getElem hrt]; rfl
        have hsh : Rts (rs.take t) := HR.out.1.take t
        have HI := hid (fun wq (hb : Below wr.heap.size wr wq) => HO.out.1 t x hx q (.agg (valL x.num x.root sb1 sk1).toArray) wq (DAt.keep (hW.trans (hb.mono hW.size)) _ HO.out.2.1) ⟨sb1, sk1, rfl, VAt.keep (hW.trans (hb.mono hW.size)) x hV1⟩)
        obtain ⟨Q, HQ⟩ : ∃ Q, Same (rs.getD t []) Q := ⟨_, ⟨rfl⟩⟩
        rw [HQ.out] at hqr hnx HI
        have hdl : (0 : Nat) < 1 := by decide
        have HF := hid (And.intro (cell_keep hW hd2) (And.intro hdl (And.intro (show wr.cell? ⟨db, doff + 0 * 1, none⟩ = some (.pointer (some ⟨q, 0, none⟩)) by rw [Nat.zero_mul]; exact cell_keep hW hq) (And.intro hk34 (And.intro hlt (And.intro (show wr.rangeAt kb (koff + t * 35) (valL x.num x.root sb1 sk1) by rw [Nat.mul_comm t 35]; exact rangeAt_keep hr1 hW) hxl))))))
        have HN := hid (And.intro hnx hsh)
        have HXA := hid (And.intro hX (And.intro hA hW))
        have HOW := hid hown
        clear hr1 hV1 hxl hrt hnx hsh hKs hx hX hA hW hown
        go_wp2_with fail
        try simp only [Act.put, List.setIfInBounds_toArray, List.set_cons_succ, List.set_cons_zero]
        refine wp_region_flow9 14 0 (fun i v wq => match i with
          | 0 => v = u8
          | 1 => v = .pointer (some ⟨p, 0, none⟩)
          | 2 => v = .pointer (some ⟨p, 0, none⟩)
          | 3 => v = .pointer (some ⟨p, 2, none⟩)
          | 4 => v = .slice (some ⟨db, doff, none⟩) 1 dcap
          | 5 => v = .int .i64 (0 : Nat)
          | 6 => v = .pointer (some ⟨db, doff + 0 * 1, none⟩)
          | 7 => v = .pointer (some ⟨q, 0, none⟩)
          | 8 => v = .pointer (some ⟨w.heap.size, 34, none⟩)
          | 9 => v = .slice (some ⟨kb, koff, none⟩) ks.length kcap
          | 10 => v = .int .i64 (t : Nat)
          | 11 => v = .pointer (some ⟨kb, koff + t * 35, none⟩)
          | 12 => v = .agg (valL x.num x.root sb1 sk1).toArray
          | _ => v = .agg (nums .u8 Q)) (by kernel_rfl) (by kernel_rfl) (fun _ d _ _ _ h => by cases d <;> exact h) ?_ ?_ ?_ ?_
        · intro i v wq wq' hi hv hb
          match i, hi with
          | 0, _ => exact hv
          | 1, _ => exact hv
          | 2, _ => exact hv
          | 3, _ => exact hv
          | 4, _ => exact hv
          | 5, _ => exact hv
          | 6, _ => exact hv
          | 7, _ => exact hv
          | 8, _ => exact hv
          | 9, _ => exact hv
          | 10, _ => exact hv
          | 11, _ => exact hv
          | 12, _ => exact hv
          | 13, _ => exact hv
          | (k + 14), hk => exact absurd hk (by omega)
        · intro i o hi ho aq wq hc hk hdep
          match i, hi with
          | 0, _ =>
            cases ho
            exact flow_move (.tmp 8) rfl (hk 8 (by decide))
          | 1, _ =>
            cases ho
            exact flow_move (.tmp 0) rfl (hk 0 (by decide))
          | 2, _ =>
            cases ho
            have e0 : aq.tmps.getD 137 undef = .pointer (some ⟨p, 0, none⟩) := hdep 1 137 rfl (by kernel_rfl)
            exact flow_value _ (run_nilOk (.tmp 137) rfl _ e0) rfl
          | 3, _ =>
            cases ho
            have e0 : aq.tmps.getD 138 undef = .pointer (some ⟨p, 0, none⟩) := hdep 2 138 rfl (by kernel_rfl)
            exact flow_value _ (run_fieldAt 95 (.tmp 138) 2 rfl _ _ e0 (by kernel_rfl)) rfl
          | 4, _ =>
            cases ho
            have e0 : aq.tmps.getD 139 undef = .pointer (some ⟨p, 2, none⟩) := hdep 3 139 rfl (by kernel_rfl)
            exact flow_value _ (run_cell 93 (.tmp 139) rfl _ e0 _ (cell_keep (hcB hc) HF.out.1) _ Tryz.underlying93 rfl) rfl
          | 5, _ =>
            cases ho
            exact flow_move (.tmp 13) rfl (hk 13 (by decide))
          | 6, _ =>
            cases ho
            have e0 : aq.tmps.getD 140 undef = .slice (some ⟨db, doff, none⟩) 1 dcap := hdep 4 140 rfl (by kernel_rfl)
            have e1 : aq.tmps.getD 141 undef = .int .i64 (0 : Nat) := hdep 5 141 rfl (by kernel_rfl)
            exact flow_value _ (run_atG 93 38 1 (.tmp 140) (.tmp 141) rfl Tryz.underlying93 sizeD1 db doff 1 dcap 0 e0 e1 HF.out.2.1) rfl
          | 7, _ =>
            cases ho
            have e0 : aq.tmps.getD 142 undef = .pointer (some ⟨db, doff + 0 * 1, none⟩) := hdep 6 142 rfl (by kernel_rfl)
            exact flow_value _ (run_cell 38 (.tmp 142) rfl _ e0 _ (cell_keep (hcB hc) HF.out.2.2.1) _ Tryz.underlying38 rfl) rfl
          | 8, _ =>
            cases ho
            have e1 : aq.tmps.getD 3 undef = .pointer (some ⟨w.heap.size, 0, none⟩) := hk 3 (by decide)
            exact flow_value _ (run_fieldAt 43 (.tmp 3) 3 rfl _ _ e1 (by kernel_rfl)) rfl
          | 9, _ =>
            cases ho
            have e0 : aq.tmps.getD 144 undef = .pointer (some ⟨w.heap.size, 34, none⟩) := hdep 8 144 rfl (by kernel_rfl)
            exact flow_value _ (run_cell 41 (.tmp 144) rfl _ e0 _ (cell_keep (hcB hc) HF.out.2.2.2.1) _ Tryz.underlying41 rfl) rfl
          | 10, _ =>
            cases ho
            exact flow_move (.tmp 12) rfl (hk 12 (by decide))
          | 11, _ =>
            cases ho
            have e0 : aq.tmps.getD 145 undef = .slice (some ⟨kb, koff, none⟩) ks.length kcap := hdep 9 145 rfl (by kernel_rfl)
            have e1 : aq.tmps.getD 146 undef = .int .i64 (t : Nat) := hdep 10 146 rfl (by kernel_rfl)
            exact flow_value _ (run_atG 41 43 35 (.tmp 145) (.tmp 146) rfl Tryz.underlying41 sizeV35 kb koff ks.length kcap t e0 e1 HF.out.2.2.2.2.1) rfl
          | 12, _ =>
            cases ho
            have e0 : aq.tmps.getD 147 undef = .pointer (some ⟨kb, koff + t * 35, none⟩) := hdep 11 147 rfl (by kernel_rfl)
            exact flow_value _ (run_mid 43 (.tmp 147) rfl kb (koff + t * 35) e0 (valL x.num x.root sb1 sk1) (rangeAt_keep HF.out.2.2.2.2.2.1 (hcB hc)) _ Tryz.underlying43 rfl (by rw [valL_length _ _ _ _ HF.out.2.2.2.2.2.2]; exact sizeV35)) rfl
          | 13, _ =>
            cases ho
            have e0 : aq.tmps.getD 143 undef = .pointer (some ⟨q, 0, none⟩) := hdep 7 143 rfl (by kernel_rfl)
            have e1 : aq.tmps.getD 148 undef = .agg (valL x.num x.root sb1 sk1).toArray := hdep 12 148 rfl (by kernel_rfl)
            refine flow_fun 8 _ _ rfl (fun _ _ => by simp [go_sem]) #[.pointer (some ⟨q, 0, none⟩), .agg (valL x.num x.root sb1 sk1).toArray] (by rw [show (#[Operand.tmp 143, Operand.tmp 148] : Array Operand).map aq.eval = #[aq.tmps.getD 143 undef, aq.tmps.getD 148 undef] from by simp [Act.eval], e0, e1]) ?_
            refine (HI.out wq (hcB hc)).mono ?_
            rintro e w' ⟨rfl, q⟩
            exact ⟨_, rfl, rfl, q⟩
          | (k + 14), hk => exact absurd hk (by omega)
        · intro o _ ho a' w' hc hk hdep
          cases ho
          have e8 : a'.tmps.getD 8 undef = u8 := hk 8 (by decide)
          exact ⟨u8, fun w => run_move (.tmp 8) rfl _ e8, rfl⟩
        intro vf w8 hc hv
        have e0 : vf 0 = _ := hv 0 136 (by decide) rfl
        have e13 : vf 13 = _ := hv 13 149 (by decide) rfl
        have B8 := hcB hc
        clear hv hc
        simp only [List.take_succ_cons, List.take_zero, List.drop_succ_cons, List.drop_zero, putAll, Act.put, List.setIfInBounds_toArray, List.set_cons_succ, List.set_cons_zero]
        rw [e0, e13]
        have own8 := own_keep HOW.out B8
        have hX8 := HXA.out.1.keep B8
        have hA8 := HXA.out.2.1.keep B8
        have L8 := HXA.out.2.2.trans (B8.mono HXA.out.2.2.size)
        have hwl8 := L8.size
        have hal8 := hA8.lt
        clear e0 e13 HI HF HXA HOW B8
        go_wp2_with ((with_reducible refine at_list' ?_); first
          | (refine wpList_one_root rfl 97 22 (.tmp 149) rfl Tryz.underlying97 Tryz.root26 Q rfl hqr.len ?_; intro w3 H3 B3 S3; have own3 := own_keep own8 B3; have L3 := below_more L8 B3 (Nat.le_refl _))
          | (refine wpList_append_roots rfl (.tmp 136) (.tmp 150) 97 rfl (w.heap.size + 2) 22 Tryz.underlying97 Tryz.root26 _ t (rs.take t) [Q] rfl own3 hqr.one ⟨w8.heap.size, 0, none⟩ 1 rfl (by intro j hj; rw [Addr.add_lit, Nat.zero_add, H3.cell j (by rw [hqr.len]; simpa using hj)]; simp) (by simp; omega) (by omega) ?_; intro v' w4 own4 grow4))
        have L4 := below_grownR L3 own3 (by omega) grow4
        have hX4 : HasC w4 w.heap.size 43 _ := (grow4.block _ (hX8.keep B3).lt (fun e => by have := (own3.lt _ e.symm).1; omega)).trans (hX8.keep B3)
        have hA4 : Has w4 (w.heap.size + 1) 22 .u8 (zeros 32) := (grow4.block _ (hA8.keep B3).lt (fun e => by have := (own3.lt _ e.symm).1; omega)).trans (hA8.keep B3)
        go_roundw
        case rel =>
          rw [HN.out.1] at own4
          exact ⟨t + 1, by omega, by go_num, own4, hX4, hA4, L4⟩
        case measure => simp [intOf]; omega
      · have ht2 : t = ks.length := by omega
        subst ht2
        rw [List.take_of_length_le (by rw [HR.out.2]; exact Nat.le_refl _)] at hown
        obtain ⟨hn1, ao1, cap1, rfl, hc1, hm1, hRA⟩ := RootsAt.own HR.out.1 hown
        have HC := hid (HT.out ao1 cap1 wr hc1 hm1 hRA)
        have HXA := hid (And.intro hX (And.intro hA hW))
        clear hX hA hW hown hRA hc1 hm1 hn1
        go_wp2_with fail
        refine HC.out.mono ?_
        rintro e w4 ⟨rfl, B4⟩
        have hd04 := cell_keep B4 hd0r
        have HX4 := hid (And.intro (HXA.out.1.keep B4) (And.intro (HXA.out.2.1.keep B4) (HXA.out.2.2.trans (B4.mono HXA.out.2.2.size))))
        have s4 := HX4.out.2.2.size
        have hp4 : p ≠ w4.heap.size := fun e => by have h := block_lt_of_cell hd04; rw [e] at h; exact Nat.lt_irrefl _ h
        have hx4 : w.heap.size ≠ w4.heap.size := by have := HX4.out.1.lt; omega
        have ha4 : w.heap.size + 1 ≠ w4.heap.size := by have := HX4.out.2.1.lt; omega
        have HPP := hid (And.intro hp4 (And.intro hx4 ha4))
        clear hp4 hx4 ha4 HC HXA B4 hk34 hd0r
        go_wp2_with ((with_reducible refine at_list' ?_); first
          | (refine wpList_alloc_has rfl 14 rfl 22 rfl .u8 32 Tryz.zero22 ?_; intro w5 H5 B5 S5)
          | (refine wpList_store_has rfl 22 (.tmp 14) (.tmp 156) rfl w4.heap.size .u8 T (zeros 32) rfl rfl 22 H5 (hTr.size _ Tryz.size22) (by rw [hTr.len, zeros_length]) ?_; intro w6 H6 O6; have hd06 := (World.cell?_of_block (a := ⟨p, 0, none⟩) (O6.block p HPP.out.1)).trans (cell_keep B5 hd04); have hA6 := (HX4.out.2.1.keep B5).only O6 HPP.out.2.2)
          | (refine wpList_load_has rfl 22 (.tmp 14) rfl w4.heap.size .u8 T rfl 22 H6 _ _ Tryz.underlying22 (hTr.size _ Tryz.size22) ?_)
          | (refine wpList_store_has rfl 22 (.tmp 4) (.tmp 169) rfl (w.heap.size + 1) .u8 T (zeros 32) rfl rfl 22 hA6 (hTr.size _ Tryz.size22) (by rw [hTr.len, zeros_length]) ?_; intro w8 H8 O8))
        refine bodyPost_ret (results_has rfl _ _ (w.heap.size + 1) 22 .u8 T _ _ rfl H8 Tryz.underlying22 (hTr.size _ Tryz.size22)) rfl ?_
        exact ⟨rfl, below_only (below_only (below_more HX4.out.2.2 B5 (Nat.le_refl _)) O6 (by omega)) O8 (by omega)⟩
set_option maxHeartbeats 1000000 in
theorem Rooted.many5 (n num f0 m0 : Nat) (ds0 : List Dt) (ks : List Vt) (r : List Nat) (bs : List Bool) (rs : List (List Nat)) (hn : n ≤ 1048576) (hf0 : f0 = 3 ∨ f0 = 8) (hrln : rs.length = ks.length) (hlk : ks.length ≤ 2000) (hrts : Rts rs) (hall : ∀ i x, ks[i]? = some x → Rooted (.mk f0 m0 ds0) x (rs.getD i [])) :
    Rooted (.mk 5 n [.mk f0 m0 ds0]) (.mk num r bs ks) (pr (treeZ n rs) (wUp ks.length 8)) := by
  intro p v w hD hV
  obtain ⟨sb, sk, rfl, hV⟩ := hV
  rw [DAt] at hD
  obtain ⟨hd0, hd1, dao, dcap, hd2, hdc, hdm, hds⟩ := hD
  obtain ⟨db, doff, rfl, hDs⟩ := hds.resolve_left (by simp)
  rw [DsAt] at hDs
  obtain ⟨⟨q, hq, hDq⟩, _⟩ := hDs
  have hDq' := hDq
  rw [DAt] at hDq'
  have hq0 := hDq'.1
  clear hDq'
  rw [VAt] at hV
  obtain ⟨⟨hn0, hrl, hr8⟩, _, kao, kcap, rfl, hkc, hkm, hks⟩ := hV
  have hTr := treeZ_rt n rs hrts
  have HT := hid (fun ao cap wq (h1 : rs.length ≤ cap) (h2 : cap ≤ maxLen) (h3 : RootsAt wq ao rs) => (show Calls Tryz.prog 36 #[.slice ao rs.length cap, .int .i64 ((n : Nat) : Int)] wq fun e w' => e = .returned (.tuple #[.agg (nums .u8 (treeZ n rs)), .bool (decide (rs.length ≤ n))]) ∧ Below wq.heap.size wq w' by
    by_cases hle : rs.length ≤ n
    · rw [treeZ, if_pos hle, decide_eq_true hle]
      exact rtree_any ao cap rs (n : Nat) wq h1 h2 h3 (by omega) (by omega)
    · rw [treeZ, if_neg hle, decide_eq_false hle]
      exact rtree_bad ao cap rs (n : Nat) wq h1 h2 (by omega) (by omega) (.inr (by omega))))
  obtain ⟨T, HTT⟩ : ∃ T, Same (treeZ n rs) T := ⟨_, ⟨rfl⟩⟩
  obtain ⟨okb, HOK⟩ : ∃ b, Hid (decide (rs.length ≤ n) = b) := ⟨_, hid rfl⟩
  rw [HTT.out] at hTr ⊢
  rw [HTT.out, HOK.out] at HT
  have hpr := pr_rt T (wUp ks.length 8)
  have HMX := hid (fun w => rmix_any T ks.length hTr (by omega) w)
  obtain ⟨Z, HZ⟩ : ∃ Z, Same (pr T (wUp ks.length 8)) Z := ⟨_, ⟨rfl⟩⟩
  rw [HZ.out] at hpr HMX ⊢
  have hzr := zero_rt
  have HR := hid (And.intro hrts hrln)
  have HS := hid hks
  have HO := hid (And.intro hall (And.intro hDq hrl))
  have hHR := hid hrl
  have hlk : ks.length ≤ 2000 := hlk
  clear hrts hrln hks hall hrl hr8 hdc hkc hDq
  rcases hf0 with rfl | rfl
  all_goals
    go_enter Tryz.func8, Tryz.ntmps8
    go_wp2_with ((with_reducible refine at_list' ?_); first
      | (refine wpList_box_c rfl 3 rfl (.tmp 1) rfl (valL num r sb (.slice kao ks.length kcap)) rfl ?_; intro w1 H1 B1 S1)
      | (refine wpList_alloc_has rfl 4 rfl 22 rfl .u8 32 Tryz.zero22 ?_; intro w2 H2 B2 S2; rw [S1] at H2 S2; rw [S1]; have hd02 := cell_keep B2 (cell_keep B1 hd0); have hd12 := cell_keep B2 (cell_keep B1 hd1); have hd22 := cell_keep B2 (cell_keep B1 hd2); have hq2 := cell_keep B2 (cell_keep B1 hq); have hq02 := cell_keep B2 (cell_keep B1 hq0); have HX := hid (H1.keep B2)))
    have L2 := below_more B1 B2 (Nat.le_refl _)
    clear H1 B1 B2 hd02 hd12 hd22 hq2 hq02
    go_loopw [8, 12, 13] (fun l i _ wr => ∃ t : Nat, t ≤ ks.length ∧ i = .int .i64 t ∧ wr.ownsRow (w.heap.size + 2) 22 32 l t (cellsOf (rs.take t)) ∧ HasC wr w.heap.size 43 (valL num r sb (.slice kao ks.length kcap)) ∧ Has wr (w.heap.size + 1) 22 .u8 (zeros 32) ∧ Below w.heap.size w wr) (fun _ i _ _ => ks.length - (intOf i).toNat)
    case atStart => exact ⟨0, Nat.zero_le _, rfl, World.ownsRow_nil _ _ _ _, HX.out, H2, L2⟩
    case round =>
      clear HX H2 L2 S1 S2
      obtain ⟨t, ht, rfl, hown, hX, hA, hW⟩ := hrel
      have hd0r := cell_keep hW hd0
      have hk34 := hX.cell (valL_34 num r sb (.slice kao ks.length kcap) hHR.out)
      have hwl := hW.size
      have hal := hA.lt
      by_cases hlt : t < ks.length
      · obtain ⟨kb, koff, rfl, hKs⟩ := HS.out.resolve_left (by omega)
        have hx := List.getElem?_eq_getElem hlt
        generalize ks[t] = x at hx
        obtain ⟨sb1, sk1, hr1, hV1⟩ := KsAt.get hKs hx
        have hxl : x.root.length = 32 := by
          have h2 := hV1
          cases x
          rw [VAt] at h2
          exact h2.1.2.1
        have hrt : t < rs.length := by have := HR.out.2; omega
        have hqr := HR.out.1.rt t hrt
        have hnx : rs.take t ++ [rs.getD t []] = rs.take (t + 1) := by rw [List.take_add_one, List.getElem?_eq_getElem hrt, List.getD_eq_getElem?_getD, List.getElem?_eq_getElem hrt]; rfl
        have hsh : Rts (rs.take t) := HR.out.1.take t
        have HI := hid (fun wq (hb : Below wr.heap.size wr wq) => HO.out.1 t x hx q (.agg (valL x.num x.root sb1 sk1).toArray) wq (DAt.keep (hW.trans (hb.mono hW.size)) _ HO.out.2.1) ⟨sb1, sk1, rfl, VAt.keep (hW.trans (hb.mono hW.size)) x hV1⟩)
        obtain ⟨Q, HQ⟩ : ∃ Q, Same (rs.getD t []) Q := ⟨_, ⟨rfl⟩⟩
        rw [HQ.out] at hqr hnx HI
        have hdl : (0 : Nat) < 1 := by decide
        have HF := hid (And.intro (cell_keep hW hd2) (And.intro hdl (And.intro (show wr.cell? ⟨db, doff + 0 * 1, none⟩ = some (.pointer (some ⟨q, 0, none⟩)) by rw [Nat.zero_mul]; exact cell_keep hW hq) (And.intro hk34 (And.intro hlt (And.intro (show wr.rangeAt kb (koff + t * 35) (valL x.num x.root sb1 sk1) by rw [Nat.mul_comm t 35]; exact rangeAt_keep hr1 hW) hxl))))))
        have HN := hid (And.intro hnx hsh)
        have HXA := hid (And.intro hX (And.intro hA hW))
        have HOW := hid hown
        clear hr1 hV1 hxl hrt hnx hsh hKs hx hX hA hW hown
        go_wp2_with fail
        try simp only [Act.put, List.setIfInBounds_toArray, List.set_cons_succ, List.set_cons_zero]
        refine wp_region_flow9 14 0 (fun i v wq => match i with
          | 0 => v = u8
          | 1 => v = .pointer (some ⟨p, 0, none⟩)
          | 2 => v = .pointer (some ⟨p, 0, none⟩)
          | 3 => v = .pointer (some ⟨p, 2, none⟩)
          | 4 => v = .slice (some ⟨db, doff, none⟩) 1 dcap
          | 5 => v = .int .i64 (0 : Nat)
          | 6 => v = .pointer (some ⟨db, doff + 0 * 1, none⟩)
          | 7 => v = .pointer (some ⟨q, 0, none⟩)
          | 8 => v = .pointer (some ⟨w.heap.size, 34, none⟩)
          | 9 => v = .slice (some ⟨kb, koff, none⟩) ks.length kcap
          | 10 => v = .int .i64 (t : Nat)
          | 11 => v = .pointer (some ⟨kb, koff + t * 35, none⟩)
          | 12 => v = .agg (valL x.num x.root sb1 sk1).toArray
          | _ => v = .agg (nums .u8 Q)) (by kernel_rfl) (by kernel_rfl) (fun _ d _ _ _ h => by cases d <;> exact h) ?_ ?_ ?_ ?_
        · intro i v wq wq' hi hv hb
          match i, hi with
          | 0, _ => exact hv
          | 1, _ => exact hv
          | 2, _ => exact hv
          | 3, _ => exact hv
          | 4, _ => exact hv
          | 5, _ => exact hv
          | 6, _ => exact hv
          | 7, _ => exact hv
          | 8, _ => exact hv
          | 9, _ => exact hv
          | 10, _ => exact hv
          | 11, _ => exact hv
          | 12, _ => exact hv
          | 13, _ => exact hv
          | (k + 14), hk => exact absurd hk (by omega)
        · intro i o hi ho aq wq hc hk hdep
          match i, hi with
          | 0, _ =>
            cases ho
            exact flow_move (.tmp 8) rfl (hk 8 (by decide))
          | 1, _ =>
            cases ho
            exact flow_move (.tmp 0) rfl (hk 0 (by decide))
          | 2, _ =>
            cases ho
            have e0 : aq.tmps.getD 137 undef = .pointer (some ⟨p, 0, none⟩) := hdep 1 137 rfl (by kernel_rfl)
            exact flow_value _ (run_nilOk (.tmp 137) rfl _ e0) rfl
          | 3, _ =>
            cases ho
            have e0 : aq.tmps.getD 138 undef = .pointer (some ⟨p, 0, none⟩) := hdep 2 138 rfl (by kernel_rfl)
            exact flow_value _ (run_fieldAt 95 (.tmp 138) 2 rfl _ _ e0 (by kernel_rfl)) rfl
          | 4, _ =>
            cases ho
            have e0 : aq.tmps.getD 139 undef = .pointer (some ⟨p, 2, none⟩) := hdep 3 139 rfl (by kernel_rfl)
            exact flow_value _ (run_cell 93 (.tmp 139) rfl _ e0 _ (cell_keep (hcB hc) HF.out.1) _ Tryz.underlying93 rfl) rfl
          | 5, _ =>
            cases ho
            exact flow_move (.tmp 13) rfl (hk 13 (by decide))
          | 6, _ =>
            cases ho
            have e0 : aq.tmps.getD 140 undef = .slice (some ⟨db, doff, none⟩) 1 dcap := hdep 4 140 rfl (by kernel_rfl)
            have e1 : aq.tmps.getD 141 undef = .int .i64 (0 : Nat) := hdep 5 141 rfl (by kernel_rfl)
            exact flow_value _ (run_atG 93 38 1 (.tmp 140) (.tmp 141) rfl Tryz.underlying93 sizeD1 db doff 1 dcap 0 e0 e1 HF.out.2.1) rfl
          | 7, _ =>
            cases ho
            have e0 : aq.tmps.getD 142 undef = .pointer (some ⟨db, doff + 0 * 1, none⟩) := hdep 6 142 rfl (by kernel_rfl)
            exact flow_value _ (run_cell 38 (.tmp 142) rfl _ e0 _ (cell_keep (hcB hc) HF.out.2.2.1) _ Tryz.underlying38 rfl) rfl
          | 8, _ =>
            cases ho
            have e1 : aq.tmps.getD 3 undef = .pointer (some ⟨w.heap.size, 0, none⟩) := hk 3 (by decide)
            exact flow_value _ (run_fieldAt 43 (.tmp 3) 3 rfl _ _ e1 (by kernel_rfl)) rfl
          | 9, _ =>
            cases ho
            have e0 : aq.tmps.getD 144 undef = .pointer (some ⟨w.heap.size, 34, none⟩) := hdep 8 144 rfl (by kernel_rfl)
            exact flow_value _ (run_cell 41 (.tmp 144) rfl _ e0 _ (cell_keep (hcB hc) HF.out.2.2.2.1) _ Tryz.underlying41 rfl) rfl
          | 10, _ =>
            cases ho
            exact flow_move (.tmp 12) rfl (hk 12 (by decide))
          | 11, _ =>
            cases ho
            have e0 : aq.tmps.getD 145 undef = .slice (some ⟨kb, koff, none⟩) ks.length kcap := hdep 9 145 rfl (by kernel_rfl)
            have e1 : aq.tmps.getD 146 undef = .int .i64 (t : Nat) := hdep 10 146 rfl (by kernel_rfl)
            exact flow_value _ (run_atG 41 43 35 (.tmp 145) (.tmp 146) rfl Tryz.underlying41 sizeV35 kb koff ks.length kcap t e0 e1 HF.out.2.2.2.2.1) rfl
          | 12, _ =>
            cases ho
            have e0 : aq.tmps.getD 147 undef = .pointer (some ⟨kb, koff + t * 35, none⟩) := hdep 11 147 rfl (by kernel_rfl)
            exact flow_value _ (run_mid 43 (.tmp 147) rfl kb (koff + t * 35) e0 (valL x.num x.root sb1 sk1) (rangeAt_keep HF.out.2.2.2.2.2.1 (hcB hc)) _ Tryz.underlying43 rfl (by rw [valL_length _ _ _ _ HF.out.2.2.2.2.2.2]; exact sizeV35)) rfl
          | 13, _ =>
            cases ho
            have e0 : aq.tmps.getD 143 undef = .pointer (some ⟨q, 0, none⟩) := hdep 7 143 rfl (by kernel_rfl)
            have e1 : aq.tmps.getD 148 undef = .agg (valL x.num x.root sb1 sk1).toArray := hdep 12 148 rfl (by kernel_rfl)
            refine flow_fun 8 _ _ rfl (fun _ _ => by simp [go_sem]) #[.pointer (some ⟨q, 0, none⟩), .agg (valL x.num x.root sb1 sk1).toArray] (by rw [show (#[Operand.tmp 143, Operand.tmp 148] : Array Operand).map aq.eval = #[aq.tmps.getD 143 undef, aq.tmps.getD 148 undef] from by simp [Act.eval], e0, e1]) ?_
            refine (HI.out wq (hcB hc)).mono ?_
            rintro e w' ⟨rfl, q⟩
            exact ⟨_, rfl, rfl, q⟩
          | (k + 14), hk => exact absurd hk (by omega)
        · intro o _ ho a' w' hc hk hdep
          cases ho
          have e8 : a'.tmps.getD 8 undef = u8 := hk 8 (by decide)
          exact ⟨u8, fun w => run_move (.tmp 8) rfl _ e8, rfl⟩
        intro vf w8 hc hv
        have e0 : vf 0 = _ := hv 0 136 (by decide) rfl
        have e13 : vf 13 = _ := hv 13 149 (by decide) rfl
        have B8 := hcB hc
        clear hv hc
        simp only [List.take_succ_cons, List.take_zero, List.drop_succ_cons, List.drop_zero, putAll, Act.put, List.setIfInBounds_toArray, List.set_cons_succ, List.set_cons_zero]
        rw [e0, e13]
        have own8 := own_keep HOW.out B8
        have hX8 := HXA.out.1.keep B8
        have hA8 := HXA.out.2.1.keep B8
        have L8 := HXA.out.2.2.trans (B8.mono HXA.out.2.2.size)
        have hwl8 := L8.size
        have hal8 := hA8.lt
        clear e0 e13 HI HF HXA HOW B8
        go_wp2_with ((with_reducible refine at_list' ?_); first
          | (refine wpList_one_root rfl 97 22 (.tmp 149) rfl Tryz.underlying97 Tryz.root26 Q rfl hqr.len ?_; intro w3 H3 B3 S3; have own3 := own_keep own8 B3; have L3 := below_more L8 B3 (Nat.le_refl _))
          | (refine wpList_append_roots rfl (.tmp 136) (.tmp 150) 97 rfl (w.heap.size + 2) 22 Tryz.underlying97 Tryz.root26 _ t (rs.take t) [Q] rfl own3 hqr.one ⟨w8.heap.size, 0, none⟩ 1 rfl (by intro j hj; rw [Addr.add_lit, Nat.zero_add, H3.cell j (by rw [hqr.len]; simpa using hj)]; simp) (by simp; omega) (by omega) ?_; intro v' w4 own4 grow4))
        have L4 := below_grownR L3 own3 (by omega) grow4
        have hX4 : HasC w4 w.heap.size 43 _ := (grow4.block _ (hX8.keep B3).lt (fun e => by have := (own3.lt _ e.symm).1; omega)).trans (hX8.keep B3)
        have hA4 : Has w4 (w.heap.size + 1) 22 .u8 (zeros 32) := (grow4.block _ (hA8.keep B3).lt (fun e => by have := (own3.lt _ e.symm).1; omega)).trans (hA8.keep B3)
        go_roundw
        case rel =>
          rw [HN.out.1] at own4
          exact ⟨t + 1, by omega, by go_num, own4, hX4, hA4, L4⟩
        case measure => simp [intOf]; omega
      · have ht2 : t = ks.length := by omega
        subst ht2
        rw [List.take_of_length_le (by rw [HR.out.2]; exact Nat.le_refl _)] at hown
        obtain ⟨hn1, ao1, cap1, rfl, hc1, hm1, hRA⟩ := RootsAt.own HR.out.1 hown
        have HC := hid (HT.out ao1 cap1 wr hc1 hm1 hRA)
        have HXA := hid (And.intro hX (And.intro hA hW))
        clear hX hA hW hown hRA hc1 hm1 hn1
        go_wp2_with fail
        refine HC.out.mono ?_
        rintro e w4 ⟨rfl, B4⟩
        have hd04 := cell_keep B4 hd0r
        have HX4 := hid (And.intro (HXA.out.1.keep B4) (And.intro (HXA.out.2.1.keep B4) (HXA.out.2.2.trans (B4.mono HXA.out.2.2.size))))
        have s4 := HX4.out.2.2.size
        have hp4 : p ≠ w4.heap.size := fun e => by have h := block_lt_of_cell hd04; rw [e] at h; exact Nat.lt_irrefl _ h
        have hx4 : w.heap.size ≠ w4.heap.size := by have := HX4.out.1.lt; omega
        have ha4 : w.heap.size + 1 ≠ w4.heap.size := by have := HX4.out.2.1.lt; omega
        have HPP := hid (And.intro hp4 (And.intro hx4 ha4))
        clear hp4 hx4 ha4 HC HXA B4 hk34 hd0r
        go_wp2_with ((with_reducible refine at_list' ?_); first
          | (refine wpList_alloc_has rfl 14 rfl 22 rfl .u8 32 Tryz.zero22 ?_; intro w5 H5 B5 S5)
          | (refine wpList_store_has rfl 22 (.tmp 14) (.tmp 156) rfl w4.heap.size .u8 T (zeros 32) rfl rfl 22 H5 (hTr.size _ Tryz.size22) (by rw [hTr.len, zeros_length]) ?_; intro w6 H6 O6; have hd06 := (World.cell?_of_block (a := ⟨p, 0, none⟩) (O6.block p HPP.out.1)).trans (cell_keep B5 hd04); have hX6 := (HX4.out.1.keep B5).only O6 HPP.out.2.1; have hk36 := hX6.cell (valL_34 num r sb (.slice kao ks.length kcap) hHR.out))
          | (refine wpList_load_has rfl 22 (.tmp 14) rfl w4.heap.size .u8 T rfl 22 H6 _ _ Tryz.underlying22 (hTr.size _ Tryz.size22) ?_))
        refine (HMX.out w6).mono ?_
        rintro e w7 ⟨rfl, B7⟩
        have hA7 := ((HX4.out.2.1.keep B5).only O6 HPP.out.2.2).keep B7
        have L6 := below_only (below_more HX4.out.2.2 B5 (Nat.le_refl _)) O6 (by omega)
        have L7 := hid (L6.trans (B7.mono L6.size))
        clear HX4 H5 B5 S5 H6 O6 hd06 hX6 hk36 L6 B7 hd04
        go_wp2_with ((with_reducible refine at_list' ?_); first
          | (refine wpList_store_has rfl 22 (.tmp 4) (.tmp 168) rfl (w.heap.size + 1) .u8 Z (zeros 32) rfl rfl 22 hA7 (hpr.size _ Tryz.size22) (by rw [hpr.len, zeros_length]) ?_; intro w8 H8 O8))
        refine bodyPost_ret (results_has rfl _ _ (w.heap.size + 1) 22 .u8 Z _ _ rfl H8 Tryz.underlying22 (hpr.size _ Tryz.size22)) rfl ?_
        exact ⟨rfl, below_only L7.out O8 (by omega)⟩
end Go.Proofs.YtbmcmabimfoknaaGreatDoor

/- The document's kinds of structs. -/
namespace Go.Proofs.YtbmcmabimfoknaaGreatDoor
open Go.RowKit Go.Shelf
set_option linter.unusedVariables false
set_option linter.unusedSimpArgs false
set_option maxRecDepth 100000

def dTruth : Dt := .mk 2 0 []
def dBits : Dt := .mk 7 32 []
theorem dAt_leaf2 {w : World} {p f n : Nat} (h : w.heap[p]? = some (.cells #[.int .i64 (f : Nat), .int .i64 (n : Nat), .slice none 0 0] 95 (0, 0))) : DAt w (.mk f n []) p := by
  rw [DAt]
  exact ⟨cell_of_row w p 0 _ _ (0, 0) h, cell_of_row w p 1 _ _ (0, 0) h, none, 0, cell_of_row w p 2 _ _ (0, 0) h, by simp, by simp, .inl rfl⟩
def cpD : Dt := dBox [dNum, dRoot]
set_option maxHeartbeats 1000000 in
theorem cpD_any (w : World) : Calls Tryz.prog 95 #[] w fun x w' => ∃ p, x = .returned (.pointer (some ⟨p, 0, none⟩)) ∧ DAt w' cpD p ∧ Below w.heap.size w w' := by
  go_enter Tryz.func95, Tryz.ntmps95
  go_wp2_with fail
  refine (num_any' w).mono ?_
  rintro e w1 ⟨rfl, q1, q2⟩
  have K0_0 := hid q1
  have L0 := hid (q2)
  clear q1 q2
  go_wp2_with fail
  refine (root_any' w1).mono ?_
  rintro e w2 ⟨rfl, q1, q2⟩
  have K1_0 := hid (DAt.keep q2 _ K0_0.out)
  have K1_1 := hid q1
  have L1 := hid (L0.out.trans (q2.mono L0.out.size))
  clear q1 q2 K0_0
  clear L0
  go_wp2_with fail
  have hB : Below w2.heap.size w2 (w2.alloc (.cells #[.pointer (some ⟨w.heap.size, 0, none⟩), .pointer (some ⟨w1.heap.size, 0, none⟩)] 38)) := (Below.refl _ w2).alloc (Nat.le_refl _) _
  have h := heap_alloc_new w2 (.cells #[.pointer (some ⟨w.heap.size, 0, none⟩), .pointer (some ⟨w1.heap.size, 0, none⟩)] 38)
  generalize w2.alloc (.cells #[.pointer (some ⟨w.heap.size, 0, none⟩), .pointer (some ⟨w1.heap.size, 0, none⟩)] 38) = wz at hB h ⊢
  have hD : DsAt wz [dNum, dRoot] w2.heap.size 0 := by
    rw [DsAt, DsAt, DsAt]
    exact ⟨⟨_, cell_of_row _ _ 0 _ _ (0, 0) h, DAt.keep hB _ K1_0.out⟩, ⟨_, cell_of_row _ _ 1 _ _ (0, 0) h, DAt.keep hB _ K1_1.out⟩, trivial⟩
  have HC := hid (box_any w2.heap.size 2 [dNum, dRoot] wz rfl (by decide) hD)
  have HZ := hid (L1.out.trans (hB.mono L1.out.size))
  clear hB h hD
  refine HC.out.mono ?_
  rintro e wy ⟨rfl, q1, q2⟩
  have X := hid (And.intro q1 q2)
  clear q1 q2 HC
  go_wp2
  go_ret
  exact ⟨_, rfl, X.out.1, HZ.out.trans (X.out.2.mono HZ.out.size)⟩
def hdD : Dt := dBox [dNum, dNum, dRoot, dRoot, dRoot]
set_option maxHeartbeats 1000000 in
theorem hdD_any (w : World) : Calls Tryz.prog 94 #[] w fun x w' => ∃ p, x = .returned (.pointer (some ⟨p, 0, none⟩)) ∧ DAt w' hdD p ∧ Below w.heap.size w w' := by
  go_enter Tryz.func94, Tryz.ntmps94
  go_wp2_with fail
  refine (num_any' w).mono ?_
  rintro e w1 ⟨rfl, q1, q2⟩
  have K0_0 := hid q1
  have L0 := hid (q2)
  clear q1 q2
  go_wp2_with fail
  refine (num_any' w1).mono ?_
  rintro e w2 ⟨rfl, q1, q2⟩
  have K1_0 := hid (DAt.keep q2 _ K0_0.out)
  have K1_1 := hid q1
  have L1 := hid (L0.out.trans (q2.mono L0.out.size))
  clear q1 q2 K0_0
  clear L0
  go_wp2_with fail
  refine (root_any' w2).mono ?_
  rintro e w3 ⟨rfl, q1, q2⟩
  have K2_0 := hid (DAt.keep q2 _ K1_0.out)
  have K2_1 := hid (DAt.keep q2 _ K1_1.out)
  have K2_2 := hid q1
  have L2 := hid (L1.out.trans (q2.mono L1.out.size))
  clear q1 q2 K1_0 K1_1
  clear L1
  go_wp2_with fail
  refine (root_any' w3).mono ?_
  rintro e w4 ⟨rfl, q1, q2⟩
  have K3_0 := hid (DAt.keep q2 _ K2_0.out)
  have K3_1 := hid (DAt.keep q2 _ K2_1.out)
  have K3_2 := hid (DAt.keep q2 _ K2_2.out)
  have K3_3 := hid q1
  have L3 := hid (L2.out.trans (q2.mono L2.out.size))
  clear q1 q2 K2_0 K2_1 K2_2
  clear L2
  go_wp2_with fail
  refine (root_any' w4).mono ?_
  rintro e w5 ⟨rfl, q1, q2⟩
  have K4_0 := hid (DAt.keep q2 _ K3_0.out)
  have K4_1 := hid (DAt.keep q2 _ K3_1.out)
  have K4_2 := hid (DAt.keep q2 _ K3_2.out)
  have K4_3 := hid (DAt.keep q2 _ K3_3.out)
  have K4_4 := hid q1
  have L4 := hid (L3.out.trans (q2.mono L3.out.size))
  clear q1 q2 K3_0 K3_1 K3_2 K3_3
  clear L3
  go_wp2_with fail
  have hB : Below w5.heap.size w5 (w5.alloc (.cells #[.pointer (some ⟨w.heap.size, 0, none⟩), .pointer (some ⟨w1.heap.size, 0, none⟩), .pointer (some ⟨w2.heap.size, 0, none⟩), .pointer (some ⟨w3.heap.size, 0, none⟩), .pointer (some ⟨w4.heap.size, 0, none⟩)] 38)) := (Below.refl _ w5).alloc (Nat.le_refl _) _
  have h := heap_alloc_new w5 (.cells #[.pointer (some ⟨w.heap.size, 0, none⟩), .pointer (some ⟨w1.heap.size, 0, none⟩), .pointer (some ⟨w2.heap.size, 0, none⟩), .pointer (some ⟨w3.heap.size, 0, none⟩), .pointer (some ⟨w4.heap.size, 0, none⟩)] 38)
  generalize w5.alloc (.cells #[.pointer (some ⟨w.heap.size, 0, none⟩), .pointer (some ⟨w1.heap.size, 0, none⟩), .pointer (some ⟨w2.heap.size, 0, none⟩), .pointer (some ⟨w3.heap.size, 0, none⟩), .pointer (some ⟨w4.heap.size, 0, none⟩)] 38) = wz at hB h ⊢
  have hD : DsAt wz [dNum, dNum, dRoot, dRoot, dRoot] w5.heap.size 0 := by
    rw [DsAt, DsAt, DsAt, DsAt, DsAt, DsAt]
    exact ⟨⟨_, cell_of_row _ _ 0 _ _ (0, 0) h, DAt.keep hB _ K4_0.out⟩, ⟨_, cell_of_row _ _ 1 _ _ (0, 0) h, DAt.keep hB _ K4_1.out⟩, ⟨_, cell_of_row _ _ 2 _ _ (0, 0) h, DAt.keep hB _ K4_2.out⟩, ⟨_, cell_of_row _ _ 3 _ _ (0, 0) h, DAt.keep hB _ K4_3.out⟩, ⟨_, cell_of_row _ _ 4 _ _ (0, 0) h, DAt.keep hB _ K4_4.out⟩, trivial⟩
  have HC := hid (box_any w5.heap.size 5 [dNum, dNum, dRoot, dRoot, dRoot] wz rfl (by decide) hD)
  have HZ := hid (L4.out.trans (hB.mono L4.out.size))
  clear hB h hD
  refine HC.out.mono ?_
  rintro e wy ⟨rfl, q1, q2⟩
  have X := hid (And.intro q1 q2)
  clear q1 q2 HC
  go_wp2
  go_ret
  exact ⟨_, rfl, X.out.1, HZ.out.trans (X.out.2.mono HZ.out.size)⟩
def exD : Dt := dBox [dNum, dNum]
set_option maxHeartbeats 1000000 in
theorem exD_any (w : World) : Calls Tryz.prog 82 #[] w fun x w' => ∃ p, x = .returned (.pointer (some ⟨p, 0, none⟩)) ∧ DAt w' exD p ∧ Below w.heap.size w w' := by
  go_enter Tryz.func82, Tryz.ntmps82
  go_wp2_with fail
  refine (num_any' w).mono ?_
  rintro e w1 ⟨rfl, q1, q2⟩
  have K0_0 := hid q1
  have L0 := hid (q2)
  clear q1 q2
  go_wp2_with fail
  refine (num_any' w1).mono ?_
  rintro e w2 ⟨rfl, q1, q2⟩
  have K1_0 := hid (DAt.keep q2 _ K0_0.out)
  have K1_1 := hid q1
  have L1 := hid (L0.out.trans (q2.mono L0.out.size))
  clear q1 q2 K0_0
  clear L0
  go_wp2_with fail
  have hB : Below w2.heap.size w2 (w2.alloc (.cells #[.pointer (some ⟨w.heap.size, 0, none⟩), .pointer (some ⟨w1.heap.size, 0, none⟩)] 38)) := (Below.refl _ w2).alloc (Nat.le_refl _) _
  have h := heap_alloc_new w2 (.cells #[.pointer (some ⟨w.heap.size, 0, none⟩), .pointer (some ⟨w1.heap.size, 0, none⟩)] 38)
  generalize w2.alloc (.cells #[.pointer (some ⟨w.heap.size, 0, none⟩), .pointer (some ⟨w1.heap.size, 0, none⟩)] 38) = wz at hB h ⊢
  have hD : DsAt wz [dNum, dNum] w2.heap.size 0 := by
    rw [DsAt, DsAt, DsAt]
    exact ⟨⟨_, cell_of_row _ _ 0 _ _ (0, 0) h, DAt.keep hB _ K1_0.out⟩, ⟨_, cell_of_row _ _ 1 _ _ (0, 0) h, DAt.keep hB _ K1_1.out⟩, trivial⟩
  have HC := hid (box_any w2.heap.size 2 [dNum, dNum] wz rfl (by decide) hD)
  have HZ := hid (L1.out.trans (hB.mono L1.out.size))
  clear hB h hD
  refine HC.out.mono ?_
  rintro e wy ⟨rfl, q1, q2⟩
  have X := hid (And.intro q1 q2)
  clear q1 q2 HC
  go_wp2
  go_ret
  exact ⟨_, rfl, X.out.1, HZ.out.trans (X.out.2.mono HZ.out.size)⟩
def sxD : Dt := dBox [exD, dRoot]
set_option maxHeartbeats 1000000 in
theorem sxD_any (w : World) : Calls Tryz.prog 47 #[] w fun x w' => ∃ p, x = .returned (.pointer (some ⟨p, 0, none⟩)) ∧ DAt w' sxD p ∧ Below w.heap.size w w' := by
  go_enter Tryz.func47, Tryz.ntmps47
  go_wp2_with fail
  refine (exD_any w).mono ?_
  rintro e w1 ⟨p0, rfl, q1, q2⟩
  have K0_0 := hid q1
  have L0 := hid (q2)
  clear q1 q2
  go_wp2_with fail
  refine (root_any' w1).mono ?_
  rintro e w2 ⟨rfl, q1, q2⟩
  have K1_0 := hid (DAt.keep q2 _ K0_0.out)
  have K1_1 := hid q1
  have L1 := hid (L0.out.trans (q2.mono L0.out.size))
  clear q1 q2 K0_0
  clear L0
  go_wp2_with fail
  have hB : Below w2.heap.size w2 (w2.alloc (.cells #[.pointer (some ⟨p0, 0, none⟩), .pointer (some ⟨w1.heap.size, 0, none⟩)] 38)) := (Below.refl _ w2).alloc (Nat.le_refl _) _
  have h := heap_alloc_new w2 (.cells #[.pointer (some ⟨p0, 0, none⟩), .pointer (some ⟨w1.heap.size, 0, none⟩)] 38)
  generalize w2.alloc (.cells #[.pointer (some ⟨p0, 0, none⟩), .pointer (some ⟨w1.heap.size, 0, none⟩)] 38) = wz at hB h ⊢
  have hD : DsAt wz [exD, dRoot] w2.heap.size 0 := by
    rw [DsAt, DsAt, DsAt]
    exact ⟨⟨_, cell_of_row _ _ 0 _ _ (0, 0) h, DAt.keep hB _ K1_0.out⟩, ⟨_, cell_of_row _ _ 1 _ _ (0, 0) h, DAt.keep hB _ K1_1.out⟩, trivial⟩
  have HC := hid (box_any w2.heap.size 2 [exD, dRoot] wz rfl (by decide) hD)
  have HZ := hid (L1.out.trans (hB.mono L1.out.size))
  clear hB h hD
  refine HC.out.mono ?_
  rintro e wy ⟨rfl, q1, q2⟩
  have X := hid (And.intro q1 q2)
  clear q1 q2 HC
  go_wp2
  go_ret
  exact ⟨_, rfl, X.out.1, HZ.out.trans (X.out.2.mono HZ.out.size)⟩
def vtD : Dt := dBox [dNum, dNum, dRoot, cpD, cpD]
set_option maxHeartbeats 1000000 in
theorem vtD_any (w : World) : Calls Tryz.prog 79 #[] w fun x w' => ∃ p, x = .returned (.pointer (some ⟨p, 0, none⟩)) ∧ DAt w' vtD p ∧ Below w.heap.size w w' := by
  go_enter Tryz.func79, Tryz.ntmps79
  go_wp2_with fail
  refine (num_any' w).mono ?_
  rintro e w1 ⟨rfl, q1, q2⟩
  have K0_0 := hid q1
  have L0 := hid (q2)
  clear q1 q2
  go_wp2_with fail
  refine (num_any' w1).mono ?_
  rintro e w2 ⟨rfl, q1, q2⟩
  have K1_0 := hid (DAt.keep q2 _ K0_0.out)
  have K1_1 := hid q1
  have L1 := hid (L0.out.trans (q2.mono L0.out.size))
  clear q1 q2 K0_0
  clear L0
  go_wp2_with fail
  refine (root_any' w2).mono ?_
  rintro e w3 ⟨rfl, q1, q2⟩
  have K2_0 := hid (DAt.keep q2 _ K1_0.out)
  have K2_1 := hid (DAt.keep q2 _ K1_1.out)
  have K2_2 := hid q1
  have L2 := hid (L1.out.trans (q2.mono L1.out.size))
  clear q1 q2 K1_0 K1_1
  clear L1
  go_wp2_with fail
  refine (cpD_any w3).mono ?_
  rintro e w4 ⟨p3, rfl, q1, q2⟩
  have K3_0 := hid (DAt.keep q2 _ K2_0.out)
  have K3_1 := hid (DAt.keep q2 _ K2_1.out)
  have K3_2 := hid (DAt.keep q2 _ K2_2.out)
  have K3_3 := hid q1
  have L3 := hid (L2.out.trans (q2.mono L2.out.size))
  clear q1 q2 K2_0 K2_1 K2_2
  clear L2
  go_wp2_with fail
  refine (cpD_any w4).mono ?_
  rintro e w5 ⟨p4, rfl, q1, q2⟩
  have K4_0 := hid (DAt.keep q2 _ K3_0.out)
  have K4_1 := hid (DAt.keep q2 _ K3_1.out)
  have K4_2 := hid (DAt.keep q2 _ K3_2.out)
  have K4_3 := hid (DAt.keep q2 _ K3_3.out)
  have K4_4 := hid q1
  have L4 := hid (L3.out.trans (q2.mono L3.out.size))
  clear q1 q2 K3_0 K3_1 K3_2 K3_3
  clear L3
  go_wp2_with fail
  have hB : Below w5.heap.size w5 (w5.alloc (.cells #[.pointer (some ⟨w.heap.size, 0, none⟩), .pointer (some ⟨w1.heap.size, 0, none⟩), .pointer (some ⟨w2.heap.size, 0, none⟩), .pointer (some ⟨p3, 0, none⟩), .pointer (some ⟨p4, 0, none⟩)] 38)) := (Below.refl _ w5).alloc (Nat.le_refl _) _
  have h := heap_alloc_new w5 (.cells #[.pointer (some ⟨w.heap.size, 0, none⟩), .pointer (some ⟨w1.heap.size, 0, none⟩), .pointer (some ⟨w2.heap.size, 0, none⟩), .pointer (some ⟨p3, 0, none⟩), .pointer (some ⟨p4, 0, none⟩)] 38)
  generalize w5.alloc (.cells #[.pointer (some ⟨w.heap.size, 0, none⟩), .pointer (some ⟨w1.heap.size, 0, none⟩), .pointer (some ⟨w2.heap.size, 0, none⟩), .pointer (some ⟨p3, 0, none⟩), .pointer (some ⟨p4, 0, none⟩)] 38) = wz at hB h ⊢
  have hD : DsAt wz [dNum, dNum, dRoot, cpD, cpD] w5.heap.size 0 := by
    rw [DsAt, DsAt, DsAt, DsAt, DsAt, DsAt]
    exact ⟨⟨_, cell_of_row _ _ 0 _ _ (0, 0) h, DAt.keep hB _ K4_0.out⟩, ⟨_, cell_of_row _ _ 1 _ _ (0, 0) h, DAt.keep hB _ K4_1.out⟩, ⟨_, cell_of_row _ _ 2 _ _ (0, 0) h, DAt.keep hB _ K4_2.out⟩, ⟨_, cell_of_row _ _ 3 _ _ (0, 0) h, DAt.keep hB _ K4_3.out⟩, ⟨_, cell_of_row _ _ 4 _ _ (0, 0) h, DAt.keep hB _ K4_4.out⟩, trivial⟩
  have HC := hid (box_any w5.heap.size 5 [dNum, dNum, dRoot, cpD, cpD] wz rfl (by decide) hD)
  have HZ := hid (L4.out.trans (hB.mono L4.out.size))
  clear hB h hD
  refine HC.out.mono ?_
  rintro e wy ⟨rfl, q1, q2⟩
  have X := hid (And.intro q1 q2)
  clear q1 q2 HC
  go_wp2
  go_ret
  exact ⟨_, rfl, X.out.1, HZ.out.trans (X.out.2.mono HZ.out.size)⟩
def shD : Dt := dBox [hdD, dRoot]
set_option maxHeartbeats 1000000 in
theorem shD_any (w : World) : Calls Tryz.prog 77 #[] w fun x w' => ∃ p, x = .returned (.pointer (some ⟨p, 0, none⟩)) ∧ DAt w' shD p ∧ Below w.heap.size w w' := by
  go_enter Tryz.func77, Tryz.ntmps77
  go_wp2_with fail
  refine (hdD_any w).mono ?_
  rintro e w1 ⟨p0, rfl, q1, q2⟩
  have K0_0 := hid q1
  have L0 := hid (q2)
  clear q1 q2
  go_wp2_with fail
  refine (root_any' w1).mono ?_
  rintro e w2 ⟨rfl, q1, q2⟩
  have K1_0 := hid (DAt.keep q2 _ K0_0.out)
  have K1_1 := hid q1
  have L1 := hid (L0.out.trans (q2.mono L0.out.size))
  clear q1 q2 K0_0
  clear L0
  go_wp2_with fail
  have hB : Below w2.heap.size w2 (w2.alloc (.cells #[.pointer (some ⟨p0, 0, none⟩), .pointer (some ⟨w1.heap.size, 0, none⟩)] 38)) := (Below.refl _ w2).alloc (Nat.le_refl _) _
  have h := heap_alloc_new w2 (.cells #[.pointer (some ⟨p0, 0, none⟩), .pointer (some ⟨w1.heap.size, 0, none⟩)] 38)
  generalize w2.alloc (.cells #[.pointer (some ⟨p0, 0, none⟩), .pointer (some ⟨w1.heap.size, 0, none⟩)] 38) = wz at hB h ⊢
  have hD : DsAt wz [hdD, dRoot] w2.heap.size 0 := by
    rw [DsAt, DsAt, DsAt]
    exact ⟨⟨_, cell_of_row _ _ 0 _ _ (0, 0) h, DAt.keep hB _ K1_0.out⟩, ⟨_, cell_of_row _ _ 1 _ _ (0, 0) h, DAt.keep hB _ K1_1.out⟩, trivial⟩
  have HC := hid (box_any w2.heap.size 2 [hdD, dRoot] wz rfl (by decide) hD)
  have HZ := hid (L1.out.trans (hB.mono L1.out.size))
  clear hB h hD
  refine HC.out.mono ?_
  rintro e wy ⟨rfl, q1, q2⟩
  have X := hid (And.intro q1 q2)
  clear q1 q2 HC
  go_wp2
  go_ret
  exact ⟨_, rfl, X.out.1, HZ.out.trans (X.out.2.mono HZ.out.size)⟩
def psD : Dt := dBox [shD, shD]
set_option maxHeartbeats 1000000 in
theorem psD_any (w : World) : Calls Tryz.prog 43 #[] w fun x w' => ∃ p, x = .returned (.pointer (some ⟨p, 0, none⟩)) ∧ DAt w' psD p ∧ Below w.heap.size w w' := by
  go_enter Tryz.func43, Tryz.ntmps43
  go_wp2_with fail
  refine (shD_any w).mono ?_
  rintro e w1 ⟨p0, rfl, q1, q2⟩
  have K0_0 := hid q1
  have L0 := hid (q2)
  clear q1 q2
  go_wp2_with fail
  refine (shD_any w1).mono ?_
  rintro e w2 ⟨p1, rfl, q1, q2⟩
  have K1_0 := hid (DAt.keep q2 _ K0_0.out)
  have K1_1 := hid q1
  have L1 := hid (L0.out.trans (q2.mono L0.out.size))
  clear q1 q2 K0_0
  clear L0
  go_wp2_with fail
  have hB : Below w2.heap.size w2 (w2.alloc (.cells #[.pointer (some ⟨p0, 0, none⟩), .pointer (some ⟨p1, 0, none⟩)] 38)) := (Below.refl _ w2).alloc (Nat.le_refl _) _
  have h := heap_alloc_new w2 (.cells #[.pointer (some ⟨p0, 0, none⟩), .pointer (some ⟨p1, 0, none⟩)] 38)
  generalize w2.alloc (.cells #[.pointer (some ⟨p0, 0, none⟩), .pointer (some ⟨p1, 0, none⟩)] 38) = wz at hB h ⊢
  have hD : DsAt wz [shD, shD] w2.heap.size 0 := by
    rw [DsAt, DsAt, DsAt]
    exact ⟨⟨_, cell_of_row _ _ 0 _ _ (0, 0) h, DAt.keep hB _ K1_0.out⟩, ⟨_, cell_of_row _ _ 1 _ _ (0, 0) h, DAt.keep hB _ K1_1.out⟩, trivial⟩
  have HC := hid (box_any w2.heap.size 2 [shD, shD] wz rfl (by decide) hD)
  have HZ := hid (L1.out.trans (hB.mono L1.out.size))
  clear hB h hD
  refine HC.out.mono ?_
  rintro e wy ⟨rfl, q1, q2⟩
  have X := hid (And.intro q1 q2)
  clear q1 q2 HC
  go_wp2
  go_ret
  exact ⟨_, rfl, X.out.1, HZ.out.trans (X.out.2.mono HZ.out.size)⟩
def ddD : Dt := dBox [dRoot, dRoot, dNum, dRoot]
set_option maxHeartbeats 1000000 in
theorem ddD_any (w : World) : Calls Tryz.prog 81 #[] w fun x w' => ∃ p, x = .returned (.pointer (some ⟨p, 0, none⟩)) ∧ DAt w' ddD p ∧ Below w.heap.size w w' := by
  go_enter Tryz.func81, Tryz.ntmps81
  go_wp2_with fail
  refine (root_any' w).mono ?_
  rintro e w1 ⟨rfl, q1, q2⟩
  have K0_0 := hid q1
  have L0 := hid (q2)
  clear q1 q2
  go_wp2_with fail
  refine (root_any' w1).mono ?_
  rintro e w2 ⟨rfl, q1, q2⟩
  have K1_0 := hid (DAt.keep q2 _ K0_0.out)
  have K1_1 := hid q1
  have L1 := hid (L0.out.trans (q2.mono L0.out.size))
  clear q1 q2 K0_0
  clear L0
  go_wp2_with fail
  refine (num_any' w2).mono ?_
  rintro e w3 ⟨rfl, q1, q2⟩
  have K2_0 := hid (DAt.keep q2 _ K1_0.out)
  have K2_1 := hid (DAt.keep q2 _ K1_1.out)
  have K2_2 := hid q1
  have L2 := hid (L1.out.trans (q2.mono L1.out.size))
  clear q1 q2 K1_0 K1_1
  clear L1
  go_wp2_with fail
  refine (root_any' w3).mono ?_
  rintro e w4 ⟨rfl, q1, q2⟩
  have K3_0 := hid (DAt.keep q2 _ K2_0.out)
  have K3_1 := hid (DAt.keep q2 _ K2_1.out)
  have K3_2 := hid (DAt.keep q2 _ K2_2.out)
  have K3_3 := hid q1
  have L3 := hid (L2.out.trans (q2.mono L2.out.size))
  clear q1 q2 K2_0 K2_1 K2_2
  clear L2
  go_wp2_with fail
  have hB : Below w4.heap.size w4 (w4.alloc (.cells #[.pointer (some ⟨w.heap.size, 0, none⟩), .pointer (some ⟨w1.heap.size, 0, none⟩), .pointer (some ⟨w2.heap.size, 0, none⟩), .pointer (some ⟨w3.heap.size, 0, none⟩)] 38)) := (Below.refl _ w4).alloc (Nat.le_refl _) _
  have h := heap_alloc_new w4 (.cells #[.pointer (some ⟨w.heap.size, 0, none⟩), .pointer (some ⟨w1.heap.size, 0, none⟩), .pointer (some ⟨w2.heap.size, 0, none⟩), .pointer (some ⟨w3.heap.size, 0, none⟩)] 38)
  generalize w4.alloc (.cells #[.pointer (some ⟨w.heap.size, 0, none⟩), .pointer (some ⟨w1.heap.size, 0, none⟩), .pointer (some ⟨w2.heap.size, 0, none⟩), .pointer (some ⟨w3.heap.size, 0, none⟩)] 38) = wz at hB h ⊢
  have hD : DsAt wz [dRoot, dRoot, dNum, dRoot] w4.heap.size 0 := by
    rw [DsAt, DsAt, DsAt, DsAt, DsAt]
    exact ⟨⟨_, cell_of_row _ _ 0 _ _ (0, 0) h, DAt.keep hB _ K3_0.out⟩, ⟨_, cell_of_row _ _ 1 _ _ (0, 0) h, DAt.keep hB _ K3_1.out⟩, ⟨_, cell_of_row _ _ 2 _ _ (0, 0) h, DAt.keep hB _ K3_2.out⟩, ⟨_, cell_of_row _ _ 3 _ _ (0, 0) h, DAt.keep hB _ K3_3.out⟩, trivial⟩
  have HC := hid (box_any w4.heap.size 4 [dRoot, dRoot, dNum, dRoot] wz rfl (by decide) hD)
  have HZ := hid (L3.out.trans (hB.mono L3.out.size))
  clear hB h hD
  refine HC.out.mono ?_
  rintro e wy ⟨rfl, q1, q2⟩
  have X := hid (And.intro q1 q2)
  clear q1 q2 HC
  go_wp2
  go_ret
  exact ⟨_, rfl, X.out.1, HZ.out.trans (X.out.2.mono HZ.out.size)⟩
def atD : Dt := dBox [dBits, vtD, dRoot]
set_option maxHeartbeats 1000000 in
theorem atD_any (w : World) : Calls Tryz.prog 45 #[] w fun x w' => ∃ p, x = .returned (.pointer (some ⟨p, 0, none⟩)) ∧ DAt w' atD p ∧ Below w.heap.size w w' := by
  go_enter Tryz.func45, Tryz.ntmps45
  go_wp2_with fail
  have q1 : DAt (w.alloc (.cells #[.int .i64 7, .int .i64 32, .slice none 0 0] 95)) dBits w.heap.size := dAt_leaf2 (f := 7) (n := 32) (heap_alloc_new w _)
  have q2 : Below w.heap.size w (w.alloc (.cells #[.int .i64 7, .int .i64 32, .slice none 0 0] 95)) := (Below.refl _ w).alloc (Nat.le_refl _) _
  generalize w.alloc (.cells #[.int .i64 7, .int .i64 32, .slice none 0 0] 95) = w1 at q1 q2 ⊢
  have K0_0 := hid q1
  have L0 := hid (q2)
  clear q1 q2
  go_wp2_with fail
  refine (vtD_any w1).mono ?_
  rintro e w2 ⟨p1, rfl, q1, q2⟩
  have K1_0 := hid (DAt.keep q2 _ K0_0.out)
  have K1_1 := hid q1
  have L1 := hid (L0.out.trans (q2.mono L0.out.size))
  clear q1 q2 K0_0
  clear L0
  go_wp2_with fail
  refine (root_any' w2).mono ?_
  rintro e w3 ⟨rfl, q1, q2⟩
  have K2_0 := hid (DAt.keep q2 _ K1_0.out)
  have K2_1 := hid (DAt.keep q2 _ K1_1.out)
  have K2_2 := hid q1
  have L2 := hid (L1.out.trans (q2.mono L1.out.size))
  clear q1 q2 K1_0 K1_1
  clear L1
  go_wp2_with fail
  have hB : Below w3.heap.size w3 (w3.alloc (.cells #[.pointer (some ⟨w.heap.size, 0, none⟩), .pointer (some ⟨p1, 0, none⟩), .pointer (some ⟨w2.heap.size, 0, none⟩)] 38)) := (Below.refl _ w3).alloc (Nat.le_refl _) _
  have h := heap_alloc_new w3 (.cells #[.pointer (some ⟨w.heap.size, 0, none⟩), .pointer (some ⟨p1, 0, none⟩), .pointer (some ⟨w2.heap.size, 0, none⟩)] 38)
  generalize w3.alloc (.cells #[.pointer (some ⟨w.heap.size, 0, none⟩), .pointer (some ⟨p1, 0, none⟩), .pointer (some ⟨w2.heap.size, 0, none⟩)] 38) = wz at hB h ⊢
  have hD : DsAt wz [dBits, vtD, dRoot] w3.heap.size 0 := by
    rw [DsAt, DsAt, DsAt, DsAt]
    exact ⟨⟨_, cell_of_row _ _ 0 _ _ (0, 0) h, DAt.keep hB _ K2_0.out⟩, ⟨_, cell_of_row _ _ 1 _ _ (0, 0) h, DAt.keep hB _ K2_1.out⟩, ⟨_, cell_of_row _ _ 2 _ _ (0, 0) h, DAt.keep hB _ K2_2.out⟩, trivial⟩
  have HC := hid (box_any w3.heap.size 3 [dBits, vtD, dRoot] wz rfl (by decide) hD)
  have HZ := hid (L2.out.trans (hB.mono L2.out.size))
  clear hB h hD
  refine HC.out.mono ?_
  rintro e wy ⟨rfl, q1, q2⟩
  have X := hid (And.intro q1 q2)
  clear q1 q2 HC
  go_wp2
  go_ret
  exact ⟨_, rfl, X.out.1, HZ.out.trans (X.out.2.mono HZ.out.size)⟩
end Go.Proofs.YtbmcmabimfoknaaGreatDoor

/- The document's kind of a list. -/
namespace Go.Proofs.YtbmcmabimfoknaaGreatDoor
open Go.RowKit Go.Shelf
set_option linter.unusedVariables false
set_option maxRecDepth 100000

set_option maxHeartbeats 1000000 in
theorem many_any (p n : Nat) (d : Dt) (w : World) (hD : DAt w d p) : Calls Tryz.prog 42 #[.pointer (some ⟨p, 0, none⟩), .int .i64 (n : Nat)] w fun x w' => ∃ q, x = .returned (.pointer (some ⟨q, 0, none⟩)) ∧ DAt w' (.mk 5 n [d]) q ∧ Below w.heap.size w w' := by
  have HD := hid hD
  clear hD
  go_enter Tryz.func42, Tryz.ntmps42
  go_wp2
  go_ret
  have B1 : Below w.heap.size w (w.alloc (.cells #[.pointer (some ⟨p, 0, none⟩)] 38)) := (Below.refl _ w).alloc (Nat.le_refl _) _
  have h1 := heap_alloc_new w (.cells #[.pointer (some ⟨p, 0, none⟩)] 38)
  have s1 : (w.alloc (.cells #[.pointer (some ⟨p, 0, none⟩)] 38)).heap.size = w.heap.size + 1 := by simp
  generalize w.alloc (.cells #[.pointer (some ⟨p, 0, none⟩)] 38) = w1 at *
  have B2 : Below w1.heap.size w1 (w1.alloc (.cells #[.int .i64 5, .int .i64 (n : Nat), .slice (some ⟨w.heap.size, 0, none⟩) 1 1] 95)) := (Below.refl _ w1).alloc (Nat.le_refl _) _
  have h2 := heap_alloc_new w1 (.cells #[.int .i64 5, .int .i64 (n : Nat), .slice (some ⟨w.heap.size, 0, none⟩) 1 1] 95)
  refine ⟨w.heap.size + 1, rfl, ?_, B1.trans (B2.mono B1.size)⟩
  rw [s1] at h2
  rw [DAt]
  refine ⟨cell_of_row _ _ 0 _ _ (0, 0) h2, cell_of_row _ _ 1 _ _ (0, 0) h2, some ⟨w.heap.size, 0, none⟩, 1, cell_of_row _ _ 2 _ _ (0, 0) h2, Nat.le_refl _, by decide, .inr ⟨w.heap.size, 0, rfl, ?_⟩⟩
  rw [DsAt, DsAt]
  exact ⟨⟨p, cell_keep B2 (cell_of_row _ _ 0 _ _ (0, 0) h1), DAt.keep B2 _ (DAt.keep B1 _ HD.out)⟩, trivial⟩
end Go.Proofs.YtbmcmabimfoknaaGreatDoor

/- The document's kind of an Indexed. -/
namespace Go.Proofs.YtbmcmabimfoknaaGreatDoor
open Go.RowKit Go.Shelf
set_option linter.unusedVariables false
set_option maxRecDepth 100000

def dNums : Dt := .mk 5 32 [dNum]
def ixD : Dt := dBox [dNums, vtD, dRoot]
set_option maxHeartbeats 1000000 in
theorem ixD_any (w : World) : Calls Tryz.prog 78 #[] w fun x w' => ∃ p, x = .returned (.pointer (some ⟨p, 0, none⟩)) ∧ DAt w' ixD p ∧ Below w.heap.size w w' := by
  go_enter Tryz.func78, Tryz.ntmps78
  go_wp2_with fail
  refine (num_any' w).mono ?_
  rintro e w0 ⟨rfl, q1, q2⟩
  have HM := hid (many_any w.heap.size 32 dNum w0 q1)
  have L0 := hid q2
  clear q1 q2
  go_wp2_with fail
  refine HM.out.mono ?_
  rintro e w1 ⟨p0, rfl, q1, q2⟩
  have K0_0 := hid q1
  have L1 := hid (L0.out.trans (q2.mono L0.out.size))
  clear q1 q2 HM L0
  go_wp2_with fail
  refine (vtD_any w1).mono ?_
  rintro e w2 ⟨p1, rfl, q1, q2⟩
  have K1_0 := hid (DAt.keep q2 _ K0_0.out)
  have K1_1 := hid q1
  have L2 := hid (L1.out.trans (q2.mono L1.out.size))
  clear q1 q2 K0_0 L1
  go_wp2_with fail
  refine (root_any' w2).mono ?_
  rintro e w3 ⟨rfl, q1, q2⟩
  have K2_0 := hid (DAt.keep q2 _ K1_0.out)
  have K2_1 := hid (DAt.keep q2 _ K1_1.out)
  have K2_2 := hid q1
  have L3 := hid (L2.out.trans (q2.mono L2.out.size))
  clear q1 q2 K1_0 K1_1 L2
  go_wp2_with fail
  have hB : Below w3.heap.size w3 (w3.alloc (.cells #[.pointer (some ⟨p0, 0, none⟩), .pointer (some ⟨p1, 0, none⟩), .pointer (some ⟨w2.heap.size, 0, none⟩)] 38)) := (Below.refl _ w3).alloc (Nat.le_refl _) _
  have h := heap_alloc_new w3 (.cells #[.pointer (some ⟨p0, 0, none⟩), .pointer (some ⟨p1, 0, none⟩), .pointer (some ⟨w2.heap.size, 0, none⟩)] 38)
  generalize w3.alloc (.cells #[.pointer (some ⟨p0, 0, none⟩), .pointer (some ⟨p1, 0, none⟩), .pointer (some ⟨w2.heap.size, 0, none⟩)] 38) = wz at hB h ⊢
  have hD : DsAt wz [dNums, vtD, dRoot] w3.heap.size 0 := by
    rw [DsAt, DsAt, DsAt, DsAt]
    exact ⟨⟨_, cell_of_row _ _ 0 _ _ (0, 0) h, DAt.keep hB _ K2_0.out⟩, ⟨_, cell_of_row _ _ 1 _ _ (0, 0) h, DAt.keep hB _ K2_1.out⟩, ⟨_, cell_of_row _ _ 2 _ _ (0, 0) h, DAt.keep hB _ K2_2.out⟩, trivial⟩
  have HC := hid (box_any w3.heap.size 3 [dNums, vtD, dRoot] wz rfl (by decide) hD)
  have HZ := hid (L3.out.trans (hB.mono L3.out.size))
  clear hB h hD
  refine HC.out.mono ?_
  rintro e wy ⟨rfl, q1, q2⟩
  have X := hid (And.intro q1 q2)
  clear q1 q2 HC
  go_wp2
  go_ret
  exact ⟨_, rfl, X.out.1, HZ.out.trans (X.out.2.mono HZ.out.size)⟩
end Go.Proofs.YtbmcmabimfoknaaGreatDoor

