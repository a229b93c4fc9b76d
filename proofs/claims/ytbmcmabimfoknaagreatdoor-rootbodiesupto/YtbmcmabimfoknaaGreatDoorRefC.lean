/- Contract of the document's Chunks. -/
import Derived.Test.YtbmcmabimfoknaaGreatDoorRefV
namespace Go.Proofs.YtbmcmabimfoknaaGreatDoor
set_option maxRecDepth 100000
open Go.RowKit
set_option linter.unusedVariables false

/-- Bytes in parts, one behind the other: the bytes, and 0 behind. -/
theorem chunks_flat (b : List Nat) (hb : ∀ z ∈ b, z < 256) : (chunks b).flatten = b ++ zeros (32 * ((b.length + 31) / 32) - b.length) := by
  have hr := chunks_rts b hb
  have hl := flat_length _ hr
  rw [chunks_length] at hl
  apply ext_getD
  · rw [hl, List.length_append, zeros_length]; omega
  · intro i hi
    rw [hl] at hi
    have h1 := flat_getD (chunks b) hr (i / 32) (i % 32) (by rw [chunks_length]; omega) (by omega)
    rw [show 32 * (i / 32) + i % 32 = i by omega] at h1
    have h2 : (chunks b).getD (i / 32) [] = chunkAt b (i / 32) := by
      unfold chunks
      simp [show i / 32 < (b.length + 31) / 32 by omega]
    rw [h1, h2, chunkAt_getD b _ _ (by omega), show 32 * (i / 32) + i % 32 = i by omega, append_getD]
    by_cases h3 : i < b.length
    · rw [if_pos h3]
    · rw [if_neg h3]
      simp only [List.getD_eq_getElem?_getD, zeros]
      rw [List.getElem?_eq_none (by omega), List.getElem?_replicate]
      split <;> rfl
theorem take_bytes (b : List Nat) (hb : ∀ z ∈ b, z < 256) (t : Nat) : ∀ z ∈ b.take t, z < 256 := fun z hz => hb z (List.mem_of_mem_take hz)
/-- One byte more, where there is room for it. -/
theorem chunks_put (b : List Nat) (hb : ∀ z ∈ b, z < 256) (t m : Nat) (rs : List (List Nat)) (ht : t < b.length) (hm : m = (t + 1 + 31) / 32) (hf : rs.flatten = b.take t ++ zeros (32 * m - t)) :
    (cellsOf rs).set t (.int .u8 (b.getD t 0 : Nat)) = cellsOf (chunks (b.take (t + 1))) := by
  have h1 := chunks_flat (b.take (t + 1)) (take_bytes b hb _)
  rw [List.length_take, Nat.min_eq_left (by omega), ← hm] at h1
  unfold cellsOf
  rw [h1, hf, ← List.map_set]
  congr 1
  have hl : (b.take t).length = t := by rw [List.length_take]; omega
  rw [List.set_append, if_neg (by omega), hl, Nat.sub_self]
  unfold zeros
  rw [show 32 * m - t = 32 * m - (t + 1) + 1 by omega, List.replicate_succ, List.set_cons_zero, List.take_add_one, List.getElem?_eq_getElem ht, List.append_assoc, List.getD_eq_getElem?_getD, List.getElem?_eq_getElem ht]
  rfl
theorem run_inner {o : Oper} {a : Act} {w : World} (x y : Operand) (ho : o.op = .indexAddr 22 x y) (g o1 k q : Nat) (hx : a.eval x = .pointer (some ⟨g, o1, none⟩)) (hy : a.eval y = .int .i64 (k : Int)) (hk : k < 32) (hq : q = o1 + k) :
    (execOp a.eval o).run Tryz.prog w = .ok (.value (.pointer (some ⟨g, q, none⟩))) w := by
  subst hq
  unfold execOp
  simp only [ho, hx, hy]
  go_simp
  intro h32
  exact absurd h32 (by omega)
theorem row_some32 {w : World} {base n : Nat} {e : TypeId} {v : Value} {xs : List Value} (h : w.ownsRow base e 32 v n xs) (h0 : 0 < n) : ∃ g cap, base ≤ g ∧ v = .slice (some ⟨g, 0, none⟩) n cap ∧ g < w.heap.size := by
  obtain ⟨_, ⟨_, h1⟩ | ⟨g, cap, cur, rfl, hb, hg, hnc, hm, hcs, htk⟩⟩ := h
  · omega
  · exact ⟨g, cap, hb, rfl, (Array.getElem?_eq_some_iff.1 hg).1⟩

set_option maxRecDepth 100000 in
set_option maxHeartbeats 2000000 in
theorem rchunks_any (ao : Option Addr) (cap : Nat) (bs : List Nat) (w : World) (hcap : bs.length ≤ cap) (hm : cap ≤ maxLen) (hlen : bs.length ≤ 1000000) (hb : ∀ z ∈ bs, z < 256) (hR : Reads w ao bs) :
    Calls Tryz.prog 32 #[.slice ao bs.length cap] w fun e w' => ∃ v, e = .returned v ∧ w'.ownsRow w.heap.size 22 32 v ((bs.length + 31) / 32) (cellsOf (chunks bs)) ∧ Below w.heap.size w w' := by
  unfold maxLen at hm
  have hzr := zero_rt
  go_enter Tryz.func32, Tryz.ntmps32
  go_wp2_with fail
  go_loopw [3, 4] (fun v i wr => ∃ t : Nat, t ≤ bs.length ∧ i = .int .i64 t ∧ wr.ownsRow w.heap.size 22 32 v ((t + 31) / 32) (cellsOf (chunks (bs.take t))) ∧ Below w.heap.size w wr) (fun _ i _ => bs.length - (intOf i).toNat)
  case atStart => exact ⟨0, by omega, rfl, (by rw [show chunks (bs.take 0) = [] from by simp [chunks]]; exact World.ownsRow_nil _ _ _ _), Below.refl _ _⟩
  case round =>
    obtain ⟨t, ht, rfl, hown, HW⟩ := hrel
    by_cases hlt : t < bs.length
    · rcases hR with hR | ⟨b, off, rfl, hR⟩
      · omega
      have hbl : b < w.heap.size := block_lt_of_cell (hR t hlt)
      obtain ⟨bt, hbt⟩ : ∃ bt, Hid (bs.getD t 0 = bt) := ⟨_, hid rfl⟩
      have hct := (HW.cell (p := ⟨b, off + t, none⟩) hbl).trans (hR t hlt)
      rw [hbt.out] at hct
      have hfl := chunks_flat (bs.take t) (take_bytes bs hb t)
      rw [List.length_take, Nat.min_eq_left (by omega)] at hfl
      have hsz := HW.size
      have hti : (t : Int) / 32 = ((t / 32 : Nat) : Int) := by omega
      by_cases hz : t % 32 = 0
      · have hzi : (t : Int) % 32 = 0 := by omega
        go_wp2_with (first
          | (refine wpList_build_has rfl 22 _ rfl .u8 (zeros 32) (by kernel_rfl) ?_)
          | (refine wpList_one_root rfl 97 22 (.tmp 15) rfl Tryz.underlying97 Tryz.root26 (zeros 32) rfl hzr.len ?_; intro w3 H3 B3 S3; have own3 := own_keep hown B3; have Bw3 := below_more HW B3 (Nat.le_refl _))
          | (refine wpList_append_roots rfl (.tmp 14) (.tmp 16) 97 rfl w.heap.size 22 Tryz.underlying97 Tryz.root26 _ ((t + 31) / 32) (chunks (bs.take t)) [zeros 32] rfl own3 hzr.one ⟨wr.heap.size, 0, none⟩ 1 rfl (by intro j hj; rw [Addr.add_lit, Nat.zero_add, H3.cell j (by rw [hzr.len]; simpa using hj)]; simp) (by simp; omega) Bw3.size ?_; intro v' w4 own4 grow4; have Bw4 := below_grownR Bw3 own3 (Nat.le_refl _) grow4))
        have hme : (t + 31) / 32 + [zeros 32].length = (t + 1 + 31) / 32 := by simp; omega
        rw [hme] at own4
        have hmr : Rts (chunks (bs.take t) ++ [zeros 32]) := (chunks_rts _ (take_bytes bs hb t)).append hzr.one
        have hset := chunks_put bs hb t ((t + 1 + 31) / 32) (chunks (bs.take t) ++ [zeros 32]) hlt rfl (by rw [List.flatten_append, hfl, List.append_assoc, show [zeros 32].flatten = zeros 32 from by simp]; unfold zeros; rw [List.replicate_append_replicate]; congr 2; omega)
        rw [hbt.out] at hset
        obtain ⟨m, hnm⟩ : ∃ m, Hid ((t + 1 + 31) / 32 = m) := ⟨_, hid rfl⟩
        have hm1 : t < 32 * m := by rw [← hnm.out]; omega
        rw [hnm.out] at own4
        have hml : (chunks (bs.take t) ++ [zeros 32]).length = m := by have := own4.1; rw [cellsOf_length _ hmr] at this; omega
        obtain ⟨g, capm, hgm, rfl, hgl⟩ := row_some32 own4 (by omega)
        have ownm := own4
        have Bm := Bw4
        have HBy := hid (fun wq (hq' : Cls w4 wq) => ((hq'.bel.cell (p := ⟨b, off + t, none⟩) (show b < w4.heap.size from by have := Bw4.size; omega)).trans ((Bw4.cell (p := ⟨b, off + t, none⟩) hbl).trans (hR t hlt))))
        rw [hbt.out] at HBy
        replace hset := hid hset
        clear own4 own3 grow4 Bw4 Bw3 B3 H3 S3 hown hct hfl hme
        refine wp_region_cls_tail 11 (by kernel_rfl) (by kernel_rfl) ?_
        simp only [List.take_succ_cons, List.take_zero, List.drop_succ_cons, List.drop_zero]
        go_big_quiet_step (fail)
        go_big_quiet_step (fail)
        go_big_quiet_want
        refine quiet_run (.int .i64 ((t / 32 : Nat) : Int)) (fun wq hwq => by unfold execOp; simp [go_sem]; rw [IntKind.wrap_i64]; omega) ?_
        simp only [Act.put, List.setIfInBounds_toArray, List.set_cons_succ, List.set_cons_zero]
        go_big_quiet_on
        go_big_quiet_step (fail)
        go_big_quiet_want
        refine quiet_run (.int .i64 ((t % 32 : Nat) : Int)) (fun wq hwq => by unfold execOp; simp [go_sem]; exact Int.tmod_eq_emod_of_nonneg (by omega)) ?_
        simp only [Act.put, List.setIfInBounds_toArray, List.set_cons_succ, List.set_cons_zero]
        go_big_quiet_on
        go_big_quiet_step (fail)
        go_big_quiet_step (fail)
        go_big_quiet_want
        refine quiet_run (.pointer (some ⟨b, off + t, none⟩)) (fun wq hwq => by unfold execOp; simp [go_sem, hlt]) ?_
        simp only [Act.put, List.setIfInBounds_toArray, List.set_cons_succ, List.set_cons_zero]
        go_big_quiet_on
        go_big_quiet_want
        refine quiet_run (.int .u8 (bt : Int)) (fun wq hwq => by have hc := HBy.out wq hwq; unfold execOp; simp [go_sem, hc]) ?_
        simp only [Act.put, List.setIfInBounds_toArray, List.set_cons_succ, List.set_cons_zero]
        go_big_quiet_on
        go_big_quiet_want
        refine quiet_run _ (fun wq hwq => run_at26 (.tmp 18) (.tmp 20) rfl g 0 m capm (t / 32) rfl rfl (by omega)) ?_
        simp only [Act.put, List.setIfInBounds_toArray, List.set_cons_succ, List.set_cons_zero]
        go_big_quiet_on
        go_big_quiet_want
        refine quiet_run (.pointer (some ⟨g, t, none⟩)) (fun wq hwq => run_inner (.tmp 27) (.tmp 22) rfl g (0 + 32 * (t / 32)) (t % 32) t rfl rfl (by omega) (by omega)) ?_
        simp only [Act.put, List.setIfInBounds_toArray, List.set_cons_succ, List.set_cons_zero]
        go_big_quiet_on
        refine wpQuiet_nil ?_
        intro w5 hq5
        have own5 := own_keep ownm hq5.bel
        have c5 := own5.cellAt t (by omega)
        have f5 := own5.frozenAt t
        have st5 := (own5.stored t (.int .u8 (bt : Int))).1
        rw [hset.out] at st5
        have Bw5 := below_more Bm hq5.bel (Nat.le_refl _)
        have hc5 : ∃ u, w5.cell? ⟨g, t, none⟩ = some u := by rw [c5]; exact ⟨_, List.getElem?_eq_getElem (by rw [cellsOf_length _ hmr, hml]; omega)⟩
        obtain ⟨u5, hu5⟩ := hc5
        have HO := Only.setCell w5 g t (.int .u8 (bt : Int))
        clear c5
        go_wp2_with fail
        go_roundw
        case rel => exact ⟨t + 1, by omega, by go_num, by rw [hnm.out]; exact st5, below_only Bw5 HO hgm⟩
        case measure => simp [intOf]; omega
      · have hzi : ¬ (t : Int) % 32 = 0 := by omega
        have hme : (t + 31) / 32 = (t + 1 + 31) / 32 := by omega
        have hmr : Rts (chunks (bs.take t)) := chunks_rts _ (take_bytes bs hb t)
        have hset := chunks_put bs hb t ((t + 1 + 31) / 32) (chunks (bs.take t)) hlt rfl (by rw [hfl, hme])
        rw [hbt.out] at hset
        rw [hme] at hown
        obtain ⟨m, hnm⟩ : ∃ m, Hid ((t + 1 + 31) / 32 = m) := ⟨_, hid rfl⟩
        have hm1 : t < 32 * m := by rw [← hnm.out]; omega
        rw [hnm.out] at hown
        have hml : (chunks (bs.take t)).length = m := by have := hown.1; rw [cellsOf_length _ hmr] at this; omega
        obtain ⟨g, capm, hgm, rfl, hgl⟩ := row_some32 hown (by omega)
        have ownm := hown
        have Bm := HW
        have HBy := hid (fun wq (hq' : Cls wr wq) => ((hq'.bel.cell (p := ⟨b, off + t, none⟩) (show b < wr.heap.size from by omega)).trans hct))
        replace hset := hid hset
        clear hown hct hfl hme
        go_wp2_with fail
        refine wp_region_cls_tail 11 (by kernel_rfl) (by kernel_rfl) ?_
        simp only [List.take_succ_cons, List.take_zero, List.drop_succ_cons, List.drop_zero]
        go_big_quiet_step (fail)
        go_big_quiet_step (fail)
        go_big_quiet_want
        refine quiet_run (.int .i64 ((t / 32 : Nat) : Int)) (fun wq hwq => by unfold execOp; simp [go_sem]; rw [IntKind.wrap_i64]; omega) ?_
        simp only [Act.put, List.setIfInBounds_toArray, List.set_cons_succ, List.set_cons_zero]
        go_big_quiet_on
        go_big_quiet_step (fail)
        go_big_quiet_want
        refine quiet_run (.int .i64 ((t % 32 : Nat) : Int)) (fun wq hwq => by unfold execOp; simp [go_sem]; exact Int.tmod_eq_emod_of_nonneg (by omega)) ?_
        simp only [Act.put, List.setIfInBounds_toArray, List.set_cons_succ, List.set_cons_zero]
        go_big_quiet_on
        go_big_quiet_step (fail)
        go_big_quiet_step (fail)
        go_big_quiet_want
        refine quiet_run (.pointer (some ⟨b, off + t, none⟩)) (fun wq hwq => by unfold execOp; simp [go_sem, hlt]) ?_
        simp only [Act.put, List.setIfInBounds_toArray, List.set_cons_succ, List.set_cons_zero]
        go_big_quiet_on
        go_big_quiet_want
        refine quiet_run (.int .u8 (bt : Int)) (fun wq hwq => by have hc := HBy.out wq hwq; unfold execOp; simp [go_sem, hc]) ?_
        simp only [Act.put, List.setIfInBounds_toArray, List.set_cons_succ, List.set_cons_zero]
        go_big_quiet_on
        go_big_quiet_want
        refine quiet_run _ (fun wq hwq => run_at26 (.tmp 18) (.tmp 20) rfl g 0 m capm (t / 32) rfl rfl (by omega)) ?_
        simp only [Act.put, List.setIfInBounds_toArray, List.set_cons_succ, List.set_cons_zero]
        go_big_quiet_on
        go_big_quiet_want
        refine quiet_run (.pointer (some ⟨g, t, none⟩)) (fun wq hwq => run_inner (.tmp 27) (.tmp 22) rfl g (0 + 32 * (t / 32)) (t % 32) t rfl rfl (by omega) (by omega)) ?_
        simp only [Act.put, List.setIfInBounds_toArray, List.set_cons_succ, List.set_cons_zero]
        go_big_quiet_on
        refine wpQuiet_nil ?_
        intro w5 hq5
        have own5 := own_keep ownm hq5.bel
        have c5 := own5.cellAt t (by omega)
        have f5 := own5.frozenAt t
        have st5 := (own5.stored t (.int .u8 (bt : Int))).1
        rw [hset.out] at st5
        have Bw5 := below_more Bm hq5.bel (Nat.le_refl _)
        have hc5 : ∃ u, w5.cell? ⟨g, t, none⟩ = some u := by rw [c5]; exact ⟨_, List.getElem?_eq_getElem (by rw [cellsOf_length _ hmr, hml]; omega)⟩
        obtain ⟨u5, hu5⟩ := hc5
        have HO := Only.setCell w5 g t (.int .u8 (bt : Int))
        clear c5
        go_wp2_with fail
        go_roundw
        case rel => exact ⟨t + 1, by omega, by go_num, by rw [hnm.out]; exact st5, below_only Bw5 HO hgm⟩
        case measure => simp [intOf]; omega
    · have ht2 : t = bs.length := by omega
      subst ht2
      rw [List.take_of_length_le (Nat.le_refl _)] at hown
      go_wp2_with fail
      go_ret
      exact ⟨_, rfl, hown, HW⟩
end Go.Proofs.YtbmcmabimfoknaaGreatDoor
