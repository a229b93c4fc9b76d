/- page; the document’s digest of a seed and more; the closures. -/
import Derived.Test.YtibblghdemmkjaaDoorSh8
namespace Go.Proofs.YtibblghdemmkjaaDoor
open Go.RowKit
set_option linter.unusedVariables false
set_option maxRecDepth 100000

set_option maxHeartbeats 1000000 in
theorem page_any (at_ r : Nat) (s : List Nat) (hs : Rt s) (hr : r < 256) (ha : at_ < 18446744073709551616) (w : World) (hT : Tabs w) :
    Calls Tryd.prog 14 #[.int .u64 at_, .agg (nums .u8 s), .int .u8 r] w fun e w' => e = .returned (.agg (nums .u8 (pg s r at_))) ∧ Below w.heap.size w w' := by
  have hD := pg_rt s r at_
  have hLb := le_byte at_ 4
  have hLl := le_length at_ 4
  have HP := hid (fun wq => put8_isB at_ 4 ha (by omega) (by omega) wq)
  have hDe0 : pg s r at_ = sha (s ++ ([r] ++ le at_ 4)) := rfl
  obtain ⟨L, hL⟩ : ∃ L, Same (le at_ 4) L := ⟨_, ⟨rfl⟩⟩
  rw [hL.out] at hLb hLl HP hDe0
  obtain ⟨D, hDs⟩ : ∃ D, Same (pg s r at_) D := ⟨_, ⟨rfl⟩⟩
  have hDe : Same (sha (s ++ ([r] ++ L))) D := ⟨by rw [← hDs.out, hDe0]⟩
  rw [hDs.out] at hD ⊢
  clear hDe0 hDs
  have hbr := one_byte hr
  have hbb := byte_app hs.byte (byte_app hbr hLb)
  have hflat : [s, [r], L].flatten = s ++ ([r] ++ L) := by simp
  have hlen : (s ++ ([r] ++ L)).length = 37 := by simp [hs.len, hLl]
  have h37 : 0 < (s ++ ([r] ++ L)).length := by omega
  have h38 : (s ++ ([r] ++ L)).length ≤ 1099511627776 := by omega
  have h39 : (s ++ ([r] ++ L)).length ≤ 140737488355328 := by omega
  have HFL := hid hflat
  clear hlen hLl
  go_enter Tryd.func14, Tryd.ntmps14
  go_wp2_with (first
    | (refine wpList_box_has rfl 4 rfl 24 (.tmp 1) rfl .u8 s rfl ?_; intro w1 H1 B1 S1)
    | (refine wpList_alloc_has rfl 6 rfl 24 rfl .u8 32 Tryd.zero24 ?_; intro w2 H2 B2 S2; rw [S1] at H2))
  have HW2 := below_more B1 B2 (Nat.le_refl _)
  have HT := hid (hT.keep HW2)
  have HI2 := hid ((H1.keep B2).isB (by rw [hs.len]; unfold maxLen; omega) hs.byte)
  rw [hs.len] at HI2
  simp only [Act.put, List.setIfInBounds_toArray, List.set_cons_succ, List.set_cons_zero, S1]
  clear B1 B2 S1 S2 H1
  refine wp_region_flow 8 8 (fun i v wq => match i with
    | 0 => v = .slice (some ⟨w.heap.size, 0, none⟩) 32 32
    | 1 => v = .int .u8 (r : Nat)
    | 2 => IsB wq v [r]
    | 3 => v = .int .u64 (at_ : Nat)
    | 4 => IsB wq v L
    | 5 => ∃ g vs, v = .slice (some ⟨g, 0, none⟩) 3 3 ∧ BsAt wq g vs [s, [r], L]
    | 6 => IsB wq v (s ++ ([r] ++ L))
    | _ => v = .agg (nums .u8 D)) (by kernel_rfl) (by kernel_rfl) (fun _ d _ _ _ h => by cases d <;> exact h) ?_ ?_ ?_ ?_
  · intro i v wq wq' hi hv hb
    match i, hi with
    | 0, _ => exact hv
    | 1, _ => exact hv
    | 2, _ => exact hv.keep hb
    | 3, _ => exact hv
    | 4, _ => exact hv.keep hb
    | 5, _ => obtain ⟨g, vs, e, h⟩ := hv; exact ⟨g, vs, e, h.keep hb⟩
    | 6, _ => exact hv.keep hb
    | 7, _ => exact hv
    | (k + 8), hk => exact absurd hk (by omega)
  · intro i o hi ho aq wq hc hk hdep
    match i, hi with
    | 0, _ =>
      cases ho
      have e5 : aq.eval (.tmp 4) = .pointer (some ⟨w.heap.size, 0, none⟩) := hk 4 (by decide)
      have e5' : aq.tmps[4]?.getD undef = .pointer (some ⟨w.heap.size, 0, none⟩) := by simpa [Act.eval] using e5
      refine flow_value _ ?_ rfl
      unfold execOp
      simp [e5', go_sem]
    | 1, _ =>
      cases ho
      exact flow_move (.tmp 2) rfl (hk 2 (by decide))
    | 2, _ =>
      cases ho
      have e8 : aq.tmps.getD 8 undef = .int .u8 (r : Nat) := hdep 1 8 rfl (by kernel_rfl)
      exact flow_byte (.tmp 8) rfl r (by simpa [Act.eval] using e8) (fun w' R => R.isB hbr)
    | 3, _ =>
      cases ho
      exact flow_move (.tmp 0) rfl (hk 0 (by decide))
    | 4, _ =>
      cases ho
      have e10 : aq.tmps.getD 10 undef = .int .u64 (at_ : Nat) := hdep 3 10 rfl (by kernel_rfl)
      refine flow_fun 25 _ _ rfl (fun _ _ => by simp [go_sem]) #[.int .u64 (at_ : Nat), .int .i64 4] (by rw [show (#[Operand.tmp 10, Operand.const (.int .i64 4)] : Array Operand).map aq.eval = #[aq.tmps.getD 10 undef, .int .i64 4] from by simp [Act.eval], e10]) ?_
      refine (HP.out wq).mono ?_
      rintro e w' ⟨cap, rfl, R, B⟩
      exact ⟨_, rfl, R.isB hLb, B⟩
    | 5, _ =>
      cases ho
      have e7 : aq.tmps.getD 7 undef = .slice (some ⟨w.heap.size, 0, none⟩) 32 32 := hdep 0 7 rfl (by kernel_rfl)
      have e9 : IsB wq (aq.tmps.getD 9 undef) [r] := hdep 2 9 rfl (by kernel_rfl)
      have e11 : IsB wq (aq.tmps.getD 11 undef) L := hdep 4 11 rfl (by kernel_rfl)
      have i7 : IsB wq (aq.eval (.tmp 7)) s := by
        rw [show aq.eval (.tmp 7) = .slice (some ⟨w.heap.size, 0, none⟩) 32 32 from by simpa [Act.eval] using e7]
        exact HI2.out.keep hc.bel
      exact flow_slices3 (.tmp 7) (.tmp 9) (.tmp 11) rfl s [r] L i7 (by simpa [Act.eval] using e9) (by simpa [Act.eval] using e11) (fun w' vs h => ⟨_, vs, rfl, h⟩)
    | 6, _ =>
      cases ho
      obtain ⟨g, vs, e12, hB⟩ : ∃ g vs, aq.tmps.getD 12 undef = .slice (some ⟨g, 0, none⟩) 3 3 ∧ BsAt wq g vs [s, [r], L] := hdep 5 12 rfl (by kernel_rfl)
      refine flow_fun 24 _ _ rfl (fun _ _ => by simp [go_sem]) #[.slice (some ⟨g, 0, none⟩) 3 3] (by rw [show (#[Operand.tmp 12] : Array Operand).map aq.eval = #[aq.tmps.getD 12 undef] from by simp [Act.eval], e12]) ?_
      refine (concat_any g vs [s, [r], L] wq hB (by rw [hflat]; exact h37) (by rw [hflat]; exact h38) (by simp)).mono ?_
      rintro e w' ⟨v, rfl, R, B⟩
      rw [hflat] at R
      exact ⟨_, rfl, R.isB hbb, B⟩
    | 7, _ =>
      cases ho
      have e13 : IsB wq (aq.tmps.getD 13 undef) (s ++ ([r] ++ L)) := hdep 6 13 rfl (by kernel_rfl)
      refine flow_fun 22 _ _ rfl (fun _ _ => by simp [go_sem]) #[aq.tmps.getD 13 undef] (by simp [Act.eval]) ?_
      have h := of_isB _ _ wq (HT.out.keep hc.bel) e13 h39
      rw [hDe.out] at h
      refine h.mono ?_
      rintro e w' ⟨rfl, B⟩
      exact ⟨_, rfl, rfl, B⟩
    | (k + 8), hk => exact absurd hk (by omega)
  · intro o h8 ho
    omega
  intro vf w4 hc hv
  have e7 : vf 7 = _ := hv 7 14 (by decide) rfl
  clear hv
  simp only [List.take_succ_cons, List.take_zero, List.drop_succ_cons, List.drop_zero, putAll, Act.put, List.setIfInBounds_toArray, List.set_cons_succ, List.set_cons_zero]
  rw [e7]
  refine wpList_store_has rfl 24 (.tmp 6) (.tmp 14) rfl (w.heap.size + 1) .u8 D (zeros 32) rfl rfl 24 (H2.keep hc.bel) (hD.size _ Tryd.size24) (by rw [hD.len, zeros_length]) ?_
  intro w9 H9 O9
  go_wp2
  refine bodyPost_ret (results_has rfl _ _ (w.heap.size + 1) 24 .u8 D _ _ rfl H9 Tryd.und24 (hD.size _ Tryd.size24)) rfl ?_
  exact ⟨rfl, below_only (below_more HW2 hc.bel (Nat.le_refl _)) O9 (by omega)⟩

set_option maxHeartbeats 1000000 in
/-- The document's digest of a seed and some bytes. -/
theorem rdig_any (s : List Nat) (hs : Rt s) (v : Value) (bs : List Nat) (w : World) (hI : IsB w v bs) (hl : bs.length ≤ 1099511627776) :
    Calls Tryd.prog 15 #[.agg (nums .u8 s), v] w fun e w' => e = .returned (.agg (nums .u8 (sha (s ++ bs)))) ∧ Below w.heap.size w w' := by
  have hD := sha_rt (s ++ bs)
  obtain ⟨D, hDe⟩ : ∃ D, Same (sha (s ++ bs)) D := ⟨_, ⟨rfl⟩⟩
  rw [hDe.out] at hD ⊢
  have hbb := byte_app hs.byte hI.by8
  have h39 : (s ++ bs).length ≤ 140737488355328 := by rw [List.length_append, hs.len]; omega
  go_enter Tryd.func15, Tryd.ntmps15
  go_wp2_with (first
    | (refine wpList_box_has rfl 2 rfl 24 (.tmp 0) rfl .u8 s rfl ?_; intro w1 H1 B1 S1)
    | (refine wpList_alloc_has rfl 4 rfl 23 rfl .u8 32 Tryd.zero23 ?_; intro w2 H2 B2 S2; rw [S1] at H2 S2; have HW2 := below_more B1 B2 (Nat.le_refl _); have HI2 := hid ((H1.keep B2).isB (by rw [hs.len]; unfold maxLen; omega) hs.byte); rw [hs.len] at HI2; have HIv := hid (hI.keep HW2); clear hI)
    | (at_builtin; have hO : Row (w2.alloc (.cells #[] 5)) w2.heap.size (.slice (some ⟨w.heap.size + 1 + 1, 0, none⟩) 0 0) [] := (by rw [← S2]; exact own_bytes w2); refine wpList_append_b rfl (.tmp 5) (.tmp 6) 58 rfl w2.heap.size (.slice (some ⟨w.heap.size + 1 + 1, 0, none⟩) 0 0) [] rfl hO _ s rfl (by exact (HI2.out.keep ((Below.refl _ w2).alloc (Nat.le_refl _) _)).src) (by rw [hs.len]; simp) (by simp) ?_; intro v3 w3 R3 G3 M3; rw [List.nil_append] at R3; have T3 := below_row ((Below.refl _ w2).alloc (Nat.le_refl _) _) (Nat.le_refl _) hO G3)
    | (at_builtin; refine wpList_append_b rfl (.tmp 7) (.tmp 8) 58 rfl w2.heap.size v3 s rfl R3 v bs rfl (HIv.out.keep T3).src (by rw [hs.len]; omega) (by exact T3.size) ?_; intro v4 w4 R4 G4 M4; have T4 := below_row T3 (Nat.le_refl _) R3 G4; have HO := hid (rof_isB v4 _ w4 (R4.isB hbb) h39); rw [hDe.out] at HO)
    | (go_at_call 26; refine HO.out.mono ?_; rintro e w5 ⟨rfl, B5⟩; have T5 := below_more T4 B5 (Nat.le_refl _))
    | (refine wpList_store_has rfl 23 (.tmp 4) (.tmp 10) rfl (w.heap.size + 1) .u8 D (zeros 32) rfl rfl 23 (H2.keep T5) (hD.size _ Tryd.size23) (by rw [hD.len, zeros_length]) ?_; intro w9 H9 O9))
  refine bodyPost_ret (results_has rfl _ _ (w.heap.size + 1) 23 .u8 D _ _ rfl H9 Tryd.underlying23 (hD.size _ Tryd.size23)) rfl ?_
  exact ⟨rfl, below_only (below_more HW2 T5 (Nat.le_refl _)) O9 (by omega)⟩

set_option maxHeartbeats 1000000 in
theorem cloA_any (at_ r gs gr : Nat) (s : List Nat) (hs : Rt s) (hr : r < 256) (ha : at_ < 18446744073709551616) (w : World) (hT : Tabs w) (hG : Has w gs 24 .u8 s) (hR : Has w gr 5 .u8 [r]) :
    Calls Tryd.prog 13 #[.int .u64 at_, .pointer (some ⟨gs, 0, none⟩), .pointer (some ⟨gr, 0, none⟩)] w fun e w' => e = .returned (.agg (nums .u8 (pg s r at_))) ∧ Below w.heap.size w w' := by
  have hD := pg_rt s r at_
  have HP := hid (fun wq hq => page_any at_ r s hs hr ha wq hq)
  obtain ⟨D, hDe⟩ : ∃ D, Same (pg s r at_) D := ⟨_, ⟨rfl⟩⟩
  rw [hDe.out] at hD HP ⊢
  have HT := hid hT
  have hlt := hG.lt
  have hlr := hR.lt
  go_enter Tryd.func13, Tryd.ntmps13
  go_wp2_with (first
    | (refine wpList_alloc_has rfl 4 rfl 24 rfl .u8 32 Tryd.zero24 ?_; intro w1 H1 B1 S1; have HG1 := hG.keep B1; have hc : w1.cell? ⟨gr, 0, none⟩ = some (.int .u8 (r : Nat)) := (hR.keep B1).cell 0 (by simp))
    | (refine wpList_load_has rfl 24 (.tmp 1) rfl gs .u8 s rfl 24 HG1 _ _ Tryd.und24 (hs.size _ Tryd.size24) ?_)
    | (go_at_call 14; refine (HP.out w1 (HT.out.keep B1)).mono ?_; rintro e w2 ⟨rfl, B2⟩)
    | (refine wpList_store_has rfl 24 (.tmp 4) (.tmp 8) rfl w.heap.size .u8 D (zeros 32) rfl rfl 24 (H1.keep B2) (hD.size _ Tryd.size24) (by rw [hD.len, zeros_length]) ?_; intro w9 H9 O9))
  refine bodyPost_ret (results_has rfl _ _ w.heap.size 24 .u8 D _ _ rfl H9 Tryd.und24 (hD.size _ Tryd.size24)) rfl ?_
  exact ⟨rfl, below_only (below_more B1 B2 (Nat.le_refl _)) O9 (by omega)⟩
end Go.Proofs.YtibblghdemmkjaaDoor
