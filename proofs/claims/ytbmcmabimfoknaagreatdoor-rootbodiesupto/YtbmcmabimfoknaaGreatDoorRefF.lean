/- Contract of the document's Full. -/
import Derived.Test.YtbmcmabimfoknaaGreatDoorRefZ
namespace Go.Proofs.YtbmcmabimfoknaaGreatDoor
set_option maxRecDepth 100000
open Go.RowKit
set_option linter.unusedVariables false

/-- What is said of Full at one depth. -/
def FullAt (d : Nat) : Prop := ∀ (ao : Option Addr) (cap : Nat) (rs : List (List Nat)) (w : World), rs.length ≤ cap → cap ≤ maxLen → RootsAt w ao rs →
    Calls Tryz.prog 34 #[.slice ao rs.length cap, .int .i64 (d : Int)] w fun e w' => e = .returned (.agg (nums .u8 (fullR d rs))) ∧ Below w.heap.size w w'

set_option maxRecDepth 100000 in
set_option maxHeartbeats 1000000 in
theorem full_zero_any : FullAt 0 := by
  intro ao cap rs w hcap hm hR
  unfold maxLen at hm
  by_cases h0 : rs.length = 0
  · obtain rfl : rs = [] := List.eq_nil_of_length_eq_zero h0
    have HZ := hid (fun w => rzero_any 0 (by omega) (by omega) w)
    have hzr := zero_rt
    go_enter Tryz.func34, Tryz.ntmps34
    go_wp2_with (first
      | (refine wpList_alloc_has rfl 4 rfl 22 rfl .u8 32 Tryz.zero22 ?_; intro w1 H1 B1 S1)
      | (go_at_call 75; refine (HZ.out w1).mono ?_; rintro e w2 ⟨rfl, B2⟩)
      | (refine wpList_store_has rfl 22 (.tmp 4) (.tmp 10) rfl w.heap.size .u8 (zeros 32) (zeros 32) rfl rfl 22 (H1.keep B2) (hzr.size _ Tryz.size22) rfl ?_; intro w9 H9 O9))
    refine bodyPost_ret (results_has rfl _ _ w.heap.size 22 .u8 (zeros 32) _ _ rfl H9 Tryz.underlying22 (hzr.size _ Tryz.size22)) rfl ?_
    exact ⟨rfl, below_only (below_more B1 B2 (Nat.le_refl _)) O9 (Nat.le_refl _)⟩
  · obtain ⟨b, off, rfl, _⟩ := hR.addr (by omega)
    obtain ⟨q, hq⟩ : ∃ q, Hid (rs.getD 0 [] = q) := ⟨_, hid rfl⟩
    have hqr : Rt q := by rw [← hq.out]; exact hR.rts.rt 0 (by omega)
    have hf : fullR 0 rs = q := by
      rw [← hq.out]
      show rs.getD 0 (zeros 32) = rs.getD 0 []
      simp [show 0 < rs.length by omega]
    rw [hf]
    clear hf
    have hi0 : ¬ (rs.length : Int) = 0 := by omega
    have hi1 : (0 : Int) < (rs.length : Int) := by omega
    have hlt : 0 < rs.length := by omega
    go_enter Tryz.func34, Tryz.ntmps34
    go_wp2_with (first
      | (refine wpList_alloc_has rfl 4 rfl 22 rfl .u8 32 Tryz.zero22 ?_; intro w1 H1 B1 S1)
      | (refine wpList_load_named rfl 22 (.tmp 14) rfl b off 0 rs q hq rfl (hR.keep B1) hlt _ _ Tryz.underlying22 Tryz.size22 ?_)
      | (refine wpList_store_has rfl 22 (.tmp 4) (.tmp 15) rfl w.heap.size .u8 q (zeros 32) rfl rfl 22 H1 (hqr.size _ Tryz.size22) (by rw [hqr.len, zeros_length]) ?_; intro w9 H9 O9))
    refine bodyPost_ret (results_has rfl _ _ w.heap.size 22 .u8 q _ _ rfl H9 Tryz.underlying22 (hqr.size _ Tryz.size22)) rfl ?_
    exact ⟨rfl, below_only B1 O9 (Nat.le_refl _)⟩

set_option maxRecDepth 100000 in
set_option maxHeartbeats 1000000 in
theorem full_none (d : Nat) (hd : d + 1 ≤ 62) (cap : Nat) (ao : Option Addr) (w : World) (hm : cap ≤ maxLen) :
    Calls Tryz.prog 34 #[.slice ao 0 cap, .int .i64 ((d + 1 : Nat) : Int)] w fun e w' => e = .returned (.agg (nums .u8 (fullR (d + 1) []))) ∧ Below w.heap.size w w' := by
  unfold maxLen at hm
  have hzr := zero_rt
  have HZ := hid (fun w => rzero_any ((d + 1 : Nat) : Int) (by omega) (by omega) w)
  have hz := zeroUp_rt (d + 1)
  have hf : fullR (d + 1) [] = zUp (d + 1) := full_nil pr (zeros 32) (d + 1)
  rw [hf]
  rw [Int.toNat_natCast] at HZ
  clear hf
  obtain ⟨Z, hZ⟩ : ∃ Z, zUp (d + 1) = Z := ⟨_, rfl⟩
  have hz' : Rt Z := by rw [← hZ]; exact hz
  rw [hZ] at HZ ⊢
  clear hZ hz
  go_enter Tryz.func34, Tryz.ntmps34
  go_wp2_with (first
    | (refine wpList_alloc_has rfl 4 rfl 22 rfl .u8 32 Tryz.zero22 ?_; intro w1 H1 B1 S1)
    | (go_at_call 75; refine (HZ.out w1).mono ?_; rintro e w2 ⟨rfl, B2⟩)
    | (refine wpList_store_has rfl 22 (.tmp 4) (.tmp 10) rfl w.heap.size .u8 Z (zeros 32) rfl rfl 22 (H1.keep B2) (hz'.size _ Tryz.size22) (by rw [hz'.len, zeros_length]) ?_; intro w9 H9 O9))
  refine bodyPost_ret (results_has rfl _ _ w.heap.size 22 .u8 Z _ _ rfl H9 Tryz.underlying22 (hz'.size _ Tryz.size22)) rfl ?_
  exact ⟨rfl, below_only (below_more B1 B2 (Nat.le_refl _)) O9 (Nat.le_refl _)⟩

set_option maxRecDepth 100000 in
set_option maxHeartbeats 1000000 in
theorem full_half_any (d : Nat) (hd : d + 1 ≤ 62) (ih : FullAt d) (b off cap : Nat) (rs : List (List Nat)) (w : World) (h0 : 0 < rs.length) (hle : rs.length ≤ 2 ^ d) (hcap : rs.length ≤ cap) (hm : cap ≤ maxLen) (hR : RootsAt w (some ⟨b, off, none⟩) rs) :
    Calls Tryz.prog 34 #[.slice (some ⟨b, off, none⟩) rs.length cap, .int .i64 ((d + 1 : Nat) : Int)] w fun e w' => e = .returned (.agg (nums .u8 (fullR (d + 1) rs))) ∧ Below w.heap.size w w' := by
  have hm' := hm
  unfold maxLen at hm
  have hi0 : ¬ (rs.length : Int) = 0 := by omega
  have hd0 : ¬ ((d + 1 : Nat) : Int) = 0 := by omega
  obtain ⟨p, hp⟩ : ∃ p, Hid (1 * 2 ^ d = p) := ⟨_, hid rfl⟩
  have hpb : p < 9223372036854775808 := by have h : 2 ^ d ≤ 2 ^ 62 := Nat.pow_le_pow_right (by decide) (by omega); rw [← hp.out]; omega
  have hpd : 2 ^ d = p := by rw [← hp.out, Nat.one_mul]
  have hf : fullR (d + 1) rs = pr (fullR d rs) (zUp d) := full_half pr (zeros 32) d rs hle
  rw [hf]
  rw [hpd] at hle
  clear hf hpd
  have hz := zeroUp_rt d
  have hfr := full_rt d rs hR.rts
  have HZ := hid (fun w => rzero_any (d : Int) (by omega) (by omega) w)
  rw [Int.toNat_natCast] at HZ
  obtain ⟨Z, hZ⟩ : ∃ Z, zUp d = Z := ⟨_, rfl⟩
  obtain ⟨T, hT⟩ : ∃ T, fullR d rs = T := ⟨_, rfl⟩
  have HF := hid (fun w (h : RootsAt w (some ⟨b, off, none⟩) rs) => ih (some ⟨b, off, none⟩) cap rs w hcap hm' h)
  have hz' : Rt Z := by rw [← hZ]; exact hz
  have ht' : Rt T := by rw [← hT]; exact hfr
  rw [hZ] at HZ ⊢
  rw [hT] at HF ⊢
  have hprt := pr_rt T Z
  clear hZ hz hT hfr ih
  obtain ⟨D, hD⟩ : ∃ D : Int, ((d + 1 : Nat) : Int) = D := ⟨_, rfl⟩
  have hD1 : D - 1 = (d : Int) := by omega
  have hD2 : 0 < D := by omega
  have hD3 : D ≤ 62 := by omega
  rw [hD]
  clear hd0 hD
  go_enter Tryz.func34, Tryz.ntmps34
  go_wp2_with (first
    | (refine wpList_alloc_has rfl 4 rfl 22 rfl .u8 32 Tryz.zero22 ?_; intro w1 H1 B1 S1)
    | (refine wpList_run rfl _ (run_shl 3 3 (.const (.int .i64 1)) (.tmp 17) rfl 1 d p rfl rfl (by omega) hp (by omega)) ?_)
    | (go_at_call 34; refine (HF.out w1 (hR.keep B1)).mono ?_; rintro e w2 ⟨rfl, B2⟩)
    | (go_at_call 75; refine (HZ.out w2).mono ?_; rintro e w3 ⟨rfl, B3⟩)
    | (go_at_call 76; refine (rpair_any T Z ht'.len hz'.len ht'.byte hz'.byte w3).mono ?_; rintro e w4 ⟨rfl, B4⟩)
    | (refine wpList_store_has rfl 22 (.tmp 4) (.tmp 30) rfl w.heap.size .u8 (pr T Z) (zeros 32) rfl rfl 22 (((H1.keep B2).keep B3).keep B4) (hprt.size _ Tryz.size22) (by rw [hprt.len, zeros_length]) ?_; intro w9 H9 O9))
  refine bodyPost_ret (results_has rfl _ _ w.heap.size 22 .u8 (pr T Z) _ _ rfl H9 Tryz.underlying22 (hprt.size _ Tryz.size22)) rfl ?_
  exact ⟨rfl, below_only (below_more (below_more (below_more B1 B2 (Nat.le_refl _)) B3 (Nat.le_refl _)) B4 (Nat.le_refl _)) O9 (Nat.le_refl _)⟩

set_option maxRecDepth 100000 in
set_option maxHeartbeats 2000000 in
theorem full_two_any (d : Nat) (hd : d + 1 ≤ 62) (ih : FullAt d) (b off cap : Nat) (rs : List (List Nat)) (w : World) (hgt : 2 ^ d < rs.length) (hcap : rs.length ≤ cap) (hm : cap ≤ maxLen) (hR : RootsAt w (some ⟨b, off, none⟩) rs) :
    Calls Tryz.prog 34 #[.slice (some ⟨b, off, none⟩) rs.length cap, .int .i64 ((d + 1 : Nat) : Int)] w fun e w' => e = .returned (.agg (nums .u8 (fullR (d + 1) rs))) ∧ Below w.heap.size w w' := by
  have hm' := hm
  unfold maxLen at hm
  have hi0 : ¬ (rs.length : Int) = 0 := by have : 0 < rs.length := Nat.lt_of_le_of_lt (Nat.zero_le _) hgt; omega
  obtain ⟨p, hp⟩ : ∃ p, Hid (1 * 2 ^ d = p) := ⟨_, hid rfl⟩
  have hpd : 2 ^ d = p := by rw [← hp.out, Nat.one_mul]
  have hf : fullR (d + 1) rs = pr (fullR d (rs.take p)) (fullR d (rs.drop p)) := by
    show pr (full pr (zeros 32) d rs) (full pr (zeros 32) d (rs.drop (2 ^ d))) = _
    rw [hpd, ← full_take pr (zeros 32) d p rs (by omega)]
  rw [hf]
  rw [hpd] at hgt
  have hp0 : 0 < p := by rw [← hpd]; exact Nat.two_pow_pos d
  clear hf hpd
  have hR1 := hR.first p
  have hR2 : RootsAt w (some ⟨b, off + 32 * p, none⟩) (rs.drop p) := by
    have := hR.part p (rs.length)
    rwa [List.take_of_length_le (by rw [List.length_drop]; omega)] at this
  have hl1 : (rs.take p).length = p := by rw [List.length_take]; omega
  have hl2 : (rs.drop p).length = rs.length - p := List.length_drop
  have hf1 := full_rt d _ hR1.rts
  have hf2 := full_rt d _ hR2.rts
  obtain ⟨T1, hT1⟩ : ∃ T, fullR d (rs.take p) = T := ⟨_, rfl⟩
  obtain ⟨T2, hT2⟩ : ∃ T, fullR d (rs.drop p) = T := ⟨_, rfl⟩
  have ht1 : Rt T1 := by rw [← hT1]; exact hf1
  have ht2 : Rt T2 := by rw [← hT2]; exact hf2
  have HF1 := fun (w1 : World) (hB : Below w.heap.size w w1) (wq : World) (hq : Cls w1 wq) => ih (some ⟨b, off, none⟩) cap (rs.take p) wq (by omega) hm' ((hR1.keep hB).keep hq.bel)
  have HF2 := fun (w1 : World) (hB : Below w.heap.size w w1) (wq : World) (hq : Cls w1 wq) => ih (some ⟨b, off + 32 * p, none⟩) (cap - p) (rs.drop p) wq (by omega) (by unfold maxLen; omega) ((hR2.keep hB).keep hq.bel)
  rw [hl1, hT1] at HF1
  rw [hl2, hT2] at HF2
  rw [hT1, hT2]
  have hprt := pr_rt T1 T2
  replace HF1 := hid HF1
  replace HF2 := hid HF2
  clear hT1 hT2 hf1 hf2 hR1 hR2 hl1 hl2 ih
  obtain ⟨D, hD⟩ : ∃ D : Int, ((d + 1 : Nat) : Int) = D := ⟨_, rfl⟩
  have hD1 : D - 1 = (d : Int) := by omega
  have hD2 : 0 < D := by omega
  have hD3 : D ≤ 62 := by omega
  rw [hD]
  clear hD
  go_enter Tryz.func34, Tryz.ntmps34
  go_wp2_with (first
    | (refine wpList_alloc_has rfl 4 rfl 22 rfl .u8 32 Tryz.zero22 ?_; intro w1 H1 B1 S1)
    | (refine wpList_run rfl _ (run_shl 3 3 (.const (.int .i64 1)) (.tmp 17) rfl 1 d p rfl rfl (by omega) hp (by omega)) ?_))
  refine wp_region_cls_tail 13 (by kernel_rfl) (by kernel_rfl) ?_
  simp only [List.take_succ_cons, List.take_zero, List.drop_succ_cons, List.drop_zero]
  go_big_quiet_step (fail)
  go_big_quiet_step (fail)
  go_big_quiet_step (exact fun _ => rfl)
  go_big_quiet_step (fail)
  go_big_quiet_step (exact fun _ => rfl)
  go_big_quiet_want
  refine quiet_call 34 #[.slice (some ⟨b, off, none⟩) p cap, .int .i64 (d : Int)] (.agg (nums .u8 T1)) (fun _ => by simp [go_sem]) (fun wq hq => (HF1.out w1 B1 wq hq).mono fun e w' h => ⟨h.1, hq.more h.2⟩) ?_
  simp only [Act.put, List.setIfInBounds_toArray, List.set_cons_succ, List.set_cons_zero]
  go_big_quiet_on
  go_big_quiet_step (fail)
  go_big_quiet_step (fail)
  go_big_quiet_step (exact fun _ => rfl)
  go_big_quiet_step (fail)
  go_big_quiet_step (exact fun _ => rfl)
  go_big_quiet_want
  refine quiet_call 34 #[.slice (some ⟨b, off + 32 * p, none⟩) (rs.length - p) (cap - p), .int .i64 (d : Int)] (.agg (nums .u8 T2)) (fun _ => by simp [go_sem, Nat.mul_comm]) (fun wq hq => (HF2.out w1 B1 wq hq).mono fun e w' h => ⟨h.1, hq.more h.2⟩) ?_
  simp only [Act.put, List.setIfInBounds_toArray, List.set_cons_succ, List.set_cons_zero]
  go_big_quiet_on
  go_big_quiet_want
  refine quiet_call 76 #[.agg (nums .u8 T1), .agg (nums .u8 T2)] (.agg (nums .u8 (pr T1 T2))) (fun _ => by simp [go_sem]) (fun wq hq => (rpair_any T1 T2 ht1.len ht2.len ht1.byte ht2.byte wq).mono fun e w' h => ⟨h.1, hq.more h.2⟩) ?_
  simp only [Act.put, List.setIfInBounds_toArray, List.set_cons_succ, List.set_cons_zero]
  go_big_quiet_on
  refine wpQuiet_nil ?_
  intro w5 hq5
  refine wpList_store_has rfl 22 (.tmp 4) (.tmp 43) rfl w.heap.size .u8 (pr T1 T2) (zeros 32) rfl rfl 22 (H1.keep hq5.bel) (hprt.size _ Tryz.size22) (by rw [hprt.len, zeros_length]) ?_
  intro w9 H9 O9
  go_wp2
  refine bodyPost_ret (results_has rfl _ _ w.heap.size 22 .u8 (pr T1 T2) _ _ rfl H9 Tryz.underlying22 (hprt.size _ Tryz.size22)) rfl ?_
  exact ⟨rfl, below_only (below_more B1 hq5.bel (Nat.le_refl _)) O9 (Nat.le_refl _)⟩

theorem rfull_any (d : Nat) (hd : d ≤ 62) : FullAt d := by
  induction d with
  | zero => exact full_zero_any
  | succ d ih =>
    intro ao cap rs w hcap hm hR
    by_cases h0 : rs.length = 0
    · obtain rfl : rs = [] := List.eq_nil_of_length_eq_zero h0
      exact full_none d hd cap ao w hm
    · obtain ⟨b, off, rfl, _⟩ := hR.addr (by omega)
      by_cases hle : rs.length ≤ 2 ^ d
      · exact full_half_any d hd (ih (by omega)) b off cap rs w (by omega) hle hcap hm hR
      · exact full_two_any d hd (ih (by omega)) b off cap rs w (by omega) hcap hm hR
end Go.Proofs.YtbmcmabimfoknaaGreatDoor
