/- Contract of merkle's Branch. -/
import Derived.Test.YtfekefgaahoigaaDoorShift
namespace Go.Proofs.YtfekefgaahoigaaDoor
open Go.RowKit
set_option linter.unusedVariables false

abbrev braR (rs : List (List Nat)) (i k : Nat) : List (List Nat) := branch pr (zeros 32) rs i k
theorem braR_at (rs : List (List Nat)) (i k t : Nat) (ht : t < k) : (braR rs i k).getD t [] = (lvl rs t).getD (i / 2 ^ t ^^^ 1) (zUp t) := by
  have : (braR rs i k).getD t [] = beside pr (zeros 32) rs i t := by
    unfold braR branch
    simp [ht]
  rw [this, beside_levels]
set_option maxRecDepth 100000 in
set_option maxHeartbeats 2000000 in
theorem branch_any (ao : Option Addr) (cap : Nat) (rs : List (List Nat)) (d i : Nat) (w : World) (hT : Tabs w) (hcap : rs.length ≤ cap) (hm : cap ≤ maxLen) (hlen : rs.length ≤ 8796093022208) (hR : RootsAt w ao rs) (hd : d ≤ 40) (hi : i < 2 ^ d) (hrl : rs.length ≤ 2 ^ d) :
    Calls Tryd.prog 21 #[.slice ao rs.length cap, .int .i64 d, .int .i64 i] w fun e w' => ∃ g, w.heap.size ≤ g ∧ e = .returned (.tuple #[.slice (some ⟨g, 0, none⟩) d d, .int .i64 0]) ∧ RootsAt w' (some ⟨g, 0, none⟩) (braR rs i d) ∧ Below w.heap.size w w' := by
  have hm' := hm
  unfold maxLen at hm
  have hzr := zero_rt
  have hX : Rts (braR rs i d) := branch_rts rs hR.rts i d
  have hXl : (braR rs i d).length = d := branch_length pr (zeros 32) rs i d
  have hp40 : 2 ^ d ≤ 2 ^ 40 := Nat.pow_le_pow_right (by decide) hd
  obtain ⟨p, hp⟩ : ∃ p, Hid (1 * 2 ^ d = p) := ⟨_, hid rfl⟩
  have hpe : 2 ^ d = p := by rw [← hp.out, Nat.one_mul]
  rw [hpe] at hp40 hi hrl
  clear hpe
  have hg1 : ¬ p ≤ i := by omega
  have hg2 : ¬ p < rs.length := by omega
  go_enter Tryd.func21, Tryd.ntmps21
  go_wp2_with (first
    | (refine wpList_run rfl _ (run_shl 3 3 (.const (.int .i64 1)) (.tmp 19) rfl 1 d p rfl rfl (by omega) hp (by omega)) ?_)
    | (refine wpList_make_roots rfl (.tmp 34) (.tmp 34) 22 rfl 27 Tryd.underlying22 Tryd.rootInfo .i64 .i64 _ _ d rfl rfl rfl rfl (by omega) ?_; intro w1 H1 B1)
    | (refine wpList_build_has rfl 27 _ rfl .u8 (zeros 32) (by kernel_rfl) ?_)
    | (refine wpList_alloc_has rfl 11 rfl 27 rfl .u8 32 Tryd.zero27 ?_; intro w2 H2 B2 S2)
    | (refine wpList_store_has rfl 27 (.tmp 11) (.tmp 37) rfl w1.heap.size .u8 (zeros 32) (zeros 32) rfl rfl 27 H2 (hzr.size _ Tryd.size27) rfl ?_; intro w3 H3 O3))
  have n1 : w.heap.size < w1.heap.size := H1.lt
  have HW3 := below_only (below_more B1 B2 (Nat.le_refl _)) O3 (by omega)
  have HN3 := (H1.keep B2).only O3 (by omega)
  rw [← upTo_zero (braR rs i d) d] at HN3
  have hbr := hid (braR_at rs i d)
  clear H1 B1 H2 B2 S2 O3 hg1 hg2
  generalize w1.heap.size = Zb at *
  go_loopw [10, 12, 40] (fun v _ j wr => ∃ t : Nat, t ≤ d ∧ j = .int .i64 t ∧ (∃ ap c, v = .slice ap (lvl rs t).length c ∧ (lvl rs t).length ≤ c ∧ c ≤ maxLen ∧ RootsAt wr ap (lvl rs t) ∧ (0 < (lvl rs t).length → ∃ b off, ap = some ⟨b, off, none⟩ ∧ b ≠ w.heap.size)) ∧ Has wr w.heap.size 27 .u8 (upTo (braR rs i d) d t).flatten ∧ Has wr Zb 27 .u8 (zUp t) ∧ Below w.heap.size w wr) (fun _ _ j _ => d - (intOf j).toNat)
  case atStart => exact ⟨0, by omega, rfl, ⟨ao, cap, rfl, hcap, hm', hR.keep HW3, hR.old⟩, HN3, H3, HW3⟩
  case round =>
    clear H3 HN3 HW3
    obtain ⟨t, ht, rfl, ⟨ap, c, rfl, hc1, hc2, HR, hap⟩, HN, HZ, HW⟩ := hrel
    have hz := zeroUp_rt t
    have hll := lvl_le rs t
    have hlr := levels_rts rs hR.rts t
    by_cases hlt : t < d
    · obtain ⟨q, hq⟩ : ∃ q, Hid (i / 2 ^ t = q) := ⟨_, hid rfl⟩
      obtain ⟨x, hx⟩ : ∃ x, Hid (q ^^^ 1 = x) := ⟨_, hid rfl⟩
      have hqi : q ≤ i := by rw [← hq.out]; exact Nat.div_le_self _ _
      have hxb : x < 2 ^ 41 := by rw [← hx.out]; exact Nat.xor_lt_two_pow (by omega) (by omega)
      have HZq := hid (fun wq (hq : Cls wr wq) => HZ.keep hq.bel)
      have HPk := hid (fun wq (hq : Cls wr wq) => pick_any ap c (lvl rs t) x (zUp t) wq hc1 hc2 (HR.keep hq.bel) hz (by omega))
      have hxt := hlr.rtz hz x
      have hnx := hid (upTo_next (braR rs i d) d t hX hXl hlt ((lvl rs t).getD x (zUp t)) (by rw [hbr.out t hlt, hq.out, hx.out]))
      have hfl := hid (upTo_flat (braR rs i d) d t hX hXl ht)
      have hlx := hid (levels_length pr (zeros 32) rs t)
      obtain ⟨y, hy⟩ : ∃ y, Hid ((lvl rs t).getD x (zUp t) = y) := ⟨_, hid rfl⟩
      rw [hy.out] at hnx HPk hxt
      clear hy
      go_wp2
      refine wp_region_cls_tail 10 (by kernel_rfl) (by kernel_rfl) ?_
      simp only [List.take_succ_cons, List.take_zero, List.drop_succ_cons, List.drop_zero]
      go_big_quiet_step (fail)
      go_big_quiet_step (fail)
      go_big_quiet_step (fail)
      go_big_quiet_step (fail)
      go_big_quiet_step (fail)
      go_big_quiet_want
      refine quiet_run _ (fun wq hwq => run_shr 3 3 (.tmp 46) (.tmp 47) rfl i t q rfl rfl (by omega) hq) ?_
      simp only [Act.put, List.setIfInBounds_toArray, List.set_cons_succ, List.set_cons_zero]
      go_big_quiet_on
      go_big_quiet_want
      refine quiet_run _ (fun wq hwq => run_xor 3 3 (.tmp 48) (.const (.int .i64 1)) rfl q 1 x rfl rfl (by omega) (by omega) hx) ?_
      simp only [Act.put, List.setIfInBounds_toArray, List.set_cons_succ, List.set_cons_zero]
      go_big_quiet_on
      go_big_quiet_want
      refine quiet_load 27 (.tmp 11) rfl Zb .u8 (zUp t) rfl 27 HZq.out _ _ Tryd.und27 (hz.size _ Tryd.size27) ?_
      simp only [Act.put, List.setIfInBounds_toArray, List.set_cons_succ, List.set_cons_zero]
      go_big_quiet_on
      go_big_quiet_want
      refine quiet_call 28 #[.slice ap (lvl rs t).length c, .int .i64 (x : Int), .agg (nums .u8 (zUp t))] (.agg (nums .u8 y)) (fun _ => by simp [go_sem]) (fun wq hq => (HPk.out wq hq).mono fun e w' h => ⟨h.1, hq.more h.2⟩) ?_
      simp only [Act.put, List.setIfInBounds_toArray, List.set_cons_succ, List.set_cons_zero]
      go_big_quiet_on
      go_big_quiet_step (exact fun _ => rfl)
      refine wpQuiet_nil ?_
      intro w5 hq5
      have HN5 := HN.keep hq5.bel
      refine wpList_store_part rfl 27 (.tmp 52) (.tmp 51) rfl w.heap.size t 27 _ y (by rw [Nat.mul_comm 32 t]; rfl) rfl HN5 hxt.len (by rw [hfl.out]; omega) Tryd.size27 ?_
      intro w6 H6 O6
      rw [hnx.out] at H6
      have HW6 := below_only (below_more HW hq5.bel (Nat.le_refl _)) O6 (Nat.le_refl _)
      have HZ6 := (HZ.keep hq5.bel).only O6 (by omega)
      have HR6 : RootsAt w6 ap (lvl rs t) := (HR.keep hq5.bel).away O6 hap
      have HAb := hid (above_any ap c (lvl rs t) (zUp t) w6 (hT.keep HW6) hc1 hc2 (by omega) HR6 hz)
      go_wp2_with (first
        | (refine wpList_load_has rfl 27 (.tmp 11) rfl Zb .u8 (zUp t) rfl 27 HZ6 _ _ Tryd.und27 (hz.size _ Tryd.size27) ?_)
        | (go_at_call 27; refine HAb.out.mono ?_; rintro e w7 ⟨g, hg7, rfl, R7, B7⟩)
        | (refine wpList_store_has rfl 27 (.tmp 11) (.tmp 58) rfl Zb .u8 (zUp (t + 1)) (zUp t) rfl rfl 27 (HZ6.keep B7) ((zeroUp_rt (t + 1)).size _ Tryd.size27) (by rw [hz.len, (zeroUp_rt (t + 1)).len]) ?_; intro w9 H9 O9))
      go_roundw
      case rel =>
        refine ⟨t + 1, by omega, by go_num, ⟨some ⟨g, 0, none⟩, ((lvl rs t).length + 1) / 2, ?_, ?_, ?_, ?_, fun _ => ⟨g, 0, rfl, by have := HZ6.lt; omega⟩⟩, (H6.keep B7).only O9 (by omega), H9, below_only (below_more HW6 B7 (Nat.le_refl _)) O9 (by omega)⟩
        · rw [show (lvl rs (t + 1)).length = ((lvl rs t).length + 1) / 2 from hlx.out]
        · exact Nat.le_of_eq hlx.out
        · unfold maxLen; omega
        · exact RootsAt.only (rs := lvl rs (t + 1)) R7 O9 (by have := HZ6.lt; omega)
      case measure => simp [intOf]; omega
    · have ht2 : t = d := by omega
      subst ht2
      rw [upTo_all _ _ hXl] at HN
      go_wp2
      refine bodyPost_ret (results_tmp_tmp rfl _ _) rfl ?_
      exact ⟨w.heap.size, Nat.le_refl _, rfl, HasR.at hX HN, HW⟩
end Go.Proofs.YtfekefgaahoigaaDoor
