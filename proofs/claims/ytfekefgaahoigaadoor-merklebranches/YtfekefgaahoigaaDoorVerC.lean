/- Contract of merkle's Verify. -/
import Derived.Test.YtfekefgaahoigaaDoorTreeC
import Derived.Test.YtfekefgaahoigaaDoorEqual
namespace Go.Proofs.YtfekefgaahoigaaDoor
open Go.RowKit
set_option linter.unusedVariables false

theorem bit_u64 (x t : Nat) (hx : x < 18446744073709551616) : bits .and .u64 ((x : Int) / 2 ^ min t 64) 1 = ((x / 2 ^ t % 2 : Nat) : Int) := by
  have e : ((x : Int) / 2 ^ min t 64) = ((x / 2 ^ min t 64 : Nat) : Int) := by simp
  have e2 : x / 2 ^ min t 64 = x / 2 ^ t := by
    by_cases h : t ≤ 64
    · rw [Nat.min_eq_left h]
    · have h1 : 2 ^ 64 ≤ 2 ^ t := Nat.pow_le_pow_right (by decide) (by omega)
      rw [Nat.min_eq_right (by omega), Nat.div_eq_of_lt (by omega), Nat.div_eq_of_lt (by omega)]
  rw [e, e2, show (1 : Int) = ((1 : Nat) : Int) from rfl, u64_and_nat _ _ (Nat.lt_of_le_of_lt (Nat.div_le_self _ _) hx) (by decide), Nat.and_one_is_mod]
abbrev climbR (x : List Nat) (rs : List (List Nat)) (i : Nat) : List Nat := climb pr x rs i
theorem climb_take (x : List Nat) (rs : List (List Nat)) (i t : Nat) (ht : t < rs.length) :
    climbR x (rs.take (t + 1)) i = if i / 2 ^ t % 2 = 1 then pr (rs.getD t []) (climbR x (rs.take t) i) else pr (climbR x (rs.take t) i) (rs.getD t []) := by
  have e : rs.take (t + 1) = rs.take t ++ [rs.getD t []] := by
    rw [List.take_add_one, List.getElem?_eq_getElem ht, List.getD_eq_getElem?_getD, List.getElem?_eq_getElem ht]; rfl
  rw [climbR, e, climb_append, List.length_take, Nat.min_eq_left (by omega)]

set_option maxRecDepth 100000 in
set_option maxHeartbeats 2000000 in
theorem verify_any (x : List Nat) (ao : Option Addr) (cap : Nat) (rs : List (List Nat)) (i : Nat) (r : List Nat) (w : World) (hT : Tabs w) (hcap : rs.length ≤ cap) (hm : cap ≤ maxLen) (hR : RootsAt w ao rs) (hx : Rt x) (hr : Rt r) (hi : i < 18446744073709551616) :
    Calls Tryd.prog 23 #[.agg (nums .u8 x), .slice ao rs.length cap, .int .u64 i, .agg (nums .u8 r)] w fun e w' => e = .returned (.bool (decide (climbR x rs i = r))) ∧ Below w.heap.size w w' := by
  unfold maxLen at hm
  go_enter Tryd.func23, Tryd.ntmps23
  go_wp2_with (first
    | (refine wpList_box_has rfl 4 rfl 27 (.tmp 0) rfl .u8 x rfl ?_; intro w1 H1 B1 S1)
    | (refine wpList_box_has rfl 7 rfl 27 (.tmp 3) rfl .u8 r rfl ?_; intro w2 H2 B2 S2; rw [S1] at H2)
    | (refine wpList_load_has rfl 27 (.tmp 4) rfl w.heap.size .u8 x rfl 27 (H1.keep B2) _ _ Tryd.und27 (hx.size _ Tryd.size27) ?_)
    | (refine wpList_alloc_has rfl 9 rfl 27 rfl .u8 32 Tryd.zero27 ?_; intro w3 H3 B3 S3; rw [S2, S1] at H3 ⊢)
    | (refine wpList_store_has rfl 27 (.tmp 9) (.tmp 12) rfl (w.heap.size + 1 + 1) .u8 x (zeros 32) rfl rfl 27 H3 (hx.size _ Tryd.size27) (by rw [hx.len, zeros_length]) ?_; intro w4 H4 O4))
  have HW4 := below_only (below_more (below_more B1 B2 (Nat.le_refl _)) B3 (Nat.le_refl _)) O4 (by omega)
  have HB4 := (H2.keep B3).only O4 (by omega)
  clear H1 B1 H2 B2 S1 S2 S3 H3 B3 O4
  go_loopw [10, 11, 15] (fun _ _ v wr => ∃ t : Nat, t ≤ rs.length ∧ v = .int .i64 t ∧ Has wr (w.heap.size + 1 + 1) 27 .u8 (climbR x (rs.take t) i) ∧ Has wr (w.heap.size + 1) 27 .u8 r ∧ Below w.heap.size w wr) (fun _ _ v _ => rs.length - (intOf v).toNat)
  case atStart => exact ⟨0, by omega, rfl, H4, HB4, HW4⟩
  case round =>
    clear H4 HB4 HW4
    obtain ⟨t, ht, rfl, HC, HB, HW⟩ := hrel
    have hc := climb_rt (rs.take t) x i hx
    by_cases hlt : t < rs.length
    · obtain ⟨b, off, rfl, _⟩ := hR.addr (by omega)
      have HRw := hR.keep HW
      have hrt := hR.rts.rt t hlt
      have hbit := bit_u64 i t hi
      have hstep := climb_take x rs i t hlt
      obtain ⟨q, hq⟩ : ∃ q, Hid (rs.getD t [] = q) := ⟨_, hid rfl⟩
      rw [hq.out] at hstep hrt
      replace hstep := hid hstep
      have hn := HC.lt
      by_cases hb : i / 2 ^ t % 2 = 1
      · rw [hb] at hbit
        have hs : Same (climbR x (rs.take (t + 1)) i) (pr q (climbR x (rs.take t) i)) := ⟨by rw [hstep.out, if_pos hb]⟩
        clear hb hstep
        replace hbit : bits .and .u64 ((i : Int) / 2 ^ min t 64) 1 = 1 := hbit
        go_wp2_with (first
          | (refine wpList_load_named rfl 27 (.tmp 18) rfl b off t rs q hq (by rw [Nat.mul_comm]; rfl) HRw hlt _ _ Tryd.und27 Tryd.size27 ?_)
          | (refine wpList_alloc_has rfl 11 rfl 27 rfl .u8 32 Tryd.zero27 ?_; intro w5 H5 B5 S5)
          | (refine wpList_store_has rfl 27 (.tmp 11) (.tmp 19) rfl wr.heap.size .u8 q (zeros 32) rfl rfl 27 H5 (hrt.size _ Tryd.size27) (by rw [hrt.len, zeros_length]) ?_; intro w6 H6 O6; have HW6 := below_only (below_more HW B5 (Nat.le_refl _)) O6 (by omega); have HC6 := (HC.keep B5).only O6 (by omega); have HB6 := (HB.keep B5).only O6 (by omega))
          | (refine wpList_load_has rfl 27 (.tmp 11) rfl wr.heap.size .u8 q rfl 27 H6 _ _ Tryd.und27 (hrt.size _ Tryd.size27) ?_)
          | (refine wpList_load_has rfl 27 (.tmp 9) rfl (w.heap.size + 1 + 1) .u8 (climbR x (rs.take t) i) rfl 27 HC6 _ _ Tryd.und27 (hc.size _ Tryd.size27) ?_)
          | (go_at_call 25; refine (pair_any q (climbR x (rs.take t) i) hrt.len hc.len hrt.byte hc.byte w6 (hT.keep HW6)).mono ?_; rintro e w7 ⟨rfl, B7⟩)
          | (refine wpList_store_has rfl 27 (.tmp 9) (.tmp 27) rfl (w.heap.size + 1 + 1) .u8 (pr q (climbR x (rs.take t) i)) (climbR x (rs.take t) i) rfl rfl 27 (HC6.keep B7) ((pr_rt _ _).size _ Tryd.size27) (by rw [hc.len, (pr_rt _ _).len]) ?_; intro w9 H9 O9))
        go_roundw
        case rel =>
          exact ⟨t + 1, by omega, by go_num, by rw [hs.out]; exact H9, (HB6.keep B7).only O9 (by omega), below_only (below_more HW6 B7 (Nat.le_refl _)) O9 (by omega)⟩
        case measure => simp [intOf]; omega
      · have hb0 : i / 2 ^ t % 2 = 0 := by omega
        rw [hb0] at hbit
        have hs : Same (climbR x (rs.take (t + 1)) i) (pr (climbR x (rs.take t) i) q) := ⟨by rw [hstep.out, if_neg hb]⟩
        clear hb hb0 hstep
        replace hbit : bits .and .u64 ((i : Int) / 2 ^ min t 64) 1 = 0 := hbit
        go_wp2_with (first
          | (refine wpList_load_named rfl 27 (.tmp 18) rfl b off t rs q hq (by rw [Nat.mul_comm]; rfl) HRw hlt _ _ Tryd.und27 Tryd.size27 ?_)
          | (refine wpList_alloc_has rfl 11 rfl 27 rfl .u8 32 Tryd.zero27 ?_; intro w5 H5 B5 S5)
          | (refine wpList_store_has rfl 27 (.tmp 11) (.tmp 19) rfl wr.heap.size .u8 q (zeros 32) rfl rfl 27 H5 (hrt.size _ Tryd.size27) (by rw [hrt.len, zeros_length]) ?_; intro w6 H6 O6; have HW6 := below_only (below_more HW B5 (Nat.le_refl _)) O6 (by omega); have HC6 := (HC.keep B5).only O6 (by omega); have HB6 := (HB.keep B5).only O6 (by omega))
          | (refine wpList_load_has rfl 27 (.tmp 11) rfl wr.heap.size .u8 q rfl 27 H6 _ _ Tryd.und27 (hrt.size _ Tryd.size27) ?_)
          | (refine wpList_load_has rfl 27 (.tmp 9) rfl (w.heap.size + 1 + 1) .u8 (climbR x (rs.take t) i) rfl 27 HC6 _ _ Tryd.und27 (hc.size _ Tryd.size27) ?_)
          | (go_at_call 25; refine (pair_any (climbR x (rs.take t) i) q hc.len hrt.len hc.byte hrt.byte w6 (hT.keep HW6)).mono ?_; rintro e w7 ⟨rfl, B7⟩)
          | (refine wpList_store_has rfl 27 (.tmp 9) (.tmp 30) rfl (w.heap.size + 1 + 1) .u8 (pr (climbR x (rs.take t) i) q) (climbR x (rs.take t) i) rfl rfl 27 (HC6.keep B7) ((pr_rt _ _).size _ Tryd.size27) (by rw [hc.len, (pr_rt _ _).len]) ?_; intro w9 H9 O9))
        go_roundw
        case rel =>
          exact ⟨t + 1, by omega, by go_num, by rw [hs.out]; exact H9, (HB6.keep B7).only O9 (by omega), below_only (below_more HW6 B7 (Nat.le_refl _)) O9 (by omega)⟩
        case measure => simp [intOf]; omega
    · have ht2 : t = rs.length := by omega
      rw [List.take_of_length_le (by omega)] at HC hc
      have heq := eql_api (climbR x rs i) r hc.len hr.len hc.byte hr.byte
      go_wp2_with (first
        | (refine wpList_load_has rfl 27 (.tmp 9) rfl (w.heap.size + 1 + 1) .u8 (climbR x rs i) rfl 27 HC _ _ Tryd.und27 (hc.size _ Tryd.size27) ?_)
        | (refine wpList_load_has rfl 27 (.tmp 7) rfl (w.heap.size + 1) .u8 r rfl 27 HB _ _ Tryd.und27 (hr.size _ Tryd.size27) ?_))
      go_ret
      exact ⟨rfl, HW⟩
end Go.Proofs.YtfekefgaahoigaaDoor
