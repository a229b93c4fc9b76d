/- Contracts of the document's Pair and Hex. -/
import Derived.Test.YtlnjeplifndjgaaDoorRefOf
import Derived.Test.YtlnjeplifndjgaaDoorHex
namespace Go.Proofs.YtlnjeplifndjgaaDoor
open Go.RowKit
set_option linter.unusedVariables false

set_option maxRecDepth 100000 in
set_option maxHeartbeats 1000000 in
theorem rhex_any (l : List Nat) (hl : l.length = 32) (hby : ∀ z ∈ l, z < 256) (w : World) :
    Calls Tryd.prog 12 #[.agg (nums .u8 l)] w fun e w' => e = .returned (.string (strOf (hexUp l 32))) ∧ Below w.heap.size w w' := by
  go_enter Tryd.func12, Tryd.ntmps12
  go_wp2_with (first
    | (refine wpList_box_has rfl 1 rfl 24 (.tmp 0) rfl .u8 l rfl ?_; intro w1 H1 B1 S1; replace S1 := hid S1)
    | (refine wpList_make_has rfl (.const (.int .i64 64)) (.const (.int .i64 64)) 22 rfl 5 .u8 Tryd.underlying22 Tryd.zero5 .i64 .i64 _ _ 64 rfl rfl rfl rfl (by decide) ?_; intro w2 H2 B2))
  have HA2 := H1.keep B2
  have HW2 := below_more B1 B2 (Nat.le_refl _)
  have n1 : w.heap.size < w1.heap.size := by have := S1.out; omega
  clear H1 B1 B2 S1
  generalize w1.heap.size = Mb at *
  go_loopw [5] (fun i wr => ∃ t : Nat, t ≤ 64 ∧ i = .int .i64 t ∧ Has wr Mb 5 .u8 (hexTo l t) ∧ Has wr w.heap.size 24 .u8 l ∧ Below w.heap.size w wr) (fun i _ => 64 - (intOf i).toNat)
  case atStart => exact ⟨0, by omega, rfl, by rw [hexTo]; exact H2, HA2, HW2⟩
  case round =>
    clear H2 HA2 HW2
    obtain ⟨t, ht, rfl, HB, HA, HW⟩ := hrel
    by_cases hlt : t < 64
    · have hx := bytes_getD l hby (t / 2)
      have c0 := HA.cell (t / 2) (by omega)
      have c1 := HB.cell t (by rw [hexTo_length]; omega)
      have f1 := HB.frozen t
      have HS : Same (hexTo l (t + 1)) ((hexTo l t).set t (dig (l.getD (t / 2) 0 / 2 ^ (4 * (1 - t % 2)) % 16))) := ⟨by rw [hexTo]⟩
      generalize l.getD (t / 2) 0 = x at *
      generalize hexTo l t = hl0 at *
      have hlow : ∀ y : Nat, y < 256 → bits .and .u8 (y : Int) 15 = ((y % 16 : Nat) : Int) := low_digit
      have hsm : x / 2 ^ (4 * (1 - t % 2)) < 256 := Nat.lt_of_le_of_lt (Nat.div_le_self _ _) hx
      have hbt := low_digit _ hsm
      have ec : ((x / 2 ^ (4 * (1 - t % 2)) : Nat) : Int) = (x : Int) / 2 ^ (4 * (1 - t % 2)) := by simp
      rw [ec] at hbt
      clear hlow
      replace ec := hid ec
      go_wp2
      go_roundw
      case rel =>
        have e2 : (((x / 2 ^ (4 * (1 - t % 2)) : Nat) : Int) % 16).toNat = x / 2 ^ (4 * (1 - t % 2)) % 16 := by omega
        rw [digit_at, ← ec.out, e2]
        have HO := Only.setCell wr Mb t (.int .u8 (dig (x / 2 ^ (4 * (1 - t % 2)) % 16) : Nat))
        exact ⟨t + 1, by omega, by go_num, by rw [HS.out]; exact HB.set t _, HA.only HO (by omega), below_only HW HO (by omega)⟩
      case measure => simp [intOf]; omega
    · have ht2 : t = 64 := by omega
      subst ht2
      rw [show (64 : Nat) = 2 * 32 from rfl, hex_same l hby 32] at HB
      have hcv := conv_has HB 64 64 (hexUp_length l 32)
      go_wp2
      go_ret
      exact ⟨rfl, HW⟩

set_option maxRecDepth 100000 in
set_option maxHeartbeats 1000000 in
theorem rpair_any (a b : List Nat) (ha : a.length = 32) (hb : b.length = 32) (hba : ∀ z ∈ a, z < 256) (hbb : ∀ z ∈ b, z < 256) (w : World) :
    Calls Tryd.prog 10 #[.agg (nums .u8 a), .agg (nums .u8 b)] w fun e w' => e = .returned (.agg (nums .u8 (sha (a ++ b)))) ∧ Below w.heap.size w w' := by
  go_enter Tryd.func10, Tryd.ntmps10
  go_wp2_with (first
    | (refine wpList_box_has rfl 2 rfl 24 (.tmp 0) rfl .u8 a rfl ?_; intro w1 H1 B1 S1; replace S1 := hid S1)
    | (refine wpList_box_has rfl 3 rfl 24 (.tmp 1) rfl .u8 b rfl ?_; intro w2 H2 B2 S2; replace S2 := hid S2)
    | (refine wpList_alloc_has rfl 4 rfl 24 rfl .u8 32 Tryd.zero24 ?_; intro w3 H3 B3 S3; replace S3 := hid S3)
    | (refine wpList_make_has rfl (.const (.int .i64 64)) (.const (.int .i64 64)) 22 rfl 5 .u8 Tryd.underlying22 Tryd.zero5 .i64 .i64 _ _ 64 rfl rfl rfl rfl (by decide) ?_; intro w4 H4 B4))
  have HA4 : Has w4 w.heap.size 24 .u8 a := ((H1.keep B2).keep B3).keep B4
  have HB4 : Has w4 w1.heap.size 24 .u8 b := (H2.keep B3).keep B4
  have HC4 : Has w4 w2.heap.size 24 .u8 (zeros 32) := H3.keep B4
  have HW4 : Below w.heap.size w w4 := below_more (below_more (below_more B1 B2 (Nat.le_refl _)) B3 (Nat.le_refl _)) B4 (Nat.le_refl _)
  have n1 : w.heap.size < w1.heap.size := by have := S1.out; omega
  have n2 : w1.heap.size < w2.heap.size := by have := S2.out; omega
  have n3 : w2.heap.size < w3.heap.size := by have := S3.out; omega
  clear H1 B1 H2 B2 H3 B3 B4 S1 S2 S3
  generalize w1.heap.size = Bb at *
  generalize w2.heap.size = Rb at *
  generalize w3.heap.size = Mb at *
  go_loopw [6] (fun i wr => ∃ t : Nat, t ≤ 32 ∧ i = .int .i64 t ∧ Has wr Mb 5 .u8 (pairUp a b t) ∧ Has wr w.heap.size 24 .u8 a ∧ Has wr Bb 24 .u8 b ∧ Has wr Rb 24 .u8 (zeros 32) ∧ Below w.heap.size w wr) (fun i _ => 32 - (intOf i).toNat)
  case atStart => exact ⟨0, by omega, rfl, by rw [pairUp]; exact H4, HA4, HB4, HC4, HW4⟩
  case round =>
    clear H4 HA4 HB4 HC4 HW4
    obtain ⟨t, ht, rfl, HM, HA, HB, HC, HW⟩ := hrel
    by_cases hlt : t < 32
    · have c0 := HA.cell t (by omega)
      have c1 := HB.cell t (by omega)
      have c2 := HM.cell t (by rw [pairUp_length]; omega)
      have c3 := HM.cell (32 + t) (by rw [pairUp_length]; omega)
      have f2 := HM.frozen t
      have f3 := HM.frozen (32 + t)
      have et : ((32 : Int) + (t : Int)).toNat = 32 + t := by omega
      have HS : Same (pairUp a b (t + 1)) (((pairUp a b t).set t (a.getD t 0)).set (32 + t) (b.getD t 0)) := ⟨by rw [pairUp]⟩
      generalize a.getD t 0 = x at *
      generalize b.getD t 0 = y at *
      generalize pairUp a b t = pl at *
      go_wp2
      go_roundw
      case rel =>
        have HO1 := Only.setCell wr Mb t (.int .u8 (x : Nat))
        have HO2 := HO1.trans (Only.setCell _ Mb (32 + t) (.int .u8 (y : Nat)))
        exact ⟨t + 1, by omega, by go_num, by rw [HS.out]; exact (HM.set t _).set (32 + t) _, HA.only HO2 (by omega), HB.only HO2 (by omega), HC.only HO2 (by omega), below_only HW HO2 (by omega)⟩
      case measure => simp [intOf]; omega
    · have ht2 : t = 32 := by omega
      subst ht2
      rw [pairUp_all a b ha hb] at HM
      have hab : (a ++ b).length = 64 := by rw [List.length_append, ha, hb]
      have HOR := rof_any (some ⟨Mb, 0, none⟩) 64 (a ++ b) wr (by omega) (by unfold maxLen; omega) (by omega) (fun z hz => by
        rcases List.mem_append.1 hz with hz | hz
        · exact hba z hz
        · exact hbb z hz) (.inr ⟨Mb, 0, rfl, fun i hi => by rw [Nat.zero_add]; exact HM.cell i hi⟩)
      rw [hab] at HOR
      have HOQ := hid HOR
      clear HOR hab
      go_wp2_with (first
        | (go_at_call 8; refine HOQ.out.mono ?_; rintro e w7 ⟨rfl, B7⟩)
        | (refine wpList_store_has rfl 24 (.tmp 4) (.tmp 26) rfl Rb .u8 (sha (a ++ b)) (zeros 32) rfl rfl 24 (HC.keep B7) (by rw [sha_length]; exact Tryd.size24) (by rw [sha_length, zeros_length]) ?_; intro w9 H9 O9))
      refine bodyPost_ret (results_has rfl _ _ Rb 24 .u8 (sha (a ++ b)) _ _ rfl H9 Tryd.underlying24 (by rw [sha_length]; exact Tryd.size24)) rfl ?_
      exact ⟨rfl, below_only (below_more HW B7 (Nat.le_refl _)) O9 (by omega)⟩
end Go.Proofs.YtlnjeplifndjgaaDoor
