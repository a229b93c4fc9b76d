/- Contract of the document's Pair. -/
import Derived.Test.YtbmcmabimfoknaaGreatDoorOwnC
namespace Go.Proofs.YtbmcmabimfoknaaGreatDoor
set_option maxRecDepth 100000
open Go.RowKit
set_option linter.unusedVariables false

set_option maxRecDepth 100000 in
set_option maxHeartbeats 1000000 in
theorem rpair_any (a b : List Nat) (ha : a.length = 32) (hb : b.length = 32) (hba : ∀ z ∈ a, z < 256) (hbb : ∀ z ∈ b, z < 256) (w : World) :
    Calls Tryz.prog 76 #[.agg (nums .u8 a), .agg (nums .u8 b)] w fun e w' => e = .returned (.agg (nums .u8 (sha (a ++ b)))) ∧ Below w.heap.size w w' := by
  go_enter Tryz.func76, Tryz.ntmps76
  go_wp2_with (first
    | (refine wpList_box_has rfl 2 rfl 22 (.tmp 0) rfl .u8 a rfl ?_; intro w1 H1 B1 S1; replace S1 := hid S1)
    | (refine wpList_box_has rfl 3 rfl 22 (.tmp 1) rfl .u8 b rfl ?_; intro w2 H2 B2 S2; replace S2 := hid S2)
    | (refine wpList_alloc_has rfl 4 rfl 22 rfl .u8 32 Tryz.zero22 ?_; intro w3 H3 B3 S3; replace S3 := hid S3)
    | (refine wpList_make_has rfl (.const (.int .i64 64)) (.const (.int .i64 64)) 99 rfl 5 .u8 Tryz.underlying99 Tryz.zero5 .i64 .i64 _ _ 64 rfl rfl rfl rfl (by decide) ?_; intro w4 H4 B4))
  have HA4 : Has w4 w.heap.size 22 .u8 a := ((H1.keep B2).keep B3).keep B4
  have HB4 : Has w4 w1.heap.size 22 .u8 b := (H2.keep B3).keep B4
  have HC4 : Has w4 w2.heap.size 22 .u8 (zeros 32) := H3.keep B4
  have HW4 : Below w.heap.size w w4 := below_more (below_more (below_more B1 B2 (Nat.le_refl _)) B3 (Nat.le_refl _)) B4 (Nat.le_refl _)
  have n1 : w.heap.size < w1.heap.size := by have := S1.out; omega
  have n2 : w1.heap.size < w2.heap.size := by have := S2.out; omega
  have n3 : w2.heap.size < w3.heap.size := by have := S3.out; omega
  clear H1 B1 H2 B2 H3 B3 B4 S1 S2 S3
  generalize w1.heap.size = Bb at *
  generalize w2.heap.size = Rb at *
  generalize w3.heap.size = Mb at *
  go_loopw [6] (fun i wr => ∃ t : Nat, t ≤ 32 ∧ i = .int .i64 t ∧ Has wr Mb 5 .u8 (pairUp a b t) ∧ Has wr w.heap.size 22 .u8 a ∧ Has wr Bb 22 .u8 b ∧ Has wr Rb 22 .u8 (zeros 32) ∧ Below w.heap.size w wr) (fun i _ => 32 - (intOf i).toNat)
  case atStart => exact ⟨0, by omega, rfl, by rw [pairUp]; exact H4, HA4, HB4, HC4, HW4⟩
  case round =>
    clear H4 HA4 HB4 HC4 HW4
    obtain ⟨t, ht, rfl, HM, HA, HB, HC, HW⟩ := hrel
    by_cases hlt : t < 32
    · have c0 := HA.cell t (by omega)
      have c1 := HB.cell t (by omega)
      have c2 := HM.cell t (by rw [pairUp_length]; omega)
      have c3 := HM.cell (32 + t) (by rw [pairUp_length]; omega)
      have f2 := HM.frozen t
      have f3 := HM.frozen (32 + t)
      have et : ((32 : Int) + (t : Int)).toNat = 32 + t := by omega
      have HS : Same (pairUp a b (t + 1)) (((pairUp a b t).set t (a.getD t 0)).set (32 + t) (b.getD t 0)) := ⟨by rw [pairUp]⟩
      generalize a.getD t 0 = x at *
      generalize b.getD t 0 = y at *
      generalize pairUp a b t = pl at *
      go_wp2
      go_roundw
      case rel =>
        have HO1 := Only.setCell wr Mb t (.int .u8 (x : Nat))
        have HO2 := HO1.trans (Only.setCell _ Mb (32 + t) (.int .u8 (y : Nat)))
        exact ⟨t + 1, by omega, by go_num, by rw [HS.out]; exact (HM.set t _).set (32 + t) _, HA.only HO2 (by omega), HB.only HO2 (by omega), HC.only HO2 (by omega), below_only HW HO2 (by omega)⟩
      case measure => simp [intOf]; omega
    · have ht2 : t = 32 := by omega
      subst ht2
      rw [pairUp_all a b ha hb] at HM
      have hab : (a ++ b).length = 64 := by rw [List.length_append, ha, hb]
      have HOR := rof_any (some ⟨Mb, 0, none⟩) 64 (a ++ b) wr (by omega) (by unfold maxLen; omega) (by omega) (fun z hz => by
        rcases List.mem_append.1 hz with hz | hz
        · exact hba z hz
        · exact hbb z hz) (.inr ⟨Mb, 0, rfl, fun i hi => by rw [Nat.zero_add]; exact HM.cell i hi⟩)
      rw [hab] at HOR
      have HOQ := hid HOR
      clear HOR hab
      go_wp2_with (first
        | (go_at_call 93; refine HOQ.out.mono ?_; rintro e w7 ⟨rfl, B7⟩)
        | (refine wpList_store_has rfl 22 (.tmp 4) (.tmp 26) rfl Rb .u8 (sha (a ++ b)) (zeros 32) rfl rfl 22 (HC.keep B7) (by rw [sha_length]; exact Tryz.size22) (by rw [sha_length, zeros_length]) ?_; intro w9 H9 O9))
      refine bodyPost_ret (results_has rfl _ _ Rb 22 .u8 (sha (a ++ b)) _ _ rfl H9 Tryz.underlying22 (by rw [sha_length]; exact Tryz.size22)) rfl ?_
      exact ⟨rfl, below_only (below_more HW B7 (Nat.le_refl _)) O9 (by omega)⟩
end Go.Proofs.YtbmcmabimfoknaaGreatDoor
