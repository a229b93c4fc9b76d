/- Contracts of digest.Hex and digest.Pair, and of the document's. -/
import Derived.Test.YtbmcmabimfoknaaGreatDoorHexPure
namespace Go.Proofs.YtbmcmabimfoknaaGreatDoor
set_option maxRecDepth 100000
open Go.RowKit
set_option linter.unusedVariables false

theorem Tryz.zero143 : (Tryz.prog.info? 143).map (fun i => (i.zero, i.size)) = some (some (.agg (nums .u8 (zeros 64))), 64) := by kernel_rfl
theorem Tryz.size143 : (Tryz.prog.info? 143).map (·.size) = some 64 := by kernel_rfl

/-- The bytes of a list of numbers, as a string. -/
def strOf (l : List Nat) : ByteArray := (l.map fun n : Nat => (n : Int)).foldl (fun r n => r.push (UInt8.ofNat n.toNat)) ByteArray.empty

set_option maxRecDepth 100000 in
set_option maxHeartbeats 1000000 in
theorem pair_any (a b : List Nat) (ha : a.length = 32) (hb : b.length = 32) (hba : ∀ z ∈ a, z < 256) (hbb : ∀ z ∈ b, z < 256) (w : World) (hT : Tabs w) :
    Calls Tryz.prog 60 #[.agg (nums .u8 a), .agg (nums .u8 b)] w fun e w' => e = .returned (.agg (nums .u8 (sha (a ++ b)))) ∧ Below w.heap.size w w' := by
  go_enter Tryz.func60, Tryz.ntmps60
  go_wp2_with (first
    | (refine wpList_box_has rfl 2 rfl 23 (.tmp 0) rfl .u8 a rfl ?_; intro w1 H1 B1 S1)
    | (refine wpList_box_has rfl 3 rfl 23 (.tmp 1) rfl .u8 b rfl ?_; intro w2 H2 B2 S2)
    | (refine wpList_alloc_has rfl 4 rfl 23 rfl .u8 32 Tryz.zero23 ?_; intro w3 H3 B3 S3)
    | (refine wpList_alloc_has rfl 5 rfl 143 rfl .u8 64 Tryz.zero143 ?_; intro w4 H4 B4 S4))
  have HA4 : Has w4 w.heap.size 23 .u8 a := ((H1.keep B2).keep B3).keep B4
  have HB4 : Has w4 w1.heap.size 23 .u8 b := (H2.keep B3).keep B4
  have HC4 : Has w4 w2.heap.size 23 .u8 (zeros 32) := H3.keep B4
  have HW4 : Below w.heap.size w w4 := below_more (below_more (below_more B1 B2 (Nat.le_refl _)) B3 (Nat.le_refl _)) B4 (Nat.le_refl _)
  have n1 : w.heap.size < w1.heap.size := by omega
  have n2 : w1.heap.size < w2.heap.size := by omega
  have n3 : w2.heap.size < w3.heap.size := by omega
  clear H1 B1 H2 B2 H3 B3 B4 S1 S2 S3 S4
  generalize w1.heap.size = Bb at *
  generalize w2.heap.size = Rb at *
  generalize w3.heap.size = Cb at *
  have HSRC : ∀ j, j < 32 → w4.cell? (Addr.add ⟨w.heap.size, 0, none⟩ j) = some (.int .u8 (a.getD j 0 : Nat)) := fun j hj => by
    rw [Addr.add_lit, Nat.zero_add]; exact HA4.cell j (by omega)
  go_region_law (refine step_copy_has rfl (.tmp 6) (.tmp 7) 99 99 rfl 5 Tryz.underlying99 Tryz.one5 _ _ _ _ _ _ rfl rfl Cb 0 .u8 (zeros 64) 143 (by exact H4) a (by rw [ha]; rfl) (fun _ => ⟨rfl, _, rfl, by rw [ha]; exact HSRC⟩) (by rw [ha, zeros_length]; omega) ?_; intro w5 H5 O5)
  all_goals
    have HB5 := HB4.drew.only O5 (by omega)
    have HC5 := HC4.drew.only O5 (by omega)
    have HW5 := below_only HW4.drew O5 (by omega)
    have HSRC2 : ∀ j, j < 32 → w5.cell? (Addr.add ⟨Bb, 0, none⟩ j) = some (.int .u8 (b.getD j 0 : Nat)) := fun j hj => by
      rw [Addr.add_lit, Nat.zero_add]; exact HB5.cell j (by omega)
    have hol : (over (zeros 64) 0 a).length = 64 := by rw [over_length _ _ _ (by rw [zeros_length]; omega), zeros_length]
    clear HSRC HA4 HB4 HC4 HW4 H4 O5
    go_wp2
    go_region_law (refine step_copy_has rfl (.tmp 9) (.tmp 10) 99 99 rfl 5 Tryz.underlying99 Tryz.one5 _ _ _ _ _ _ rfl rfl Cb 32 .u8 (over (zeros 64) 0 a) 143 (by exact H5) b (by rw [hb]; rfl) (fun _ => ⟨rfl, _, rfl, by rw [hb]; exact HSRC2⟩) (by rw [hb, hol]; omega) ?_; intro w6 H6 O6)
    all_goals
      have HC6 := HC5.drew.only O6 (by omega)
      have HW6 := below_only HW5.drew O6 (by omega)
      rw [over_pair a b ha hb] at H6
      have hab : (a ++ b).length = 64 := by rw [List.length_append, ha, hb]
      have HO := hid (fun (hR : Reads w6 (some ⟨Cb, 0, none⟩) (a ++ b)) => of_any (some ⟨Cb, 0, none⟩) 64 (a ++ b) w6 (hT.keep HW6) (by omega) (by unfold maxLen; omega) (by omega) (fun z hz => by
        rcases List.mem_append.1 hz with hz | hz
        · exact hba z hz
        · exact hbb z hz) hR)
      have HOR := HO.out (.inr ⟨Cb, 0, rfl, fun i hi => by rw [Nat.zero_add]; exact H6.cell i hi⟩)
      rw [hab] at HOR
      have HOQ := hid HOR
      clear HOR HO hab hol HSRC2 HB5 HC5 HW5 H5 O6
      go_wp2_with (first
        | (go_at_call 89; refine HOQ.out.mono ?_; rintro e w7 ⟨rfl, B7⟩)
        | (refine wpList_store_has rfl 23 (.tmp 4) (.tmp 13) rfl Rb .u8 (sha (a ++ b)) (zeros 32) rfl rfl 23 (HC6.keep B7) (by rw [sha_length]; exact Tryz.size23) (by rw [sha_length, zeros_length]) ?_; intro w9 H9 O9))
      refine bodyPost_ret (results_has rfl _ _ Rb 23 .u8 (sha (a ++ b)) _ _ rfl H9 Tryz.und23 (by rw [sha_length]; exact Tryz.size23)) rfl ?_
      exact ⟨rfl, below_only (below_more HW6 B7 (Nat.le_refl _)) O9 (by omega)⟩
end Go.Proofs.YtbmcmabimfoknaaGreatDoor
